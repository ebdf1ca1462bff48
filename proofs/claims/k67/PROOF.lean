import PyProof.Rows.All
import Wide.All
import OpenK.AllK
import Wide.FinOn
import Lean
import PyProof.EqAt
import PyProof.EqKinds
import PyProof.TupleCall
import PyProof.NeKinds
import PyProof.EnumMake
import PyProof.EnumStmt
import PyProof.LayNew
import KE.KDictLaws
import KE.KDictSum
import KE.LcSums
import PyProof.Rows.SumAny
import PyProof.Rows.SortWalk
import PyProof.DictWalks
import PyProof.Rows.SortRev
import KE.KRevIter
import KE.KIntText
import PyProof.CallStr
import PyProof.StrCalls2
import PyProof.Rows.StrJoin2
import PyProof.StrWalks
import PyProof.Rows.Range3
import PySem.Challenge.RW_frameland_k67_full_refused
set_option Elab.async false
set_option linter.all false
set_option maxRecDepth 100000
namespace L2
open PySem PySem.Spec PyProof.Rows
abbrev Key := Sum Int Str
def keyIs : Key → Value → Bool
  | .inl k, v => Value.isInt k v
  | .inr x, v => Value.isStrOf x v
def keyH (w : World) : Key → Int
  | .inl k => hashInt k
  | .inr x => hashStr w x
theorem keyIs_shape : ∀ {k : Key} {v : Value}, keyIs k v = true → (∃ i t, k = Sum.inl i ∧ v = Value.int i t) ∨ (∃ x t, k = Sum.inr x ∧ v = Value.str x t)
  | .inl i, v, h => by
    obtain ⟨t, e⟩ := Value.isInt_shape (k := i) (v := v) h
    exact .inl ⟨i, t, rfl, e⟩
  | .inr x, v, h => by
    obtain ⟨t, e⟩ := Value.isStrOf_shape (x := x) (v := v) h
    exact .inr ⟨x, t, rfl, e⟩
theorem keyIs_int (i : Int) (t : Tok) : keyIs (.inl i) (.int i t) = true := by simp [keyIs, Value.isInt]
theorem keyIs_str (x : Str) (t : Tok) : keyIs (.inr x) (.str x t) = true := by simp [keyIs, Value.isStrOf]
theorem key_ll (a b : Int) : decide ((Sum.inl a : Key) = Sum.inl b) = (a == b) := by
  by_cases e : a = b
  · subst e; simp
  · have h : ¬ (Sum.inl a : Key) = Sum.inl b := fun q => e (Sum.inl.inj q)
    rw [decide_eq_false h]
    exact (beq_eq_false_iff_ne.mpr e).symm
theorem key_rr (a b : Str) : decide ((Sum.inr a : Key) = Sum.inr b) = decide (a = b) := by
  by_cases e : a = b
  · subst e; simp
  · have h : ¬ (Sum.inr a : Key) = Sum.inr b := fun q => e (Sum.inr.inj q)
    rw [decide_eq_false h, decide_eq_false e]
theorem key_lr (a : Int) (b : Str) : decide ((Sum.inl a : Key) = Sum.inr b) = false := decide_eq_false (fun q => nomatch q)
theorem key_rl (a : Str) (b : Int) : decide ((Sum.inr a : Key) = Sum.inl b) = false := decide_eq_false (fun q => nomatch q)
def mixKind (prog : Program) (w : World) : PySem.KeyKind prog w Key where
  is := keyIs
  hash := keyH w
  inj := fun v a b ha hb => by
    rcases keyIs_shape ha with ⟨i, t, rfl, rfl⟩ | ⟨x, t, rfl, rfl⟩
    · rcases keyIs_shape hb with ⟨j, u, rfl, e⟩ | ⟨y, u, rfl, e⟩
      · injection e with e1 _; rw [e1]
      · exact nomatch e
    · rcases keyIs_shape hb with ⟨j, u, rfl, e⟩ | ⟨y, u, rfl, e⟩
      · exact nomatch e
      · injection e with e1 _; rw [e1]
  byValue := fun k v h => by
    rcases keyIs_shape h with ⟨i, t, rfl, rfl⟩ | ⟨x, t, rfl, rfl⟩ <;> rfl
  pyHash := fun hv h => by
    rcases keyIs_shape hv with ⟨i, t, rfl, rfl⟩ | ⟨x, t, rfl, rfl⟩
    · exact wpAny_pyHash_int h
    · exact wpAny_pyHash_str h
  eqBool := fun hu hv h => by
    rcases keyIs_shape hu with ⟨i, t, rfl, rfl⟩ | ⟨x, t, rfl, rfl⟩
    · rcases keyIs_shape hv with ⟨j, u, rfl, rfl⟩ | ⟨y, u, rfl, rfl⟩
      · rw [key_ll] at h; exact wpAny_eqBool_int h
      · rw [key_lr] at h; exact SeqAt.EqAt.int_str i t y u _ _ _ _ h
    · rcases keyIs_shape hv with ⟨j, u, rfl, rfl⟩ | ⟨y, u, rfl, rfl⟩
      · rw [key_rl] at h; exact SeqAt.EqAt.str_int x t j u _ _ _ _ h
      · rw [key_rr] at h; exact wpAny_eqBool_str h
  «strs» := fun k x t v h => by
    rcases keyIs_shape h with ⟨i, u, rfl, e⟩ | ⟨y, u, rfl, e⟩
    · exact nomatch e
    · injection e with e1 _
      subst e1
      cases v <;> rfl
theorem mixKind_int (prog : Program) (w : World) (i : Int) (t : Tok) : (mixKind prog w).is (.inl i) (.int i t) = true := keyIs_int i t
theorem mixKind_str (prog : Program) (w : World) (x : Str) (t : Tok) : (mixKind prog w).is (.inr x) (.str x t) = true := keyIs_str x t
end L2
namespace L2
open PySem PySem.Spec PyProof.Rows
inductive V where
  | non | bl (b : Bool) | int (i : Int) | str (x : Str) | byt (b : Array UInt8) | flt (b : UInt64) | ref (a : Addr) | ty (n : String)
  deriving DecidableEq
def RelV : V → Value → Prop
  | .non, u => u = Value.none
  | .bl b, u => u = Value.bool b
  | .int i, u => ∃ t, u = Value.int i t
  | .str x, u => ∃ t, u = Value.str x t
  | .byt b, u => ∃ t, u = Value.bytes b t
  | .flt b, u => ∃ t, u = Value.float b t
  | .ref a, u => u = Value.ref a
  | .ty n, u => u = Value.type n
abbrev Vals : List V → List Value → Prop := Paired RelV
theorem Vals.length {xs : List V} {us : List Value} (r : Vals xs us) : xs.length = us.length := Paired.length r
theorem Vals.get : ∀ {xs : List V} {us : List Value} {i : Nat} {x : V}, Vals xs us → xs[i]? = some x → ∃ u, us[i]? = some u ∧ RelV x u
  | _, _, _, _, .nil, e => by simp at e
  | _, _, 0, _, .cons r _, e => by simp at e; subst e; exact ⟨_, rfl, r⟩
  | _, _, i + 1, x, .cons _ t, e => by
    obtain ⟨u, h1, h2⟩ := Vals.get (i := i) (x := x) t (by simpa using e)
    exact ⟨u, by simpa using h1, h2⟩
theorem Vals.set {x : V} {u : Value} (r : RelV x u) : ∀ {xs : List V} {us : List Value} (i : Nat), Vals xs us → Vals (xs.set i x) (us.set i u)
  | _, _, _, .nil => .nil
  | _, _, 0, .cons _ t => .cons r t
  | _, _, i + 1, .cons q t => .cons q (Vals.set r i t)
theorem Vals.append : ∀ {xs ys : List V} {us ws : List Value}, Vals xs us → Vals ys ws → Vals (xs ++ ys) (us ++ ws)
  | _, _, _, _, .nil, s => s
  | _, _, _, _, .cons r t, s => .cons r (Vals.append t s)
theorem Vals.take : ∀ {xs : List V} {us : List Value} (n : Nat), Vals xs us → Vals (xs.take n) (us.take n)
  | _, _, 0, _ => .nil
  | _, _, _ + 1, .nil => .nil
  | _, _, n + 1, .cons r t => .cons r (Vals.take n t)
theorem Vals.drop : ∀ {xs : List V} {us : List Value} (n : Nat), Vals xs us → Vals (xs.drop n) (us.drop n)
  | _, _, 0, r => r
  | _, _, _ + 1, .nil => .nil
  | _, _, n + 1, .cons _ t => Vals.drop n t
def RelO : Option V → Option Value → Prop
  | some v, some u => RelV v u
  | none, none => True
  | _, _ => False
def KV {κ : Type} : List (κ × V) → List (κ × Value) → Prop := Paired fun (p : κ × V) (q : κ × Value) => p.1 = q.1 ∧ RelV p.2 q.2
def kV : Key → V
  | .inl i => .int i
  | .inr x => .str x
inductive HO where
    | lst (xs : List V)
    | tup (xs : List V)
    | dK (kvs : List (Key × V)) | dT (kvs : List (List Key × V))
    | set (S : Int → Bool) (n : Nat)
    | ins (C dx : Addr) (fs : List (Str × V))
    | own (x : Addr)
    | xd (fs : List (Str × V))
    | met (f x : Addr)
    | rng (lo hi : Int)
    | frz (o : Obj) (u : HO)
    | tbl (ps : Array Value)
    | ext (φ : Heap → Prop)
abbrev Hp := Addr → Option HO
def upd (H : Hp) (a : Addr) (o : HO) : Hp := fun b => if b = a then some o else H b
theorem upd_same {H : Hp} {a : Addr} {o : HO} : upd H a o a = some o := by unfold upd; rw [if_pos rfl]
theorem upd_ne {H : Hp} {a b : Addr} {o : HO} (h : b ≠ a) : upd H a o b = H b := by unfold upd; rw [if_neg h]
theorem upd_upd {H : Hp} {a : Addr} {o u : HO} : upd (upd H a o) a u = upd H a u := by
  funext b; unfold upd; split <;> rfl
theorem ne_of {H : Hp} {a b : Addr} {o u : HO} (h : H a = some o) (h' : H b = some u) (d : o ≠ u) : a ≠ b := by
  intro e; subst e; rw [h] at h'; exact d (Option.some.inj h')
theorem ne_of_none {H : Hp} {a b : Addr} {o : HO} (h : H a = some o) (h' : H b = none) : a ≠ b := by
  intro e; subst e; rw [h] at h'; cases h'
section
variable (P : Program) (w : World)
def ObjOk (H : Hp) (h : Heap) (a : Addr) : HO → Prop
  | .lst xs => xs.length ≤ sizeLine ∧ ∃ (its : List Value) (n : Nat), Vals xs its ∧ h.get? a = some { cls := .type "list", data := .seq its.toArray n }
  | .tup xs => xs.length ≤ sizeLine ∧ ∃ its : List Value, Vals xs its ∧ IsTup h a its.toArray
  | .dK kvs => kvs.length ≤ sizeLine ∧ (a == sysModules) = false ∧ ∃ vs, KV kvs vs ∧ h.DictOf (mixKind P w) a vs
  | .dT kvs => kvs.length ≤ sizeLine ∧ (a == sysModules) = false ∧ ∃ xs : List (List Key × Addr × Value),
      Paired (fun (p : List Key × V) (q : List Key × Addr × Value) => p.1 = q.1 ∧ H q.2.1 = some (.tup (p.1.map kV)) ∧ RelV p.2 q.2.2) kvs xs ∧
      ∃ o es ep, h.get? a = some o ∧ o.ExactDict ∧ o.data = .dict es ep ∧ es.toList = xs.map (entryOfKey (tupleKind (mixKind P w))) ∧ (xs.map (·.1)).Nodup
  | .set S n => h.SetOf (intKind P w) a S n
  | .ins C dx fs => H dx = some (.own a) ∧ fs.length ≤ 1000 ∧ dx ≠ a ∧ h.get? a = some (PySem.W.instObj C dx) ∧
      ∃ mA, h.Ns1 dx mA ∧ (∀ f, RelO (fs.lookup f) (mA f)) ∧ PySem.Within mA (fs.map (·.1))
  | .own _ => ∃ o, h.get? a = some o
  | .xd fs => ∃ mA, h.Ns1 a mA ∧ ∀ f, RelO (fs.lookup f) (mA f)
  | .rng lo hi => ∃ t u v, h.get? a = some { cls := .type "range", data := .fields #[.int lo t, .int hi u, .int 1 v] }
  | .frz o u => h.get? a = some o ∧ ObjOk H h a u
  | .tbl ps => h.get? a = some { cls := .none, data := .fields ps }
  | .met f x => h.get? a = some (PySem.W.methodObj (.ref f) (.ref x))
  | .ext φ => φ h ∧ (∃ o, h.get? a = some o) ∧ ∀ h1 h2 : Heap, φ h1 → (∀ o, h1.get? a = some o → h2.get? a = some o) → φ h2
def HOk (H : Hp) (h : Heap) : Prop := ∀ a o, H a = some o → ObjOk P w H h a o
end
section
variable {P : Program} {w : World} {H H' : Hp} {h h' : Heap} {a : Addr} {o : HO}
theorem ObjOk.lt (x : ObjOk P w H h a o) : a < h.objs.size := by
  cases o with
  | lst xs => obtain ⟨_, _, _, _, e⟩ := x; exact Heap.lt_size e
  | tup xs => obtain ⟨_, _, _, p⟩ := x; exact p.lt
  | dK kvs => obtain ⟨_, _, _, _, o, _, _, e, _⟩ := x; exact Heap.lt_size e
  | dT kvs => obtain ⟨_, _, _, _, o, _, _, e, _⟩ := x; exact Heap.lt_size e
  | set S n => obtain ⟨o, _, _, _, e, _⟩ := x; exact Heap.lt_size e
  | ins C dx fs => obtain ⟨_, _, _, e, _⟩ := x; exact Heap.lt_size e
  | own y => obtain ⟨_, e⟩ := x; exact Heap.lt_size e
  | xd fs => obtain ⟨_, ⟨_, _, _, e, _⟩, _⟩ := x; exact Heap.lt_size e
  | rng lo hi => obtain ⟨_, _, _, e⟩ := x; exact Heap.lt_size e
  | frz ob u => obtain ⟨e, _⟩ := x; exact Heap.lt_size e
  | tbl ps => exact Heap.lt_size (show h.get? a = some _ from x)
  | met f y => exact Heap.lt_size (show h.get? a = some _ from x)
  | ext φ => obtain ⟨_, ⟨_, e⟩, _⟩ := x; exact Heap.lt_size e
theorem Paired.mapP {α β : Type} {F G : α → β → Prop} : ∀ {l₁ : List α} {l₂ : List β}, Paired F l₁ l₂ → (∀ a b, F a b → G a b) → Paired G l₁ l₂
  | _, _, .nil, _ => .nil
  | _, _, .cons r t, f => .cons (f _ _ r) (Paired.mapP t f)
theorem ObjOk.stay (x : ObjOk P w H h a o) (k : ∀ b u, (b = a ∨ H b = some (.own a)) → h.get? b = some u → h'.get? b = some u)
    (ho : ∀ b, H b = some (.own a) → H' b = some (.own a)) (ht : ∀ b xs, H b = some (.tup xs) → H' b = some (.tup xs)) : ObjOk P w H' h' a o := by
  induction o with
  | lst xs => obtain ⟨z, its, n, r, e⟩ := x; exact ⟨z, its, n, r, k _ _ (.inl rfl) e⟩
  | tup xs => obtain ⟨z, its, r, ob, e, c⟩ := x; exact ⟨z, its, r, ob, k _ _ (.inl rfl) e, c⟩
  | dK kvs => obtain ⟨z, y, vs, r, ob, es, ep, e, c⟩ := x; exact ⟨z, y, vs, r, ob, es, ep, k _ _ (.inl rfl) e, c⟩
  | dT kvs =>
    obtain ⟨z, y, xs, r, ob, es, ep, e, c⟩ := x
    exact ⟨z, y, xs, Paired.mapP r fun p q z => ⟨z.1, ht _ _ z.2.1, z.2.2⟩, ob, es, ep, k _ _ (.inl rfl) e, c⟩
  | set S n => obtain ⟨ob, es, ep, t, e, c⟩ := x; exact ⟨ob, es, ep, t, k _ _ (.inl rfl) e, c⟩
  | ins C dx fs =>
    obtain ⟨d, z, ne, e, mA, ⟨od, es, ep, e2, c⟩, r⟩ := x
    exact ⟨ho _ d, z, ne, k _ _ (.inl rfl) e, mA, ⟨od, es, ep, k _ _ (.inr d) e2, c⟩, r⟩
  | own y => obtain ⟨ob, e⟩ := x; exact ⟨ob, k _ _ (.inl rfl) e⟩
  | xd fs => obtain ⟨mA, ⟨od, es, ep, e, c⟩, r⟩ := x; exact ⟨mA, ⟨od, es, ep, k _ _ (.inl rfl) e, c⟩, r⟩
  | rng lo hi => obtain ⟨t, u, v, e⟩ := x; exact ⟨t, u, v, k _ _ (.inl rfl) e⟩
  | frz ob u ih => obtain ⟨e, q⟩ := x; exact ⟨k _ _ (.inl rfl) e, ih q⟩
  | tbl ps =>
    have e : h.get? a = some { cls := .none, data := .fields ps } := x
    show h'.get? a = some { cls := .none, data := .fields ps }
    exact k a _ (.inl rfl) e
  | met f y =>
    have e : h.get? a = some (PySem.W.methodObj (.ref f) (.ref y)) := x
    show h'.get? a = some (PySem.W.methodObj (.ref f) (.ref y))
    exact k a _ (.inl rfl) e
  | ext φ => obtain ⟨p, ⟨o, e⟩, st⟩ := x; exact ⟨st _ _ p fun o q => k _ _ (.inl rfl) q, ⟨o, k _ _ (.inl rfl) e⟩, st⟩
theorem HOk.lt (x : HOk P w H h) (e : H a = some o) : a < h.objs.size := (x a o e).lt
theorem HOk.fresh (x : HOk P w H h) (e : h.objs.size ≤ a) : H a = none := by
  cases q : H a with
  | none => rfl
  | some u => exact absurd (Nat.lt_of_lt_of_le (x.lt q) e) (Nat.lt_irrefl _)
theorem HOk.kept (x : HOk P w H h) (k : ∀ b u, h.get? b = some u → h'.get? b = some u) : HOk P w H h' := fun a o e =>
  (x a o e).stay (fun b u _ q => k b u q) (fun _ q => q) fun _ _ q => q
theorem HOk.laid (x : HOk P w H h) (k : ∀ b u, h.get? b = some u → h'.get? b = some u) (hp : h.objs.size ≤ a) (new : ObjOk P w (upd H a o) h' a o) : HOk P w (upd H a o) h' := fun b u e => by
  have hn := x.fresh hp
  by_cases hb : b = a
  · subst hb; rw [upd_same] at e; cases e; exact new
  · rw [upd_ne hb] at e
    exact (x b u e).stay (fun c v _ q => k c v q) (fun c q => by rw [upd_ne (ne_of_none q hn)]; exact q) fun c xs q => by rw [upd_ne (ne_of_none q hn)]; exact q
end
def Rd (H : Hp) (a : Addr) (u : HO) : Prop := H a = some u ∨ ∃ o, H a = some (.frz o u)
theorem Rd.of {H : Hp} {a : Addr} {u : HO} (h : H a = some u) : Rd H a u := .inl h
theorem Rd.ok {P : Program} {w : World} {H : Hp} {h : Heap} {a : Addr} {u : HO} (r : Rd H a u) (x : HOk P w H h) : ObjOk P w H h a u := by
  rcases r with r | ⟨o, r⟩
  · exact x a u r
  · obtain ⟨_, q⟩ := x a _ r
    exact q
def Mut : Option HO → Prop
  | some (.lst _) => True
  | some (.dK _) => True
  | some (.dT _) => True
  | some (.set _ _) => True
  | some (.ins _ _ _) => True
  | some (.ext _) => True
  | _ => False
section
variable {P : Program} {w : World} {H : Hp} {h h' : Heap} {x e : Addr} {o' : HO}
theorem HOk.write (ok : HOk P w H h) (mu : Mut (H x)) (he : e = x ∨ H e = some (.own x)) (k : ∀ b u, b ≠ e → h.get? b = some u → h'.get? b = some u) (heo : ∃ u, h'.get? e = some u)
    (new : ObjOk P w (upd H x o') h' x o') : HOk P w (upd H x o') h' := fun b u q => by
  have nown : ∀ c y, H c = some (.own y) → c ≠ x := fun c y r z => by subst z; rw [r] at mu; exact mu
  have ntup : ∀ c xs, H c = some (.tup xs) → c ≠ x := fun c xs r z => by subst z; rw [r] at mu; exact mu
  by_cases hb : b = x
  · subst hb; rw [upd_same] at q; cases q; exact new
  · rw [upd_ne hb] at q
    by_cases hbe : b = e
    · have q' : H b = some (.own x) := by
        rcases he with z | z
        · exact absurd (hbe.trans z) hb
        · rw [hbe]; exact z
      rw [q] at q'; cases q'
      obtain ⟨v, hv⟩ := heo
      exact ⟨v, by rw [hbe]; exact hv⟩
    · refine (ok b u q).stay (fun c v hc r => k c v ?_ r) (fun c r => by rw [upd_ne (nown c b r)]; exact r) fun c xs r => by rw [upd_ne (ntup c xs r)]; exact r
      rcases hc with rfl | hc
      · exact hbe
      · rintro rfl
        rcases he with z | z
        · exact nown c b hc z
        · rw [hc] at z; cases z; exact hb rfl
end
structure Un (fs ex : List Addr) (H H' : Hp) (h h' : Heap) : Prop where
  keep : ∀ b o, h.get? b = some o → H b = none → b ∉ fs → b ∉ ex → h'.get? b = some o
  slot : ∀ b o, h.get? b = some o → H b = none → b ∈ fs → b ∉ ex → ∃ sl, h'.get? b = some { o with slots := sl }
  free : ∀ b o, h.get? b = some o → H b = none → b ∉ ex → H' b = none
  there : ∀ b o, h.get? b = some o → b ∉ ex → ∃ o', h'.get? b = some o'
  tups : ∀ b xs, H b = some (.tup xs) → H' b = some (.tup xs)
  frzs : ∀ b o u, H b = some (.frz o u) → H' b = some (.frz o u)
  tbls : ∀ b ps, H b = some (.tbl ps) → ∃ more, H' b = some (.tbl (ps ++ more))
section
variable {fs fs' ex ex' : List Addr} {H H1 H2 : Hp} {h h1 h2 h' : Heap} {a x e : Addr} {o : HO}
theorem Un.any (u : Un fs ex H H1 h h1) {b : Addr} {ob : Obj} (q : h.get? b = some ob) (n : H b = none) (hx : b ∉ ex) : ∃ sl, h1.get? b = some { ob with slots := sl } := by
  by_cases hb : b ∈ fs
  · exact u.slot b ob q n hb hx
  · exact ⟨ob.slots, u.keep b ob q n hb hx⟩
theorem Un.trans (a : Un fs ex H H1 h h1) (b : Un fs ex H1 H2 h1 h2) : Un fs ex H H2 h h2 where
  keep := fun c ob q n hc hx => b.keep c ob (a.keep c ob q n hc hx) (a.free c ob q n hx) hc hx
  slot := fun c ob q n hc hx => by
    obtain ⟨sl, e1⟩ := a.slot c ob q n hc hx
    obtain ⟨sl', e2⟩ := b.slot c _ e1 (a.free c ob q n hx) hc hx
    exact ⟨sl', e2⟩
  free := fun c ob q n hx => by
    obtain ⟨o', e1⟩ := a.there c ob q hx
    exact b.free c o' e1 (a.free c ob q n hx) hx
  there := fun c ob q hx => by
    obtain ⟨o', e1⟩ := a.there c ob q hx
    exact b.there c o' e1 hx
  tups := fun c xs q => b.tups c xs (a.tups c xs q)
  frzs := fun c ob xs q => b.frzs c ob xs (a.frzs c ob xs q)
  tbls := fun c ps q => by
    obtain ⟨m1, e1⟩ := a.tbls c ps q
    obtain ⟨m2, e2⟩ := b.tbls c _ e1
    exact ⟨m1 ++ m2, by rw [e2, Array.append_assoc]⟩
theorem Un.kept (k : ∀ b u, h.get? b = some u → h'.get? b = some u) : Un fs ex H H h h' :=
  ⟨fun b ob q _ _ _ => k b ob q, fun b ob q _ _ _ => ⟨ob.slots, k b ob q⟩, fun _ _ _ n _ => n, fun b ob q _ => ⟨ob, k b ob q⟩, fun _ _ q => q, fun _ _ _ q => q, fun _ ps q => ⟨#[], by rw [q]; simp⟩⟩
theorem Un.refl : Un fs ex H H h h := Un.kept fun _ _ q => q
theorem Un.laid (k : ∀ b u, h.get? b = some u → h'.get? b = some u) (hp : h.objs.size ≤ a) (hn : H a = none) : Un fs ex H (upd H a o) h h' where
  keep := fun b u q _ _ _ => k b u q
  slot := fun b u q _ _ _ => ⟨u.slots, k b u q⟩
  free := fun b u q n _ => by rw [upd_ne (Nat.ne_of_lt (Nat.lt_of_lt_of_le (Heap.lt_size q) hp))]; exact n
  there := fun b u q _ => ⟨u, k b u q⟩
  tups := fun b xs q => by rw [upd_ne (ne_of_none q hn)]; exact q
  frzs := fun b u xs q => by rw [upd_ne (ne_of_none q hn)]; exact q
  tbls := fun b ps q => ⟨#[], by rw [upd_ne (ne_of_none q hn), q]; simp⟩
theorem Un.write (mu : Mut (H x)) (he : e = x ∨ H e = some (.own x)) (k : ∀ b u, b ≠ e → h.get? b = some u → h'.get? b = some u) (heo : ∃ u, h'.get? e = some u) : Un fs ex H (upd H x o) h h' := by
  have hx : ∀ b, H b = none → b ≠ x := fun b n z => by subst z; rw [n] at mu; exact mu
  have hb : ∀ b, H b = none → b ≠ e := fun b n z => by
    subst z
    rcases he with r | r
    · exact hx b n r
    · rw [n] at r; cases r
  have hm : ∀ b u, H b = some u → ¬ Mut (some u) → b ≠ x := fun b u q nm z => by subst z; rw [q] at mu; exact nm mu
  refine ⟨fun b u q n _ _ => k b u (hb b n) q, fun b u q n _ _ => ⟨u.slots, k b u (hb b n) q⟩, fun b u q n _ => by rw [upd_ne (hx b n)]; exact n, fun b u q _ => ?_,
    fun b xs q => by rw [upd_ne (hm b _ q fun z => z)]; exact q, fun b u xs q => by rw [upd_ne (hm b _ q fun z => z)]; exact q, fun b ps q => ⟨#[], by rw [upd_ne (hm b _ q fun z => z), q]; simp⟩⟩
  by_cases hbe : b = e
  · subst hbe; exact heo
  · exact ⟨u, k b u hbe q⟩
end
def trk (h : Heap) (H : Hp) : List Addr := (List.range h.objs.size).filter fun a => (H a).isSome
def hidT (h : Heap) (H : Hp) : Heap := PySem.W.hideAll h (trk h H)
theorem hidT_size (h : Heap) (H : Hp) : (hidT h H).objs.size = h.objs.size := PySem.W.hideAll_size _ _
theorem hidT_get {h : Heap} {H : Hp} {b : Addr} {o : Obj} (e : h.get? b = some o) (n : H b = none) : (hidT h H).get? b = some o :=
  PySem.W.hideAll_get _ e fun hm => by
    have q : (H b).isSome = true := (List.mem_filter.mp hm).2
    rw [n] at q; simp at q
theorem of_hidT {h : Heap} {H : Hp} {b : Addr} {o : Obj} (e : (hidT h H).get? b = some o) : h.get? b = some o ∧ H b = none := by
  have e' : h.get? b = some o := PySem.W.of_hideAll (trk h H) e
  refine ⟨e', ?_⟩
  cases q : H b with
  | none => rfl
  | some x =>
    have hm : b ∈ trk h H := List.mem_filter.mpr ⟨List.mem_range.mpr (Heap.lt_size e'), by simp [q]⟩
    have z : (hidT h H).get? b = none := PySem.W.hideAll_none (trk h H) hm
    rw [z] at e; cases e
def allNews (g h : Heap) (L : Addr) : List (Addr × Obj) := (List.range h.objs.size).filterMap fun a => if a = L ∨ (g.get? a).isSome = true then none else (h.get? a).map fun o => (a, o)
def rest (g h : Heap) (L d : Addr) : List (Addr × Obj) := (allNews g h L).filter fun p => decide (p.1 ≠ d)
end L2
namespace L2
open PySem PySem.Spec PyProof.Rows
structure Mod (K : PySem.W.Frag) (mg : Str → Option Value) (base : Heap) : Prop where
  kin : K.In base
  glob : base.Ns mainGlobals mg
  blt : ∃ mb, base.Ns builtinsNs mb ∧ ∀ x : Str, x ≠ "__name__" → mb x = bootBuiltins x
  nolimit : base.NoLimit
structure Cx where
  prog : Program
  w : World
  K : PySem.W.Frag
  mg : Str → Option Value
  base : Heap
  A : Around
  N : List Str
  s₀ : Shared
  H₀ : Hp
  env : Env
  outer : List Env
  stack : List Env
  ex : List Addr
  fn : Str → Bool
  calm : Bool
  pn : List (Addr × Obj)
  xe : Value → Shared → Prop
def frs (l : List Env) : List Addr := l.filterMap (·.frame)
abbrev Cx.fs (X : Cx) : List Addr := frs X.outer
def Vis (sc : Scope) (x : Str) : Prop := sc.names.lookup x = some .local ∨ sc.names.lookup x = some .cell ∨ sc.names.lookup x = some .free
def Loc (sc : Scope) (x : Str) : Prop := sc.names.lookup x = some .local ∨ sc.names.lookup x = some .cell
def Look (env : Env) (h : Heap) (m : Str → Option Value) (x : Str) (u : Value) : Prop :=
  (env.kindOf x = some .local ∧ m x = some u) ∨ ((env.kindOf x = some .cell ∨ env.kindOf x = some .free) ∧ ∃ c, env.cells.lookup x = some c ∧ h.IsCell c (some u))
structure Cx.Ok (X : Cx) : Prop where
  mod : Mod X.K X.mg X.base
  kind : X.env.scope.kind = .function
  glob : X.env.globals = mainGlobals
  blt : X.env.builtins = builtinsNs
  above : X.s₀.heap.objs.size ≤ X.env.locals
  inj : ∀ x y c, X.env.cells.lookup x = some c → X.env.cells.lookup y = some c → x = y
  has : ∀ x, (X.env.kindOf x = some .cell ∨ X.env.kindOf x = some .free) → ∃ c, X.env.cells.lookup x = some c
  cab : ∀ x c, X.fn x = true → X.env.cells.lookup x = some c → X.s₀.heap.objs.size ≤ c
  hd : X.calm = true → X.A.handled = none
  frames : X.A.frames = some X.stack
  stk : X.stack = X.outer ∨ (X.stack = X.env :: X.outer ∧ X.env.frame = some X.env.locals)
  exf : ∀ b ∈ X.ex, b ≠ X.env.locals ∧ ∀ x c, X.env.cells.lookup x = some c → c ≠ b
  bs : ∀ b o, X.base.get? b = some o → X.s₀.heap.get? b = some o ∧ X.H₀ b = none
  bsz : X.base.objs.size ≤ X.s₀.heap.objs.size
  noex : ∀ b o, X.base.get? b = some o → b ∉ X.ex
  exfs : ∀ b ∈ X.ex, b ∉ X.fs
  funs : X.s₀.heap.FunFrames X.base X.outer
  frf : ∀ b ∈ X.fs, X.H₀ b = none
structure Inv (X : Cx) (pins : List (Addr × Obj)) (σ : List (Option V)) (H : Hp) (s : Shared) : Prop where
  ok : X.Ok
  os : s.os = X.s₀.os
  bare : AllBare s.gens
  base : Un X.fs X.ex X.H₀ H X.s₀.heap s.heap
  loc : ∃ m, s.heap.Ns X.env.locals m ∧ ∀ (i : Nat) (x : Str) (v : V), X.N[i]? = some x → σ[i]? = some (some v) → Vis X.env.scope x → ∃ u, RelV v u ∧ Look X.env s.heap m x u
  cell : ∀ x c, X.env.cells.lookup x = some c → ∃ v, s.heap.IsCell c v
  free : H X.env.locals = none
  freeC : ∀ x c, X.env.cells.lookup x = some c → H c = none
  pin : ∀ p ∈ X.pn ++ pins, s.heap.get? p.1 = some p.2 ∧ H p.1 = none ∧ p.1 ≠ X.env.locals ∧ p.1 ∉ X.fs ∧ ∀ v, p.2.data ≠ .cell v
  hok : HOk X.prog X.w H s.heap
  len : σ.length = X.N.length
section
variable {X : Cx} {pins : List (Addr × Obj)} {σ : List (Option V)} {H H' : Hp} {s : Shared} {h' : Heap}
theorem Cx.Ok.nofr (ok : X.Ok) {b : Addr} {o : Obj} (e : X.base.get? b = some o) : b ∉ X.fs := fun hb => by
  have := (ok.funs.mem hb).1
  rw [e] at this; cases this
theorem Inv.bs (I : Inv X pins σ H s) : ∀ b o, X.base.get? b = some o → s.heap.get? b = some o ∧ H b = none := fun b o e =>
  ⟨I.base.keep b o (I.ok.bs b o e).1 (I.ok.bs b o e).2 (I.ok.nofr e) (I.ok.noex b o e), I.base.free b o (I.ok.bs b o e).1 (I.ok.bs b o e).2 (I.ok.noex b o e)⟩
theorem Inv.bk (I : Inv X pins σ H s) : ∀ b o, X.base.get? b = some o → s.heap.get? b = some o := fun b o e => (I.bs b o e).1
theorem Inv.mod (I : Inv X pins σ H s) : Mod X.K X.mg X.base := I.ok.mod
theorem Inv.kIn (I : Inv X pins σ H s) : X.K.In s.heap := I.ok.mod.kin.keeps I.bk
theorem Inv.lt (I : Inv X pins σ H s) : X.env.locals < s.heap.objs.size := let ⟨_, hn, _⟩ := I.loc; hn.lt
theorem Inv.sz (I : Inv X pins σ H s) : X.s₀.heap.objs.size ≤ s.heap.objs.size := Nat.le_trans I.ok.above (Nat.le_of_lt I.lt)
theorem Inv.nofs (I : Inv X pins σ H s) {a : Addr} (h : s.heap.objs.size ≤ a) : a ∉ X.fs := fun hb => by
  obtain ⟨_, o, ho, _⟩ := I.ok.funs.mem hb
  exact absurd (Nat.lt_of_lt_of_le (Heap.lt_size ho) (Nat.le_trans I.sz h)) (Nat.lt_irrefl _)
theorem Inv.cne (I : Inv X pins σ H s) : ∀ x c, X.env.cells.lookup x = some c → c ≠ X.env.locals := fun x c e z => by
  obtain ⟨v, o, ho, hd⟩ := I.cell x c e
  obtain ⟨m, ⟨o', es, ep, ho', hd', _⟩, _⟩ := I.loc
  rw [z, ho'] at ho; cases ho; rw [hd'] at hd; cases hd
theorem Inv.funs (I : Inv X pins σ H s) : s.heap.FunFrames X.base X.outer := by
  have all : ∀ (l : List Env), (∀ b ∈ frs l, b ∈ X.fs) → X.s₀.heap.FunFrames X.base l → s.heap.FunFrames X.base l := by
    intro l
    induction l with
    | nil => intro _ _; trivial
    | cons env r ih =>
      intro hs hl
      obtain ⟨hk, ⟨L, o, hf, hn, ho, hd⟩, hr⟩ := hl
      have hL : L ∈ X.fs := hs L (by unfold frs; rw [List.filterMap_cons, hf]; exact List.mem_cons_self)
      obtain ⟨sl, e⟩ := I.base.slot L o ho (I.ok.frf L hL) hL fun z => I.ok.exfs L z hL
      exact ⟨hk, ⟨L, _, hf, hn, e, hd⟩, ih (fun b hb => hs b (by unfold frs; rw [List.filterMap_cons, hf]; exact List.mem_cons_of_mem _ hb)) hr⟩
  exact all X.outer (fun _ hb => hb) I.ok.funs
theorem Inv.stack (I : Inv X pins σ H s) : s.heap.FunFrames X.base X.stack := by
  rcases I.ok.stk with e | ⟨e, hf⟩
  · rw [e]; exact I.funs
  · rw [e]
    obtain ⟨m, hn, _⟩ := I.loc
    refine .cons (by rw [I.ok.kind]; decide) hf hn ?_ I.funs
    exact Heap.get?_none_of_le (Nat.le_trans I.ok.bsz I.ok.above)
theorem Inv.stkSub (I : Inv X pins σ H s) : ∀ b ∈ frs X.stack, b ∈ X.env.locals :: X.fs := fun b hb => by
  rcases I.ok.stk with e | ⟨e, hf⟩
  · rw [e] at hb; exact List.mem_cons_of_mem _ hb
  · rw [e] at hb
    unfold frs at hb
    rw [List.filterMap_cons, hf] at hb
    exact hb
theorem Inv.stkFree (I : Inv X pins σ H s) : ∀ b ∈ frs X.stack, H b = none := fun b hb => by
  rcases List.mem_cons.mp (I.stkSub b hb) with e | hb
  · rw [e]; exact I.free
  · obtain ⟨_, o, ho, _⟩ := I.ok.funs.mem hb
    exact I.base.free b o ho (I.ok.frf b hb) fun z => I.ok.exfs b z hb
theorem Inv.step {g' : Array GenState} {t' : Nat} {d' : Drawn} {ch : List Addr} (I : Inv X pins σ H s)
    (hch : ∀ b ∈ ch, (b ∈ X.ex ∨ X.s₀.heap.objs.size ≤ b) ∧ b ≠ X.env.locals ∧ (∀ x c, X.env.cells.lookup x = some c → c ≠ b) ∧ ∀ p ∈ X.pn ++ pins, p.1 ≠ b)
    (keep : ∀ b o, b ≠ X.env.locals → b ∉ X.fs → b ∉ ch → s.heap.get? b = some o → H b = none → h'.get? b = some o)
    (slot : ∀ b o, b ≠ X.env.locals → b ∈ X.fs → b ∉ ch → s.heap.get? b = some o → H b = none → ∃ sl, h'.get? b = some { o with slots := sl }) (free : ∀ b o, b ∉ ch → s.heap.get? b = some o → H b = none → H' b = none)
    (there : ∀ b o, b ∉ ch → s.heap.get? b = some o → ∃ o', h'.get? b = some o')
    (tups : ∀ b xs, H b = some (.tup xs) → H' b = some (.tup xs)) (frzs : ∀ b o u, H b = some (.frz o u) → H' b = some (.frz o u)) (tbls : ∀ b ps, H b = some (.tbl ps) → ∃ more, H' b = some (.tbl (ps ++ more)))
    (ns : ∀ m, s.heap.Ns X.env.locals m → h'.Ns X.env.locals m) (hok : HOk X.prog X.w H' h') (hg : AllBare g') :
    Inv X pins σ H' { s with heap := h', gens := g', drawn := d', toks := t' } := by
  have neL : ∀ b o, X.s₀.heap.get? b = some o → b ≠ X.env.locals := fun b o e => Nat.ne_of_lt (Nat.lt_of_lt_of_le (Heap.lt_size e) I.ok.above)
  have neC : ∀ b o, X.s₀.heap.get? b = some o → b ∉ X.ex → b ∉ ch := fun b o e hx hb => by
    rcases (hch b hb).1 with z | z
    · exact hx z
    · exact absurd (Nat.lt_of_lt_of_le (Heap.lt_size e) z) (Nat.lt_irrefl _)
  have cellK : ∀ x c, X.env.cells.lookup x = some c → ∀ v, s.heap.IsCell c v → h'.IsCell c v := fun x c e v ⟨o, ho, hd⟩ => by
    have nch : c ∉ ch := fun z => (hch c z).2.2.1 x c e rfl
    by_cases hc : c ∈ X.fs
    · obtain ⟨sl, q⟩ := slot c o (I.cne x c e) hc nch ho (I.freeC x c e)
      exact ⟨_, q, hd⟩
    · exact ⟨o, keep c o (I.cne x c e) hc nch ho (I.freeC x c e), hd⟩
  refine ⟨I.ok, I.os, hg, ⟨fun b o e n hb hx => ?_, fun b o e n hb hx => ?_, fun b o e n hx => ?_, fun b o e hx => ?_, fun b xs e => tups b xs (I.base.tups b xs e), fun b o xs e => frzs b o xs (I.base.frzs b o xs e), fun b ps e => ?_⟩, ?_, fun x c e => ?_, ?_, fun x c e => ?_, fun p hp => ?_, hok, I.len⟩
  · exact keep b o (neL b o e) hb (neC b o e hx) (I.base.keep b o e n hb hx) (I.base.free b o e n hx)
  · obtain ⟨sl, e1⟩ := I.base.slot b o e n hb hx
    obtain ⟨sl', e2⟩ := slot b _ (neL b o e) hb (neC b o e hx) e1 (I.base.free b o e n hx)
    exact ⟨sl', e2⟩
  · obtain ⟨o', e1⟩ := I.base.there b o e hx
    exact free b o' (neC b o e hx) e1 (I.base.free b o e n hx)
  · obtain ⟨o', e1⟩ := I.base.there b o e hx
    exact there b o' (neC b o e hx) e1
  · obtain ⟨m1, e1⟩ := I.base.tbls b ps e
    obtain ⟨m2, e2⟩ := tbls b _ e1
    exact ⟨m1 ++ m2, by rw [e2, Array.append_assoc]⟩
  · obtain ⟨m, hn, hl⟩ := I.loc
    refine ⟨m, ns m hn, fun i x v e1 e2 e3 => ?_⟩
    obtain ⟨u, r, l⟩ := hl i x v e1 e2 e3
    refine ⟨u, r, ?_⟩
    rcases l with l | ⟨k, c, e, z⟩
    · exact .inl l
    · exact .inr ⟨k, c, e, cellK x c e _ z⟩
  · obtain ⟨v, z⟩ := I.cell x c e
    exact ⟨v, cellK x c e v z⟩
  · obtain ⟨m, ⟨o, _, _, ho, _⟩, _⟩ := I.loc
    exact free _ o (fun z => (hch _ z).2.1 rfl) ho I.free
  · obtain ⟨v, o, ho, hd⟩ := I.cell x c e
    exact free c o (fun z => (hch c z).2.2.1 x c e rfl) ho (I.freeC x c e)
  · obtain ⟨e, n, ne, nf, d⟩ := I.pin p hp
    have nch : p.1 ∉ ch := fun z => (hch p.1 z).2.2.2 p hp rfl
    exact ⟨keep p.1 p.2 ne nf nch e n, free p.1 p.2 nch e n, ne, nf, d⟩
theorem Inv.un {t' : Nat} (I : Inv X pins σ H s) (u : Un X.fs [] H H' s.heap h') (hok : HOk X.prog X.w H' h') : Inv X pins σ H' { s with heap := h', toks := t' } := by
  obtain ⟨m, ⟨o, es, ep, ho, r⟩, _⟩ := id I.loc
  obtain ⟨sl, hL⟩ := u.any ho I.free (by simp)
  exact I.step (g' := s.gens) (d' := s.drawn) (ch := []) (fun _ z => nomatch z) (fun b o _ hb _ e n => u.keep b o e n hb (by simp)) (fun b o _ hb _ e n => u.slot b o e n hb (by simp)) (fun b o _ e n => u.free b o e n (by simp)) (fun b o _ e => u.there b o e (by simp)) u.tups u.frzs u.tbls (fun m' hm => by
    obtain ⟨o', es', ep', ho', r'⟩ := hm
    rw [ho] at ho'; cases ho'
    exact ⟨_, es', ep', hL, r'⟩) hok I.bare
theorem Inv.call {g' : Array GenState} {t' : Nat} {d' : Drawn} {ch : List Addr} (I : Inv X pins σ H s) (u : Un (frs X.stack) ch H H' s.heap h') (hok : HOk X.prog X.w H' h') (hg : AllBare g')
    (hch : ∀ b ∈ ch, (b ∈ X.ex ∨ X.s₀.heap.objs.size ≤ b) ∧ b ≠ X.env.locals ∧ (∀ x c, X.env.cells.lookup x = some c → c ≠ b) ∧ ∀ p ∈ X.pn ++ pins, p.1 ≠ b) :
    Inv X pins σ H' { s with heap := h', gens := g', drawn := d', toks := t' } := by
  obtain ⟨m, ⟨o, es, ep, ho, r⟩, _⟩ := id I.loc
  obtain ⟨sl, hL⟩ := u.any ho I.free fun z => (hch _ z).2.1 rfl
  exact I.step (ch := ch) hch (fun b o hL hb hc e n => u.keep b o e n (fun z => (List.mem_cons.mp (I.stkSub b z)).elim hL hb) hc) (fun b o _ _ hc e n => u.any e n hc) (fun b o hc e n => u.free b o e n hc) (fun b o hc e => u.there b o e hc) u.tups u.frzs u.tbls (fun m' hm => by
    obtain ⟨o', es', ep', ho', r'⟩ := hm
    rw [ho] at ho'; cases ho'
    exact ⟨_, es', ep', hL, r'⟩) hok hg
theorem Inv.turned {t' : Nat} {it : Addr} (I : Inv X pins σ H s) (k : ∀ b o, b ≠ it → s.heap.get? b = some o → h'.get? b = some o) (hn : H it = none) (hL : it ≠ X.env.locals)
    (h1 : it ∈ X.ex ∨ X.s₀.heap.objs.size ≤ it) (h2 : ∀ x c, X.env.cells.lookup x = some c → c ≠ it) (h3 : ∀ p ∈ X.pn ++ pins, p.1 ≠ it) : Inv X pins σ H { s with heap := h', toks := t' } := by
  have nit : ∀ b u, H b = some u → b ≠ it := fun b u e z => by rw [z, hn] at e; cases e
  refine I.step (g' := s.gens) (d' := s.drawn) (ch := [it]) (fun b hb => ?_) (fun b o _ _ hc e _ => k b o (fun z => hc (by simp [z])) e) (fun b o _ _ hc e _ => ⟨o.slots, k b o (fun z => hc (by simp [z])) e⟩) (fun _ _ _ _ n => n)
    (fun b o hc e => ⟨o, k b o (fun z => hc (by simp [z])) e⟩) (fun _ _ e => e) (fun _ _ _ e => e) (fun b ps e => ⟨#[], by rw [e]; simp⟩) (fun m hm => ?_) (fun b u e => ?_) I.bare
  · have e : b = it := by simpa using hb
    subst e
    exact ⟨h1, hL, h2, h3⟩
  · obtain ⟨o, es, ep, ho, r⟩ := hm
    exact ⟨o, es, ep, k _ o (Ne.symm hL) ho, r⟩
  · refine (I.hok b u e).stay (fun c v hc q => k c v ?_ q) (fun _ q => q) fun _ _ q => q
    rcases hc with z | z
    · rw [z]; exact nit b u e
    · exact nit c _ z
theorem Inv.tok (I : Inv X pins σ H s) (t : Nat) : Inv X pins σ H { s with toks := t } := I.un (h' := s.heap) (t' := t) Un.refl I.hok
theorem Inv.kept {t' : Nat} (I : Inv X pins σ H s) (k : ∀ b u, s.heap.get? b = some u → h'.get? b = some u) : Inv X pins σ H { s with heap := h', toks := t' } := I.un (Un.kept k) (I.hok.kept k)
theorem Inv.laid {a : Addr} {o : HO} {t' : Nat} (I : Inv X pins σ H s) (k : ∀ b u, s.heap.get? b = some u → h'.get? b = some u) (hp : s.heap.objs.size ≤ a) (new : ObjOk X.prog X.w (upd H a o) h' a o) :
    Inv X pins σ (upd H a o) { s with heap := h', toks := t' } := I.un (Un.laid k hp (I.hok.fresh hp)) (I.hok.laid k hp new)
theorem Inv.write {x e : Addr} {o : HO} {t' : Nat} (I : Inv X pins σ H s) (mu : Mut (H x)) (he : e = x ∨ H e = some (.own x)) (k : ∀ b u, b ≠ e → s.heap.get? b = some u → h'.get? b = some u) (heo : ∃ u, h'.get? e = some u)
    (new : ObjOk X.prog X.w (upd H x o) h' x o) : Inv X pins σ (upd H x o) { s with heap := h', toks := t' } := I.un (Un.write mu he k heo) (I.hok.write mu he k heo new)
theorem Inv.pins_of {pins' : List (Addr × Obj)} (I : Inv X pins σ H s) (h : ∀ p ∈ pins', s.heap.get? p.1 = some p.2 ∧ H p.1 = none ∧ p.1 ≠ X.env.locals ∧ p.1 ∉ X.fs ∧ ∀ v, p.2.data ≠ .cell v) : Inv X pins' σ H s :=
  ⟨I.ok, I.os, I.bare, I.base, I.loc, I.cell, I.free, I.freeC, fun p hp => (List.mem_append.mp hp).elim (fun z => I.pin p (List.mem_append_left _ z)) (h p), I.hok, I.len⟩
theorem nodup_ix {N : List Str} (hN : N.Nodup) {i j : Nat} {x : Str} (a : N[i]? = some x) (b : N[j]? = some x) : i = j := by
  obtain ⟨h1, e1⟩ := List.getElem?_eq_some_iff.mp a
  obtain ⟨h2, e2⟩ := List.getElem?_eq_some_iff.mp b
  exact (List.getElem_inj hN).mp (e1.trans e2.symm)
theorem store_ok2 {M : Model} {A : Around} {E : Value → Shared → Prop} {i : Nat} {x : Str} {v : V} {u : Value} {Q : Unit → Shared → Prop} (I : Inv X pins σ H s) (hN : X.N.Nodup) (hi : X.N[i]? = some x) (hx : Loc X.env.scope x) (r : RelV v u)
    (h : ∀ s', Inv X pins (σ.set i (some v)) H s' → (∃ a, Heap.SameBut a s.heap s'.heap ∧ (a = X.env.locals ∨ X.env.cells.lookup x = some a)) → Q () s') (hf : X.fn x = true ∨ X.env.scope.names.lookup x = some .local := by first | exact .inl rfl | exact .inr rfl | assumption) : wpAny M A (storeName X.env x u) Q E s := by
  obtain ⟨m, hn, hl⟩ := id I.loc
  have hcls : (X.env.scope.kind == .class || (X.env.scope.kind == .module && X.env.locals != X.env.globals)) = false := by rw [I.ok.kind]; rfl
  have hiσ : i < σ.length := by rw [I.len]; exact (List.getElem?_eq_some_iff.mp hi).1
  have cne := I.cne
  have tracked : ∀ {a : Addr} {h' : Heap}, (∃ o, s.heap.get? a = some o ∧ H a = none) → Heap.SameBut a s.heap h' → HOk X.prog X.w H h' := fun {a h'} ha hs b ob e => by
    obtain ⟨_, _, hfree⟩ := ha
    refine (I.hok b ob e).stay (fun c w' hc q => (hs.2 c ?_).trans q) (fun _ q => q) fun _ _ q => q
    rintro rfl
    rcases hc with rfl | hc
    · rw [hfree] at e; cases e
    · rw [hfree] at hc; cases hc
  rcases hx with hk | hk
  · refine wpAny_storeName_local hk hn (fun h' hn' hs => ?_) hcls
    obtain ⟨oL, _, _, hoL, _⟩ := id hn
    refine h _ ⟨I.ok, I.os, I.bare, ⟨fun b o e n hb hx => ?_, fun b o e n hb hx => ?_, I.base.free, fun b o e hx => ?_, I.base.tups, I.base.frzs, I.base.tbls⟩, ⟨_, hn', fun j y v' e1 e2 e3 => ?_⟩, fun y c e => ?_, I.free, I.freeC, fun p hp => ?_, tracked ⟨oL, hoL, I.free⟩ hs, by simpa using I.len⟩ ⟨_, hs, .inl rfl⟩
    · exact (hs.2 b (Nat.ne_of_lt (Nat.lt_of_lt_of_le (Heap.lt_size e) I.ok.above))).trans (I.base.keep b o e n hb hx)
    · obtain ⟨sl, e1⟩ := I.base.slot b o e n hb hx
      exact ⟨sl, (hs.2 b (Nat.ne_of_lt (Nat.lt_of_lt_of_le (Heap.lt_size e) I.ok.above))).trans e1⟩
    · obtain ⟨o', e1⟩ := I.base.there b o e hx
      exact ⟨o', (hs.2 b (Nat.ne_of_lt (Nat.lt_of_lt_of_le (Heap.lt_size e) I.ok.above))).trans e1⟩
    · by_cases hj : j = i
      · subst hj
        rw [hi] at e1; cases e1
        rw [List.getElem?_set_self hiσ] at e2
        cases e2
        exact ⟨u, r, .inl ⟨hk, by simp⟩⟩
      · rw [List.getElem?_set_ne (Ne.symm hj)] at e2
        obtain ⟨u', r', q⟩ := hl j y v' e1 e2 e3
        refine ⟨u', r', ?_⟩
        rcases q with ⟨k, e⟩ | ⟨k, c, e, z⟩
        · refine .inl ⟨k, ?_⟩
          have : y ≠ x := fun e => hj (nodup_ix hN e1 (e ▸ hi))
          simp [this, e]
        · exact .inr ⟨k, c, e, z.sameBut hs (cne y c e)⟩
    · obtain ⟨w', z⟩ := I.cell y c e
      exact ⟨w', z.sameBut hs (cne y c e)⟩
    · obtain ⟨e, n, ne, nf, d⟩ := I.pin p hp
      exact ⟨(hs.2 p.1 ne).trans e, n, ne, nf, d⟩
  · have hfn : X.fn x = true := by
      rcases hf with z | z
      · exact z
      · rw [z] at hk; cases hk
    obtain ⟨c, hc⟩ := I.ok.has x (.inl hk)
    obtain ⟨w', z⟩ := I.cell x c hc
    refine wpAny_storeName_cell I.ok.kind hk hc z (fun h' hc' hs => ?_)
    obtain ⟨oc, hoc, hocd⟩ := id z
    refine h { s with heap := h' } ⟨I.ok, I.os, I.bare, ⟨fun b o e n hb hx => ?_, fun b o e n hb hx => ?_, I.base.free, fun b o e hx => ?_, I.base.tups, I.base.frzs, I.base.tbls⟩, ⟨m, hn.sameBut hs (Ne.symm (cne x c hc)), fun j y v' e1 e2 e3 => ?_⟩, fun y c' e => ?_, I.free, I.freeC, fun p hp => ?_, tracked ⟨oc, hoc, I.freeC x c hc⟩ hs, by simpa using I.len⟩ ⟨c, hs, .inr hc⟩
    · exact (hs.2 b (Nat.ne_of_lt (Nat.lt_of_lt_of_le (Heap.lt_size e) (I.ok.cab x c hfn hc)))).trans (I.base.keep b o e n hb hx)
    · obtain ⟨sl, e1⟩ := I.base.slot b o e n hb hx
      exact ⟨sl, (hs.2 b (Nat.ne_of_lt (Nat.lt_of_lt_of_le (Heap.lt_size e) (I.ok.cab x c hfn hc)))).trans e1⟩
    · obtain ⟨o', e1⟩ := I.base.there b o e hx
      exact ⟨o', (hs.2 b (Nat.ne_of_lt (Nat.lt_of_lt_of_le (Heap.lt_size e) (I.ok.cab x c hfn hc)))).trans e1⟩
    · by_cases hj : j = i
      · subst hj
        rw [hi] at e1; cases e1
        rw [List.getElem?_set_self hiσ] at e2
        cases e2
        exact ⟨u, r, .inr ⟨.inl hk, c, hc, hc'⟩⟩
      · rw [List.getElem?_set_ne (Ne.symm hj)] at e2
        obtain ⟨u', r', q⟩ := hl j y v' e1 e2 e3
        refine ⟨u', r', ?_⟩
        rcases q with q | ⟨k, c', e, z'⟩
        · exact .inl q
        · refine .inr ⟨k, c', e, z'.sameBut hs ?_⟩
          rintro rfl
          exact hj (nodup_ix hN e1 (I.ok.inj _ _ _ e hc ▸ hi))
    · by_cases hcc : c' = c
      · subst hcc; exact ⟨_, hc'⟩
      · obtain ⟨w2, z2⟩ := I.cell y c' e
        exact ⟨w2, z2.sameBut hs hcc⟩
    · obtain ⟨e, n, ne, nf, d⟩ := I.pin p hp
      refine ⟨(hs.2 p.1 ?_).trans e, n, ne, nf, d⟩
      intro q
      rw [q, hoc] at e
      have q' : oc = p.2 := Option.some.inj e
      exact d w' (by rw [← q']; exact hocd)
theorem store_ok {M : Model} {A : Around} {E : Value → Shared → Prop} {i : Nat} {x : Str} {v : V} {u : Value} {Q : Unit → Shared → Prop} (I : Inv X pins σ H s) (hN : X.N.Nodup) (hi : X.N[i]? = some x) (hx : Loc X.env.scope x) (r : RelV v u)
    (h : ∀ s', Inv X pins (σ.set i (some v)) H s' → Q () s') (hf : X.fn x = true ∨ X.env.scope.names.lookup x = some .local := by first | exact .inl rfl | exact .inr rfl | assumption) : wpAny M A (storeName X.env x u) Q E s :=
  store_ok2 I hN hi hx r (fun s' I' _ => h s' I') hf
theorem Inv.call' {s' : Shared} {ch : List Addr} (I : Inv X pins σ H s) (ho : s'.os = s.os) (u : Un (frs X.stack) ch H H' s.heap s'.heap) (hok : HOk X.prog X.w H' s'.heap) (hg : AllBare s'.gens)
    (hch : ∀ b ∈ ch, (b ∈ X.ex ∨ X.s₀.heap.objs.size ≤ b) ∧ b ≠ X.env.locals ∧ (∀ x c, X.env.cells.lookup x = some c → c ≠ b) ∧ ∀ p ∈ X.pn ++ pins, p.1 ≠ b) : Inv X pins σ H' s' := by
  obtain ⟨h', g', d', t', o'⟩ := s'
  have e : o' = s.os := ho
  subst e
  exact I.call (g' := g') (t' := t') (d' := d') u hok hg hch
end
abbrev XK := Value → Option Addr → Hp → Prop
abbrev St := List (Option V)
abbrev VK := V → Hp → Prop
abbrev TE := St → Hp → VK → Prop
abbrev TT := St → Hp → (Bool → Hp → Prop) → Prop
abbrev TA := St → Hp → (List V → Hp → Prop) → Prop
structure Ends where
  nx : St → Hp → Prop
  rt : VK
  bk : St → Hp → Prop := fun _ _ => False
  ct : St → Hp → Prop := fun _ _ => False
abbrev TS := Ends → St → Hp → Prop
def EP (X : Cx) (pins : List (Addr × Obj)) (σ : St) (Q : VK) (u : Value) (s' : Shared) : Prop := ∃ v H', Inv X pins σ H' s' ∧ RelV v u ∧ Q v H'
def TP (X : Cx) (pins : List (Addr × Obj)) (σ : St) (Q : Bool → Hp → Prop) (b : Bool) (s' : Shared) : Prop := ∃ H', Inv X pins σ H' s' ∧ Q b H'
def AP (X : Cx) (pins : List (Addr × Obj)) (σ : St) (Q : List V → Hp → Prop) (us : List Value) (s' : Shared) : Prop := ∃ vs H', Inv X pins σ H' s' ∧ Vals vs us ∧ Q vs H'
def SP (X : Cx) (pins : List (Addr × Obj)) (D : Ends) (f : Flow) (s' : Shared) : Prop :=
  match f with
  | .next => ∃ σ' H', Inv X pins σ' H' s' ∧ D.nx σ' H'
  | .brk => ∃ σ' H', Inv X pins σ' H' s' ∧ D.bk σ' H'
  | .cont => ∃ σ' H', Inv X pins σ' H' s' ∧ D.ct σ' H'
  | .ret u => ∃ v σ' H', Inv X pins σ' H' s' ∧ RelV v u ∧ D.rt v H'
def PE (X : Cx) (e : Expr) (t : TE) : Prop :=
  ∀ (pins : List (Addr × Obj)) (s : Shared) (σ : St) (H : Hp) (Q : VK), Inv X pins σ H s → t σ H Q → wpAny (model X.prog X.w) X.A (eval e X.env) (EP X pins σ Q) X.xe s
def PT (X : Cx) (e : Expr) (t : TT) : Prop :=
  ∀ (pins : List (Addr × Obj)) (s : Shared) (σ : St) (H : Hp) (Q : Bool → Hp → Prop), Inv X pins σ H s → t σ H Q → wpAny (model X.prog X.w) X.A (isTrue e X.env (eval e X.env)) (TP X pins σ Q) X.xe s
def PW (X : Cx) (e : Expr) (t : TT) : Prop :=
  ∀ (whole : Sem Value) (pins : List (Addr × Obj)) (s : Shared) (σ : St) (H : Hp) (Q : Bool → Hp → Prop), Inv X pins σ H s → t σ H Q → wpAny (model X.prog X.w) X.A (isTrue e X.env whole) (TP X pins σ Q) X.xe s
theorem PW.pt {X : Cx} {e : Expr} {t : TT} (h : PW X e t) : PT X e t := h _
def PA (X : Cx) (es : List Expr) (t : TA) : Prop :=
  ∀ (pos : Pos) (pins : List (Addr × Obj)) (s : Shared) (σ : St) (H : Hp) (Q : List V → Hp → Prop), Inv X pins σ H s → t σ H Q → wpAny (model X.prog X.w) X.A (spliced (backTo pos (starEach es X.env))) (AP X pins σ Q) X.xe s
def PS (X : Cx) (st : Stmt) (t : TS) : Prop :=
  ∀ (pins : List (Addr × Obj)) (s : Shared) (σ : St) (H : Hp) (D : Ends), Inv X pins σ H s → t D σ H → wpAny (model X.prog X.w) X.A (exec st X.env) (SP X pins D) X.xe s
def PSs (X : Cx) (st : List Stmt) (t : TS) : Prop :=
  ∀ (pins : List (Addr × Obj)) (s : Shared) (σ : St) (H : Hp) (D : Ends), Inv X pins σ H s → t D σ H → wpAny (model X.prog X.w) X.A (execs st X.env) (SP X pins D) X.xe s
theorem thn {α : Type} {t : Sem α} {Q Q' : α → Shared → Prop} {M : Model} {A : Around} {E : Value → Shared → Prop} {s : Shared} (h : wpAny M A t Q E s) (hQ : ∀ a s, Q a s → Q' a s) : wpAny M A t Q' E s := wpAny_mono h hQ fun _ _ x => x
end L2
namespace L2
open PySem PySem.Spec PyProof.Rows
section
variable {X : Cx}
def tVar (i : Nat) : TE := fun σ H Q => ∃ v, σ[i]? = some (some v) ∧ Q v H
def tC (v : V) : TE := fun _ H Q => Q v H
theorem pe_var {i : Nat} {x : Str} {pos : Pos} (hN : X.N[i]? = some x) (hv : Vis X.env.scope x) (hd : (x == ("__debug__" : Str)) = false := by decide) (hcd : (x == ("__classdict__" : Str)) = false := by decide) : PE X (.Name x pos) (tVar i) := by
  intro pins s σ H Q I h
  obtain ⟨v, e, h⟩ := h
  obtain ⟨m, hn, hl⟩ := I.loc
  obtain ⟨u, r, l⟩ := hl i x v hN e hv
  have fin : EP X pins σ Q u s := ⟨v, H, I, r, h⟩
  rcases l with ⟨hk, hm⟩ | ⟨hk, c, hc, hcell⟩
  · exact wpAny_Name (wpAny_loadName_local I.ok.kind hk hn hm fin) hd
  · rcases hk with hk | hk
    · exact wpAny_Name (wpAny_loadName_cell I.ok.kind hk hc hcell fin) hd
    · exact wpAny_Name (wpAny_loadName_free I.ok.kind hk hc hcell fin hcd) hd
theorem pe_int {i j pos} : PE X (.Constant (.int i) j pos) (tC (.int i)) := fun _ _ _ H _ I h => wpAny_Constant_int ⟨.int i, H, I.tok _, ⟨_, rfl⟩, h⟩
theorem pe_bl {b j pos} : PE X (.Constant (.bool b) j pos) (tC (.bl b)) := fun _ _ _ H _ I h => Constant_bool ⟨.bl b, H, I, rfl, h⟩
theorem pe_non {j pos} : PE X (.Constant .none j pos) (tC .non) := fun _ _ _ H _ I h => Constant_none ⟨.non, H, I, rfl, h⟩
theorem pe_str {x j pos} : PE X (.Constant (.str x) j pos) (tC (.str x)) := fun _ _ _ H _ I h => Calls.Constant_str ⟨.str x, H, I.tok _, ⟨_, rfl⟩, h⟩
def Gl (X : Cx) (x : Str) : Prop := X.env.kindOf x = some .globalImplicit
theorem ld_glob {E : Value → Shared → Prop} {pins : List (Addr × Obj)} {s : Shared} {σ : St} {H : Hp} {x : Str} {u : Value} {pos : Pos} {Q : Value → Shared → Prop} (I : Inv X pins σ H s) (hg : Gl X x) (hm : X.mg x = some u) (h : Q u s)
    (hd : (x == ("__debug__" : Str)) = false := by decide) : wpAny (model X.prog X.w) X.A (eval (.Name x pos) X.env) Q E s :=
  Calls.Name_function_global I.ok.kind hg (Calls.loadGlobal_global (by rw [I.ok.glob]; exact I.mod.glob.keeps I.bk) hm h) hd
theorem ld_blt {E : Value → Shared → Prop} {pins : List (Addr × Obj)} {s : Shared} {σ : St} {H : Hp} {x : Str} {u : Value} {pos : Pos} {Q : Value → Shared → Prop} (I : Inv X pins σ H s) (hg : Gl X x) (hm : X.mg x = none) (hv : bootBuiltins x = some u) (h : Q u s)
    (hn : x ≠ "__name__" := by decide) (hd : (x == ("__debug__" : Str)) = false := by decide) : wpAny (model X.prog X.w) X.A (eval (.Name x pos) X.env) Q E s := by
  obtain ⟨mb, h1, h2⟩ := I.mod.blt
  exact Calls.Name_function_global I.ok.kind hg (Calls.loadGlobal_builtin (by rw [I.ok.glob]; exact I.mod.glob.keeps I.bk) hm (by rw [I.ok.blt]; exact h1.keeps I.bk) ((h2 x hn).trans hv) h) hd
theorem pe_glob {x : Str} {v : V} {u : Value} {pos : Pos} (hg : Gl X x) (hm : X.mg x = some u) (r : RelV v u) (hd : (x == ("__debug__" : Str)) = false := by decide) : PE X (.Name x pos) (tC v) :=
  fun _ _ _ H _ I h => ld_glob I hg hm ⟨v, H, I, r, h⟩ hd
theorem pe_bltn {x : Str} {v : V} {u : Value} {pos : Pos} (hg : Gl X x) (hm : X.mg x = none) (hv : bootBuiltins x = some u) (r : RelV v u) (hn : x ≠ "__name__" := by decide) (hd : (x == ("__debug__" : Str)) = false := by decide) : PE X (.Name x pos) (tC v) :=
  fun _ _ _ H _ I h => ld_blt I hg hm hv ⟨v, H, I, r, h⟩ hn hd
variable {a b : Expr} {ta tb : TE} {pos : Pos}
def PC (X : Cx) (op : CmpOp) (a b : Expr) (t : TE) : Prop :=
  ∀ (pins : List (Addr × Obj)) (s : Shared) (σ : St) (H : Hp) (Q : VK), Inv X pins σ H s → t σ H Q →
    wpAny (model X.prog X.w) X.A (eval a X.env) (fun v s₁ => wpAny (model X.prog X.w) X.A (eval b X.env) (fun u s₂ => wpAny (model X.prog X.w) X.A (compareOp op v u) (EP X pins σ Q) X.xe s₂) X.xe s₁) X.xe s
def tB (t : TE) : TT := fun σ H Q => t σ H fun x H1 => ∃ c, x = .bl c ∧ Q c H1
theorem pt_val {e : Expr} {t : TE} (h : PE X e t) (he : ∀ whole, isTrue e X.env whole = (do let v ← whole; standAt e.pos; holding [v] (truthy v)) := by intro _; rfl) : PT X e (tB t) := by
  intro pins s σ H Q I hw
  refine isTrue_plain (thn (h pins s σ H _ I hw) fun v s1 ⟨x, H1, I1, r1, q1⟩ => ?_) (he _)
  obtain ⟨d, rfl, q⟩ := q1
  cases r1
  exact wpAny_truthy_bool ⟨H1, I1, q⟩
variable {tA tB' : TT} {rest : List Expr}
def tAnd (t u : TT) : TT := fun σ H Q => t σ H fun c H1 => if c = true then u σ H1 Q else Q false H1
def tOr (t u : TT) : TT := fun σ H Q => t σ H fun c H1 => if c = true then Q true H1 else u σ H1 Q
def tNot (t : TT) : TT := fun σ H Q => t σ H fun c H1 => Q (!c) H1
theorem pw_and1 (ha : PT X a tA) : PW X (.BoolOp .And [a] pos) tA := by
  intro wh pins s σ H Q I h
  refine isTrue_and (thn (ha pins s σ H Q I h) fun c s1 e => ?_)
  cases c with
  | true => exact isTrue_and_nil e
  | false => exact e
theorem pw_or1 (ha : PT X a tA) : PW X (.BoolOp .Or [a] pos) tA := by
  intro wh pins s σ H Q I h
  refine isTrue_or (thn (ha pins s σ H Q I h) fun c s1 e => ?_)
  cases c with
  | false => exact isTrue_or_nil e
  | true => exact e
theorem pw_and (ha : PT X a tA) (hb : PW X (.BoolOp .And (b :: rest) pos) tB') : PW X (.BoolOp .And (a :: b :: rest) pos) (tAnd tA tB') := by
  intro wh pins s σ H Q I h
  refine isTrue_and (thn (ha pins s σ H _ I h) fun c s1 ⟨H1, I1, q1⟩ => ?_)
  cases c with
  | true => exact hb wh pins s1 σ H1 Q I1 q1
  | false => exact ⟨H1, I1, q1⟩
theorem pw_or (ha : PT X a tA) (hb : PW X (.BoolOp .Or (b :: rest) pos) tB') : PW X (.BoolOp .Or (a :: b :: rest) pos) (tOr tA tB') := by
  intro wh pins s σ H Q I h
  refine isTrue_or (thn (ha pins s σ H _ I h) fun c s1 ⟨H1, I1, q1⟩ => ?_)
  cases c with
  | true => exact ⟨H1, I1, q1⟩
  | false => exact hb wh pins s1 σ H1 Q I1 q1
theorem pt_not (ha : PT X a tA) : PT X (.UnaryOp .Not a pos) (tNot tA) := by
  intro pins s σ H Q I h
  exact isTrue_not (ha pins s σ H (fun c H1 => Q (!c) H1) I h)
def tAndV (ta tb : TE) : TE := fun σ H Q => ta σ H fun x H1 => ∃ c, x = .bl c ∧ if c = true then tb σ H1 Q else Q (.bl false) H1
def tNotV (ta : TE) : TE := fun σ H Q => ta σ H fun x H1 => ∃ c, x = .bl c ∧ Q (.bl (!c)) H1
theorem pe_one {op} {t : TE} (h : PE X a t) : PE X (.BoolOp op [a] pos) t := fun pins s σ H Q I hw => BoolOp_one (h pins s σ H Q I hw)
theorem pe_and (ha : PE X a ta) (hb : PE X (.BoolOp .And (b :: rest) pos) tb) : PE X (.BoolOp .And (a :: b :: rest) pos) (tAndV ta tb) := by
  intro pins s σ H Q I h
  refine BoolOp_and (thn (ha pins s σ H _ I h) fun v s1 ⟨x, H1, I1, r1, q1⟩ => ?_)
  obtain ⟨c, rfl, q1⟩ := q1
  cases r1
  refine wpAny_truthy_bool ?_
  cases c with
  | true => exact hb pins s1 σ H1 Q I1 q1
  | false => exact ⟨.bl false, H1, I1, rfl, q1⟩
theorem pe_not (ha : PE X a ta) : PE X (.UnaryOp .Not a pos) (tNotV ta) := by
  intro pins s σ H Q I h
  refine UnaryOp_ (thn (ha pins s σ H _ I h) fun v s1 ⟨x, H1, I1, r1, q1⟩ => ?_)
  obtain ⟨c, rfl, q1⟩ := q1
  cases r1
  exact not_of (wpAny_truthy_bool ⟨.bl (!c), H1, I1, rfl, q1⟩)
def tIf (t : TT) (ta tb : TE) : TE := fun σ H Q => t σ H fun c H1 => if c = true then ta σ H1 Q else tb σ H1 Q
theorem pe_ifExp {c : Expr} (hc : PT X c tA) (ha : PE X a ta) (hb : PE X b tb) : PE X (.IfExp c a b pos) (tIf tA ta tb) := by
  intro pins s σ H Q I h
  refine wpAny_IfExp (thn (hc pins s σ H _ I h) fun d s1 ⟨H1, I1, q1⟩ => ?_)
  cases d with
  | true => exact ha pins s1 σ H1 Q I1 q1
  | false => exact hb pins s1 σ H1 Q I1 q1
end
end L2
namespace L2
open PySem PySem.Spec PyProof.Rows
def SqL (K : PySem.W.Frag) (H : Hp) (a : Addr) (xs : List V) : Prop :=
  Rd H a (.lst xs) ∨
    ∃ (o : Obj) (its : Array Value) (n : Nat), K.lookup a = some o ∧ o.cls = .type "list" ∧ o.dict = none ∧ o.data = .seq its n ∧ its.size ≤ sizeLine ∧ Vals xs its.toList
def SqT (K : PySem.W.Frag) (H : Hp) (a : Addr) (xs : List V) : Prop :=
  Rd H a (.tup xs) ∨
    ∃ (o : Obj) (its : Array Value) (n : Nat), K.lookup a = some o ∧ o.cls = .type "tuple" ∧ o.data = .seq its n ∧ its.size ≤ sizeLine ∧ Vals xs its.toList
def absV : Value → Option V
  | .none => some .non
  | .bool b => some (.bl b)
  | .int i _ => some (.int i)
  | .str x _ => some (.str x)
  | .bytes b _ => some (.byt b)
  | .float b _ => some (.flt b)
  | .ref a => some (.ref a)
  | .type n => some (.ty n)
  | _ => none
theorem RelV.abs {x : V} {u : Value} (r : RelV x u) : absV u = some x := by
  cases x with
  | non => cases r; rfl
  | bl _ => cases r; rfl
  | int _ => obtain ⟨t, rfl⟩ := r; rfl
  | str _ => obtain ⟨t, rfl⟩ := r; rfl
  | byt _ => obtain ⟨t, rfl⟩ := r; rfl
  | flt _ => obtain ⟨t, rfl⟩ := r; rfl
  | ref _ => cases r; rfl
  | ty _ => cases r; rfl
theorem RelV.inj {x y : V} {u : Value} (r : RelV x u) (q : RelV y u) : x = y := Option.some.inj (r.abs.symm.trans q.abs)
theorem Vals.inj : ∀ {xs ys : List V} {us : List Value}, Vals xs us → Vals ys us → xs = ys
  | _, _, _, .nil, .nil => rfl
  | _, _, _, .cons r t, .cons r' t' => by rw [r.inj r', Vals.inj t t']
section
variable {X : Cx} {pins : List (Addr × Obj)} {σ : St} {H : Hp} {s : Shared} {a : Addr} {xs ys : List V}
theorem SqL.of {K : PySem.W.Frag} (h : H a = some (.lst xs)) : SqL K H a xs := .inl (.inl h)
theorem SqT.of {K : PySem.W.Frag} (h : H a = some (.tup xs)) : SqT K H a xs := .inl (.inl h)
theorem Inv.list (I : Inv X pins σ H s) (h : SqL X.K H a xs) : ∃ its : List Value, Vals xs its ∧ PlainL s.heap a its.toArray ∧ xs.length ≤ sizeLine := by
  rcases h with h | ⟨o, its, n, hk, hc, hd, hs, hz, r⟩
  · obtain ⟨z, its, n, r, e⟩ := h.ok I.hok
    exact ⟨its, r, ⟨_, n, e, rfl, rfl, rfl⟩, z⟩
  · refine ⟨its.toList, r, ⟨o, n, I.kIn a o hk, hc, hd, by simpa using hs⟩, ?_⟩
    have e := r.length
    simp only [Array.length_toList] at e
    omega
theorem Inv.tuple (I : Inv X pins σ H s) (h : SqT X.K H a xs) : ∃ its : List Value, Vals xs its ∧ IsTup s.heap a its.toArray ∧ xs.length ≤ sizeLine := by
  rcases h with h | ⟨o, its, n, hk, hc, hs, hz, r⟩
  · obtain ⟨z, its, r, p⟩ := h.ok I.hok
    exact ⟨its, r, p, z⟩
  · refine ⟨its.toList, r, ⟨o, I.kIn a o hk, hc, n, by simpa using hs⟩, ?_⟩
    have e := r.length
    simp only [Array.length_toList] at e
    omega
theorem Inv.list_inj (I : Inv X pins σ H s) (h : SqL X.K H a xs) (h' : SqL X.K H a ys) : xs = ys := by
  obtain ⟨its, r, ⟨o, n, e, _, _, d⟩, _⟩ := I.list h
  obtain ⟨its', r', ⟨o', n', e', _, _, d'⟩, _⟩ := I.list h'
  rw [e] at e'; cases e'
  rw [d] at d'
  injection d' with d1 _
  have : its = its' := by simpa using congrArg Array.toList d1
  subst this
  exact r.inj r'
end
abbrev Cx.wish (X : Cx) (E : Value → Shared → Prop) : Cx := { X with xe := E }
abbrev Cx.nox (X : Cx) : Cx := X.wish fun _ _ => False
theorem Cx.Ok.wish {X : Cx} (ok : X.Ok) (E : Value → Shared → Prop) : (X.wish E).Ok :=
  ⟨ok.mod, ok.kind, ok.glob, ok.blt, ok.above, ok.inj, ok.has, ok.cab, ok.hd, ok.frames, ok.stk, ok.exf, ok.bs, ok.bsz, ok.noex, ok.exfs, ok.funs, ok.frf⟩
theorem Cx.Ok.unwish {X : Cx} {E : Value → Shared → Prop} (ok : (X.wish E).Ok) : X.Ok :=
  ⟨ok.mod, ok.kind, ok.glob, ok.blt, ok.above, ok.inj, ok.has, ok.cab, ok.hd, ok.frames, ok.stk, ok.exf, ok.bs, ok.bsz, ok.noex, ok.exfs, ok.funs, ok.frf⟩
section
variable {X : Cx} {pins : List (Addr × Obj)} {σ : St} {H : Hp} {s : Shared} {E : Value → Shared → Prop}
theorem Inv.wish (I : Inv X pins σ H s) (E : Value → Shared → Prop) : Inv (X.wish E) pins σ H s := ⟨I.ok.wish E, I.os, I.bare, I.base, I.loc, I.cell, I.free, I.freeC, I.pin, I.hok, I.len⟩
theorem Inv.unwish (I : Inv (X.wish E) pins σ H s) : Inv X pins σ H s := ⟨I.ok.unwish, I.os, I.bare, I.base, I.loc, I.cell, I.free, I.freeC, I.pin, I.hok, I.len⟩
theorem SP.unwish {D : Ends} {f : Flow} {s' : Shared} (h : SP (X.wish E) pins D f s') : SP X pins D f s' := by
  cases f with
  | next => obtain ⟨σ', H', I, q⟩ := h; exact ⟨σ', H', I.unwish, q⟩
  | brk => obtain ⟨σ', H', I, q⟩ := h; exact ⟨σ', H', I.unwish, q⟩
  | cont => obtain ⟨σ', H', I, q⟩ := h; exact ⟨σ', H', I.unwish, q⟩
  | ret u => obtain ⟨v, σ', H', I, r, q⟩ := h; exact ⟨v, σ', H', I.unwish, r, q⟩
theorem PE.nox {e : Expr} {t : TE} (h : PE X.nox e t) : PE X e t := fun pins s σ H Q I hw =>
  wpAny_mono (h pins s σ H Q (I.wish _) hw) (fun _ _ ⟨v, H', I', r, q⟩ => ⟨v, H', I'.unwish, r, q⟩) fun _ _ z => False.elim z
theorem PT.nox {e : Expr} {t : TT} (h : PT X.nox e t) : PT X e t := fun pins s σ H Q I hw =>
  wpAny_mono (h pins s σ H Q (I.wish _) hw) (fun _ _ ⟨H', I', q⟩ => ⟨H', I'.unwish, q⟩) fun _ _ z => False.elim z
theorem PSs.nox {st : List Stmt} {t : TS} (h : PSs X.nox st t) : PSs X st t := fun pins s σ H D I hw =>
  wpAny_mono (h pins s σ H D (I.wish _) hw) (fun _ _ q => q.unwish) fun _ _ z => False.elim z
end
section
variable {X : Cx} {st : Stmt} {rest : List Stmt} {t u : TS} {e : Expr} {te : TE} {pos : Pos}
def tNext : TS := fun D σ H => D.nx σ H
def tSeq (t u : TS) : TS := fun D σ H => t { D with nx := u D } σ H
theorem pss_nil : PSs X [] tNext := fun _ _ σ H _ I h => wpAny_execs_nil ⟨σ, H, I, h⟩
theorem pss_cons (h1 : PS X st t) (h2 : PSs X rest u) : PSs X (st :: rest) (tSeq t u) := by
  intro pins s σ H D I h
  refine wpAny_execs_cons (thn (h1 pins s σ H { D with nx := u D } I h) fun f s1 q => ?_)
  cases f with
  | next =>
    obtain ⟨σ', H', I', q⟩ := q
    exact h2 pins s1 σ' H' D I' q
  | ret v => exact q
  | brk => exact q
  | cont => exact q
theorem pss_one (h1 : PS X st t) : PSs X [st] t := by
  intro pins s σ H D I h
  refine wpAny_execs_cons (thn (h1 pins s σ H D I h) fun f s1 q => ?_)
  cases f with
  | next => exact wpAny_execs_nil q
  | ret v => exact q
  | brk => exact q
  | cont => exact q
theorem Inv.quiet {pins : List (Addr × Obj)} {σ : St} {H : Hp} {s : Shared} (I : Inv X pins σ H s) : interactive X.env = false := by simp [interactive, I.ok.kind]
def tDrop (te : TE) : TS := fun D σ H => te σ H fun _ H1 => D.nx σ H1
theorem ps_expr (he : PE X e te) (hs : swapsWith e none pos.line X.env = pure false := by rfl) : PS X (.Expr e pos) (tDrop te) := by
  intro pins s σ H D I h
  exact wpAny_Expr_any (thn (he pins s σ H _ I h) fun v s1 ⟨x, H1, I1, r1, q1⟩ => ⟨σ, H1, I1, q1⟩) I.quiet hs
def tRet (te : TE) : TS := fun D σ H => te σ H D.rt
theorem ps_ret (he : PE X e te) : PS X (.Return (some e) pos) (tRet te) := by
  intro pins s σ H D I h
  exact wpAny_Return_some (thn (he pins s σ H _ I h) fun v s1 ⟨x, H1, I1, r1, q1⟩ => ⟨x, σ, H1, I1, r1, q1⟩)
def tIfS (c : TT) (t u : TS) : TS := fun D σ H => c σ H fun b H1 => if b = true then t D σ H1 else u D σ H1
theorem ps_if {c : Expr} {a b : List Stmt} {tc : TT} (hc : PT X c tc) (ha : PSs X a t) (hb : PSs X b u) : PS X (.If c a b pos) (tIfS tc t u) := by
  intro pins s σ H D I h
  refine wpAny_If (thn (hc pins s σ H _ I h) fun d s1 ⟨H1, I1, q1⟩ => ?_)
  cases d with
  | true => exact ha pins s1 σ H1 D I1 q1
  | false => exact hb pins s1 σ H1 D I1 q1
end
abbrev TG := V → St → Hp → (St → Hp → Prop) → Prop
abbrev TGs := List V → St → Hp → (St → Hp → Prop) → Prop
def PG (X : Cx) (target : Expr) (t : TG) : Prop :=
  ∀ (pins : List (Addr × Obj)) (s : Shared) (σ : St) (H : Hp) (v : V) (u : Value) (Q : St → Hp → Prop), Inv X pins σ H s → RelV v u → t v σ H Q →
    wpAny (model X.prog X.w) X.A (assign target X.env u) (fun _ s' => ∃ σ' H', Inv X pins σ' H' s' ∧ Q σ' H') X.xe s
def PGs (X : Cx) (ts : List Expr) (t : TGs) : Prop :=
  ∀ (pins : List (Addr × Obj)) (s : Shared) (σ : St) (H : Hp) (vs : List V) (us : List Value) (Q : St → Hp → Prop), Inv X pins σ H s → Vals vs us → t vs σ H Q →
    wpAny (model X.prog X.w) X.A (assignInOrder ((assignEach ts X.env).map (·.2)) us) (fun _ s' => ∃ σ' H', Inv X pins σ' H' s' ∧ Q σ' H') X.xe s
abbrev TSet := V → V → V → Hp → (Hp → Prop) → Prop
def PSet (X : Cx) (t : TSet) : Prop :=
  ∀ (pins : List (Addr × Obj)) (s : Shared) (σ : St) (H : Hp) (o i v : V) (ov iv u : Value) (Q : Hp → Prop), Inv X pins σ H s → RelV o ov → RelV i iv → RelV v u → t o i v H Q →
    wpAny (model X.prog X.w) X.A (setItem ov iv u) (fun _ s' => ∃ H', Inv X pins σ H' s' ∧ Q H') X.xe s
section
variable {X : Cx} {pos : Pos}
def gName (i : Nat) : TG := fun v σ H Q => Q (σ.set i (some v)) H
theorem pg_name {i : Nat} {x : Str} (hN : X.N.Nodup) (hi : X.N[i]? = some x) (hx : Loc X.env.scope x) (hf : X.fn x = true ∨ X.env.scope.names.lookup x = some .local := by first | exact .inl rfl | exact .inr rfl | assumption) : PG X (.Name x pos) (gName i) := by
  intro pins s σ H v u Q I r h
  exact wpAny_assign_Name (store_ok I hN hi hx r (fun s' I' => ⟨_, H, I', h⟩) hf)
def gNil : TGs := fun vs σ H Q => vs = [] ∧ Q σ H
def gCons (t : TG) (u : TGs) : TGs := fun vs σ H Q => ∃ v r, vs = v :: r ∧ t v σ H fun σ' H' => u r σ' H' Q
theorem pgs_nil : PGs X [] gNil := by
  intro pins s σ H vs us Q I r h
  obtain ⟨e, h⟩ := h
  subst e
  cases r
  exact assignInOrder_nil ⟨σ, H, I, h⟩
theorem pgs_cons {e : Expr} {es : List Expr} {t : TG} {u : TGs} (h1 : PG X e t) (h2 : PGs X es u)
    (hs : (assignEach (e :: es) X.env).map (·.2) = assign e X.env :: (assignEach es X.env).map (·.2) := by rfl) : PGs X (e :: es) (gCons t u) := by
  intro pins s σ H vs us Q I r h
  obtain ⟨v, vr, e1, h⟩ := h
  subst e1
  cases r with
  | cons r rr =>
    rw [hs]
    refine assignInOrder_cons (thn (h1 pins s σ H _ _ _ I r h) fun _ s1 ⟨σ1, H1, I1, q1⟩ => ?_)
    exact h2 pins s1 σ1 H1 _ _ Q I1 rr q1
def gTup (K : PySem.W.Frag) (n : Nat) (t : TGs) : TG := fun v σ H Q => ∃ a xs, v = .ref a ∧ SqT K H a xs ∧ xs.length = n ∧ t xs σ H Q
theorem pg_tup {es : List Expr} {k : Nat} {t : TGs} {n : Nat} (hc : X.calm = true) (h : PGs X es t)
    (hn : (assignEach es X.env).length = n := by rfl) (hst : (assignEach es X.env).findIdx? (·.1) = none := by rfl) : PG X (.Tuple es k pos) (gTup X.K n t) := by
  intro pins s σ H v u Q I r hw
  obtain ⟨a, xs, e1, hq, hl, hw⟩ := hw
  subst e1
  cases r
  obtain ⟨its, rv, ht, hz⟩ := I.tuple hq
  refine assign_Tuple_tuple (I.ok.hd hc) ht (by simp [hn, ← hl, rv.length]) hst fun h' hx => ?_
  have I1 : Inv X pins σ H { s with heap := h' } := I.kept (t' := s.toks) fun b o e => hx b o (Nat.ne_of_lt (Heap.lt_size e)) e
  exact h pins _ σ H xs _ Q I1 (by simpa using rv) hw
def gSub (to ti : TE) (t : TSet) : TG := fun v σ H Q => to σ H fun o H1 => ti σ H1 fun i H2 => t o i v H2 fun H3 => Q σ H3
theorem pg_sub {o i : Expr} {to ti : TE} {t : TSet} (ho : PE X o to) (hi : PE X i ti) (hs : PSet X t)
    (ha : ∀ v, assign (.Subscript o i pos) X.env v = (do
      let ov ← holding [v] (eval o X.env)
      let iv ← holding [v, ov] (eval i X.env)
      standAt pos
      holding [v, ov, iv] (setItem ov iv v)
      release [v, ov, iv] []) := by intro _; rfl) : PG X (.Subscript o i pos) (gSub to ti t) := by
  intro pins s σ H v u Q I r h
  rw [ha]
  refine wpAny_bind (wpAny_holding (thn (ho pins s σ H _ I h) fun ov s1 ⟨x, H1, I1, r1, q1⟩ => ?_))
  refine wpAny_bind (wpAny_holding (thn (hi pins s1 σ H1 _ I1 q1) fun iv s2 ⟨y, H2, I2, r2, q2⟩ => ?_))
  refine wpAny_bind (wpAny_standAt (wpAny_bind (wpAny_holding (thn (hs pins s2 σ H2 x y v ov iv u _ I2 r1 r2 r q2) fun _ s3 ⟨H3, I3, q3⟩ => ?_))))
  exact wpAny_release ⟨σ, H3, I3, q3⟩
def tAsg (te : TE) (g : TG) : TS := fun D σ H => te σ H fun x H1 => g x σ H1 D.nx
theorem ps_asg {tg e : Expr} {te : TE} {g : TG} (he : PE X e te) (hg : PG X tg g) (hs : swapsWithSole [tg] e pos.line X.env = pure false := by rfl) (hw : swappedStores [tg] e X.env = pure none := by rfl)
    (h1 : (assignEach [tg] X.env).map (·.2) = [assign tg X.env] := by rfl) : PS X (.Assign [tg] e pos) (tAsg te g) := by
  intro pins s σ H D I h
  refine wpAny_Assign_stores (thn (he pins s σ H _ I h) fun v s1 ⟨x, H1, I1, r1, q1⟩ => ?_) hs hw
  rw [h1]
  exact thn (hg pins s1 σ H1 x v _ I1 r1 q1) fun _ s2 q => q
theorem ps_set {i : Nat} {x : Str} {e : Expr} {te : TE} {pos' : Pos} (hN : X.N.Nodup) (hi : X.N[i]? = some x) (hx : Loc X.env.scope x) (he : PE X e te) (hs : swapsWith e (some (.Name x pos')) pos.line X.env = pure false := by rfl) (hf : X.fn x = true ∨ X.env.scope.names.lookup x = some .local := by first | exact .inl rfl | exact .inr rfl | assumption) :
    PS X (.Assign [.Name x pos'] e pos) (tAsg te (gName i)) := by
  intro pins s σ H D I h
  refine wpAny_Assign_Name (thn (he pins s σ H _ I h) fun v s1 ⟨y, H1, I1, r1, q1⟩ => ?_) hs
  exact store_ok I1 hN hi hx r1 (fun s2 I2 => ⟨_, H1, I2, q1⟩) hf
end
section
variable {X : Cx} {pos : Pos}
def tWhile (c : TT) (tb : TS) : TS := fun D σ H => ∃ W : Nat → St → Hp → Prop, (∃ m, W m σ H) ∧ ∀ m σ H, W m σ H →
  c σ H fun b H1 => if b = true then ∃ N : St → Hp → Prop, (∀ σ' H', N σ' H' → ∃ m', m' < m ∧ W m' σ' H') ∧ tb { D with nx := N, ct := N, bk := D.nx } σ H1 else D.nx σ H1
theorem ps_while {c : Expr} {body : List Stmt} {tc : TT} {tb : TS} (hp : PassesOwn (model X.prog X.w) X.A X.env X.xe) (hc : PT X c tc) (hb : PSs X body tb) : PS X (.While c body [] pos) (tWhile tc tb) := by
  intro pins s σ H D I h
  obtain ⟨W, ⟨m0, w0⟩, turn⟩ := h
  refine wpAny_While (codeAny_whileLoop (fun n s' => ∃ σ' H', Inv X pins σ' H' s' ∧ W n σ' H') ?_ m0 ⟨σ, H, I, w0⟩)
  rintro n s1 ⟨σ1, H1, I1, w1⟩
  refine wpAny_passesOwn hp (thn (hc pins s1 σ1 H1 _ I1 (turn n σ1 H1 w1)) fun b s2 ⟨H2, I2, q2⟩ => ?_)
  cases b with
  | true =>
    obtain ⟨N, hN, q2⟩ := q2
    rw [if_pos rfl]
    refine wpAny_passesOwn hp (thn (hb pins s2 σ1 H2 _ I2 q2) fun f s3 q3 => ?_)
    cases f with
    | next =>
      obtain ⟨σ3, H3, I3, n3⟩ := q3
      obtain ⟨m', hm, w3⟩ := hN σ3 H3 n3
      exact ⟨m', hm, σ3, H3, I3, w3⟩
    | cont =>
      obtain ⟨σ3, H3, I3, n3⟩ := q3
      obtain ⟨m', hm, w3⟩ := hN σ3 H3 n3
      exact ⟨m', hm, σ3, H3, I3, w3⟩
    | brk => exact q3
    | ret v => exact q3
  | false =>
    rw [if_neg Bool.false_ne_true]
    exact wpAny_execs_nil ⟨σ1, H2, I2, q2⟩
end
structure It where
  go : Nat → Hp → Prop
  yld : Nat → Hp → V → Hp → Prop
  stop : Nat → Hp → Prop
def FpOk (X : Cx) (pins : List (Addr × Obj)) (H : Hp) (b : Addr) : Prop :=
  H b = none ∧ b ≠ X.env.locals ∧ b ∉ X.fs ∧ (b ∈ X.ex ∨ X.s₀.heap.objs.size ≤ b) ∧ (∀ x c, X.env.cells.lookup x = some c → c ≠ b) ∧ ∀ p ∈ X.pn ++ pins, p.1 ≠ b
theorem Inv.fpOk {X : Cx} {pins : List (Addr × Obj)} {σ : St} {H H' : Hp} {s : Shared} {b : Addr} (I : Inv X pins σ H s) (hb : s.heap.objs.size ≤ b) (hn : H' b = none) : FpOk X pins H' b := by
  refine ⟨hn, Nat.ne_of_gt (Nat.lt_of_lt_of_le I.lt hb), I.nofs hb, .inr (Nat.le_trans I.sz hb), fun x c e z => ?_, fun p hp z => ?_⟩
  · obtain ⟨v, q⟩ := I.cell x c e
    exact absurd (Nat.lt_of_lt_of_le q.lt (by rw [z]; exact hb)) (Nat.lt_irrefl _)
  · exact absurd (Nat.lt_of_lt_of_le (Heap.lt_size (I.pin p hp).1) (by rw [z]; exact hb)) (Nat.lt_irrefl _)
structure Turn (P : Program) (w : World) (K : PySem.W.Frag) (tg : Expr) (J : It) (fp : List Addr) (it : Addr) (tn : Nat → Heap → Prop) : Prop where
  mem : it ∈ fp
  obj : ∀ i h, tn i h → ∀ b ∈ fp, ∃ o, h.get? b = some o ∧ ∀ v, o.data ≠ .cell v
  keep : ∀ i h h', tn i h → (∀ b ∈ fp, ∀ o, h.get? b = some o → h'.get? b = some o) → tn i h'
  item : ∀ (X : Cx), X.prog = P → X.w = w → X.K = K → X.calm = true → ∀ (i : Nat) (pins : List (Addr × Obj)) (s : Shared) (σ : St) (H : Hp) (E : Value → Shared → Prop), Inv X pins σ H s → (∀ b ∈ fp, FpOk X pins H b) → tn i s.heap → J.go i H →
    wpAny (model P w) X.A (pyNext (.ref it)) (fun r s1 => ∃ u, r = some u ∧
      wpAny (model P w) X.A (letOwnedTupleGo tg (.ref it) u) (fun _ s2 => ∃ x H', Inv X pins σ H' s2 ∧ RelV x u ∧ J.yld i H x H' ∧ tn (i + 1) s2.heap ∧ ∀ b ∈ fp, H' b = none) E s1) E s
  done : ∀ (X : Cx), X.prog = P → X.w = w → X.K = K → X.calm = true → ∀ (i : Nat) (pins : List (Addr × Obj)) (s : Shared) (σ : St) (H : Hp) (E : Value → Shared → Prop), Inv X pins σ H s → (∀ b ∈ fp, FpOk X pins H b) → tn i s.heap → J.stop i H →
    wpAny (model P w) X.A (pyNext (.ref it)) (fun r s1 => r = none ∧ Inv X pins σ H s1) E s
  self : ∀ (A : Around) (i : Nat) (s : Shared) (Q : Value → Shared → Prop) (E : Value → Shared → Prop), tn i s.heap → Q (.ref it) s → wpAny (model P w) A (pyIter (.ref it)) Q E s
abbrev TI := St → Hp → (It → Hp → Prop) → Prop
def PIE (X : Cx) (pins : List (Addr × Obj)) (σ : St) (tg : Expr) (R : It → Hp → Prop) (itv : Value) (s2 : Shared) : Prop :=
  ∃ (it : Addr) (fp : List Addr) (tn : Nat → Heap → Prop) (J : It) (H' : Hp), itv = .ref it ∧ Inv X pins σ H' s2 ∧ Turn X.prog X.w X.K tg J fp it tn ∧ tn 0 s2.heap ∧ (∀ b ∈ fp, FpOk X pins H' b) ∧ R J H'
def PI (X : Cx) (tg iter : Expr) (wi : TI) : Prop :=
  ∀ (pins : List (Addr × Obj)) (s : Shared) (σ : St) (H : Hp) (R : It → Hp → Prop), Inv X pins σ H s → wi σ H R →
    wpAny (model X.prog X.w) X.A (eval iter X.env) (fun v s1 => wpAny (model X.prog X.w) X.A (pyIter v) (PIE X pins σ tg R) X.xe s1) X.xe s
theorem go_of {M : Model} {A : Around} {E : Value → Shared → Prop} {s : Shared} {tg : Expr} {it : Addr} {u : Value} {o : Obj} {n : String} {vs : Array Value} {Q : Unit → Shared → Prop} (ho : s.heap.get? it = some o) (hc : o.cls = .type n) (hd : o.data = .fields vs)
    (hn : ["enumerate", "zip", "dict_itemiterator", "dict_reverseitemiterator", "odict_iterator", "itertools.zip_longest", "itertools.pairwise"].contains n = false) (hQ : Q () s) : wpAny M A (letOwnedTupleGo tg (.ref it) u) Q E s := by
  unfold letOwnedTupleGo
  cases tg <;> first
    | exact wpAny_pure hQ
    | (cases u <;> first
        | exact wpAny_pure hQ
        | (refine wpAny_bind (wpAny_load ho ?_)
           rw [hc, hd]
           show wpAny M A (if (["enumerate", "zip", "dict_itemiterator", "dict_reverseitemiterator", "odict_iterator", "itertools.zip_longest", "itertools.pairwise"].contains n && vs[0]? == some (rawInt _)) = true then _ else _) Q E s
           rw [if_neg (by intro h; rw [hn, Bool.false_and] at h; cases h)]
           exact wpAny_pure hQ))
def Itl (K : PySem.W.Frag) (a : Addr) : It :=
  ⟨fun i H => ∃ xs x, SqL K H a xs ∧ xs[i]? = some x, fun i H x H' => H' = H ∧ ∀ xs, SqL K H a xs → xs[i]? = some x, fun i H => ∃ xs, SqL K H a xs ∧ xs.length ≤ i⟩
def Itr (lo : Int) (n : Nat) : It := ⟨fun i _ => i < n, fun i H x H' => H' = H ∧ x = .int (lo + i), fun i _ => n ≤ i⟩
theorem turn_list {P : Program} {w : World} {K : PySem.W.Frag} {tg : Expr} (a it : Addr) : Turn P w K tg (Itl K a) [it] it (fun i h => h.IsListIter it a i) where
  mem := by simp
  obj := fun i h st b hb => by
    have e : b = it := by simpa using hb
    subst e
    obtain ⟨o, e, c, d⟩ := st
    exact ⟨o, e, fun v z => by rw [d] at z; cases z⟩
  keep := fun i h h' st k => st.at fun o e => k it (by simp) o e
  item := by
    intro X hP hw hK hc i pins s σ H E I hf st hg
    subst hP hw hK
    obtain ⟨xs, x, hq, hx⟩ := hg
    obtain ⟨its, rv, p, hz⟩ := I.list hq
    obtain ⟨u, hu, ru⟩ := rv.get hx
    obtain ⟨f0, f1, f2, f3, f4, f5⟩ := hf it (by simp)
    refine wpAny_pyNext_list_item st p.isList (x := u) (by simpa using hu) fun h' st' sb => ?_
    have I1 : Inv X pins σ H { s with heap := h' } := I.turned (t' := s.toks) (fun b o hb e => (sb.2 b hb).trans e) f0 f1 f3 f4 f5
    obtain ⟨o, e, c, d⟩ := id st'
    exact ⟨u, rfl, go_of (s := { s with heap := h' }) e c d (by decide) ⟨x, H, I1, ru, ⟨rfl, fun ys hy => by rw [I.list_inj hy hq]; exact hx⟩, st', fun b hb => (hf b hb).1⟩⟩
  done := by
    intro X hP hw hK hc i pins s σ H E I hf st hg
    subst hP hw hK
    obtain ⟨xs, hq, hx⟩ := hg
    obtain ⟨its, rv, p, hz⟩ := I.list hq
    obtain ⟨f0, f1, f2, f3, f4, f5⟩ := hf it (by simp)
    have hl := rv.length
    exact wpAny_pyNext_list_end (I.ok.hd hc) st p.isList (by simp; omega) fun h' eb => ⟨rfl, I.turned (t' := s.toks) (fun b o hb e => eb b o hb e) f0 f1 f3 f4 f5⟩
  self := fun _ _ _ _ _ st h => wpAny_pyIter_listiter st h
theorem turn_range {P : Program} {w : World} {K : PySem.W.Frag} {tg : Expr} (it : Addr) (lo : Int) (n : Nat) : Turn P w K tg (Itr lo n) [it] it (fun i h => IsRangeIter h it (lo + (i : Nat) * 1) ((n : Int) - (i : Nat)) 1) where
  mem := by simp
  obj := fun i h st b hb => by
    have e : b = it := by simpa using hb
    subst e
    exact ⟨_, st, fun v z => by
      have z' : Data.fields _ = Data.cell v := z
      cases z'⟩
  keep := fun i h h' st k => k it (by simp) _ st
  item := by
    intro X hP hw hK hc i pins s σ H E I hf st hg
    subst hP hw hK
    obtain ⟨f0, f1, f2, f3, f4, f5⟩ := hf it (by simp)
    have W := Walks.range (prog := X.prog) (w := X.w) (I.ok.hd hc) it lo 1 n
    refine W.item i s _ _ hg st fun v h' tk hv st' kk => ?_
    obtain ⟨t, rfl⟩ := hv
    have I1 : Inv X pins σ H { s with heap := h', toks := tk } := I.turned (fun b o hb e => kk b o (by simpa using hb) e) f0 f1 f3 f4 f5
    refine ⟨_, rfl, go_of (s := { s with heap := h', toks := tk }) (n := "range_iterator") st' rfl rfl (by decide) ⟨.int (lo + i), H, I1, ⟨t, ?_⟩, ⟨rfl, rfl⟩, st', fun b hb => (hf b hb).1⟩⟩
    rw [Int.mul_one]
  done := by
    intro X hP hw hK hc i pins s σ H E I hf st hg
    subst hP hw hK
    obtain ⟨f0, f1, f2, f3, f4, f5⟩ := hf it (by simp)
    exact wpAny_pyNext_range_end (I.ok.hd hc) st (by have : n ≤ i := hg; omega) fun h' eb => ⟨rfl, I.turned (t' := s.toks) (fun b o hb e => eb b o hb e) f0 f1 f3 f4 f5⟩
  self := fun _ _ _ _ _ st h => wpAny_pyIter_rangeiter st h
end L2
namespace L2
open PySem PySem.Spec PyProof.Rows
section
variable {X : Cx} {tg : Expr}
def iList (K : PySem.W.Frag) (tl : TE) : TI := fun σ H R => tl σ H fun x H1 => ∃ a, x = .ref a ∧ (∃ xs, SqL K H1 a xs) ∧ R (Itl K a) H1
theorem pi_list {l : Expr} {tl : TE} (hl : PE X l tl) : PI X tg l (iList X.K tl) := by
  intro pins s σ H R I h
  refine thn (hl pins s σ H _ I h) fun v s1 ⟨x, H1, I1, r1, q1⟩ => ?_
  obtain ⟨a, e, ⟨xs, hq⟩, q⟩ := q1
  subst e
  cases r1
  obtain ⟨its, rv, p, hz⟩ := I1.list hq
  refine wpAny_pyIter_list p.isList ?_
  refine ⟨s1.heap.objs.size, [s1.heap.objs.size], _, _, H1, rfl, I1.kept (t' := s1.toks) fun b o e => Heap.get?_push_of_some _ e, turn_list a _, ⟨_, Heap.get?_push_size _ rfl, rfl, rfl⟩, fun b hb => ?_, q⟩
  have e : b = s1.heap.objs.size := by simpa using hb
  subst e
  exact I1.fpOk (Nat.le_refl _) (I1.hok.fresh (Nat.le_refl _))
theorem range_it {pins : List (Addr × Obj)} {σ : St} {H : Hp} {s : Shared} {R : It → Hp → Prop} {E : Value → Shared → Prop} {lo hi : Int} {t u v : Tok} {tk : Nat} (I : Inv X pins σ H s) (h1 : -(2 ^ 62) ≤ lo) (h2 : lo < 2 ^ 62) (h3 : -(2 ^ 62) ≤ hi) (h4 : hi < 2 ^ 62)
    (q : R (Itr lo (hi - lo).toNat) H) : wpAny (model X.prog X.w) X.A (pyIter (.ref s.heap.objs.size)) (PIE X pins σ tg R) E { s with heap := s.heap.push { cls := .type "range", data := .fields #[.int lo t, .int hi u, .int 1 v] }, toks := tk } := by
  refine wpAny_pyIter_range (IsRange.new ..) (small_one h1 h2 h3 h4) ?_
  have I1 : Inv X pins σ H { s with heap := s.heap.push { cls := .type "range", data := .fields #[.int lo t, .int hi u, .int 1 v] }, toks := tk } := I.kept fun b o e => Heap.get?_push_of_some _ e
  refine ⟨(s.heap.push { cls := .type "range", data := .fields #[.int lo t, .int hi u, .int 1 v] }).objs.size, [(s.heap.push { cls := .type "range", data := .fields #[.int lo t, .int hi u, .int 1 v] }).objs.size], _, _, H, rfl,
    I1.kept (t' := tk) fun b o e => Heap.get?_push_of_some _ e, turn_range _ lo (hi - lo).toNat, ?_, fun b hb => ?_, q⟩
  · have e1 : lo + ((0 : Nat) : Int) * 1 = lo := by simp
    have e2 : (((hi - lo).toNat : Nat) : Int) - ((0 : Nat) : Int) = Builtin.Range.rangeSize lo hi 1 := by rw [rangeSize_one]; split <;> omega
    show IsRangeIter _ _ (lo + ((0 : Nat) : Int) * 1) ((((hi - lo).toNat : Nat) : Int) - ((0 : Nat) : Int)) 1
    rw [e1, e2]
    exact Heap.get?_push_size _ rfl
  · have e : b = (s.heap.push { cls := .type "range", data := .fields #[.int lo t, .int hi u, .int 1 v] }).objs.size := by simpa using hb
    subst e
    exact I1.fpOk (Nat.le_refl _) (I1.hok.fresh (Nat.le_refl _))
def iRng1 (ta : TA) : TI := fun σ H R => ta σ H fun vs H1 => ∃ j : Int, vs = [.int j] ∧ -(2 ^ 62) ≤ j ∧ j < 2 ^ 62 ∧ R (Itr 0 j.toNat) H1
theorem pi_range1 {a : Expr} {ta : TA} {p pos : Pos} (hg : Gl X "range") (hm : X.mg "range" = none) (ha : PA X [a] ta) (hs : starEach [a] X.env = [(false, eval a X.env)] := by rfl) : PI X tg (.Call (.Name "range" p) [a] [] pos) (iRng1 ta) := by
  intro pins s σ H R I h
  refine Call_ (ld_blt I hg hm boot_range (PyProof.Rows.callWith_type1 (thn (ha pos pins s σ H _ I h) fun us s1 ⟨vs, H1, I1, r1, q1⟩ => ?_) hs rfl))
  obtain ⟨j, e, q1, q2, q⟩ := q1
  subst e
  cases r1 with
  | cons r rr =>
    cases rr
    obtain ⟨t, rfl⟩ := r
    exact call_range_1 (range_it I1 (by omega) (by omega) q1 q2 (by simpa using q))
def tFor (wi : TI) (g : TG) (tb : TS) : TS := fun D σ H => wi σ H fun J H1 => ∃ W : Nat → Nat → St → Hp → Prop, (∃ m, W 0 m σ H1) ∧ ∀ i m σ H, W i m σ H →
  (J.stop i H ∧ D.nx σ H) ∨ (J.go i H ∧ ∃ N : St → Hp → Prop, (∀ σ' H', N σ' H' → ∃ m', m' < m ∧ W (i + 1) m' σ' H') ∧ ∀ x H', J.yld i H x H' → g x σ H' fun σ2 H2 => tb { D with nx := N, ct := N, bk := D.nx } σ2 H2)
def pinsAt (fp : List Addr) (h : Heap) : List (Addr × Obj) := fp.filterMap fun b => (h.get? b).map fun o => (b, o)
theorem mem_pinsAt {fp : List Addr} {h : Heap} {b : Addr} {o : Obj} (hb : b ∈ fp) (e : h.get? b = some o) : (b, o) ∈ pinsAt fp h := List.mem_filterMap.mpr ⟨b, hb, by rw [e]; rfl⟩
theorem of_pinsAt {fp : List Addr} {h : Heap} {p : Addr × Obj} (hp : p ∈ pinsAt fp h) : p.1 ∈ fp ∧ h.get? p.1 = some p.2 := by
  obtain ⟨b, hb, e⟩ := List.mem_filterMap.mp hp
  cases q : h.get? b with
  | none => rw [q] at e; cases e
  | some o =>
    rw [q] at e
    have e' : (b, o) = p := Option.some.inj e
    subst e'
    exact ⟨hb, q⟩
theorem Inv.pinned {pins : List (Addr × Obj)} {σ : St} {H : Hp} {s : Shared} {fp : List Addr} (I : Inv X pins σ H s) (hf : ∀ b ∈ fp, FpOk X pins H b) (ho : ∀ b ∈ fp, ∃ o, s.heap.get? b = some o ∧ ∀ v, o.data ≠ .cell v) : Inv X (pins ++ pinsAt fp s.heap) σ H s :=
  I.pins_of fun p hp => (List.mem_append.mp hp).elim (fun z => I.pin p (List.mem_append_right _ z)) fun z => by
    obtain ⟨hb, e⟩ := of_pinsAt z
    obtain ⟨f0, f1, f2, _⟩ := hf p.1 hb
    obtain ⟨o, e', d⟩ := ho p.1 hb
    rw [e] at e'; cases e'
    exact ⟨e, f0, f1, f2, d⟩
theorem Inv.unpinned {pins pl : List (Addr × Obj)} {σ : St} {H : Hp} {s : Shared} (I : Inv X (pins ++ pl) σ H s) : Inv X pins σ H s := I.pins_of fun p hp => I.pin p (List.mem_append_right _ (List.mem_append_left _ hp))
theorem ps_for {iter : Expr} {body : List Stmt} {wi : TI} {g : TG} {tb : TS} {pos : Pos} (hp : PassesOwn (model X.prog X.w) X.A X.env X.xe) (hc : X.calm = true) (hi : PI X tg iter wi) (hg : PG X tg g) (hb : PSs X body tb)
    (hs : ∀ x, foldedSetIterable iter X.env x = pure x := by intro _; rfl) : PS X (.For tg iter body [] pos) (tFor wi g tb) := by
  intro pins s σ H D I h
  refine wpAny_For (thn (hi pins s σ H _ I h) fun v s1 h1 => thn h1 fun itv s2 h2 => ?_) hs
  obtain ⟨it, fp, tn, J, H2, e, I2, T, st2, f2, W, ⟨m0, w0⟩, turn⟩ := h2
  subst e
  have stat : ∀ {H' : Hp}, (∀ b ∈ fp, H' b = none) → ∀ b ∈ fp, FpOk X pins H' b := fun hn b hb => ⟨hn b hb, (f2 b hb).2⟩
  refine codeAny_forLoop_any (fun n s' => ∃ i σ' H', Inv X pins σ' H' s' ∧ tn i s'.heap ∧ (∀ b ∈ fp, H' b = none) ∧ W i n σ' H') ?_ m0 ⟨0, σ, H2, I2, st2, fun b hb => (f2 b hb).1, w0⟩
  rintro n s3 ⟨i, σ3, H3, I3, st3, fr3, w3⟩
  rcases turn i n σ3 H3 w3 with ⟨stop, qn⟩ | ⟨go, N, hN, step⟩
  · refine wpAny_passesOwn hp (thn (T.done X rfl rfl rfl hc i pins s3 σ3 H3 X.xe I3 (stat fr3) st3 stop) fun r s4 ⟨hr, I4⟩ => ?_)
    subst hr
    exact wpAny_execs_nil ⟨σ3, H3, I4, qn⟩
  · refine wpAny_passesOwn hp (thn (T.item X rfl rfl rfl hc i pins s3 σ3 H3 X.xe I3 (stat fr3) st3 go) fun r s4 ⟨u, hr, h4⟩ => ?_)
    subst hr
    refine wpAny_passesOwn hp (thn h4 fun _ s5 ⟨x, H5, I5, r5, y5, st5, fr5⟩ => ?_)
    have I5' := I5.pinned (stat fr5) (T.obj _ _ st5)
    refine wpAny_passesOwn hp (thn (hg _ s5 σ3 H5 x u _ I5' r5 (step x H5 y5)) fun _ s6 ⟨σ6, H6, I6, q6⟩ => ?_)
    refine wpAny_passesOwn hp (thn (hb _ s6 σ6 H6 _ I6 q6) fun f s7 q7 => ?_)
    have again : ∀ {σ7 : St} {H7 : Hp}, Inv X (pins ++ pinsAt fp s5.heap) σ7 H7 s7 → N σ7 H7 → ∃ m, m < n ∧ ∃ i σ' H', Inv X pins σ' H' s7 ∧ tn i s7.heap ∧ (∀ b ∈ fp, H' b = none) ∧ W i m σ' H' := fun {σ7 H7} I7 n7 => by
      obtain ⟨m', hm, w7⟩ := hN σ7 H7 n7
      refine ⟨m', hm, i + 1, σ7, H7, I7.unpinned, T.keep _ _ _ st5 fun b hb o e => (I7.pin (b, o) (List.mem_append_right _ (List.mem_append_right _ (mem_pinsAt hb e)))).1, fun b hb => ?_, w7⟩
      obtain ⟨o, e, d⟩ := T.obj _ _ st5 b hb
      exact (I7.pin (b, o) (List.mem_append_right _ (List.mem_append_right _ (mem_pinsAt hb e)))).2.1
    cases f with
    | next => obtain ⟨σ7, H7, I7, n7⟩ := q7; exact again I7 n7
    | cont => obtain ⟨σ7, H7, I7, n7⟩ := q7; exact again I7 n7
    | brk => obtain ⟨σ7, H7, I7, q7⟩ := q7; exact ⟨σ7, H7, I7.unpinned, q7⟩
    | ret v => obtain ⟨x7, σ7, H7, I7, r7, q7⟩ := q7; exact ⟨x7, σ7, H7, I7.unpinned, r7, q7⟩
end
theorem for_list {K : PySem.W.Frag} {a : Addr} {xs : List V} {g : TG} {tb : TS} {D : Ends} {σ : St} {H : Hp} (Pv : Nat → St → Hp → Prop) (h0 : Pv 0 σ H) (hl : ∀ i σ H, i ≤ xs.length → Pv i σ H → SqL K H a xs)
    (hs : ∀ i x σ H, xs[i]? = some x → Pv i σ H → g x σ H fun σ2 H2 => tb { D with nx := Pv (i + 1), ct := Pv (i + 1), bk := D.nx } σ2 H2) (hd : ∀ σ H, Pv xs.length σ H → D.nx σ H) :
    ∃ W : Nat → Nat → St → Hp → Prop, (∃ m, W 0 m σ H) ∧ ∀ i m σ H, W i m σ H →
      ((Itl K a).stop i H ∧ D.nx σ H) ∨ ((Itl K a).go i H ∧ ∃ N : St → Hp → Prop, (∀ σ' H', N σ' H' → ∃ m', m' < m ∧ W (i + 1) m' σ' H') ∧ ∀ x H', (Itl K a).yld i H x H' → g x σ H' fun σ2 H2 => tb { D with nx := N, ct := N, bk := D.nx } σ2 H2) := by
  refine ⟨fun i m σ H => m = xs.length - i ∧ i ≤ xs.length ∧ Pv i σ H, ⟨xs.length, by simp, Nat.zero_le _, h0⟩, ?_⟩
  rintro i m σ H ⟨rfl, hi, p⟩
  have q := hl i σ H hi p
  by_cases hlt : i < xs.length
  · refine .inr ⟨⟨xs, xs[i], q, by simp [hlt]⟩, Pv (i + 1), fun σ' H' p' => ⟨xs.length - (i + 1), by omega, rfl, hlt, p'⟩, fun x H' y => ?_⟩
    obtain ⟨e, y⟩ := y
    subst e
    exact hs i x σ _ (y xs q) p
  · have e : i = xs.length := by omega
    subst e
    exact .inl ⟨⟨xs, q, Nat.le_refl _⟩, hd σ H p⟩
theorem for_range {lo : Int} {n : Nat} {g : TG} {tb : TS} {D : Ends} {σ : St} {H : Hp} (Pv : Nat → St → Hp → Prop) (h0 : Pv 0 σ H)
    (hs : ∀ i σ H, i < n → Pv i σ H → g (.int (lo + i)) σ H fun σ2 H2 => tb { D with nx := Pv (i + 1), ct := Pv (i + 1), bk := D.nx } σ2 H2) (hd : ∀ σ H, Pv n σ H → D.nx σ H) :
    ∃ W : Nat → Nat → St → Hp → Prop, (∃ m, W 0 m σ H) ∧ ∀ i m σ H, W i m σ H →
      ((Itr lo n).stop i H ∧ D.nx σ H) ∨ ((Itr lo n).go i H ∧ ∃ N : St → Hp → Prop, (∀ σ' H', N σ' H' → ∃ m', m' < m ∧ W (i + 1) m' σ' H') ∧ ∀ x H', (Itr lo n).yld i H x H' → g x σ H' fun σ2 H2 => tb { D with nx := N, ct := N, bk := D.nx } σ2 H2) := by
  refine ⟨fun i m σ H => m = n - i ∧ i ≤ n ∧ Pv i σ H, ⟨n, by simp, Nat.zero_le _, h0⟩, ?_⟩
  rintro i m σ H ⟨rfl, hi, p⟩
  by_cases hlt : i < n
  · refine .inr ⟨hlt, Pv (i + 1), fun σ' H' p' => ⟨n - (i + 1), by omega, rfl, hlt, p'⟩, fun x H' y => ?_⟩
    obtain ⟨e, y⟩ := y
    subst e y
    exact hs i σ _ hlt p
  · have e : i = n := by omega
    subst e
    exact .inl ⟨Nat.le_refl _, hd σ H p⟩
end L2
namespace L2
open PySem PySem.Spec PyProof.Rows
abbrev R2 := V → V → Hp → VK → Prop
def OpR (X : Cx) (f : Value → Value → Sem Value) (r : R2) : Prop :=
  ∀ (pins : List (Addr × Obj)) (s : Shared) (σ : St) (H : Hp) (x y : V) (v u : Value) (Q : VK), Inv X pins σ H s → RelV x v → RelV y u → r x y H Q →
    wpAny (model X.prog X.w) X.A (f v u) (EP X pins σ Q) X.xe s
def CallR (X : Cx) (f : Value) (r : List V → Hp → VK → Prop) : Prop :=
  ∀ (pins : List (Addr × Obj)) (s : Shared) (σ : St) (H : Hp) (xs : List V) (us : List Value) (Q : VK), Inv X pins σ H s → Vals xs us → r xs H Q →
    wpAny (model X.prog X.w) X.A (call f us) (EP X pins σ Q) X.xe s
def TruR (X : Cx) (r : V → Hp → (Bool → Hp → Prop) → Prop) : Prop :=
  ∀ (pins : List (Addr × Obj)) (s : Shared) (σ : St) (H : Hp) (x : V) (v : Value) (Q : Bool → Hp → Prop), Inv X pins σ H s → RelV x v → r x H Q →
    wpAny (model X.prog X.w) X.A (truthy v) (TP X pins σ Q) X.xe s
def tOp (r : R2) (ta tb : TE) : TE := fun σ H Q => ta σ H fun x H1 => tb σ H1 fun y H2 => r x y H2 Q
def rI (C : Int → Int → Prop) (g : Int → Int → V) : R2 := fun x y H Q => ∃ i j, x = .int i ∧ y = .int j ∧ C i j ∧ Q (g i j) H
def rI0 (g : Int → Int → V) : R2 := fun x y H Q => ∃ i j, x = .int i ∧ y = .int j ∧ Q (g i j) H
section
variable {X : Cx} {a b c : Expr} {ta tb tc : TE} {pos : Pos}
theorem binT (ha : PE X a ta) (hb : PE X b tb) {pins : List (Addr × Obj)} {s : Shared} {σ : St} {H : Hp} {R : V → V → Hp → Prop} (I : Inv X pins σ H s)
    (h : ta σ H fun x H1 => tb σ H1 fun y H2 => R x y H2) {Q : Value → Shared → Prop} {f : Value → Value → Sem Value}
    (hf : ∀ v u s2 x y H2, Inv X pins σ H2 s2 → RelV x v → RelV y u → R x y H2 → wpAny (model X.prog X.w) X.A (f v u) Q X.xe s2) :
    wpAny (model X.prog X.w) X.A (eval a X.env) (fun v s₁ => wpAny (model X.prog X.w) X.A (eval b X.env) (fun u s₂ => wpAny (model X.prog X.w) X.A (f v u) Q X.xe s₂) X.xe s₁) X.xe s := by
  refine thn (ha pins s σ H _ I h) fun v s1 ⟨x, H1, I1, r1, q1⟩ => ?_
  refine thn (hb pins s1 σ H1 _ I1 q1) fun u s2 ⟨y, H2, I2, r2, q2⟩ => ?_
  exact hf v u s2 x y H2 I2 r1 r2 q2
theorem pe_op {op : Operator} {r : R2} (ho : OpR X (binaryOp op) r) (ha : PE X a ta) (hb : PE X b tb) : PE X (.BinOp a op b pos) (tOp r ta tb) := by
  intro pins s σ H Q I h
  exact wpAny_BinOp (binT ha hb I h fun v u s2 x y H2 I2 rx ry q => ho pins s2 σ H2 x y v u Q I2 rx ry q)
theorem opI {f : Value → Value → Sem Value} {C : Int → Int → Prop} {g : Int → Int → Int}
    (rule : ∀ (i j : Int) (t u : Tok) (s : Shared) (Q : Value → Shared → Prop) (E : Value → Shared → Prop), C i j → Q (.int (g i j) s.toks) { s with toks := s.toks + 1 } → wpAny (model X.prog X.w) X.A (f (.int i t) (.int j u)) Q E s) :
    OpR X f (rI C fun i j => .int (g i j)) := by
  intro pins s σ H x y v u Q I rx ry h
  obtain ⟨i, j, rfl, rfl, hc, q⟩ := h
  obtain ⟨t, rfl⟩ := rx
  obtain ⟨t', rfl⟩ := ry
  exact rule i j t t' s _ _ hc ⟨.int (g i j), H, I.tok _, ⟨_, rfl⟩, q⟩
theorem opI0 {f : Value → Value → Sem Value} {g : Int → Int → Int}
    (rule : ∀ (i j : Int) (t u : Tok) (s : Shared) (Q : Value → Shared → Prop) (E : Value → Shared → Prop), Q (.int (g i j) s.toks) { s with toks := s.toks + 1 } → wpAny (model X.prog X.w) X.A (f (.int i t) (.int j u)) Q E s) :
    OpR X f (rI0 fun i j => .int (g i j)) := by
  intro pins s σ H x y v u Q I rx ry h
  obtain ⟨i, j, rfl, rfl, q⟩ := h
  obtain ⟨t, rfl⟩ := rx
  obtain ⟨t', rfl⟩ := ry
  exact rule i j t t' s _ _ ⟨.int (g i j), H, I.tok _, ⟨_, rfl⟩, q⟩
theorem opB0 {f : Value → Value → Sem Value} {g : Int → Int → Bool}
    (rule : ∀ (i j : Int) (t u : Tok) (s : Shared) (Q : Value → Shared → Prop) (E : Value → Shared → Prop), Q (.bool (g i j)) s → wpAny (model X.prog X.w) X.A (f (.int i t) (.int j u)) Q E s) :
    OpR X f (rI0 fun i j => .bl (g i j)) := by
  intro pins s σ H x y v u Q I rx ry h
  obtain ⟨i, j, rfl, rfl, q⟩ := h
  obtain ⟨t, rfl⟩ := rx
  obtain ⟨t', rfl⟩ := ry
  exact rule i j t t' s _ _ ⟨.bl (g i j), H, I, rfl, q⟩
def CDiv (i j : Int) : Prop := 0 < j ∧ j < 1073741824
def CPow (i j : Int) : Prop := 0 ≤ j ∧ j ≤ 1000000 ∧ i.natAbs < 2 ^ 64
def CMul (i j : Int) : Prop := (-(2 ^ 64) < i ∧ i < 2 ^ 64) ∨ (-(2 ^ 64) < j ∧ j < 2 ^ 64)
theorem CMul.ok {i j : Int} (h : CMul i j) : IntMulOk i j := by
  rcases h with ⟨h1, h2⟩ | ⟨h1, h2⟩
  · exact .of_left (intBits_le_64 h1 h2)
  · exact .of_right (intBits_le_64 h1 h2)
theorem two_pow_nn (k : Nat) : (0 : Int) ≤ 2 ^ k := by
  rw [two_pow_cast]
  exact Int.natCast_nonneg _
theorem op_add : OpR X (binaryOp .Add) (rI0 fun i j => .int (i + j)) := opI0 fun _ _ _ _ _ _ _ q => add_int q
theorem op_sub : OpR X (binaryOp .Sub) (rI0 fun i j => .int (i - j)) := opI0 fun _ _ _ _ _ _ _ q => sub_int q
theorem op_mul : OpR X (binaryOp .Mult) (rI CMul fun i j => .int (i * j)) := opI fun _ _ _ _ _ _ _ hc q => mul_int q hc.ok
theorem op_fdiv : OpR X (binaryOp .FloorDiv) (rI CDiv fun i j => .int (i / j)) := opI fun i j _ _ _ _ _ hc q => by
  have h1 : (0 : Int) < j := hc.1
  have h2 : j < 1073741824 := hc.2
  exact floordiv_int (by omega) (by rw [Int.fdiv_eq_ediv_of_nonneg i (by omega)]; exact q) (.inl (PyProof.noPylong_small (by omega)))
theorem op_mod : OpR X (binaryOp .Mod) (rI (fun _ j => 0 < j) fun i j => .int (i % j)) := opI fun i j _ _ _ _ _ hc q => by
  have h1 : (0 : Int) < j := hc
  exact mod_int' (by omega) (by rw [Int.fmod_eq_emod_of_nonneg i (by omega)]; exact q)
theorem op_pow : OpR X (binaryOp .Pow) (rI CPow fun i j => .int (i ^ j.toNat)) := opI fun _ _ _ _ _ _ _ hc q => pow_int_small hc.1 hc.2.1 hc.2.2 q
theorem op_shr : OpR X (binaryOp .RShift) (rI (fun _ j => 0 ≤ j) fun i j => .int (i / 2 ^ j.toNat)) := opI fun i j _ _ _ _ _ hc q =>
  rshift_int hc (by rw [Int.fdiv_eq_ediv_of_nonneg i (two_pow_nn _)]; exact q)
end
def scal : V → V → Bool
  | .non, .non => true | .non, .int _ => true | .int _, .non => true | .non, .bl _ => true | .bl _, .non => true | .non, .str _ => true | .str _, .non => true
  | .int _, .int _ => true | .bl _, .bl _ => true | .str _, .str _ => true | .byt _, .byt _ => true
  | .int _, .str _ => true | .str _, .int _ => true | .bl _, .str _ => true | .str _, .bl _ => true
  | _, _ => false
def rEq : R2 := fun x y H Q => scal x y = true ∧ Q (.bl (decide (x = y))) H
def rNe : R2 := fun x y H Q => scal x y = true ∧ Q (.bl (!decide (x = y))) H
theorem dec_int {i j : Int} : decide (V.int i = V.int j) = (i == j) := by
  rw [Bool.eq_iff_iff]
  simp
theorem dec_bl {i j : Bool} : decide (V.bl i = V.bl j) = (i == j) := by
  rw [Bool.eq_iff_iff]
  simp
theorem dec_str {i j : Str} : decide (V.str i = V.str j) = (i == j) := by
  rw [Bool.eq_iff_iff]
  simp
theorem dec_byt {i j : Array UInt8} : decide (V.byt i = V.byt j) = (i.toList == j.toList) := by
  rw [Bool.eq_iff_iff]
  cases i
  cases j
  simp
section
variable {X : Cx} {a b c : Expr} {ta tb tc : TE} {pos : Pos}
theorem fin_bl {pins : List (Addr × Obj)} {σ : St} {H : Hp} {s : Shared} {Q : VK} {k k' : Bool} (I : Inv X pins σ H s) (q : Q (.bl k) H) (e : k = k') : EP X pins σ Q (.bool k') s := by
  subst e
  exact ⟨.bl k, H, I, rfl, q⟩
theorem op_eq : OpR X (compareOp .Eq) rEq := by
  intro pins s σ H x y v u Q I rx ry h
  obtain ⟨hs, q⟩ := h
  cases x with
  | non =>
    cases rx
    cases y with
    | non => cases ry; exact PySem.EqNone.eq_none_none (fin_bl I q (by simp))
    | bl j => cases ry; exact PySem.EqNone.eq_none_bool (fin_bl I q (by simp))
    | int j => obtain ⟨t', rfl⟩ := ry; exact PySem.EqNone.eq_none_int (fin_bl I q (by simp))
    | str j => obtain ⟨t', rfl⟩ := ry; exact PySem.EqNone.eq_none_str (fin_bl I q (by simp))
    | _ => exact absurd (show false = true from hs) Bool.false_ne_true
  | bl i =>
    cases rx
    cases y with
    | non => cases ry; exact PySem.EqNone.eq_bool_none (fin_bl I q (by simp))
    | bl j => cases ry; exact eq_bool (fin_bl I q dec_bl)
    | str j => obtain ⟨t', rfl⟩ := ry; exact PySem.EqMixed.eq_bool_str (fin_bl I q (by simp))
    | _ => exact absurd (show false = true from hs) Bool.false_ne_true
  | int i =>
    obtain ⟨t, rfl⟩ := rx
    cases y with
    | non => cases ry; exact PySem.EqNone.eq_int_none (fin_bl I q (by simp))
    | int j => obtain ⟨t', rfl⟩ := ry; exact eq_int (fin_bl I q dec_int)
    | str j => obtain ⟨t', rfl⟩ := ry; exact PySem.EqMixed.eq_int_str (fin_bl I q (by simp))
    | _ => exact absurd (show false = true from hs) Bool.false_ne_true
  | str i =>
    obtain ⟨t, rfl⟩ := rx
    cases y with
    | non => cases ry; exact PySem.EqNone.eq_str_none (fin_bl I q (by simp))
    | bl j => cases ry; exact PySem.EqMixed.eq_str_bool (fin_bl I q (by simp))
    | int j => obtain ⟨t', rfl⟩ := ry; exact PySem.EqMixed.eq_str_int (fin_bl I q (by simp))
    | str j => obtain ⟨t', rfl⟩ := ry; exact eq_str (fin_bl I q dec_str)
    | _ => exact absurd (show false = true from hs) Bool.false_ne_true
  | byt i =>
    obtain ⟨t, rfl⟩ := rx
    cases y with
    | byt j => obtain ⟨t', rfl⟩ := ry; exact PySem.W.eq_bytes (fin_bl I q dec_byt)
    | _ => exact absurd (show false = true from hs) Bool.false_ne_true
  | _ => cases y <;> exact absurd (show false = true from hs) Bool.false_ne_true
theorem op_ne : OpR X (compareOp .NotEq) rNe := by
  intro pins s σ H x y v u Q I rx ry h
  obtain ⟨hs, q⟩ := h
  cases x with
  | non =>
    cases rx
    cases y with
    | non => cases ry; exact PySem.EqNone.ne_none_none (fin_bl I q (by simp))
    | bl j => cases ry; exact PySem.EqNone.ne_none_bool (fin_bl I q (by simp))
    | int j => obtain ⟨t', rfl⟩ := ry; exact PySem.EqNone.ne_none_int (fin_bl I q (by simp))
    | str j => obtain ⟨t', rfl⟩ := ry; exact PySem.EqNone.ne_none_str (fin_bl I q (by simp))
    | _ => exact absurd (show false = true from hs) Bool.false_ne_true
  | bl i =>
    cases rx
    cases y with
    | non => cases ry; exact PySem.EqNone.ne_bool_none (fin_bl I q (by simp))
    | bl j => cases ry; exact ne_bool (fin_bl I q (congrArg not dec_bl))
    | str j => obtain ⟨t', rfl⟩ := ry; exact PySem.EqMixed.ne_bool_str (fin_bl I q (by simp))
    | _ => exact absurd (show false = true from hs) Bool.false_ne_true
  | int i =>
    obtain ⟨t, rfl⟩ := rx
    cases y with
    | non => cases ry; exact PySem.EqNone.ne_int_none (fin_bl I q (by simp))
    | int j => obtain ⟨t', rfl⟩ := ry; exact ne_int (fin_bl I q (congrArg not dec_int))
    | str j => obtain ⟨t', rfl⟩ := ry; exact PySem.EqMixed.ne_int_str (fin_bl I q (by simp))
    | _ => exact absurd (show false = true from hs) Bool.false_ne_true
  | str i =>
    obtain ⟨t, rfl⟩ := rx
    cases y with
    | non => cases ry; exact PySem.EqNone.ne_str_none (fin_bl I q (by simp))
    | bl j => cases ry; exact PySem.EqMixed.ne_str_bool (fin_bl I q (by simp))
    | int j => obtain ⟨t', rfl⟩ := ry; exact PySem.EqMixed.ne_str_int (fin_bl I q (by simp))
    | str j => obtain ⟨t', rfl⟩ := ry; exact ne_str (fin_bl I q (congrArg not dec_str))
    | _ => exact absurd (show false = true from hs) Bool.false_ne_true
  | byt i =>
    obtain ⟨t, rfl⟩ := rx
    cases y with
    | byt j => obtain ⟨t', rfl⟩ := ry; exact PySem.W.ne_bytes (fin_bl I q (congrArg not dec_byt))
    | _ => exact absurd (show false = true from hs) Bool.false_ne_true
  | _ => cases y <;> exact absurd (show false = true from hs) Bool.false_ne_true
theorem op_lt : OpR X (compareOp .Lt) (rI0 fun i j => .bl (decide (i < j))) := opB0 fun _ _ _ _ _ _ _ q => lt_int q
theorem op_gt : OpR X (compareOp .Gt) (rI0 fun i j => .bl (decide (j < i))) := opB0 fun _ _ _ _ _ _ _ q => gt_int q
theorem op_ge : OpR X (compareOp .GtE) (rI0 fun i j => .bl (decide (j ≤ i))) := opB0 fun _ _ _ _ _ _ _ q => ge_int q
theorem op_isN : OpR X (compareOp .Is) (fun x y H Q => y = .non ∧ Q (.bl (decide (x = .non))) H) := by
  intro pins s σ H x y v u Q I rx ry h
  obtain ⟨rfl, q⟩ := h
  cases ry
  refine is_none_gen (fin_bl I q ?_)
  cases x <;> first
    | (cases rx; rfl)
    | (obtain ⟨t, rfl⟩ := rx; rfl)
theorem op_notN : OpR X (compareOp .IsNot) (fun x y H Q => y = .non ∧ Q (.bl (!decide (x = .non))) H) := by
  intro pins s σ H x y v u Q I rx ry h
  obtain ⟨rfl, q⟩ := h
  cases ry
  refine isnot_none_gen (fin_bl I q ?_)
  cases x <;> first
    | (cases rx; rfl)
    | (obtain ⟨t, rfl⟩ := rx; rfl)
theorem OpR.or {f : Value → Value → Sem Value} {r r' : R2} (h : OpR X f r) (h' : OpR X f r') : OpR X f (fun x y H Q => r x y H Q ∨ r' x y H Q) := by
  intro pins s σ H x y v u Q I rx ry q
  rcases q with q | q
  · exact h pins s σ H x y v u Q I rx ry q
  · exact h' pins s σ H x y v u Q I rx ry q
theorem nomark (b : Expr) {op : CmpOp} (h : op ≠ .In := by decide) (h2 : op ≠ .NotIn := by decide) : behindInMarks op b = false := by
  have e1 : (op == CmpOp.In) = false := by cases op <;> first | rfl | exact absurd rfl h
  have e2 : (op == CmpOp.NotIn) = false := by cases op <;> first | rfl | exact absurd rfl h2
  cases b <;> simp [behindInMarks, e1, e2]
theorem pe_cmpR {op : CmpOp} {r : R2} (ho : OpR X (compareOp op) r) (ha : PE X a ta) (hb : PE X b tb) (hm : behindInMarks op b = false) : PE X (.Compare a [op] [b] pos) (tOp r ta tb) := by
  intro pins s σ H Q I h
  exact wpAny_Compare1 (binT ha hb I h fun v u s2 x y H2 I2 rx ry q => ho pins s2 σ H2 x y v u Q I2 rx ry q) hm
def tTest (t : TE) : TT := fun σ H Q => t σ H fun x H' => ∃ k, x = .bl k ∧ Q k H'
theorem pt_cmpR {op : CmpOp} {r : R2} (ho : OpR X (compareOp op) r) (ha : PE X a ta) (hb : PE X b tb) (hm : behindInMarks op b = false) : PT X (.Compare a [op] [b] pos) (tTest (tOp r ta tb)) := by
  intro pins s σ H Q I h
  refine wpAny_isTrue_Compare1 (thn (ha pins s σ H _ I h) fun v s1 ⟨x, H1, I1, r1, q1⟩ => thn (hb pins s1 σ H1 _ I1 q1) fun u s2 ⟨y, H2, I2, r2, q2⟩ =>
    thn (ho pins s2 σ H2 x y v u _ I2 r1 r2 q2) fun c s3 ⟨z, H3, I3, r3, k, e, q3⟩ => ?_) hm
  subst e
  cases r3
  exact wpAny_truthy_bool ⟨H3, I3, q3⟩
def TruV (K : PySem.W.Frag) (x : V) (H : Hp) (k : Bool) : Prop :=
  match x with
  | .non => k = false
  | .bl b => k = b
  | .int i => k = (i != 0)
  | .str y => y.length ≤ sizeLine ∧ k = ((y.length : Int) != 0)
  | .byt y => y.size ≤ sizeLine ∧ k = ((y.size : Int) != 0)
  | .ref p => (∃ xs, SqL K H p xs ∧ k = !xs.isEmpty) ∨ (∃ xs, SqT K H p xs ∧ k = !xs.isEmpty) ∨ ∃ kvs, H p = some (.dK kvs) ∧ k = !kvs.isEmpty
  | _ => False
theorem line63 : (sizeLine : Nat) < 2 ^ 63 := by rw [sizeLine_eq]; decide
theorem vals1 {x : V} {us : List Value} (r : Vals [x] us) : ∃ u, us = [u] ∧ RelV x u := by
  cases r with
  | cons r1 r2 => cases r2; exact ⟨_, rfl, r1⟩
theorem vals2 {x y : V} {us : List Value} (r : Vals [x, y] us) : ∃ u w', us = [u, w'] ∧ RelV x u ∧ RelV y w' := by
  cases r with
  | cons r1 r2 =>
    cases r2 with
    | cons r3 r4 => cases r4; exact ⟨_, _, rfl, r1, r3⟩
theorem call_max2 (hc : X.calm = true) : CallR X (.builtin "max") (fun xs H Q => ∃ i j, xs = [.int i, .int j] ∧ Q (.int (if j > i then j else i)) H) := by
  intro pins s σ H xs us Q I r h
  obtain ⟨i, j, rfl, q⟩ := h
  obtain ⟨u, w', rfl, ⟨t, rfl⟩, ⟨t', rfl⟩⟩ := vals2 r
  refine max_two_ints (I.ok.hd hc) fun h' tk k => ⟨_, H, I.kept k, ?_, q⟩
  by_cases hj : j > i
  · rw [if_pos hj, if_pos hj]; exact ⟨_, rfl⟩
  · rw [if_neg hj, if_neg hj]; exact ⟨_, rfl⟩
def LenV (K : PySem.W.Frag) (x : V) (H : Hp) (n : Nat) : Prop :=
  match x with
  | .str y => y.length ≤ sizeLine ∧ n = y.length
  | .byt y => y.size ≤ sizeLine ∧ n = y.size
  | .ref p => (∃ xs, SqL K H p xs ∧ n = xs.length) ∨ ∃ xs, SqT K H p xs ∧ n = xs.length
  | _ => False
theorem call_len : CallR X (.builtin "len") (fun xs H Q => ∃ x n, xs = [x] ∧ LenV X.K x H n ∧ Q (.int n) H) := by
  intro pins s σ H xs us Q I r h
  obtain ⟨x, n, rfl, e, q⟩ := h
  obtain ⟨u, rfl, rx⟩ := vals1 r
  have hl := line63
  have hs : sizeLine = 16777216 := sizeLine_eq
  cases x with
  | str y =>
    obtain ⟨t, rfl⟩ := rx
    obtain ⟨hy, e'⟩ : y.length ≤ sizeLine ∧ n = y.length := e
    subst e'
    exact len_str (by omega) ⟨.int _, H, I.tok _, ⟨_, rfl⟩, q⟩
  | byt y =>
    obtain ⟨t, rfl⟩ := rx
    obtain ⟨hy, e'⟩ : y.size ≤ sizeLine ∧ n = y.size := e
    subst e'
    exact PySem.W.len_bytes (by omega) ⟨.int _, H, I.tok _, ⟨_, rfl⟩, q⟩
  | ref p =>
    cases rx
    have e' : (∃ xs, SqL X.K H p xs ∧ n = xs.length) ∨ ∃ xs, SqT X.K H p xs ∧ n = xs.length := e
    rcases e' with ⟨xs, hx, e'⟩ | ⟨xs, hx, e'⟩
    · subst e'
      obtain ⟨its, r', pl, hz⟩ := I.list hx
      have hlen := r'.length
      exact Calls.call_len_list pl.isList (by simp only [List.size_toArray]; omega) ⟨.int xs.length, H, I.tok _, ⟨_, by simp only [List.size_toArray]; rw [hlen]⟩, q⟩
    · subst e'
      obtain ⟨its, r', pl, hz⟩ := I.tuple hx
      have hlen := r'.length
      exact len_tuple pl (by simp only [List.size_toArray]; omega) ⟨.int xs.length, H, I.tok _, ⟨_, by simp only [List.size_toArray]; rw [hlen]⟩, q⟩
  | _ => exact (show False from e).elim
end
end L2
namespace L2
open PySem PySem.Spec PyProof.Rows
structure ObjM (h : Heap) (x dx C : Addr) (mA : Str → Option Value) : Prop where
  obj : h.get? x = some (PySem.W.instObj C dx)
  ns : h.Ns1 dx mA
  ne : dx ≠ x
theorem lookIn_ns {h : Heap} {dx : Addr} {mA : Str → Option Value} (n : h.Ns1 dx mA) : ∃ od, h.get? dx = some od ∧ ∀ name, PySem.W.lookIn name od = some (mA name) := by
  obtain ⟨o, es, ep, ho, hd, hk, _, hm⟩ := n
  refine ⟨o, ho, fun name => ?_⟩
  have e := hm name
  unfold nsFind findBy at e
  rw [← Array.find?_toList] at e
  unfold PySem.W.lookIn
  rw [hd]
  dsimp only
  split
  · rename_i y q
    rw [q] at e
    exact congrArg some e
  · rename_i q
    rw [q] at e
    have a : es.toList.any (·.refKey) = false := by
      rw [List.any_eq_false]
      intro y hy
      obtain ⟨z, t, hkey⟩ := hk y (Array.mem_toList_iff.mp hy)
      simp [DictEntry.refKey, hkey]
    have a' : ¬ es.toList.any (·.refKey) = true := by rw [a]; exact Bool.false_ne_true
    rw [if_neg a']
    exact congrArg some e
theorem ObjM.look {h : Heap} {x dx C : Addr} {mA : Str → Option Value} (I : ObjM h x dx C mA) : ∃ od, PySem.W.InstAt h x (PySem.W.instObj C dx) C (some od) ∧ ∀ name, PySem.W.lookIn name od = some (mA name) :=
  let ⟨od, ho, hl⟩ := lookIn_ns I.ns
  ⟨od, ⟨I.obj, rfl, rfl, ho⟩, hl⟩
section
variable {prog : Program} {w : World} {A : Around} {E : Value → Shared → Prop} {s : Shared} {K : PySem.W.Frag} {x dx C f : Addr} {mA : Str → Option Value} {name : Str} {v : Value}
theorem get_map {expr : Bool} {Q : Value → Shared → Prop} (X : K.In s.heap) (I : ObjM s.heap x dx C mA) (hg : PySem.W.plainGet K C name = true) (hh : PySem.W.hasDictIn K C = true)
    (ha : PySem.W.findIn K (.ref C) name = some none) (hv : mA name = some v) (hv' : PySem.W.handedIn v = true) (h : Q v { s with toks := s.toks + 1 }) :
    wpAny (model prog w) A (getAttr (.ref x) name expr) Q E s := by
  obtain ⟨od, J, hl⟩ := I.look
  exact PySem.W.get_value X J (PySem.W.plainGet_of hg).1 (PySem.W.findObj_own hh ha rfl (by rw [hl, hv])) hv' h
theorem get_meth {pl : Sem Bool} {Q : Value × List Value → Shared → Prop} (X : K.In s.heap) (I : ObjM s.heap x dx C mA) (hg : PySem.W.plainGet K C name = true)
    (hf : PySem.W.findIn K (.ref C) name = some (some (.ref f))) (ht : PySem.W.isFn K (.ref f) = true) (hv : mA name = none) (h : Q (.ref f, [.ref x]) s) :
    wpAny (model prog w) A (getMethod (.ref x) name pl) Q E s := by
  obtain ⟨od, J, hl⟩ := I.look
  exact PySem.W.method_fn X J (PySem.W.plainGet_of hg).1 (PySem.W.plainGet_of hg).2 hf (beq_iff_eq.mp ht) (by show (PySem.W.lookIn name od).map (·.isSome) = some false; rw [hl, hv]; rfl) h
theorem set_map {ns : List Str} {Q : Unit → Shared → Prop} (X : K.In s.heap) (I : ObjM s.heap x dx C mA)
    (hs : PySem.W.findIn K (.ref C) "__setattr__" = some (some (.builtin "object.__setattr__"))) (hp : PySem.W.plainOver K C = true) (ht : PySem.W.takerIn K C name = some none) (hh : PySem.W.hasDictIn K C = true)
    (hw : PySem.Within mA ns) (hsz : ns.length ≤ sizeLine)
    (h : ∀ h', ObjM h' x dx C (fun y => if y = name then some v else mA y) → Heap.SameBut dx s.heap h' → Q () { s with heap := h', toks := s.toks + 2 }) :
    wpAny (model prog w) A (setAttr (.ref x) name v) Q E s := by
  obtain ⟨od, J, hl⟩ := I.look
  refine PySem.W.set_plain X J hs (PySem.W.osa_open (s := { s with toks := s.toks + 1 }) (r := none) X J hp ht fun b => ?_)
  obtain ⟨cd, hc, hd'⟩ := PySem.W.any_some hh
  have hx : s.heap.get? x = some ⟨.ref C, some dx, .plain, #[]⟩ := I.obj
  refine wpAny_bind (wpAny_pure (wpAny_bind (wpAny_bind (wpAny_loadPart hx (wpAny_bind (PySem.W.Looks.here (s := { s with toks := s.toks + 1 }) (PySem.W.looks_clsIn X hc) ?_))))))
  rw [hd']
  refine wpAny_pure (a := some dx) (wpAny_bind (wpAny_pure (wpAny_bind ?_)))
  refine wpAny_nsSet1 (s := { s with toks := s.toks + 1 }) I.ns fun h' hn2 hs2 => ?_
  obtain ⟨oD, esD, epD, hoD, hdD, hcD⟩ := hn2.count (PySem.Within.cons name v hw)
  refine wpAny_bind (wpAny_lookBehind hoD (by rw [hdD]; exact pastItsLine_dict (Nat.le_trans hcD (by rw [List.length_cons]; omega))) ?_)
  exact wpAny_pure (h _ ⟨(hs2.2 _ (Ne.symm I.ne)).trans I.obj, hn2, I.ne⟩ hs2)
theorem make_map {R : Result → Shared → Prop} {vs : List Value} {kw : List (Str × Value)} (X : K.In s.heap) (hm : PySem.W.makesIn K C = true)
    (hi : PySem.W.findIn K (.ref C) "__init__" = some (some (.ref f))) (hf : PySem.W.typeIn K (.ref f) = some (.type "function"))
    (h : codeAny (model prog w) (A.under (.builtin "type.__call__" ⟨.ref C :: vs, kw⟩)) (.call (.ref f) ⟨.ref (s.heap.objs.size + 1) :: vs, kw⟩) (PySem.W.InitBack (s.heap.objs.size + 1) R)
      { s with heap := (s.heap.push PySem.W.emptyDict).push (PySem.W.instObj C s.heap.objs.size) }) :
    codeAny (model prog w) A (.call (.ref C) ⟨vs, kw⟩) R s := by
  obtain ⟨hh, g, d, t, os⟩ := s
  exact PySem.W.make_core (PySem.W.makes_of X hm) (PySem.W.looks_findIn X hi) (fun self => PySem.W.bind_fn X self hf) (.inl rfl) h
end
def putF (f : Str) (v : V) : List (Str × V) → List (Str × V)
  | [] => [(f, v)]
  | (g, x) :: r => if g = f then (g, v) :: r else (g, x) :: putF f v r
theorem lookup_putF (f g : Str) (v : V) : ∀ fs : List (Str × V), (putF f v fs).lookup g = if g = f then some v else fs.lookup g
  | [] => by
    show List.lookup g [(f, v)] = _
    by_cases h : g = f
    · have hb : (g == f) = true := beq_iff_eq.mpr h
      simp only [List.lookup, hb, if_pos h]
    · have hb : (g == f) = false := beq_eq_false_iff_ne.mpr h
      simp only [List.lookup, hb, if_neg h]
  | (k, x) :: r => by
    have ih := lookup_putF f g v r
    rw [show putF f v ((k, x) :: r) = (if k = f then (k, v) :: r else (k, x) :: putF f v r) from rfl]
    by_cases hk : k = f
    · rw [if_pos hk]
      by_cases h : g = k
      · have hb : (g == k) = true := beq_iff_eq.mpr h
        simp only [List.lookup, hb, if_pos (h.trans hk)]
      · have hb : (g == k) = false := beq_eq_false_iff_ne.mpr h
        simp only [List.lookup, hb, if_neg (fun e : g = f => h (e.trans hk.symm))]
    · rw [if_neg hk]
      by_cases h : g = k
      · have hb : (g == k) = true := beq_iff_eq.mpr h
        simp only [List.lookup, hb, if_neg (fun e : g = f => hk (h.symm.trans e))]
      · have hb : (g == k) = false := beq_eq_false_iff_ne.mpr h
        simp only [List.lookup, hb]
        exact ih
theorem keys_putF (f : Str) (v : V) : ∀ fs : List (Str × V), f ∈ (putF f v fs).map (·.1) ∧ ∀ g, g ∈ fs.map (·.1) → g ∈ (putF f v fs).map (·.1)
  | [] => ⟨by simp [putF], fun g h => by simp at h⟩
  | (k, x) :: r => by
    obtain ⟨i1, i2⟩ := keys_putF f v r
    rw [show putF f v ((k, x) :: r) = (if k = f then (k, v) :: r else (k, x) :: putF f v r) from rfl]
    by_cases hk : k = f
    · rw [if_pos hk]
      subst hk
      exact ⟨by simp, fun g h => by simpa using h⟩
    · rw [if_neg hk]
      refine ⟨?_, fun g h => ?_⟩
      · rw [List.map_cons]
        exact List.mem_cons_of_mem _ i1
      · rw [List.map_cons] at h ⊢
        rcases List.mem_cons.mp h with e | e
        · exact List.mem_cons.mpr (.inl e)
        · exact List.mem_cons_of_mem _ (i2 g e)
theorem length_putF (f : Str) (v : V) : ∀ fs : List (Str × V), (putF f v fs).length ≤ fs.length + 1
  | [] => by simp [putF]
  | (k, x) :: r => by
    have ih := length_putF f v r
    rw [show putF f v ((k, x) :: r) = (if k = f then (k, v) :: r else (k, x) :: putF f v r) from rfl]
    by_cases hk : k = f
    · rw [if_pos hk, List.length_cons, List.length_cons]; omega
    · rw [if_neg hk, List.length_cons, List.length_cons]; omega
theorem RelO.some_of {v : V} {o : Option Value} (r : RelO (some v) o) : ∃ u, o = some u ∧ RelV v u := by
  cases o with
  | none => exact (show False from r).elim
  | some u => exact ⟨u, rfl, r⟩
theorem RelO.none_of {o : Option Value} (r : RelO none o) : o = none := by
  cases o with
  | none => rfl
  | some u => exact (show False from r).elim
theorem handed_of {v : V} {u : Value} (r : RelV v u) : PySem.W.handedIn u = true := by
  cases v with
  | non => cases (show u = Value.none from r); rfl
  | bl b => cases (show u = Value.bool b from r); rfl
  | int i => obtain ⟨t, e⟩ := (show ∃ t, u = Value.int i t from r); cases e; rfl
  | str x => obtain ⟨t, e⟩ := (show ∃ t, u = Value.str x t from r); cases e; rfl
  | byt b => obtain ⟨t, e⟩ := (show ∃ t, u = Value.bytes b t from r); cases e; rfl
  | flt b => obtain ⟨t, e⟩ := (show ∃ t, u = Value.float b t from r); cases e; rfl
  | ref a => cases (show u = Value.ref a from r); rfl
  | ty n => cases (show u = Value.type n from r); rfl
section
variable {P : Program} {w : World} {H H' : Hp} {h h' : Heap} {a C dx : Addr} {fs fs' : List (Str × V)}
theorem ins_get (hok : HOk P w H h) (e : H a = some (.ins C dx fs)) : ∃ mA, ObjM h a dx C mA ∧ (∀ f, RelO (fs.lookup f) (mA f)) ∧ PySem.Within mA (fs.map (·.1)) ∧ fs.length ≤ 1000 ∧ H dx = some (.own a) := by
  obtain ⟨d, z, ne, ob, mA, n, r, q⟩ := (show ObjOk P w H h a (.ins C dx fs) from hok a _ e)
  exact ⟨mA, ⟨ob, n, ne⟩, r, q, z, d⟩
end
structure Cls (K : PySem.W.Frag) (C : Addr) : Prop where
  pg : PySem.W.plainGet K C Str.empty = true
  hd : PySem.W.hasDictIn K C = true
  po : PySem.W.plainOver K C = true
  sa : PySem.W.findIn K (.ref C) "__setattr__" = some (some (.builtin "object.__setattr__"))
theorem Cls.get {K : PySem.W.Frag} {C : Addr} (c : Cls K C) (f : Str) : PySem.W.plainGet K C f = true := c.pg
def NoAttr (K : PySem.W.Frag) (C : Addr) (f : Str) : Prop := PySem.W.findIn K (.ref C) f = some none
theorem NoAttr.taker {K : PySem.W.Frag} {C : Addr} {f : Str} (n : NoAttr K C f) : PySem.W.takerIn K C f = some none := by
  unfold PySem.W.takerIn
  rw [show PySem.W.findIn K (.ref C) f = some none from n]
  rfl
structure Meth (K : PySem.W.Frag) (C : Addr) (m : Str) (f : Addr) : Prop where
  at_ : PySem.W.findIn K (.ref C) m = some (some (.ref f))
  fn : PySem.W.isFn K (.ref f) = true
  kp : PySem.W.keepIn K (.ref f) = true
section
variable {X : Cx} {pins : List (Addr × Obj)} {σ : St} {H : Hp} {s : Shared} {a C dx : Addr} {fs : List (Str × V)} {f : Str} {v : V} {A : Around} {E : Value → Shared → Prop}
theorem getattr_ok {b : Bool} {Q : Value → Shared → Prop} (I : Inv X pins σ H s) (e : H a = some (.ins C dx fs)) (c : Cls X.K C) (n : NoAttr X.K C f) (l : fs.lookup f = some v)
    (h : ∀ u s', Inv X pins σ H s' → RelV v u → Q u s') : wpAny (model X.prog X.w) A (getAttr (.ref a) f b) Q E s := by
  obtain ⟨mA, O, r, _, _, _⟩ := ins_get I.hok e
  obtain ⟨u, hu, ru⟩ := RelO.some_of (v := v) (o := mA f) (by rw [← l]; exact r f)
  exact get_map I.kIn O (c.get f) c.hd n hu (handed_of ru) (h u _ (I.tok _) ru)
theorem getmeth_ok {m : Str} {g : Addr} {pl : Sem Bool} {Q : Value × List Value → Shared → Prop} (I : Inv X pins σ H s) (e : H a = some (.ins C dx fs)) (c : Cls X.K C) (k : Meth X.K C m g) (l : fs.lookup m = none)
    (h : Q (.ref g, [.ref a]) s) : wpAny (model X.prog X.w) A (getMethod (.ref a) m pl) Q E s := by
  obtain ⟨mA, O, r, _, _, _⟩ := ins_get I.hok e
  have hn : mA m = none := RelO.none_of (by rw [← l]; exact r m)
  exact get_meth I.kIn O (c.get m) k.at_ k.fn hn h
theorem setattr_ok {y : V} {u : Value} {Q : Unit → Shared → Prop} (I : Inv X pins σ H s) (e : H a = some (.ins C dx fs)) (c : Cls X.K C) (n : NoAttr X.K C f) (hl : fs.length < 1000) (ry : RelV y u)
    (h : ∀ s', Inv X pins σ (upd H a (.ins C dx (putF f y fs))) s' → Q () s') : wpAny (model X.prog X.w) A (setAttr (.ref a) f u) Q E s := by
  obtain ⟨mA, O, r, wi, _, ho⟩ := ins_get I.hok e
  have hz : (fs.map (·.1)).length ≤ sizeLine := by rw [List.length_map, sizeLine_eq]; omega
  refine set_map I.kIn O c.sa c.po n.taker c.hd wi hz fun h' O' sb => h _ ?_
  have hd : ∃ o, h'.get? dx = some o := let ⟨o, _, _, e', _⟩ := O'.ns; ⟨o, e'⟩
  refine I.write (x := a) (e := dx) (by rw [e]; exact True.intro) (.inr ho) (fun b q hb z => (sb.2 b hb).trans z) hd ?_
  refine ⟨by rw [upd_ne O.ne]; exact ho, ?_, O.ne, O'.obj, _, O'.ns, fun g => ?_, fun g hg => ?_⟩
  · have := length_putF f y fs; omega
  · show RelO ((putF f y fs).lookup g) (if g = f then some u else mA g)
    rw [lookup_putF]
    by_cases q : g = f
    · rw [if_pos q, if_pos q]; exact ry
    · rw [if_neg q, if_neg q]; exact r g
  · by_cases q : g = f
    · rw [q]; exact (keys_putF f y fs).1
    · refine (keys_putF f y fs).2 g (wi g fun z => hg ?_)
      show (if g = f then some u else mA g) = none
      rw [if_neg q]; exact z
theorem Inv.made (I : Inv X pins σ H s) : Inv X pins σ (upd (upd H s.heap.objs.size (.own (s.heap.objs.size + 1))) (s.heap.objs.size + 1) (.ins C s.heap.objs.size []))
    { s with heap := (s.heap.push PySem.W.emptyDict).push (PySem.W.instObj C s.heap.objs.size) } := by
  have e1 : (s.heap.push PySem.W.emptyDict).get? s.heap.objs.size = some PySem.W.emptyDict := Heap.get?_push_size s.heap rfl
  have e2 : ((s.heap.push PySem.W.emptyDict).push (PySem.W.instObj C s.heap.objs.size)).get? (s.heap.objs.size + 1) = some (PySem.W.instObj C s.heap.objs.size) := by
    have := Heap.get?_push_size (s.heap.push PySem.W.emptyDict) (o := PySem.W.instObj C s.heap.objs.size) rfl
    rwa [Heap.size_push] at this
  have e3 : (s.heap.push PySem.W.emptyDict).Ns s.heap.objs.size (fun _ => none) := ⟨PySem.W.emptyDict, #[], _, e1, rfl, (fun e he => absurd he (by simp)), fun _ => rfl⟩
  have I1 := I.laid (a := s.heap.objs.size) (o := .own (s.heap.objs.size + 1)) (h' := s.heap.push PySem.W.emptyDict) (t' := s.toks) (fun b u q => Heap.get?_push_of_some _ q) (Nat.le_refl _) ⟨_, e1⟩
  refine I1.laid (a := s.heap.objs.size + 1) (o := .ins C s.heap.objs.size []) (t' := s.toks) (fun b u q => Heap.get?_push_of_some _ q) (Nat.le_of_eq (Heap.size_push _ _)) ?_
  have ne : s.heap.objs.size ≠ s.heap.objs.size + 1 := Nat.ne_of_lt (Nat.lt_succ_self _)
  refine ⟨by rw [upd_ne ne, upd_same], Nat.zero_le _, ne, e2, fun _ => none, (Heap.Ns1.of_empty e3).at fun o q => Heap.get?_push_of_some _ q, fun _ => True.intro, fun y hy => absurd rfl hy⟩
theorem attr_of {prog : Program} {w : World} {env : Env} {e : Expr} {f : Str} {pos : Pos} {s : Shared} {Q : Value → Shared → Prop} (hb : attributeBase e f env (eval e env) = eval e env)
    (h : wpAny (model prog w) A (eval e env) (fun o s₁ => wpAny (model prog w) A (getAttr o f true) Q E s₁) E s) : wpAny (model prog w) A (eval (.Attribute e f pos) env) Q E s :=
  Attribute_any_ h (by rw [arm_eval_Attribute, hb])
end
def tFld (K : PySem.W.Frag) (ta : TE) (f : Str) : TE := fun σ H Q => ta σ H fun x H1 => ∃ a C dx fs v, x = .ref a ∧ H1 a = some (.ins C dx fs) ∧ Cls K C ∧ NoAttr K C f ∧ fs.lookup f = some v ∧ Q v H1
def sFld (K : PySem.W.Frag) (ta tv : TE) (f : Str) : TS := fun D σ H => tv σ H fun y H1 => ta σ H1 fun x H2 => ∃ a C dx fs, x = .ref a ∧ H2 a = some (.ins C dx fs) ∧ Cls K C ∧ NoAttr K C f ∧ fs.length < 1000 ∧
  D.nx σ (upd H2 a (.ins C dx (putF f y fs)))
section
variable {X : Cx} {o e value : Expr} {f : Str} {pos pos' tpos : Pos} {ta tv : TE}
theorem pe_fld (he : PE X e ta) (hb : attributeBase e f X.env (eval e X.env) = eval e X.env) : PE X (.Attribute e f pos) (tFld X.K ta f) := by
  intro pins s σ H Q I h
  refine attr_of hb (thn (he pins s σ H _ I h) fun u s1 ⟨x, H1, I1, rx, a, C, dx, fs, v, ex, ea, c, n, l, q⟩ => ?_)
  subst ex
  obtain rfl : u = Value.ref a := rx
  exact getattr_ok I1 ea c n l fun u' s2 I2 ru => ⟨v, H1, I2, ru, q⟩
theorem ps_fld (ha : PE X o ta) (hv : PE X value tv) (hs : swapsWith value (some (.Attribute o f pos')) pos.line X.env = pure false) : PS X (.Assign [.Attribute o f pos'] value pos) (sFld X.K ta tv f) := by
  intro pins s σ H D I h
  refine plainObj_wpAny_Assign_Attribute (thn (hv pins s σ H _ I h) fun u s1 ⟨y, H1, I1, ry, q⟩ => thn (ha pins s1 σ H1 _ I1 q) fun ov s2 ⟨x, H2, I2, rx, a, C, dx, fs, ex, ea, c, n, l, q2⟩ => ?_) hs
  subst ex
  obtain rfl : ov = Value.ref a := rx
  exact setattr_ok I2 ea c n l ry fun s3 I3 => ⟨σ, _, I3, q2⟩
end
section
variable {X : Cx} {pins : List (Addr × Obj)} {σ : St} {H : Hp} {s : Shared} {A : Around} {E : Value → Shared → Prop} {Q : Value → Shared → Prop} {c : Value} {b : Bool}
inductive TyOf (K : PySem.W.Frag) (H : Hp) : V → Value → Prop where
  | non : TyOf K H .non (.type "NoneType")
  | bl (x : Bool) : TyOf K H (.bl x) (.type "bool")
  | int (i : Int) : TyOf K H (.int i) (.type "int")
  | str (x : Str) : TyOf K H (.str x) (.type "str")
  | flt (x : UInt64) : TyOf K H (.flt x) (.type "float")
  | lst {a : Addr} {xs : List V} (e : H a = some (.lst xs)) : TyOf K H (.ref a) (.type "list")
  | frz {a : Addr} {o : Obj} {xs : List V} (e : H a = some (.frz o (.lst xs))) : TyOf K H (.ref a) (.type "list")
  | tup {a : Addr} {xs : List V} (e : H a = some (.tup xs)) : TyOf K H (.ref a) (.type "tuple")
  | dK {a : Addr} {kvs : List (Key × V)} (e : H a = some (.dK kvs)) : TyOf K H (.ref a) (.type "dict")
  | dT {a : Addr} {kvs : List (List Key × V)} (e : H a = some (.dT kvs)) : TyOf K H (.ref a) (.type "dict")
  | ins {a C dx : Addr} {fs : List (Str × V)} (e : H a = some (.ins C dx fs)) (cl : Cls K C) (ha : PySem.W.findIn K (.ref C) "__class__" = some (some (.builtin "object.__class__")))
      (hn : PySem.W.specialIn K (.builtin "object.__class__") "__get__" = some (some (.builtin "getset_descriptor.__get__"))) (htk : PySem.W.takesIn K (.builtin "object.__class__") = some true)
      (hm : PySem.W.mroIn K C (.type "object") = some true) : TyOf K H (.ref a) (.ref C)
theorem isinst_ok {x : V} {u t : Value} (I : Inv X pins σ H s) (rx : RelV x u) (ty : TyOf X.K H x t) (e : PySem.W.kitOne X.K t c = some b) (h : ∀ tk, Q (.bool b) { s with toks := tk }) :
    wpAny (model X.prog X.w) A (call (.builtin "isinstance") [u, c]) Q E s := by
  cases ty with
  | non => cases (show u = Value.none from rx); exact PySem.W.kia_one PySem.W.kitx_none I.kIn True.intro e (fun z => nomatch z) h
  | bl y => cases (show u = Value.bool y from rx); exact PySem.W.kia_one PySem.W.kitx_bool I.kIn True.intro e (fun z => nomatch z) h
  | int i => obtain ⟨t, q⟩ := (show ∃ t, u = Value.int i t from rx); cases q; exact PySem.W.kia_one PySem.W.kitx_int I.kIn True.intro e (fun z => nomatch z) h
  | str y => obtain ⟨t, q⟩ := (show ∃ t, u = Value.str y t from rx); cases q; exact PySem.W.kia_one PySem.W.kitx_str I.kIn True.intro e (fun z => nomatch z) h
  | flt y => obtain ⟨t, q⟩ := (show ∃ t, u = Value.float y t from rx); cases q; exact PySem.W.kia_one PySem.W.kitx_float I.kIn True.intro e (fun z => nomatch z) h
  | @lst a xs ea =>
    cases (show u = Value.ref a from rx)
    obtain ⟨_, _, n, _, h1⟩ := (show ObjOk X.prog X.w H s.heap a (.lst xs) from I.hok a _ ea)
    exact PySem.W.kia_one PySem.W.kitx_list I.kIn ⟨_, h1, rfl⟩ e (fun z => nomatch z) h
  | @frz a ob xs ea =>
    cases (show u = Value.ref a from rx)
    obtain ⟨_, _, _, n, _, h1⟩ := (show ObjOk X.prog X.w H s.heap a (.frz ob (.lst xs)) from I.hok a _ ea)
    exact PySem.W.kia_one PySem.W.kitx_list I.kIn ⟨_, h1, rfl⟩ e (fun z => nomatch z) h
  | @tup a xs ea =>
    cases (show u = Value.ref a from rx)
    obtain ⟨_, _, _, p⟩ := (show ObjOk X.prog X.w H s.heap a (.tup xs) from I.hok a _ ea)
    obtain ⟨o, h1, h2, _⟩ := p
    exact PySem.W.kia_one PySem.W.kitx_tuple I.kIn ⟨o, h1, h2⟩ e (fun z => nomatch z) h
  | @dK a kvs ea =>
    cases (show u = Value.ref a from rx)
    obtain ⟨_, _, vs, _, p⟩ := (show ObjOk X.prog X.w H s.heap a (.dK kvs) from I.hok a _ ea)
    obtain ⟨o, es, ep, h1, h2, _⟩ := p
    exact PySem.W.kia_one PySem.W.kitx_dict I.kIn ⟨o, h1, h2.1⟩ e (fun z => nomatch z) h
  | @dT a kvs ea =>
    cases (show u = Value.ref a from rx)
    obtain ⟨_, _, xs, _, o, es, ep, h1, h2, _⟩ := (show ObjOk X.prog X.w H s.heap a (.dT kvs) from I.hok a _ ea)
    exact PySem.W.kia_one PySem.W.kitx_dict I.kIn ⟨o, h1, h2.1⟩ e (fun z => nomatch z) h
  | @ins a C dx fs ea cl ha hn htk hm =>
    cases (show u = Value.ref a from rx)
    obtain ⟨mA, O, _⟩ := ins_get I.hok ea
    obtain ⟨od, J, _⟩ := O.look
    exact PySem.W.kia_one (PySem.W.kitx_own (cl.get _) cl.hd ha hn htk hm) I.kIn J e (fun z => nomatch z) h
end
end L2
namespace L2
open PySem PySem.Spec PyProof.Rows
structure Room (k : Nat) (A : Around) : Prop where
  hd : A.handled = none
  dp : A.depth + 3 * k + 5 < recursionLimit
  un : A.units + 16 * k + 200 < cLine
theorem Room.mono {j k : Nat} {A : Around} (r : Room k A) (h : j ≤ k) : Room j A := ⟨r.hd, by have := r.dp; omega, by have := r.un; omega⟩
theorem Room.deeper {k : Nat} {A : Around} (r : Room (k + 1) A) (env : Env) : Room k (A.deeper env) :=
  ⟨r.hd, by have := r.dp; show A.depth + 1 + 3 * k + 5 < _; omega, by have := r.un; show A.units + 3 + 16 * k + 200 < _; omega⟩
theorem make_depth {A : Around} {C : Addr} {us : List Value} {kw : List (Str × Value)} : (A.under (.builtin "type.__call__" ⟨.ref C :: us, kw⟩)).depth = A.depth + 1 := by
  first | rfl | simp [Around.under, Code.weight, Code.isCreation, Code.isGuard, Code.isCaller, Code.frames, Code.isFrame, guardIds]
theorem make_units {A : Around} {C : Addr} {us : List Value} {kw : List (Str × Value)} : (A.under (.builtin "type.__call__" ⟨.ref C :: us, kw⟩)).units = A.units + 1 := by
  first | rfl | simp [Around.under, Code.cUnits, Code.frames, Code.isFrame]
theorem Room.make {k : Nat} {A : Around} (r : Room (k + 1) A) (C : Addr) (us : List Value) (kw : List (Str × Value)) : Room k (A.under (.builtin "type.__call__" ⟨.ref C :: us, kw⟩)) :=
  ⟨r.hd, by have := r.dp; rw [make_depth]; omega, by have := r.un; rw [make_units]; omega⟩
theorem Room.depth {k : Nat} {A : Around} (r : Room k A) : A.depth < recursionLimit := by have := r.dp; omega
theorem Room.units {k : Nat} {A : Around} (r : Room k A) : A.units + 64 < cLine := by have := r.un; omega
def tNil : TA := fun _ H Q => Q [] H
def tCons (ta : TE) (tr : TA) : TA := fun σ H Q => ta σ H fun x H1 => tr σ H1 fun xs H2 => Q (x :: xs) H2
section
variable {X : Cx} {e : Expr} {es : List Expr} {te : TE} {t : TA} {pos : Pos}
theorem pa_nil : PA X [] tNil := fun _ _ _ _ H Q I h => Calls.spliced_nil ⟨[], H, I, .nil, h⟩
theorem pa_cons (ha : PE X e te) (hr : PA X es t) (hs : starEach (e :: es) X.env = (false, eval e X.env) :: starEach es X.env := by rfl) : PA X (e :: es) (tCons te t) := by
  intro pos pins s σ H Q I h
  rw [hs]
  show wpAny _ _ (spliced ((false, eval e X.env) :: backTo pos (starEach es X.env))) _ _ s
  refine Calls.spliced_cons (thn (ha pins s σ H _ I h) fun u s1 ⟨x, H1, I1, r1, q1⟩ => ?_)
  exact thn (hr pos pins s1 σ H1 _ I1 q1) fun us s2 ⟨xs, H2, I2, r2, q2⟩ => ⟨x :: xs, H2, I2, .cons r1 r2, q2⟩
def tTup (t : TA) : TE := fun σ H Q => t σ H fun xs H1 => xs.length ≤ sizeLine ∧ ∀ p, H1 p = none → Q (.ref p) (upd H1 p (.tup xs))
def tLst (t : TA) : TE := fun σ H Q => t σ H fun xs H1 => xs.length ≤ sizeLine ∧ ∀ p, H1 p = none → Q (.ref p) (upd H1 p (.lst xs))
theorem pe_tup {x1} (h : PA X es t) : PE X (.Tuple es x1 pos) (tTup t) := by
  intro pins s σ H Q I hq
  refine wpAny_Tuple_spliced (thn (h pos pins s σ H _ I hq) fun us s1 ⟨xs, H1, I1, r, z, q⟩ => ⟨by rw [← r.length]; exact z, ?_⟩)
  have hf : H1 s1.heap.objs.size = none := I1.hok.fresh (Nat.le_refl _)
  refine ⟨.ref s1.heap.objs.size, upd H1 s1.heap.objs.size (.tup xs), I1.laid (t' := s1.toks) (fun b u e => Heap.get?_push_of_some _ e) (Nat.le_refl _) ?_, rfl, q _ hf⟩
  exact ⟨z, us, r, ⟨_, Heap.get?_push_size _ rfl, rfl, _, rfl⟩⟩
theorem pe_lst (h : PA X es t) : PE X (.List es pos) (tLst t) := by
  intro pins s σ H Q I hq
  refine wpAny_List_spliced (thn (h pos pins s σ H _ I hq) fun us s1 ⟨xs, H1, I1, r, z, q⟩ => ⟨by rw [← r.length]; exact z, ?_⟩)
  have hf : H1 s1.heap.objs.size = none := I1.hok.fresh (Nat.le_refl _)
  refine ⟨.ref s1.heap.objs.size, upd H1 s1.heap.objs.size (.lst xs), I1.laid (t' := s1.toks) (fun b u e => Heap.get?_push_of_some _ e) (Nat.le_refl _) ?_, rfl, q _ hf⟩
  exact ⟨z, us, 0, r, Heap.get?_push_size _ rfl⟩
end
abbrev Sp := List V → Hp → VK → XK → Prop
abbrev CXT := List Env → Hp → Shared → XK → Value → Shared → Prop
structure Env0 (P : Program) (w : World) (K : PySem.W.Frag) (mg : Str → Option Value) (base : Heap) (A : Around) (outer : List Env) (s : Shared) (H : Hp) : Prop where
  frames : A.frames = some outer
  mod : Mod K mg base
  bs : ∀ b o, base.get? b = some o → s.heap.get? b = some o ∧ H b = none
  bsz : base.objs.size ≤ s.heap.objs.size
  funs : s.heap.FunFrames base outer
  frf : ∀ b ∈ frs outer, H b = none
  hok : HOk P w H s.heap
  bare : AllBare s.gens
def CE (outer : List Env) (P : Program) (w : World) (H : Hp) (s : Shared) (Q : VK) (u : Value) (s' : Shared) : Prop :=
  ∃ v H', s'.os = s.os ∧ AllBare s'.gens ∧ Un (frs outer) [] H H' s.heap s'.heap ∧ HOk P w H' s'.heap ∧ RelV v u ∧ Q v H'
def CR (CX : CXT) (outer : List Env) (P : Program) (w : World) (H : Hp) (s : Shared) (Q : VK) (E : XK) (r : Result) (s' : Shared) : Prop :=
  match r with
  | .ok (.ret u) => CE outer P w H s Q u s'
  | .ok _ => False
  | .error e => CX outer H s E e s'
structure FnOk (P : Program) (w : World) (K : PySem.W.Frag) (mg : Str → Option Value) (base : Heap) (CX : CXT) (k : Nat) (f : Addr) (fd : FuncData) (ps : List Str) (sp : Sp) : Prop where
  len : ∀ vs H Q E, sp vs H Q E → vs.length = ps.length
  run : ∀ (A : Around) (outer : List Env) (s : Shared) (H : Hp) (args : Args) (us : List Value) (vs : List V) (Q : VK) (E : XK), Room k A → Env0 P w K mg base A outer s H → BindsTo s fd args (ps.zip us) → Vals vs us → sp vs H Q E →
    codeAny (model P w) A (.call (.ref f) args) (CR CX outer P w H s Q E) s
theorem Env0.make {P : Program} {w : World} {K : PySem.W.Frag} {mg : Str → Option Value} {base : Heap} {A : Around} {outer : List Env} {s : Shared} {H : Hp} (e : Env0 P w K mg base A outer s H) (C : Addr) (us : List Value) (kw : List (Str × Value)) :
    Env0 P w K mg base (A.under (.builtin "type.__call__" ⟨.ref C :: us, kw⟩)) outer s H := ⟨by first | exact e.frames | (simpa [Around.under, Code.envs, Code.isFrame, pushEnvs] using e.frames), e.mod, e.bs, e.bsz, e.funs, e.frf, e.hok, e.bare⟩
section
variable {X : Cx} {pins : List (Addr × Obj)} {σ : St} {H : Hp} {s s' : Shared}
theorem Inv.env0 (I : Inv X pins σ H s) : Env0 X.prog X.w X.K X.mg X.base X.A X.stack s H :=
  ⟨I.ok.frames, I.ok.mod, I.bs, Nat.le_trans I.ok.bsz I.sz, I.stack, I.stkFree, I.hok, I.bare⟩
theorem Inv.after {Q : VK} {u : Value} (I : Inv X pins σ H s) (h : CE X.stack X.prog X.w H s Q u s') : EP X pins σ Q u s' := by
  obtain ⟨v, H', os, bare, un, hok, r, q⟩ := h
  obtain ⟨hh, g, d, t, os'⟩ := s'
  obtain rfl : os' = s.os := os
  exact ⟨v, H', I.call (h' := hh) (g' := g) (d' := d) (t' := t) (ch := []) un hok bare (fun b z => absurd z (by simp)), r, q⟩
end
def Binds (K : PySem.W.Frag) (fd : FuncData) (ps : List Str) (ds : List Value) : Prop :=
  ∀ (s : Shared) (us : List Value), K.In s.heap → (us ++ ds).length = ps.length → BindsTo s fd ⟨us, []⟩ (ps.zip (us ++ ds))
theorem Binds.all {K : PySem.W.Frag} {fd : FuncData} {ps : List Str} (h : ∀ us : List Value, us.length = ps.length → bindArgs fd ⟨us, []⟩ = pure (ps.zip us)) : Binds K fd ps [] := fun s us _ hl => by
  rw [List.append_nil] at hl ⊢
  exact .of_eq (h us hl)
section
variable {X : Cx} {CX : CXT} {k : Nat} {f C : Addr} {fd : FuncData} {ps : List Str} {sp : Sp} {dvs : List V} {ds : List Value} {E : XK} {x m : Str} {p pos apos : Pos} {e o : Expr} {es : List Expr} {ta : TE} {t : TA}
structure Mk (K : PySem.W.Frag) (C f : Addr) : Prop where
  makes : PySem.W.makesIn K C = true
  init : PySem.W.findIn K (.ref C) "__init__" = some (some (.ref f))
  fn : PySem.W.isFn K (.ref f) = true
  kp : PySem.W.keepIn K (.ref C) = true
end
section
variable {X : Cx} {CX : CXT} {k : Nat} {f C : Addr} {fd : FuncData} {ps ks : List Str} {sp : Sp} {E : XK} {x m : Str} {p pos apos kpos : Pos} {e o : Expr} {es : List Expr} {kws : List Keyword} {te ta : TE} {t tk : TA} {nm : Option Str}
variable {g : List Value → List Value → List Value} {gV : List V → List V → List V}
end
structure FnScope (N P : List Str) (sc : Scope) : Prop where
  kind : sc.kind = .function
  co : sc.isCoroutine = false
  gen : sc.isGenerator = false
  nd : N.Nodup
  pre : N.take P.length = P
  par : ∀ x ∈ P, sc.names.lookup x = some .local ∨ sc.names.lookup x = some .cell
  nofree : ∀ y ∈ sc.names, y.2 ≠ .free
theorem bindL_out {kindOf : Str → Option NameKind} {x : Str} : ∀ {binds : List (Str × Value)} {m : Str → Option Value}, (∀ v, (x, v) ∉ binds) → bindL kindOf binds m x = m x
  | [], _, _ => rfl
  | (n, v) :: r, m, h => by
    unfold bindL
    rw [bindL_out fun w hw => h w (List.mem_cons_of_mem _ hw)]
    split
    · have : x ≠ n := by rintro rfl; exact h v List.mem_cons_self
      simp [this]
    · rfl
theorem bindC_out {kindOf : Str → Option NameKind} {x : Str} : ∀ {binds : List (Str × Value)} {m : Str → Option Value}, (∀ v, (x, v) ∉ binds) → bindC kindOf binds m x = m x
  | [], _, _ => rfl
  | (n, v) :: r, m, h => by
    unfold bindC
    rw [bindC_out fun w hw => h w (List.mem_cons_of_mem _ hw)]
    split
    · rfl
    · have : x ≠ n := by rintro rfl; exact h v List.mem_cons_self
      simp [this]
theorem bindL_get {kindOf : Str → Option NameKind} {x : Str} {v : Value} : ∀ {P : List Str} {vs : List Value} {i : Nat} {m : Str → Option Value}, P.Nodup → P[i]? = some x → vs[i]? = some v → kindOf x = some .local →
    bindL kindOf (P.zip vs) m x = some v
  | [], _, _, _, _, h, _, _ => by simp at h
  | _ :: _, [], _, _, _, _, h, _ => by simp at h
  | p :: P, w :: vs, 0, m, nd, h1, h2, hk => by
    simp at h1 h2; subst h1; subst h2
    show bindL kindOf ((p, w) :: P.zip vs) m p = _
    unfold bindL
    rw [bindL_out fun v hv => (List.nodup_cons.mp nd).1 (List.of_mem_zip hv).1, if_pos hk]
    simp
  | p :: P, w :: vs, i + 1, m, nd, h1, h2, hk => by
    show bindL kindOf ((p, w) :: P.zip vs) m x = _
    unfold bindL
    exact bindL_get (i := i) (List.nodup_cons.mp nd).2 (by simpa using h1) (by simpa using h2) hk
theorem bindC_get {kindOf : Str → Option NameKind} {x : Str} {v : Value} : ∀ {P : List Str} {vs : List Value} {i : Nat} {m : Str → Option Value}, P.Nodup → P[i]? = some x → vs[i]? = some v → kindOf x ≠ some .local →
    bindC kindOf (P.zip vs) m x = some v
  | [], _, _, _, _, h, _, _ => by simp at h
  | _ :: _, [], _, _, _, _, h, _ => by simp at h
  | p :: P, w :: vs, 0, m, nd, h1, h2, hk => by
    simp at h1 h2; subst h1; subst h2
    show bindC kindOf ((p, w) :: P.zip vs) m p = _
    unfold bindC
    rw [bindC_out fun v hv => (List.nodup_cons.mp nd).1 (List.of_mem_zip hv).1, if_neg hk]
    simp
  | p :: P, w :: vs, i + 1, m, nd, h1, h2, hk => by
    show bindC kindOf ((p, w) :: P.zip vs) m x = _
    unfold bindC
    exact bindC_get (i := i) (List.nodup_cons.mp nd).2 (by simpa using h1) (by simpa using h2) hk
def start (N : List Str) (vs : List V) : St := vs.map some ++ List.replicate (N.length - vs.length) none
def cxOf (CX : CXT) (P : Program) (w : World) (K : PySem.W.Frag) (mg : Str → Option Value) (base : Heap) (N : List Str) (qual : Str) (scope : Scope) (f : Addr) (cd : Value) (A : Around) (outer : List Env) (s : Shared) (H : Hp) (E : XK) : Cx where
  prog := P
  w := w
  K := K
  mg := mg
  base := base
  A := A.deeper (envOfC qual scope s.heap.objs.size f cd)
  N := N
  s₀ := s
  H₀ := H
  env := envOfC qual scope s.heap.objs.size f cd
  outer := outer
  stack := envOfC qual scope s.heap.objs.size f cd :: outer
  ex := []
  calm := true
  fn := fun _ => true
  pn := []
  xe := fun e s' => wpAny (model P w) (A.deeper (envOfC qual scope s.heap.objs.size f cd)) (leaving (envOfC qual scope s.heap.objs.size f cd) e) (fun _ s'' => CX outer H s E e s'') (fun e' s'' => CX outer H s E e' s'') s'
theorem cell_has {sc : Scope} {n : Nat} {x : Str} (h : sc.names.lookup x = some .cell) : ∃ c, (cellsFrom n sc.names []).lookup x = some c := by
  have q := PySem.W.cellsFrom_some sc.names n [] (.inl h)
  exact Option.isSome_iff_exists.mp q
theorem inv_start {CX : CXT} {P : Program} {w : World} {K : PySem.W.Frag} {mg : Str → Option Value} {base : Heap} {N ps : List Str} {qual : Str} {scope : Scope} {f : Addr} {cd : Value} {A : Around} {outer : List Env} {s s1 : Shared} {H : Hp} {E : XK} {us : List Value} {vs : List V}
    (S : FnScope N ps scope) (hd : A.handled = none) (e0 : Env0 P w K mg base A outer s H) (hl : vs.length = ps.length) (r : Vals vs us)
    (x : InCallC s s.heap.objs.size (bindL (envOfC qual scope s.heap.objs.size f cd).kindOf (ps.zip us) fun _ => none) (cellsFrom (s.heap.objs.size + 1) scope.names []) (bindC (envOfC qual scope s.heap.objs.size f cd).kindOf (ps.zip us) fun _ => none) s1) :
    Inv (cxOf CX P w K mg base N qual scope f cd A outer s H E) [] (start N vs) H s1 := by
  have hpl : ps.length ≤ N.length := by have := congrArg List.length S.pre; rw [List.length_take] at this; omega
  obtain ⟨h1, tk, rfl, hk⟩ := x.done
  have noA : ∀ b : Addr, b ∉ (cxOf CX P w K mg base N qual scope f cd A outer s H E).ex := fun b z => absurd (show b ∈ ([] : List Addr) from z) (by simp)
  refine ⟨⟨e0.mod, S.kind, rfl, rfl, Nat.le_refl _, fun y z c h1 h2 => ?_, fun y hy => ?_, fun y c _ h => ?_, fun _ => hd, Around.frames_deeper e0.frames, .inr ⟨rfl, rfl⟩, fun b z => absurd z (noA b), e0.bs, e0.bsz, fun b _ _ => noA b, fun b z => absurd z (noA b), e0.funs, e0.frf⟩,
    rfl, e0.bare, Un.kept hk, ⟨_, x.toInCall.ns, fun i y v h1 h2 h3 => ?_⟩, fun y c h => ⟨_, x.cell y c h⟩, e0.hok.fresh (Nat.le_refl _), fun y c h => ?_, fun p hp => absurd (show p ∈ ([] : List (Addr × Obj)) from hp) (by simp), e0.hok.kept hk, ?_⟩
  · exact name_of_addr x.apart (PySem.mem_of_lookup h1) (PySem.mem_of_lookup h2)
  · have hy : scope.names.lookup y = some .cell ∨ scope.names.lookup y = some .free := hy
    rcases hy with hy | hy
    · exact cell_has hy
    · exact absurd rfl (S.nofree _ (PySem.mem_of_lookup hy))
  · exact Nat.le_of_lt (x.above y c (PySem.mem_of_lookup h))
  · have hi : i < vs.length := by
      unfold start at h2
      by_cases hi : i < vs.length
      · exact hi
      · rw [List.getElem?_append_right (by simpa using hi)] at h2
        rw [List.getElem?_replicate] at h2
        split at h2 <;> cases h2
    have ha : vs[i]? = some v := by
      unfold start at h2
      rw [List.getElem?_append_left (by simpa using hi), List.getElem?_map] at h2
      cases e : vs[i]? with
      | none => rw [e] at h2; cases h2
      | some a => rw [e] at h2; cases h2; rfl
    obtain ⟨u, hu, rv⟩ := r.get ha
    have hp : ps[i]? = some y := by
      rw [← S.pre, List.getElem?_take_of_lt (by omega)]; exact h1
    have ndP : ps.Nodup := by rw [← S.pre]; exact S.nd.sublist (List.take_sublist _ _)
    refine ⟨u, rv, ?_⟩
    rcases S.par y (List.mem_of_getElem? hp) with k | k
    · exact .inl ⟨k, bindL_get ndP hp hu k⟩
    · obtain ⟨c, e⟩ := cell_has (n := s.heap.objs.size + 1) k
      refine .inr ⟨.inl k, c, e, ?_⟩
      have q := x.cell y c e
      rw [bindC_get ndP hp hu (by show scope.names.lookup y ≠ _; rw [k]; decide)] at q
      exact q
  · exact e0.hok.fresh (Nat.le_of_lt (x.above y c (PySem.mem_of_lookup h)))
  · unfold start
    show _ = N.length
    rw [List.length_append, List.length_map, List.length_replicate]
    omega
theorem fn_of {CX : CXT} {P : Program} {w : World} {K : PySem.W.Frag} {mg : Str → Option Value} {base : Heap} {k : Nat} {f : Addr} {name qual : Str} {params : Arguments} {body : List Stmt} {scope : Scope} {dV kV doc pm cdv ct oc : Value} {an od : Option Addr}
    {osl : Array (Option Value)} {N ps : List Str} {sp : Sp} (lk : K.lookup f = some ⟨oc, od, .func (PySem.W.fnOf name qual params body scope dV kV doc pm an cdv ct), osl⟩) (hcd : PySem.W.codeIn K cdv qual = true) (S : FnScope N ps scope)
    (len : ∀ vs H Q E, sp vs H Q E → vs.length = ps.length)
    (hbody : ∀ (A : Around) (outer : List Env) (s : Shared) (H : Hp) (vs : List V) (Q : VK) (E : XK), Room k (A.deeper (envOfC qual scope s.heap.objs.size f cdv)) → sp vs H Q E →
      ∃ t, PSs (cxOf CX P w K mg base N qual scope f cdv A outer s H E) body t ∧ t { nx := fun _ H' => Q .non H', rt := Q } (start N vs) H) :
    FnOk P w K mg base CX (k + 1) f (PySem.W.fnOf name qual params body scope dV kV doc pm an cdv ct) ps sp := by
  refine ⟨len, fun A outer s H args us vs Q E hr e0 hb r hsp => ?_⟩
  have hl := len _ _ _ _ hsp
  have KX : K.In s.heap := e0.mod.kin.keeps fun b o e => (e0.bs b o e).1
  have lim : s.heap.NoLimit := e0.mod.nolimit.keeps fun b o e => (e0.bs b o e).1
  have hkind : ∀ y ∈ ps.zip us, scope.names.lookup y.1 = some .local ∨ (scope.names.lookup y.1 = some .cell ∧ ((cellsFrom (s.heap.objs.size + 1) scope.names []).lookup y.1).isSome = true) := fun ⟨n, v⟩ hy => by
    rcases S.par n (List.of_mem_zip hy).1 with q | q
    · exact .inl q
    · exact .inr ⟨q, PySem.W.cellsFrom_some _ _ _ (.inl q)⟩
  refine codeAny_call_function hr.depth (KX _ _ lk) rfl S.co S.gen rfl (PySem.W.codeRec_of KX hcd) (hb _ _ _ _ ?_)
  refine wpAny_newFunctionEnv_cells S.kind hkind fun env he s1 x => ?_
  subst he
  refine ⟨lim.keeps x.toInCall.keep, codeAny_func ?_⟩
  obtain ⟨t, ht, hq⟩ := hbody A outer s H vs Q E (hr.deeper _) hsp
  have I : Inv (cxOf CX P w K mg base N qual scope f cdv A outer s H E) [] (start N vs) H s1 := inv_start S hr.hd e0 hl r x
  refine wpAny_mono (ht [] s1 (start N vs) H _ I hq) (fun fl s' hs => ?_) fun e s' hs => hs
  have fin : ∀ {σ' : St} {H' : Hp} {v : V} {u : Value}, Inv (cxOf CX P w K mg base N qual scope f cdv A outer s H E) [] σ' H' s' → RelV v u → Q v H' → CE outer P w H s Q u s' :=
    fun {σ' H' v u} J rv q => ⟨v, H', J.os, J.bare, J.base, J.hok, rv, q⟩
  cases fl with
  | ret u =>
    obtain ⟨v, σ', H', J, rv, q⟩ := hs
    exact fin J rv q
  | next =>
    obtain ⟨σ', H', J, q⟩ := hs
    exact fin (v := V.non) (u := Value.none) J rfl q
  | brk =>
    obtain ⟨_, _, _, q⟩ := hs
    exact False.elim q
  | cont =>
    obtain ⟨_, _, _, q⟩ := hs
    exact False.elim q
end L2
namespace L2
open PySem PySem.Spec PyProof.Rows
section
variable {X : Cx} {x : Str} {p pos : Pos} {e : Expr} {es : List Expr} {t : TA} {id T : String} {r : List V → Hp → VK → Prop}
def tCB (r : List V → Hp → VK → Prop) (t : TA) : TE := fun σ H Q => t σ H fun vs H1 => r vs H1 Q
theorem pe_callB (hc : CallR X (.builtin id) r) (hg : Gl X x) (hm : X.mg x = none) (hv : bootBuiltins x = some (.builtin id)) (ha : PA X (e :: es) t) (hn : x ≠ "__name__" := by decide) (hdb : (x == ("__debug__" : Str)) = false := by decide)
    (he : starEach (e :: es) X.env = (false, eval e X.env) :: starEach es X.env := by rfl) (hpl : (backTo pos (starEach es X.env)).any (·.1) = false := by rfl) : PE X (.Call (.Name x p) (e :: es) [] pos) (tCB r t) := by
  intro pins s σ H Q I h
  refine wpAny_Call_Name_kw (ld_blt I hg hm hv ?_ hn hdb)
  exact PyProof.Rows.callWith_builtin1 (thn (ha pos pins s σ H _ I h) fun us s1 ⟨vs, H1, I1, r1, q1⟩ => hc pins s1 σ H1 vs us Q I1 r1 q1) he hpl
theorem pe_callTy (hc : CallR X (.type T) r) (hg : Gl X x) (hm : X.mg x = none) (hv : bootBuiltins x = some (.type T)) (ha : PA X (e :: es) t) (hn : x ≠ "__name__" := by decide) (hdb : (x == ("__debug__" : Str)) = false := by decide)
    (he : starEach (e :: es) X.env = (false, eval e X.env) :: starEach es X.env := by rfl) (hpl : (backTo pos (starEach es X.env)).any (·.1) = false := by rfl) : PE X (.Call (.Name x p) (e :: es) [] pos) (tCB r t) := by
  intro pins s σ H Q I h
  refine wpAny_Call_Name_kw (ld_blt I hg hm hv ?_ hn hdb)
  exact PyProof.Rows.callWith_type1 (thn (ha pos pins s σ H _ I h) fun us s1 ⟨vs, H1, I1, r1, q1⟩ => hc pins s1 σ H1 vs us Q I1 r1 q1) he hpl
end
end L2
namespace HT
open PySem PyProof.Rows
section
open PySem.SeqAt
open PySem.AutoSeq1 (wpAny_loadPart')
open PySem.MeetsSeq PySem.MeetsSeq2 PySem.MeetsSeq3
end
section
variable {prog : Program} {w : World} {A : Around} {E : Value → Shared → Prop} {s : Shared}
def sIx (n d : Nat) : Option Int → Nat
  | none => d
  | some v => if v < 0 then (v + (n : Int)).toNat else min v.toNat n
end
end HT
namespace L2
open PySem PySem.Spec PyProof.Rows
abbrev TO := St → Hp → (Option Int → Hp → Prop) → Prop
def PO (X : Cx) (e : Option Expr) (t : TO) : Prop :=
  ∀ (pins : List (Addr × Obj)) (s : Shared) (σ : St) (H : Hp) (Q : Option Int → Hp → Prop), Inv X pins σ H s → t σ H Q →
    wpAny (model X.prog X.w) X.A (evalPart e X.env) (fun u s' => ∃ o H', Inv X pins σ H' s' ∧ IsPart u o ∧ Q o H') X.xe s
def tPart (t : TE) : TO := fun σ H Q => t σ H fun x H1 => ∃ i, x = .int i ∧ Q (some i) H1
section
variable {X : Cx} {e : Expr} {te : TE} {lo hi : Option Expr} {tl th : TO} {pos p2 : Pos}
theorem po_some (h : PE X e te) : PO X (some e) (tPart te) := by
  intro pins s σ H Q I hw
  rw [evalPart_some]
  refine thn (h pins s σ H _ I hw) fun u s1 ⟨x, H1, I1, r1, q1⟩ => ?_
  obtain ⟨i, rfl, q⟩ := q1
  obtain ⟨t, rfl⟩ := r1
  exact ⟨some i, H1, I1, .int i t, q⟩
def SlR (X : Cx) (r : V → Option Int → Option Int → Hp → VK → Prop) : Prop :=
  ∀ (pins : List (Addr × Obj)) (s : Shared) (σ : St) (H : Hp) (x : V) (v vl vu : Value) (lo hi : Option Int) (sl : Addr) (Q : VK), Inv X pins σ H s → RelV x v → s.heap.IsSliceOf sl vl vu .none → IsPart vl lo → IsPart vu hi → r x lo hi H Q →
    ∃ T id, typeLookup (.type T) "__getitem__" = pure (some (.builtin id)) ∧ s.TypeIs v T ∧ wpAny (model X.prog X.w) X.A (getItem v (.ref sl)) (EP X pins σ Q) X.xe s
theorem SlR.or {r r' : V → Option Int → Option Int → Hp → VK → Prop} (h : SlR X r) (h' : SlR X r') : SlR X (fun x lo hi H Q => r x lo hi H Q ∨ r' x lo hi H Q) := by
  intro pins s σ H x v vl vu lo hi sl Q I rx hs pl pu q
  rcases q with q | q
  · exact h pins s σ H x v vl vu lo hi sl Q I rx hs pl pu q
  · exact h' pins s σ H x v vl vu lo hi sl Q I rx hs pl pu q
def tSl (r : V → Option Int → Option Int → Hp → VK → Prop) (te : TE) (tl th : TO) : TE := fun σ H Q => te σ H fun x H1 => tl σ H1 fun l H2 => th σ H2 fun u H3 => r x l u H3 Q
theorem pe_slice {r : V → Option Int → Option Int → Hp → VK → Prop} (hr : SlR X r) (he : PE X e te) (hl : PO X lo tl) (hu : PO X hi th) : PE X (.Subscript e (.Slice lo hi none p2) pos) (tSl r te tl th) := by
  intro pins s σ H Q I h
  refine Subscript_ (thn (he pins s σ H _ I h) fun v s1 ⟨x, H1, I1, r1, q1⟩ => ?_)
  refine wpAny_Slice (thn (hl pins s1 σ H1 _ I1 q1) fun vl s2 ⟨l, H2, I2, pl, q2⟩ => thn (hu pins s2 σ H2 _ I2 q2) fun vu s3 ⟨u, H3, I3, pu, q3⟩ => ?_)
  rw [evalPart_none]
  refine wpAny_pure ?_
  have I4 : Inv X pins σ H3 { s3 with heap := s3.heap.push { cls := .type "slice", data := .fields #[vl, vu, .none] } } := I3.kept (t' := s3.toks) fun b ob q => Heap.get?_push_of_some _ q
  obtain ⟨T, id, hT, ht, hg⟩ := hr pins { s3 with heap := s3.heap.push { cls := .type "slice", data := .fields #[vl, vu, .none] } } σ H3 x v vl vu l u s3.heap.objs.size Q I4 r1 (Heap.IsSliceOf.new ..) pl pu q3
  show wpAny (model X.prog X.w) X.A (subscriptTail e (.Slice lo hi none p2) v (.ref s3.heap.objs.size)) (EP X pins σ Q) X.xe { s3 with heap := s3.heap.push { cls := .type "slice", data := .fields #[vl, vu, .none] } }
  exact tail_any (ops := [.ref s3.heap.objs.size, v]) ht hT hg (by with_unfolding_all rfl)
def cutV (xs : List V) (lo hi : Option Int) : List V := (xs.drop (HT.sIx xs.length 0 lo)).take (HT.sIx xs.length xs.length hi - HT.sIx xs.length 0 lo)
theorem cutV_length (xs : List V) (lo hi : Option Int) : (cutV xs lo hi).length ≤ xs.length := by
  unfold cutV
  rw [List.length_take, List.length_drop]
  omega
end
end L2
namespace L2
open PySem PySem.Spec PyProof.Rows
def ixN (n : Nat) (i : Int) : Option Nat := if 0 ≤ i then (if i < n then some i.toNat else none) else if -(n : Int) ≤ i then some (i + n).toNat else none
def atI {α : Type} (xs : List α) (i : Int) : Option α := (ixN xs.length i).bind fun j => xs[j]?
theorem ixN_seq {n : Nat} {i : Int} {j : Nat} (h : ixN n i = some j) : seqIndex? i n = some j ∧ j < n ∧ -(n : Int) ≤ i ∧ i < n := by
  unfold ixN at h
  by_cases h0 : 0 ≤ i
  · rw [if_pos h0] at h
    by_cases h1 : i < n
    · rw [if_pos h1] at h
      have e : i.toNat = j := Option.some.inj h
      exact ⟨by rw [seqIndex_of h0 h1, e], by omega, by omega, h1⟩
    · rw [if_neg h1] at h; cases h
  · rw [if_neg h0] at h
    by_cases h1 : -(n : Int) ≤ i
    · rw [if_pos h1] at h
      have e : (i + n).toNat = j := Option.some.inj h
      exact ⟨by rw [seqIndex_neg (by omega) h1, e], by omega, h1, by omega⟩
    · rw [if_neg h1] at h; cases h
theorem atI_get {α : Type} {xs : List α} {i : Int} {v : α} (h : atI xs i = some v) : ∃ j, seqIndex? i xs.length = some j ∧ xs[j]? = some v ∧ j < xs.length ∧ -(xs.length : Int) ≤ i ∧ i < xs.length := by
  unfold atI at h
  cases e : ixN xs.length i with
  | none => rw [e] at h; cases h
  | some j =>
    rw [e] at h
    obtain ⟨h1, h2, h3, h4⟩ := ixN_seq e
    exact ⟨j, h1, h, h2, h3, h4⟩
theorem atI_nat {α : Type} {xs : List α} {j : Nat} {v : α} (h : xs[j]? = some v) : atI xs (j : Int) = some v := by
  have hj : j < xs.length := (List.getElem?_eq_some_iff.mp h).1
  have e : ixN xs.length (j : Int) = some j := by
    unfold ixN
    rw [if_pos (by omega), if_pos (by omega)]; simp
  unfold atI; rw [e]; exact h
def PlainIx (b : Expr) : Prop := ∀ o i, subscripted b false o i = operate [o, i] (getItem o i)
def IxR (X : Cx) (r : R2) : Prop :=
  ∀ (value slice : Expr) (pins : List (Addr × Obj)) (s : Shared) (σ : St) (H : Hp) (x y : V) (v u : Value) (Q : VK), Inv X pins σ H s → RelV x v → RelV y u → r x y H Q →
    subscripted slice false v u = operate [v, u] (getItem v u) → wpAny (model X.prog X.w) X.A (subscriptTail value slice v u) (EP X pins σ Q) X.xe s
def MtR (X : Cx) (id : String) (r : V → List V → Hp → VK → Prop) : Prop :=
  ∀ (pins : List (Addr × Obj)) (s : Shared) (σ : St) (H : Hp) (x : V) (xs : List V) (v : Value) (us : List Value) (Q : VK), Inv X pins σ H s → RelV x v → Vals xs us → r x xs H Q →
    wpAny (model X.prog X.w) X.A (call (.builtin id) (v :: us)) (EP X pins σ Q) X.xe s
section
variable {X : Cx} {a b : Expr} {ta tb : TE} {pos : Pos}
theorem IxR.or {r r' : R2} (h : IxR X r) (h' : IxR X r') : IxR X (fun x y H Q => r x y H Q ∨ r' x y H Q) := by
  intro value slice pins s σ H x y v u Q I rx ry q hs
  rcases q with q | q
  · exact h value slice pins s σ H x y v u Q I rx ry q hs
  · exact h' value slice pins s σ H x y v u Q I rx ry q hs
theorem MtR.or {id : String} {r r' : V → List V → Hp → VK → Prop} (h : MtR X id r) (h' : MtR X id r') : MtR X id (fun x xs H Q => r x xs H Q ∨ r' x xs H Q) := by
  intro pins s σ H x xs v us Q I rx rs q
  rcases q with q | q
  · exact h pins s σ H x xs v us Q I rx rs q
  · exact h' pins s σ H x xs v us Q I rx rs q
theorem pe_ix {r : R2} (hr : IxR X r) (ha : PE X a ta) (hb : PE X b tb) (hs : PlainIx b) : PE X (.Subscript a b pos) (tOp r ta tb) := by
  intro pins s σ H Q I h
  exact Subscript_ (binT ha hb I h fun v u s2 x y H2 I2 rx ry q => hr a b pins s2 σ H2 x y v u Q I2 rx ry q (hs _ _))
def rIxL (K : PySem.W.Frag) : R2 := fun x y H Q => ∃ p xs i v, x = .ref p ∧ y = .int i ∧ SqL K H p xs ∧ atI xs i = some v ∧ Q v H
def rIxT (K : PySem.W.Frag) : R2 := fun x y H Q => ∃ p xs i v, x = .ref p ∧ y = .int i ∧ SqT K H p xs ∧ atI xs i = some v ∧ Q v H
theorem ix_list : IxR X (rIxL X.K) := by
  intro value slice pins s σ H x y v u Q I rx ry h hs
  obtain ⟨p, xs, i, z, rfl, rfl, hq, he, q⟩ := h
  cases rx
  obtain ⟨t, rfl⟩ := ry
  obtain ⟨its, r, pl, hz⟩ := I.list hq
  obtain ⟨j, h1, h2, h3, h4, h5⟩ := atI_get he
  obtain ⟨w, ew, rw'⟩ := r.get h2
  have hl := r.length
  have hn := line63
  have fin : EP X pins σ Q w s := ⟨z, H, I, rw', q⟩
  by_cases h0 : 0 ≤ i
  · have hj : i.toNat = j := by
      rw [seqIndex_of h0 h5] at h1
      exact Option.some.inj h1
    exact item_listR pl.isList h0 (by omega) (by rw [hj]; simpa using ew) fin hs
  · have hj : (i + (its.toArray.size : Int)).toNat = j := by
      rw [seqIndex_neg (by omega) h4] at h1
      rw [List.size_toArray, ← hl]
      exact Option.some.inj h1
    exact subscriptTail_builtinR (x := w) pl.isList.typeIs slot_list_getitem.lookup
      (wpAny_getItem_list_neg (Q := fun r s' => r = w ∧ EP X pins σ Q r s') pl.isList (by omega) (by rw [List.size_toArray] <;> omega) (by omega) (by rw [hj]; simpa using ew) ⟨rfl, fin⟩) hs
theorem ix_tup : IxR X (rIxT X.K) := by
  intro value slice pins s σ H x y v u Q I rx ry h hs
  obtain ⟨p, xs, i, z, rfl, rfl, hq, he, q⟩ := h
  cases rx
  obtain ⟨t, rfl⟩ := ry
  obtain ⟨its, r, pl, hz⟩ := I.tuple hq
  obtain ⟨j, h1, h2, h3, h4, h5⟩ := atI_get he
  obtain ⟨w, ew, rw'⟩ := r.get h2
  have hl := r.length
  have hn := line63
  have fin : EP X pins σ Q w s := ⟨z, H, I, rw', q⟩
  exact subscriptTail_builtinR (x := w) pl.typeIs slot_tuple_getitem.lookup
    (getItem_tuple (j := j) (Q := fun r s' => r = w ∧ EP X pins σ Q r s') pl (by omega) (by omega) (by rw [List.size_toArray, ← hl]; exact h1) (by simpa using ew) ⟨rfl, fin⟩) hs
theorem mapSeq_set (its : List Value) (n j : Nat) (u : Value) : Obj.mapSeq (·.setIfInBounds j u) { cls := .type "list", data := .seq its.toArray n } = { cls := .type "list", data := .seq (its.set j u).toArray n } := by
  simp [Obj.mapSeq]
theorem Inv.lst {pins : List (Addr × Obj)} {σ : St} {H : Hp} {s : Shared} {p : Addr} {xs : List V} (I : Inv X pins σ H s) (h : H p = some (.lst xs)) :
    ∃ (its : List Value) (n : Nat), Vals xs its ∧ s.heap.get? p = some { cls := .type "list", data := .seq its.toArray n } ∧ xs.length ≤ sizeLine := by
  obtain ⟨z, its, n, r, e⟩ := I.hok p _ h
  exact ⟨its, n, r, e, z⟩
theorem Inv.lstUpd {pins : List (Addr × Obj)} {σ : St} {H : Hp} {s : Shared} {p : Addr} {xs ys : List V} {its its' : List Value} {n n' : Nat} {f : Obj → Obj} (I : Inv X pins σ H s) (h : H p = some (.lst xs))
    (ho : s.heap.get? p = some { cls := .type "list", data := .seq its.toArray n }) (hf : f { cls := .type "list", data := .seq its.toArray n } = { cls := .type "list", data := .seq its'.toArray n' }) (r : Vals ys its') (hz : ys.length ≤ sizeLine) (t : Nat) :
    Inv X pins σ (upd H p (.lst ys)) { s with heap := s.heap.update p f, toks := t } := by
  have e : (s.heap.update p f).get? p = some { cls := .type "list", data := .seq its'.toArray n' } := by
    rw [Heap.get?_update_self f ho (by rw [hf] <;> rfl), hf]
  refine I.write (x := p) (e := p) (by rw [h]; trivial) (.inl rfl) (fun b u hb q => (Heap.get?_update_other _ _ (Ne.symm hb)).trans q) ⟨_, e⟩ ?_
  exact ⟨hz, its', n', r, e⟩
def rSetL : V → V → V → Hp → (Hp → Prop) → Prop := fun o i v H Q => ∃ p xs k j, o = .ref p ∧ i = .int k ∧ H p = some (.lst xs) ∧ ixN xs.length k = some j ∧ Q (upd H p (.lst (xs.set j v)))
theorem set_list : PSet X rSetL := by
  intro pins s σ H o i v ov iv u Q I ro ri rv h
  obtain ⟨p, xs, k, j, rfl, rfl, hp, hj, q⟩ := h
  cases ro
  obtain ⟨t, rfl⟩ := ri
  obtain ⟨its, n, r, ho, hz⟩ := I.lst hp
  obtain ⟨h1, h2, h3, h4⟩ := ixN_seq hj
  have hl := r.length
  have hn := line63
  have I' : Inv X pins σ (upd H p (.lst (xs.set j v))) { s with heap := s.heap.update p (Obj.mapSeq (·.setIfInBounds j u)) } :=
    I.lstUpd hp ho (mapSeq_set its n j u) (r.set rv j) (by rw [List.length_set]; exact hz) s.toks
  by_cases h0 : 0 ≤ k
  · have hk : k.toNat = j := by
      rw [seqIndex_of h0 h4] at h1
      exact Option.some.inj h1
    exact PySem.W.ki_setAt ho h0 (by omega) (by rw [List.size_toArray, ← hl]; exact h4) (by rw [hk]; exact ⟨_, I', q⟩)
  · have hk : (k + (its.toArray.size : Int)).toNat = j := by
      rw [seqIndex_neg (by omega) h3] at h1
      rw [List.size_toArray, ← hl]
      exact Option.some.inj h1
    exact PySem.W.ki_setBack ho (by omega) (by rw [List.size_toArray, ← hl]; exact h3) (by omega) (by rw [hk]; exact ⟨_, I', q⟩)
theorem slice_bounds (lo hi : Option Int) (n : Nat) : (sliceBounds lo hi none n).1 = ((HT.sIx n 0 lo : Nat) : Int) ∧ (sliceBounds lo hi none n).2.1 = ((HT.sIx n n hi : Nat) : Int) ∧ (sliceBounds lo hi none n).2.2 = 1 := by
  refine ⟨?_, ?_, rfl⟩
  · cases lo with
    | none => simp [sliceBounds, HT.sIx]
    | some i =>
      simp only [sliceBounds, HT.sIx, Option.getD_none, show (1 : Int) > 0 by decide, if_true]
      by_cases h : i < 0
      · simp only [h, if_true] <;> omega
      · simp only [h, if_false] <;> omega
  · cases hi with
    | none => simp [sliceBounds, HT.sIx]
    | some i =>
      simp only [sliceBounds, HT.sIx, Option.getD_none, show (1 : Int) > 0 by decide, if_true]
      by_cases h : i < 0
      · simp only [h, if_true] <;> omega
      · simp only [h, if_false] <;> omega
theorem slicePick_cut (its : List Value) (lo hi : Option Int) : slicePick its.toArray lo hi none = ((its.drop (HT.sIx its.length 0 lo)).take (HT.sIx its.length its.length hi - HT.sIx its.length 0 lo)).toArray := by
  obtain ⟨h1, h2, h3⟩ := slice_bounds lo hi its.toArray.size
  unfold slicePick
  rw [h1, h2, h3]
  simp only [sliceRange_one, pick_run, List.size_toArray] <;> rfl
def rSlL (K : PySem.W.Frag) : V → Option Int → Option Int → Hp → VK → Prop := fun x lo hi H Q => ∃ a xs, x = .ref a ∧ SqL K H a xs ∧ ∀ p, H p = none → Q (.ref p) (upd H p (.lst (cutV xs lo hi)))
theorem sl_list : SlR X (rSlL X.K) := by
  intro pins s σ H x v vl vu lo hi sl Q I rx hs pl pu h
  obtain ⟨a, xs, rfl, hx, q⟩ := h
  cases rx
  obtain ⟨its, r, ht, hz⟩ := I.list hx
  have hlen := r.length
  refine ⟨"list", _, slot_list_getitem.lookup, ht.isList.typeIs, ?_⟩
  refine wpAny_getItem_list_slice ht.isList hs pl pu .none (by simp) ?_ (by rw [List.size_toArray] <;> omega)
  rw [slicePick_cut, ← hlen]
  refine ⟨.ref s.heap.objs.size, _, I.laid (t' := s.toks) (o := .lst (cutV xs lo hi)) (fun b ob q => Heap.get?_push_of_some _ q) (Nat.le_refl _) ?_, rfl, q _ (I.hok.fresh (Nat.le_refl _))⟩
  exact ⟨Nat.le_trans (cutV_length xs lo hi) hz, _, 0, (r.drop (HT.sIx xs.length 0 lo)).take (HT.sIx xs.length xs.length hi - HT.sIx xs.length 0 lo), Heap.get?_push_size _ rfl⟩
def flatV : V → Bool
  | .non => true
  | .bl _ => true
  | .int _ => true
  | .str _ => true
  | _ => false
theorem CallR.or {f : Value} {r r' : List V → Hp → VK → Prop} (h : CallR X f r) (h' : CallR X f r') : CallR X f (fun xs H Q => r xs H Q ∨ r' xs H Q) := by
  intro pins s σ H xs us Q I rs q
  rcases q with q | q
  · exact h pins s σ H xs us Q I rs q
  · exact h' pins s σ H xs us Q I rs q
theorem call_list_of : CallR X (.type "list") (fun xs H Q => ∃ p ys, xs = [.ref p] ∧ (SqL X.K H p ys ∨ SqT X.K H p ys) ∧ ∀ l, H l = none → Q (.ref l) (upd H l (.lst ys))) := by
  intro pins s σ H xs us Q I r h
  obtain ⟨p, ys, rfl, hq, q⟩ := h
  obtain ⟨u, rfl, rx⟩ := vals1 r
  cases rx
  have fin : ∀ (its : List Value), Vals ys its → ys.length ≤ sizeLine → ∀ (h' : Heap) (c' : Nat), (∀ b o', s.heap.get? b = some o' → h'.get? b = some o') →
      h'.get? s.heap.objs.size = some { cls := .type "list", dict := none, data := .seq its.toArray c', slots := #[] } → EP X pins σ Q (.ref s.heap.objs.size) { s with heap := h' } := fun its r' hz h' c' kp e =>
    ⟨.ref s.heap.objs.size, _, I.laid (t' := s.toks) kp (Nat.le_refl _) (show ObjOk X.prog X.w _ h' _ (.lst ys) from ⟨hz, its, c', r', e⟩), rfl, q _ (I.hok.fresh (Nat.le_refl _))⟩
  rcases hq with hq | hq
  · obtain ⟨its, r', pl, hz⟩ := I.list hq
    have hlen := r'.length
    obtain ⟨o, ho, hc, n, hd⟩ := pl.isList
    exact call_list_seq p (.inl rfl) ho hc hd (fun h' c' kp e => fin its r' hz h' c' kp e) (by simp only [List.size_toArray] <;> omega)
  · obtain ⟨its, r', pl, hz⟩ := I.tuple hq
    have hlen := r'.length
    obtain ⟨o, ho, hc, n, hd⟩ := pl
    exact call_list_seq p (.inr rfl) ho hc hd (fun h' c' kp e => fin its r' hz h' c' kp e) (by simp only [List.size_toArray] <;> omega)
def tyV (K : PySem.W.Frag) (T : String) (x : V) (H : Hp) : Prop := match x with
  | .str _ => T = "str"
  | .int _ => T = "int"
  | .ref p => (T = "list" ∧ ∃ xs, SqL K H p xs) ∨ (T = "tuple" ∧ ∃ o, K.lookup p = some o ∧ o.cls = .type "tuple" ∧ o.dict = none) ∨
      (T = "dict" ∧ ((∃ kvs, H p = some (.dK kvs)) ∨ ∃ kvs, H p = some (.dT kvs))) ∨ (T = "set" ∧ ∃ S n, H p = some (.set S n))
  | _ => False
theorem tyV_is {pins : List (Addr × Obj)} {σ : St} {H : Hp} {s : Shared} {T : String} {x : V} {v : Value} (I : Inv X pins σ H s) (r : RelV x v) (ty : tyV X.K T x H) :
    s.TypeIs v T ∧ ∀ a, v = .ref a → ∃ ob, s.heap.get? a = some ob ∧ ob.dict = none := by
  cases x with
  | str z =>
    obtain ⟨t, rfl⟩ := r
    cases (show T = "str" from ty)
    exact ⟨typeIs_str s z t, fun _ e => nomatch e⟩
  | int i =>
    obtain ⟨t, rfl⟩ := r
    cases (show T = "int" from ty)
    exact ⟨typeIs_int s i t, fun _ e => nomatch e⟩
  | ref p =>
    cases r
    rcases ty with ⟨rfl, xs, hq⟩ | ⟨rfl, o, hk, hc, hd⟩ | ⟨rfl, hk⟩ | ⟨rfl, S, n, hk⟩
    · obtain ⟨its, _, pl, _⟩ := I.list hq
      refine ⟨pl.isList.typeIs, fun a e => ?_⟩
      cases e
      obtain ⟨o, n, e, c, hd, _⟩ := pl
      exact ⟨o, e, hd⟩
    · refine ⟨⟨o, I.kIn p o hk, hc⟩, fun a e => ?_⟩
      cases e
      exact ⟨o, I.kIn _ o hk, hd⟩
    · have z : ∃ o, s.heap.get? p = some o ∧ o.ExactDict := by
        rcases hk with ⟨kvs, hk⟩ | ⟨kvs, hk⟩
        · obtain ⟨_, _, _, _, o, _, _, e, ex, _⟩ := I.hok p _ hk
          exact ⟨o, e, ex⟩
        · obtain ⟨_, _, _, _, o, _, _, e, ex, _⟩ := I.hok p _ hk
          exact ⟨o, e, ex⟩
      obtain ⟨o, e, ex⟩ := z
      refine ⟨⟨o, e, ex.1⟩, fun a e2 => ?_⟩
      cases e2
      exact ⟨o, e, ex.2.1⟩
    · obtain ⟨o, _, _, _, e, ex, _⟩ := I.hok p _ hk
      refine ⟨⟨o, e, ex.1⟩, fun a e2 => ?_⟩
      cases e2
      exact ⟨o, e, ex.2.1⟩
  | _ => exact False.elim ty
def tBM (K : PySem.W.Frag) (T : String) (r : V → List V → Hp → VK → Prop) (to : TE) (t : TA) : TE := fun σ H Q => to σ H fun x H1 => tyV K T x H1 ∧ t σ H1 fun xs H2 => r x xs H2 Q
variable {o e : Expr} {es : List Expr} {to : TE} {t : TA} {name : Str} {apos cpos : Pos} {T id : String} {r : V → List V → Hp → VK → Prop}
theorem pe_bm (pa : PlainAttrs T) (slot : Slot T name id) (hty : typeOf (.builtin id) = pure (.type "method_descriptor")) (hm : MtR X id r) (ho : PE X o to) (ha : PA X (e :: es) t)
    (hbase : attributeBase o name X.env (eval o X.env) = eval o X.env := by rfl)
    (hfew : ((backTo cpos (starEach (e :: es) X.env)).all (fun x => !x.1) && (backToKw cpos (keywordEach [] X.env)).all (fun x => x.1.isSome)
      && decide ((e :: es).length + ([] : List Keyword).length + (if ([] : List Keyword).isEmpty then 0 else 1) < 30)) = true := by rfl)
    (hline : (apos.endLine == cpos.line) = true := by rfl) (hs : starEach (e :: es) X.env = (false, eval e X.env) :: starEach es X.env := by rfl) (hplain : (backTo cpos (starEach es X.env)).any (·.1) = false := by rfl) :
    PE X (.Call (.Attribute o name apos) (e :: es) [] cpos) (tBM X.K T r to t) := by
  intro pins s σ H Q I h
  refine wpAny_Call_method_late hbase hfew hline rfl (thn (ho pins s σ H _ I h) fun v s1 ⟨x, H1, I1, r1, ty, q1⟩ => ?_)
  obtain ⟨h1, h2⟩ := tyV_is I1 r1 ty
  refine ⟨T, id, pa, slot, hty, h1, h2, ?_⟩
  have hA := ha cpos pins s1 σ H1 _ I1 q1
  rw [hs] at hA ⊢
  refine Calls.callWith_builtin (by show (false || (backTo cpos (starEach es X.env)).any (·.1)) = false; rw [hplain] <;> rfl) (Calls.evalArgs_plain ?_)
  exact thn hA fun us s2 ⟨vs, H2, I2, r2, q2⟩ => hm pins s2 σ H2 x vs v us Q I2 r1 r2 q2
end
end L2
namespace L2
open PySem PySem.Spec PyProof.Rows
def MtM (X : Cx) (id : String) (r : V → List V → Hp → VK → Prop) : Prop :=
  ∀ (pins : List (Addr × Obj)) (s : Shared) (σ : St) (H : Hp) (x : V) (xs : List V) (v : Value) (us : List Value) (Q : VK), Inv X pins σ H s → RelV x v → Vals xs us → r x xs H Q →
    wpAny (model X.prog X.w) X.A (call (.builtin id) (v :: us)) (EP X pins σ Q) X.xe s
theorem Vals.one : ∀ {x : V} {us : List Value}, Vals [x] us → ∃ u, us = [u] ∧ RelV x u
  | _, _, .cons r .nil => ⟨_, rfl, r⟩
theorem Vals.two : ∀ {x y : V} {us : List Value}, Vals [x, y] us → ∃ u v, us = [u, v] ∧ RelV x u ∧ RelV y v
  | _, _, _, .cons r (.cons q .nil) => ⟨_, _, rfl, r, q⟩
theorem Vals.rep {xs : List V} {us : List Value} (h : Vals xs us) : ∀ k : Nat, Vals (List.replicate k xs).flatten (List.replicate k us).flatten
  | 0 => .nil
  | k + 1 => by
    rw [List.replicate_succ, List.replicate_succ, List.flatten_cons, List.flatten_cons]
    exact Vals.append h (Vals.rep h k)
theorem foldl_rep (its : List Value) : ∀ (k : Nat) (acc : List Value),
    List.foldl (fun x1 x2 => x1 ++ x2) acc.toArray (List.replicate k its.toArray) = (acc ++ (List.replicate k its).flatten).toArray
  | 0, acc => by simp
  | k + 1, acc => by
    have e : acc.toArray ++ its.toArray = (acc ++ its).toArray := by simp
    have e2 : (acc ++ its) ++ (List.replicate k its).flatten = acc ++ (List.replicate (k + 1) its).flatten := by
      rw [List.replicate_succ, List.flatten_cons, List.append_assoc]
    rw [← e2, ← foldl_rep its k (acc ++ its), ← e, List.replicate_succ, List.foldl_cons]
section
variable {X : Cx} {pins : List (Addr × Obj)} {σ : St} {H : Hp} {s : Shared} {l b : Addr} {xs ys zs : List V}
theorem Inv.lset {its its' : List Value} {n : Nat} {f : Array Value → Array Value} {t' : Nat} (I : Inv X pins σ H s) (hH : H l = some (.lst xs))
    (e : s.heap.get? l = some { cls := .type "list", data := .seq its.toArray n }) (hf : f its.toArray = its'.toArray) (hv : Vals ys its') (hz : ys.length ≤ sizeLine) :
    Inv X pins σ (upd H l (.lst ys)) { s with heap := s.heap.update l (Obj.mapSeq f), toks := t' } := by
  have q := PySem.IsL.update e f
  rw [hf] at q
  refine I.write (x := l) (e := l) (by rw [hH]; exact trivial) (.inl rfl) (fun b' u hb hu => (Heap.get?_update_other s.heap (Obj.mapSeq f) (Ne.symm hb)).trans hu) ⟨_, q⟩ ?_
  exact ⟨hz, its', _, hv, q⟩
theorem Inv.lnew {its : List Value} {t' : Nat} (I : Inv X pins σ H s) (hv : Vals ys its) (hz : ys.length ≤ sizeLine) :
    Inv X pins σ (upd H s.heap.objs.size (.lst ys)) { s with heap := s.heap.push { cls := .type "list", data := .seq its.toArray }, toks := t' } :=
  I.laid (fun _ _ q => Heap.get?_push_of_some _ q) (Nat.le_refl _) ⟨hz, its, 0, hv, Heap.get?_push_size _ rfl⟩
theorem Inv.fresh (I : Inv X pins σ H s) : H s.heap.objs.size = none := I.hok.fresh (Nat.le_refl _)
theorem Inv.lstM (I : Inv X pins σ H s) (hH : H l = some (.lst xs)) : xs.length ≤ sizeLine ∧ ∃ (its : List Value) (n : Nat), Vals xs its ∧ xs.length = its.length ∧ s.heap.get? l = some { cls := .type "list", data := .seq its.toArray n } := by
  obtain ⟨z, its, n, r, e⟩ := I.hok l _ hH
  exact ⟨z, its, n, r, r.length, e⟩
theorem notLongL {n : Nat} (h : n ≤ sizeLine) : Builtin.List.listTooLong n = false := by
  unfold Builtin.List.listTooLong
  exact decide_eq_false (by omega)
end
section
variable {X : Cx}
def rAppend : V → List V → Hp → VK → Prop := fun x vs H Q => ∃ l xs y, x = .ref l ∧ vs = [y] ∧ H l = some (.lst xs) ∧ xs.length < sizeLine ∧ Q .non (upd H l (.lst (xs ++ [y])))
theorem mt_append : MtM X "list.append" rAppend := by
  intro pins s σ H x vs v us Q I rx rv h
  obtain ⟨l, xs, y, rfl, rfl, hH, hz, q⟩ := h
  cases rx
  obtain ⟨u, rfl, ru⟩ := rv.one
  obtain ⟨z, its, n, r, hl, e⟩ := I.lstM hH
  refine call_meets F.slot_list_append ⟨_, e, rfl⟩ F.entry_list_append (F.args_list_append_2 _ _) (PySem.list_append l its.toArray n u (by rw [List.size_toArray]; omega)) ⟨e, ?_⟩
  refine ⟨.non, _, I.lset (its' := its ++ [u]) hH e (by simp) (r.append (.cons ru .nil)) ?_, rfl, q⟩
  rw [List.length_append, List.length_singleton]
  omega
def rRep : R2 := fun x y H Q => ∃ l k xs, x = .ref l ∧ y = .int k ∧ H l = some (.lst xs) ∧ -(2 ^ 63) ≤ k ∧ k < 2 ^ 63 ∧ xs.length * k.toNat ≤ sizeLine ∧
  ∀ p, H p = none → Q (.ref p) (upd H p (.lst (List.replicate k.toNat xs).flatten))
theorem len_rep {α : Type} (xs : List α) (k : Nat) : (List.replicate k xs).flatten.length = k * xs.length := by
  induction k with
  | zero => simp
  | succ k ih => rw [List.replicate_succ, List.flatten_cons, List.length_append, ih, Nat.succ_mul, Nat.add_comm]
theorem op_rep : OpR X (binaryOp .Mult) rRep := by
  intro pins s σ H x y v u Q I rx ry h
  obtain ⟨l, k, xs, rfl, rfl, hH, h1, h2, hz, q⟩ := h
  cases rx
  obtain ⟨t, rfl⟩ := ry
  obtain ⟨z, its, n, r, hl, e⟩ := I.lstM hH
  have hlen : its.toArray.size * k.toNat ≤ sizeLine := by rw [List.size_toArray, ← hl]; exact hz
  have hcap : ¬ its.toArray.size * k.toNat > (2 ^ 63 - 1) / 8 := by
    have : (sizeLine : Nat) ≤ (2 ^ 63 - 1) / 8 := by decide
    omega
  have hfit : ¬ (!Builtin.List.listFitsIndex k) = true := by
    rw [fitsIndex_both h1 h2]
    exact Bool.false_ne_true
  have hlong : ¬ Builtin.List.listTooLong (its.toArray.size * k.toNat) = true := by
    rw [notLongL hlen]
    exact Bool.false_ne_true
  have hnew : List.foldl (fun x1 x2 => x1 ++ x2) #[] (List.replicate (if its.toArray.isEmpty = true then 0 else k.toNat) its.toArray) = (List.replicate k.toNat its).flatten.toArray := by
    have f0 : ∀ m : Nat, List.foldl (fun x1 x2 => x1 ++ x2) #[] (List.replicate m its.toArray) = (List.replicate m its).flatten.toArray := fun m => by
      have := foldl_rep its m []
      rw [List.nil_append] at this
      exact this
    rw [f0]
    cases its with
    | nil => simp
    | cons a r' => rw [if_neg (by simp)]
  refine wpAny_binaryOp_repeat_ref (T := "list") (U := "int") (by decide) ⟨_, e, rfl⟩ (fun s' => typeIs_int s' k t) noFill_list_mul F.fills_int_mul F.slot_int_rmul repeat_list F.slot_int_index.lookup
    (call_meets F.slot_int_rmul (typeIs_int s k t) F.entry_int_rmul (F.args_int_rmul_2 _ _) (int___rmul___int_list k t l its.toArray n)
      ⟨e, rfl, ⟨_, e, rfl⟩, call_meets F.slot_list_mul ⟨_, e, rfl⟩ F.entry_list_mul (F.args_list_mul_2 _ _) (AutoListH.list___mul___list_int_3 l its.toArray n k t hfit hcap hlong) ⟨e, ?_⟩⟩)
  rw [hnew]
  exact ⟨.ref _, _, I.lnew (t' := s.toks) (r.rep k.toNat) (by rw [len_rep, Nat.mul_comm]; exact hz), rfl, q _ I.fresh⟩
end
section
variable {prog : Program} {w : World} {A : Around} {E : Value → Shared → Prop} {s : Shared}
end
section
variable {X : Cx}
end
end L2
namespace L2
open PySem PySem.Spec PyProof.Rows
section
variable {κ : Type} [DecidableEq κ]
def valV (kvs : List (κ × V)) (k : κ) : Option V := (kvs.find? fun kv => decide (kv.1 = k)).map (·.2)
def putK (kvs : List (κ × V)) (k : κ) (v : V) : List (κ × V) :=
  if (kvs.any fun kv => decide (kv.1 = k)) = true then kvs.map (fun kv => if kv.1 = k then (kv.1, v) else kv) else kvs ++ [(k, v)]
def dropK (kvs : List (κ × V)) (k : κ) : List (κ × V) := kvs.filter fun kv => decide (kv.1 ≠ k)
theorem valV_pos {p : κ × V} {r : List (κ × V)} {k : κ} (e : p.1 = k) : valV (p :: r) k = some p.2 := by simp [valV, List.find?_cons, e]
theorem valV_neg {p : κ × V} {r : List (κ × V)} {k : κ} (e : ¬ p.1 = k) : valV (p :: r) k = valV r k := by simp [valV, List.find?_cons, e]
theorem KV.any {kvs : List (κ × V)} {vs : List (κ × Value)} (r : KV kvs vs) (k : κ) : (kvs.any fun kv => decide (kv.1 = k)) = vs.any fun kv => decide (kv.1 = k) := by
  unfold KV at r
  induction r with
  | nil => rfl
  | cons h t ih => rw [List.any_cons, List.any_cons, ih, h.1]
theorem KV.drop {kvs : List (κ × V)} {vs : List (κ × Value)} (r : KV kvs vs) (k : κ) : KV (dropK kvs k) (without vs k) := by
  unfold KV at r ⊢
  unfold dropK without
  induction r with
  | nil => exact .nil
  | @cons p q ps qs h t ih =>
    obtain ⟨h1, h2⟩ := h
    rw [List.filter_cons, List.filter_cons]
    by_cases e : p.1 = k
    · have a : ¬ decide (p.1 ≠ k) = true := by simp [e]
      have b : ¬ decide (q.1 ≠ k) = true := by simp [h1.symm.trans e]
      rw [if_neg a, if_neg b]; exact ih
    · have e' : ¬ q.1 = k := fun z => e (h1.trans z)
      have a : decide (p.1 ≠ k) = true := by simp [e]
      have b : decide (q.1 ≠ k) = true := by simp [e']
      rw [if_pos a, if_pos b]; exact .cons ⟨h1, h2⟩ ih
theorem KV.length {kvs : List (κ × V)} {vs : List (κ × Value)} (r : KV kvs vs) : kvs.length = vs.length := Paired.length r
theorem dropK_le (kvs : List (κ × V)) (k : κ) : (dropK kvs k).length ≤ kvs.length := List.length_filter_le _ _
end
theorem kV_is {P : Program} {w : World} {k : Key} {u : Value} (r : RelV (kV k) u) : (mixKind P w).is k u = true := by
  cases k with
  | inl i => obtain ⟨t, e⟩ := (show ∃ t, u = Value.int i t from r); subst e; exact mixKind_int P w i t
  | inr x => obtain ⟨t, e⟩ := (show ∃ t, u = Value.str x t from r); subst e; exact mixKind_str P w x t
theorem items_are {P : Program} {w : World} : ∀ {ks : List Key} {us : List Value}, Vals (ks.map kV) us → ItemsAre (mixKind P w) ks us
  | [], _, r => by rw [List.map_nil] at r; cases r; exact .nil
  | k :: ks, _, r => by
    rw [List.map_cons] at r
    cases r with
    | cons h t => exact .cons (kV_is h) (items_are t)
abbrev KT (H : Hp) : List (List Key × V) → List (List Key × Addr × Value) → Prop := Paired fun p q => p.1 = q.1 ∧ H q.2.1 = some (.tup (p.1.map kV)) ∧ RelV p.2 q.2.2
theorem KT.keeps {H H' : Hp} {kvs : List (List Key × V)} {xs : List (List Key × Addr × Value)} (r : KT H kvs xs) (ht : ∀ b ys, H b = some (.tup ys) → H' b = some (.tup ys)) : KT H' kvs xs :=
  Paired.mapP r fun _ _ z => ⟨z.1, ht _ _ z.2.1, z.2.2⟩
section
variable {P : Program} {w : World} {H : Hp} {h : Heap} {a : Addr}
theorem rd_of {u : HO} (ok : HOk P w H h) (e : Rd H a u) : ObjOk P w H h a u := e.ok ok
theorem dk_rd {kvs : List (Key × V)} (ok : HOk P w H h) (e : Rd H a (.dK kvs)) : kvs.length ≤ sizeLine ∧ (a == sysModules) = false ∧ ∃ vs, KV kvs vs ∧ h.DictOf (mixKind P w) a vs :=
  show ObjOk P w H h a (.dK kvs) from rd_of ok e
theorem key_of {ks : List Key} (ok : HOk P w H h) (e : H a = some (.tup (ks.map kV))) : (tupleKind (mixKind P w)).is h ks a := by
  obtain ⟨_, its, r, o, h1, h2, n, h3⟩ := (show ObjOk P w H h a (.tup (ks.map kV)) from ok a _ e)
  exact ⟨o, its.toArray, n, h1, h2, h3, by simpa using items_are r⟩
theorem dt_rd {kvs : List (List Key × V)} (ok : HOk P w H h) (e : Rd H a (.dT kvs)) : kvs.length ≤ sizeLine ∧ (a == sysModules) = false ∧
    ∃ xs, KT H kvs xs ∧ h.DictOfH (tupleKind (mixKind P w)) a xs := by
  obtain ⟨z, y, xs, r, o, es, ep, h1, h2, h3, h4, h5⟩ := (show ObjOk P w H h a (.dT kvs) from rd_of ok e)
  refine ⟨z, y, xs, r, o, es, ep, h1, h2, h3, h4, fun x hx => ?_, h5⟩
  have all : ∀ {l : List (List Key × V)} {m : List (List Key × Addr × Value)}, KT H l m → ∀ x ∈ m, (tupleKind (mixKind P w)).is h x.1 x.2.1 := by
    intro l m q
    induction q with
    | nil => intro x hx; exact nomatch hx
    | @cons p q ps qs hq t ih =>
      intro x hx
      rcases List.mem_cons.mp hx with e | hx
      · subst e
        exact key_of ok (by rw [← hq.1]; exact hq.2.1)
      · exact ih x hx
  exact all r x hx
theorem dt_of {kvs : List (List Key × V)} (ok : HOk P w H h) (e : H a = some (.dT kvs)) : kvs.length ≤ sizeLine ∧ (a == sysModules) = false ∧
    ∃ xs, KT H kvs xs ∧ h.DictOfH (tupleKind (mixKind P w)) a xs := dt_rd ok (.inl e)
end
def DGet (H : Hp) (a : Addr) (y : V) (r : Option V) : Prop :=
  (∃ kvs k, Rd H a (.dK kvs) ∧ y = kV k ∧ r = valV kvs k) ∨ ∃ kvs k b, Rd H a (.dT kvs) ∧ y = .ref b ∧ H b = some (.tup (k.map kV)) ∧ r = valV kvs k
def DPut (H : Hp) (a : Addr) (y v : V) (H' : Hp) : Prop :=
  (∃ kvs k, H a = some (.dK kvs) ∧ y = kV k ∧ kvs.length < sizeLine ∧ H' = upd H a (.dK (putK kvs k v))) ∨
  ∃ kvs k b, H a = some (.dT kvs) ∧ y = .ref b ∧ H b = some (.tup (k.map kV)) ∧ kvs.length < sizeLine ∧ H' = upd H a (.dT (putK kvs k v))
theorem DGet.k {H : Hp} {a : Addr} {kvs : List (Key × V)} {k : Key} (e : H a = some (.dK kvs)) : DGet H a (kV k) (valV kvs k) := .inl ⟨kvs, k, .inl e, rfl, rfl⟩
theorem DGet.t {H : Hp} {a b : Addr} {kvs : List (List Key × V)} {k : List Key} (e : H a = some (.dT kvs)) (eb : H b = some (.tup (k.map kV))) : DGet H a (.ref b) (valV kvs k) := .inr ⟨kvs, k, b, .inl e, rfl, eb, rfl⟩
theorem DPut.k {H : Hp} {a : Addr} {kvs : List (Key × V)} {k : Key} {v : V} (e : H a = some (.dK kvs)) (hl : kvs.length < sizeLine) : DPut H a (kV k) v (upd H a (.dK (putK kvs k v))) := .inl ⟨kvs, k, e, rfl, hl, rfl⟩
theorem DPut.t {H : Hp} {a b : Addr} {kvs : List (List Key × V)} {k : List Key} {v : V} (e : H a = some (.dT kvs)) (eb : H b = some (.tup (k.map kV))) (hl : kvs.length < sizeLine) :
    DPut H a (.ref b) v (upd H a (.dT (putK kvs k v))) := .inr ⟨kvs, k, b, e, rfl, eb, hl, rfl⟩
section
variable {X : Cx} {pins : List (Addr × Obj)} {σ : St} {H : Hp} {s : Shared} {a : Addr} {y v : V} {u r : Value} {o : Option V} {A : Around} {E : Value → Shared → Prop}
theorem Inv.big (I : Inv X pins σ H s) : sysModules < s.heap.objs.size := by
  have h : mainGlobals < s.heap.objs.size := (I.mod.glob.keeps I.bk).lt
  exact Nat.lt_trans (by decide) h
theorem d_write {h' : Heap} {t' : Nat} {ob : HO} (I : Inv X pins σ H s) (mu : Mut (H a)) (hs : Heap.SameBut a s.heap h') (he : ∃ q, h'.get? a = some q) (new : ObjOk X.prog X.w (upd H a ob) h' a ob) :
    Inv X pins σ (upd H a ob) { s with heap := h', toks := t' } :=
  I.write (x := a) (e := a) mu (.inl rfl) (fun b q hb z => (hs.2 b hb).trans z) he new
end
section
variable {X : Cx} {pins : List (Addr × Obj)} {σ : St} {H : Hp} {s : Shared} {a : Addr} {kvs : List (Key × V)} {k : Key} {u : Value} {A : Around} {E : Value → Shared → Prop}
end
section
variable {X : Cx} {o i e value : Expr} {pos pos' tpos : Pos} {td ty tv : TE}
end
theorem dt_empty {P : Program} {w : World} {H : Hp} (h : Heap) (hb : sysModules < h.objs.size) : ObjOk P w H (h.push { cls := .type "dict", data := .dict #[] }) h.objs.size (.dT []) :=
  ⟨Nat.zero_le _, beq_eq_false_iff_ne.mpr (Ne.symm (Nat.ne_of_lt hb)), [], .nil, _, #[], 0, Heap.get?_push_size _ rfl, ⟨rfl, rfl, rfl⟩, rfl, rfl, List.nodup_nil⟩
section
variable {X : Cx} {pos : Pos}
end
structure M1 (X : Cx) (o : Expr) (m : Str) (apos : Pos) (e : Expr) (cpos : Pos) : Prop where
  base : attributeBase o m X.env (eval o X.env) = eval o X.env
  few : ((backTo cpos (starEach [e] X.env)).all (fun x => !x.1) && (backToKw cpos (keywordEach [] X.env)).all (fun x => x.1.isSome)
    && decide (([e] : List Expr).length + ([] : List Keyword).length + (if ([] : List Keyword).isEmpty then 0 else 1) < 30)) = true
  line : (apos.endLine == cpos.line) = true
  trees : backTo cpos (starEach [e] X.env) = [(false, eval e X.env)]
def IsD (H : Hp) (a : Addr) : Prop := (∃ kvs, Rd H a (.dK kvs)) ∨ ∃ kvs, Rd H a (.dT kvs)
theorem isD_at {X : Cx} {pins : List (Addr × Obj)} {σ : St} {H : Hp} {s : Shared} {a : Addr} (I : Inv X pins σ H s) (d : IsD H a) :
    s.TypeIs (.ref a) "dict" ∧ (∀ b, Value.ref a = .ref b → ∃ ob, s.heap.get? b = some ob ∧ ob.dict = none) ∧ (a == sysModules) = false := by
  rcases d with ⟨kvs, e⟩ | ⟨kvs, e⟩
  · obtain ⟨_, hd, vs, _, dd⟩ := dk_rd I.hok e
    refine ⟨dd.typeIs, fun b q => ?_, hd⟩
    cases q
    obtain ⟨ob, _, _, h1, h2, _⟩ := dd
    exact ⟨ob, h1, h2.2.1⟩
  · obtain ⟨_, hd, xs, _, dd⟩ := dt_rd I.hok e
    refine ⟨dd.typeIs, fun b q => ?_, hd⟩
    cases q
    obtain ⟨ob, _, _, h1, h2, _⟩ := dd
    exact ⟨ob, h1, h2.2.1⟩
section
variable {X : Cx} {pins : List (Addr × Obj)} {σ : St} {H : Hp} {s : Shared} {a : Addr} {y d : V} {u r : Value} {o : Option V} {A : Around} {E : Value → Shared → Prop}
end
section
variable {X : Cx} {o e f : Expr} {apos cpos : Pos} {td ty tx : TE}
end
section
variable {X : Cx} {pins : List (Addr × Obj)} {σ : St} {H : Hp} {s : Shared} {a : Addr} {kvs : List (Key × V)} {A : Around} {E : Value → Shared → Prop}
end
section
variable {X : Cx} {pins : List (Addr × Obj)} {σ : St} {H : Hp} {s : Shared} {a : Addr} {y : V} {u : Value} {A : Around} {E : Value → Shared → Prop}
end
end L2
namespace Att
open PySem PySem.W PySem.Calls PyProof.Rows
theorem ints_of_wellAll {P : Params} {h : Heap} : ∀ (ns : List Int) (vs : List Value), WellAll P h vs (ns.map WData.int) → IntsAre vs ns := by
  intro ns
  induction ns with
  | nil =>
    intro vs w
    rw [List.map_nil] at w
    cases w
    exact .nil
  | cons n ns ih =>
    intro vs w
    rw [List.map_cons] at w
    cases w with
    | cons a b =>
      cases a
      exact .cons _ _ (ih _ b)
theorem script_of {l : OpenLaw} {n : Nat} (hn : l.most = some n) {P : Params} {h : Heap} {args : List WData} {vals : List Value}
    (hpre : l.row.toRowW.claim.pre args = true) (hwl : WellAll P h vals args) :
    ∃ a vs ns, vals = [Value.ref a] ∧ args = [WData.list (ns.map WData.int)] ∧ h.get? a = some { cls := .type "list", data := .seq vs.toArray } ∧ IntsAre vs ns ∧ ns.length ≤ n := by
  have hsh : WShape.hasAll [] args [.list .int] = true := (pre_splitW hpre).1
  have hc : l.pre.holds [] { args := args } = true := (pre_splitW hpre).2
  obtain ⟨d, r, rfl, h1, h2⟩ := hasAllW_cons hsh
  obtain rfl := hasAllW_nil h2
  obtain ⟨xs, rfl, h3⟩ := hasW_list h1
  obtain ⟨ns, rfl⟩ := items_int h3
  have hlen : ns.length ≤ n := by
    unfold OpenLaw.pre at hc
    have h4 : (WTm.not (.lt (.lit (.int (n : Int))) (.len (.arg 0)))).holds [] { args := [.list (ns.map .int)] } = true := by
      have h4 := (holds_andW hc).1
      rw [hn] at h4
      exact h4
    have h5 := condW_of h4 (w_not (w_lt w_lit (w_len_list (w_arg rfl))))
    rw [List.length_map] at h5
    refine Nat.le_of_not_lt fun q => ?_
    have q' : (n : Int) < ((ns.length : Nat) : Int) := by omega
    first
      | (rw [decide_eq_true q'] at h5; exact absurd h5 (by decide))
      | (simp at h5; omega)
  cases hwl with
  | cons w1 w2 =>
    cases w2
    cases w1 with
    | list ho hall => exact ⟨_, _, ns, rfl, rfl, ho, ints_of_wellAll ns _ hall, hlen⟩
theorem post_true (l : OpenLaw) (args : List WData) : l.row.toRowW.claim.post args (.bool true) args = true :=
  postW_of (r := l.row.toRowW) (X := (true == true))
    (show WShape.has [] (.bool true) .bool = true by first | rfl | decide | simp [WShape.has, WShape.arms, WShape.armsAll])
    (show (WTm.eq .res (.lit (.bool true))).value [] { args := args, res := some (.bool true), after := args } = some (.bool (true == true)) from w_eq_bool (w_res rfl) w_lit) rfl
theorem attach_call {l : OpenLaw} {n : Nat} {q : Program} {loose : List Str} {XP : (Str → Option Value) → Heap → Prop} {YP : World → Heap → Prop} {d : DefRec}
    (hn : l.most = some n) (hdf : d.params.defaults = [])
    (call : ∀ (w : World) (s₀ s₁ : Shared) (mg mb : Str → Option Value) (fa : Addr) (o : Obj) (pm cd doc : Value) (a : Addr) (vs : List Value) (ns : List Int),
      Ground q loose [] XP w s₀ mg mb s₁.heap → YP w s₁.heap →
      s₁.heap.get? fa = some o → o.data = .func (docDef d.name d.params d.body d.scope pm cd doc) → s₁.heap.CodeRec cd d.name → mg d.name = some (.ref fa) →
      s₁.heap.get? a = some { cls := .type "list", data := .seq vs.toArray } → IntsAre vs ns → ns.length ≤ n → s₁.gens = #[] →
      codeAny (model l.prog w) callerA (.call (.ref fa) ⟨[.ref a], []⟩) (fun r s' => r = .ok (.ret (.bool true)) ∧ OldK s₁.heap s'.heap ∧ s'.os = s₁.os ∧ AllBare s'.gens) s₁) :
    WalkO q loose XP YP l.row.toRowW d [] (fun f vs => PySem.call f vs) := by
  intro w s₀ s₁ mg mb G Y fa o pm cd doc dV kV ho hd hcd hD hmg hg args vals as hpre hlay hrd hwl hlo
  obtain rfl : dV = .none := Dflts.none hD hdf
  obtain rfl : kV = .none := Dflts.noKw hD
  obtain ⟨a, vs, ns, rfl, rfl, hobj, hints, hlen⟩ := script_of hn hpre hwl
  refine enter_call (codeAny_mono (call w s₀ s₁ mg mb fa o pm cd doc a vs ns G Y ho (fd_plain hd) hcd hmg hobj hints hlen hg) fun r s' hq => ?_)
  obtain ⟨rfl, h2, h3, h4⟩ := hq
  exact ⟨.inl ⟨.bool true, .bool true, [], rfl, fun _ => rfl, .bool true, post_true l _, fun _ => ⟨List.Pairwise.nil, fun _ hm => (nomatch hm)⟩⟩, h2, h3, h4⟩
section
variable {prog : Program} {w : World} {A : Around} {E : Value → Shared → Prop} {s : Shared} {K : Frag}
def ledger (h : Heap) (L d : Addr) : List (Addr × Obj) := (List.range h.objs.size).filterMap fun a => if a = L ∨ a = d then none else (h.get? a).map fun o => (a, o)
end
end Att
namespace L2
open PySem PySem.Spec PyProof.Rows
theorem vals_ints : ∀ {vs : List Value} {ns : List Int}, IntsAre vs ns → Vals (ns.map V.int) vs
  | _, _, .nil => .nil
  | _, _, .cons n t h => .cons ⟨t, rfl⟩ (vals_ints h)
def Only (H : Hp) : Prop := ∀ b, H b = none ∨ ∃ o xs, H b = some (.frz o (.lst xs))
theorem law_call {P : Program} {w : World} {K : PySem.W.Frag} {mg mb : Str → Option Value} {CX : CXT} {k : Nat} {fa a : Addr} {fd : FuncData} {x : Str} {sp : Sp} {s₁ : Shared} {vs : List Value} {ns : List Int}
    (KX : K.In s₁.heap) (hns : s₁.heap.Ns mainGlobals mg) (hb : s₁.heap.Ns builtinsNs mb) (hbb : ∀ x : Str, x ≠ "__name__" → mb x = bootBuiltins x) (hlim : s₁.heap.NoLimit) (hg : s₁.gens = #[])
    (ha : s₁.heap.get? a = some { cls := .type "list", data := .seq vs.toArray }) (hi : IntsAre vs ns) (hl : ns.length ≤ sizeLine) (hr : Room k callerA)
    (F : ∀ base : Heap, K.In base → base.Ns mainGlobals mg → FnOk P w K mg base CX k fa fd [x] sp) (hbind : ∀ (s : Shared) (u : Value), BindsTo s fd ⟨[u], []⟩ [(x, u)])
    (hsp : ∀ H : Hp, Only H → SqL K H a (ns.map V.int) → sp [.ref a] H (fun v _ => v = .bl true) fun _ _ _ => False)
    (hCX : ∀ H e s', CX [] H s₁ (fun _ _ _ => False) e s' → False) :
    codeAny (model P w) callerA (.call (.ref fa) ⟨[.ref a], []⟩) (fun r s' => r = .ok (.ret (.bool true)) ∧ OldK s₁.heap s'.heap ∧ s'.os = s₁.os ∧ AllBare s'.gens) s₁ := by
  have rv := vals_ints hi
  have lenV := hi.length
  have core : ∀ H : Hp, Only H → SqL K H a (ns.map V.int) → HOk P w H s₁.heap → (∀ b, H b ≠ none → b = a) → (H a ≠ none → K.lookup a = none) →
      codeAny (model P w) callerA (.call (.ref fa) ⟨[.ref a], []⟩) (fun r s' => r = .ok (.ret (.bool true)) ∧ OldK s₁.heap s'.heap ∧ s'.os = s₁.os ∧ AllBare s'.gens) s₁ := by
    intro H hO hS hok hA hK
    have base_of : ∀ {b : Addr} {o : Obj}, s₁.heap.get? b = some o → H b = none → (hidT s₁.heap H).get? b = some o := fun e n => hidT_get e n
    have noA : ∀ {b : Addr} {o : Obj} {es : Array DictEntry} {ep : Nat}, s₁.heap.get? b = some o → o.data = .dict es ep → H b = none := fun {b o es ep} e d => by
      cases q : H b with
      | none => rfl
      | some u =>
        have e' : b = a := hA b (by rw [q]; simp)
        subst e'
        rw [ha] at e; cases e
        have d' : Data.seq vs.toArray _ = Data.dict es ep := d
        cases d'
    have nsK : ∀ {b : Addr} {m : Str → Option Value}, s₁.heap.Ns b m → (hidT s₁.heap H).Ns b m := fun {b m} ⟨o, es, ep, e, d, r⟩ => ⟨o, es, ep, base_of e (noA e d), d, r⟩
    have hKb : K.In (hidT s₁.heap H) := fun b o e => base_of (KX b o e) (by
      cases q : H b with
      | none => rfl
      | some u =>
        have e' : b = a := hA b (by rw [q]; simp)
        subst e'
        rw [hK (by rw [q]; simp)] at e; cases e)
    have hM : Mod K mg (hidT s₁.heap H) := ⟨hKb, nsK hns, ⟨mb, nsK hb, hbb⟩, let ⟨mc, h1, h2⟩ := hlim; ⟨mc, nsK h1, h2⟩⟩
    have e0 : Env0 P w K mg (hidT s₁.heap H) callerA [] s₁ H := ⟨rfl, hM, fun b o e => of_hidT e, Nat.le_of_eq (hidT_size _ _), trivial, fun b hb => absurd (show b ∈ ([] : List Addr) from hb) (by simp), hok, .of_eq hg⟩
    refine codeAny_mono ((F _ hKb (nsK hns)).run callerA [] s₁ H ⟨[.ref a], []⟩ [.ref a] [.ref a] _ _ hr e0 (hbind s₁ (.ref a)) (.cons rfl .nil) (hsp H hO hS)) fun r s' h => ?_
    cases r with
    | error e => exact (hCX H e s' h).elim
    | ok fl =>
      cases fl with
      | next => exact False.elim h
      | brk => exact False.elim h
      | cont => exact False.elim h
      | ret u =>
        obtain ⟨v, H', os, bare, un, hok', r', q⟩ := h
        have q' : v = .bl true := q
        subst q'
        obtain rfl : u = Value.bool true := r'
        refine ⟨rfl, OldK.of_keep fun b o e => ?_, os, bare⟩
        cases q : H b with
        | none => exact un.keep b o e q (by intro z; exact absurd (show b ∈ ([] : List Addr) from z) (by simp)) (by simp)
        | some u =>
          rcases hO b with z | ⟨ob, xs, z⟩
          · rw [q] at z; cases z
          · have z2 := un.frzs b ob _ z
            obtain ⟨e1, _⟩ := hok b _ z
            obtain ⟨e2, _⟩ := hok' b _ z2
            rw [e] at e1; cases e1
            exact e2
  cases hk : K.lookup a with
  | some o =>
    have e := KX a o hk
    rw [ha] at e
    cases e
    refine core (fun _ => none) (fun _ => .inl rfl) (.inr ⟨_, vs.toArray, _, hk, rfl, rfl, rfl, by rw [List.size_toArray, lenV]; exact hl, by simpa using rv⟩) (fun b u z => by have z' : (none : Option HO) = some u := z; cases z') (fun b z => absurd rfl z) fun z => absurd rfl z
  | none =>
    refine core (fun b => if b = a then some (.frz { cls := .type "list", data := .seq vs.toArray } (.lst (ns.map V.int))) else none) (fun b => ?_) (.inl (.inr ⟨{ cls := .type "list", data := .seq vs.toArray }, if_pos rfl⟩)) (fun b u z => ?_) (fun b z => ?_) fun _ => hk
    · by_cases hb : b = a
      · exact .inr ⟨_, _, if_pos hb⟩
      · exact .inl (if_neg hb)
    · by_cases hb : b = a
      · have z' := (if_pos hb).symm.trans z
        cases z'
        subst hb
        exact ⟨ha, by rw [List.length_map]; exact hl, vs, _, rv, ha⟩
      · have z' := (if_neg hb).symm.trans z
        cases z'
    · by_cases hb : b = a
      · exact hb
      · exact absurd (if_neg hb) z
end L2
namespace L2
open PySem PySem.Spec PyProof.Rows
theorem walk_of {l : PySem.W.OpenLaw} {n k : Nat} {q : Program} {loose : List Str} {XP : (Str → Option Value) → Heap → Prop} {YP : World → Heap → Prop} {d : DefRec} {K : Params → PySem.W.Frag} {CX : World → CXT} {sp : World → Sp} {x : Str}
    (hn : l.most = some n) (hn2 : n ≤ sizeLine) (hdf : d.params.defaults = []) (hr : Room k callerA)
    (hY : ∀ (w : World) (h : Heap), YP w h → (K w.params).In h)
    (F : ∀ (w : World) (mg : Str → Option Value) (fa : Addr) (h : Heap), (K w.params).In h → h.Ns mainGlobals mg → mg d.name = some (.ref fa) →
      ∃ fd : FuncData, (∀ (s : Shared) (u : Value), BindsTo s fd ⟨[u], []⟩ [(x, u)]) ∧
        ∀ base : Heap, (K w.params).In base → base.Ns mainGlobals mg → FnOk l.prog w (K w.params) mg base (CX w) k fa fd [x] (sp w))
    (hsp : ∀ (w : World) (H : Hp) (a : Addr) (ns : List Int), ns.length ≤ n → Only H → SqL (K w.params) H a (ns.map V.int) → sp w [.ref a] H (fun v _ => v = .bl true) fun _ _ _ => False)
    (hCX : ∀ (w : World) (H : Hp) (s : Shared) (e : Value) (s' : Shared), CX w [] H s (fun _ _ _ => False) e s' → False) :
    PySem.W.WalkO q loose XP YP l.row.toRowW d [] (fun f vs => PySem.call f vs) := by
  refine Att.attach_call hn hdf fun w s₀ s₁ mg mb fa o pm cd doc a vs ns G Y ho hd hcd hmg hobj hints hlen hg => ?_
  have KX := hY w _ Y
  obtain ⟨fd, hb, hF⟩ := F w mg fa _ KX G.T.g hmg
  exact law_call KX G.T.g G.T.b G.T.builtins G.T.nolimit hg hobj hints (Nat.le_trans hlen hn2) hr hF hb (fun H hO hS => hsp w H a ns hlen hO hS) fun H e s' => hCX w H s₁ e s'
end L2
namespace L2
open PySem PySem.Spec PyProof.Rows
def inClass (s : Stmt) (j : Nat) : Stmt := match s with
  | .ClassDef _ _ _ body _ _ _ _ _ _ _ => body.getD j (.Pass ⟨0, 0, 0, 0⟩)
  | _ => .Pass ⟨0, 0, 0, 0⟩
def defArgs (s : Stmt) : Arguments := match s with
  | .FunctionDef _ a _ _ _ _ _ _ _ _ => a
  | _ => { posonlyargs := [], args := [], vararg := none, kwonlyargs := [], kw_defaults := [], kwarg := none, defaults := [] }
def defBody (s : Stmt) : List Stmt := match s with
  | .FunctionDef _ _ b _ _ _ _ _ _ _ => b
  | _ => []
def defScope (s : Stmt) : Scope := match s with
  | .FunctionDef _ _ _ _ _ _ sc _ _ _ => sc
  | _ => { kind := .function, names := [], isGenerator := false, isCoroutine := false }
abbrev CX0 : CXT := fun _ _ _ _ _ _ => False
structure Fun (K : PySem.W.Frag) (x qual : Str) (st : Stmt) (f : Addr) (fd : FuncData) : Prop where
  ex : ∃ (oc : Value) (od : Option Addr) (kV doc pm : Value) (an : Option Addr) (cdv ct : Value) (osl : Array (Option Value)),
    fd = PySem.W.fnOf x qual (defArgs st) (defBody st) (defScope st) .none kV doc pm an cdv ct ∧ K.lookup f = some ⟨oc, od, .func fd, osl⟩ ∧ PySem.W.codeIn K cdv qual = true
  kp : PySem.W.keepIn K (.ref f) = true
section
variable {P : Program} {w : World} {K : PySem.W.Frag} {mg : Str → Option Value} {base : Heap}
theorem Fun.ok {x qual : Str} {st : Stmt} {f : Addr} {fd : FuncData} {N ps : List Str} {k : Nat} {sp : Sp} (F : Fun K x qual st f fd) (S : FnScope N ps (defScope st)) (len : ∀ vs H Q E, sp vs H Q E → vs.length = ps.length)
    (hbody : ∀ (cdv : Value) (A : Around) (outer : List Env) (s : Shared) (H : Hp) (vs : List V) (Q : VK) (E : XK), Room k (A.deeper (envOfC qual (defScope st) s.heap.objs.size f cdv)) → sp vs H Q E →
      ∃ t, PSs (cxOf CX0 P w K mg base N qual (defScope st) f cdv A outer s H E).nox (defBody st) t ∧ t { nx := fun _ H' => Q .non H', rt := Q } (start N vs) H) : FnOk P w K mg base CX0 (k + 1) f fd ps sp := by
  obtain ⟨oc, od, kV, doc, pm, an, cdv, ct, osl, rfl, lk, hcd⟩ := F.ex
  refine fn_of lk hcd S len fun A outer s H vs Q E hr hsp => ?_
  obtain ⟨t, h, q⟩ := hbody cdv A outer s H vs Q E hr hsp
  exact ⟨t, h.nox, q⟩
theorem Fun.binds {x qual : Str} {st : Stmt} {f : Addr} {fd : FuncData} {ps : List Str} (F : Fun K x qual st f fd)
    (h : ∀ (kV doc pm : Value) (an : Option Addr) (cdv ct : Value) (us : List Value), us.length = ps.length → bindArgs (PySem.W.fnOf x qual (defArgs st) (defBody st) (defScope st) .none kV doc pm an cdv ct) ⟨us, []⟩ = pure (ps.zip us)) : Binds K fd ps [] := by
  obtain ⟨oc, od, kV, doc, pm, an, cdv, ct, osl, rfl, lk, hcd⟩ := F.ex
  exact .all (h kV doc pm an cdv ct)
theorem fun_mk {x qual : Str} {st : Stmt} {f : Addr} {oc : Value} {od an : Option Addr} {osl : Array (Option Value)} {kV doc pm cdv ct : Value} (l : K.lookup f = some ⟨oc, od, .func (PySem.W.fnOf x qual (defArgs st) (defBody st) (defScope st) .none kV doc pm an cdv ct), osl⟩)
    (c : PySem.W.codeIn K cdv qual = true) (k : PySem.W.keepIn K (.ref f) = true) : Fun K x qual st f (PySem.W.fnOf x qual (defArgs st) (defBody st) (defScope st) .none kV doc pm an cdv ct) := ⟨⟨oc, od, kV, doc, pm, an, cdv, ct, osl, rfl, l, c⟩, k⟩
end
theorem hu_of {A : Around} {k : Nat} (hr : Room k A) : A.units + 1 < cLine := Nat.lt_of_le_of_lt (Nat.add_le_add_left (by decide : 1 ≤ 64) _) hr.units
section
variable {X : Cx}
end
theorem iteF {A B : Prop} (h : B) : if false = true then A else B := by
  rw [if_neg Bool.false_ne_true]
  exact h
theorem iteT {A B : Prop} (h : A) : if true = true then A else B := by
  rw [if_pos rfl]
  exact h
theorem ite2 {c A B : Prop} [Decidable c] (h1 : c → A) (h2 : ¬ c → B) : if c then A else B := by
  by_cases h : c
  · rw [if_pos h]
    exact h1 h
  · rw [if_neg h]
    exact h2 h
def Same (H H' : Hp) : Prop := ∀ b o, H b = some o → H' b = some o
theorem Same.trans {H H1 H2 : Hp} (a : Same H H1) (b : Same H1 H2) : Same H H2 := fun c o h => b c o (a c o h)
theorem Same.free {H H' : Hp} (e : Same H H') {l : Addr} (h : H' l = Option.none) : H l = Option.none := by
  cases q : H l with
  | none => rfl
  | some o =>
    rw [e l o q] at h
    cases h
theorem Same.seq {K : PySem.W.Frag} {H H' : Hp} {a : Addr} {xs : List V} (e : Same H H') (h : SqL K H a xs) : SqL K H' a xs := by
  rcases h with (h | ⟨o, h⟩) | h
  · exact .inl (.inl (e _ _ h))
  · exact .inl (.inr ⟨o, e _ _ h⟩)
  · exact .inr h
section
variable {κ : Type} [DecidableEq κ]
end
end L2
set_option maxHeartbeats 4000000
namespace L2
open PySem PySem.Spec PyProof.Rows

structure Fly (B : Heap) (l : List Env) (h : Heap) (H H' : Hp) (h' : Heap) (ea : Addr) (cls : Value) : Prop where
  fl : ∃ a0, Heap.FlyingW B l ea cls a0 h'
  trk : ∀ b u, H' b = some u → ∃ o, B.get? b = some o
  kept : ∀ b o, h.get? b = some o → H b = none → b ∉ frs l → B.get? b = some o
  alive : ∀ b o, h.get? b = some o → b ∉ frs l → ∃ o', B.get? b = some o'
def CXe (P : Program) (w : World) : CXT := fun outer H s E e s' => ∃ ea cls H' B, e = .ref ea ∧ s'.os = s.os ∧ AllBare s'.gens ∧ Un (frs outer) [] H H' s.heap s'.heap ∧ HOk P w H' s'.heap ∧ Fly B outer s.heap H H' s'.heap ea cls ∧ E cls none H'
abbrev XKs := Value → St → Hp → Prop
def XW (X : Cx) (K : XKs) : Prop := ∀ (pins : List (Addr × Obj)) (σ : St) (H : Hp) (s s' : Shared) (ea : Addr) (cls : Value) (H' : Hp) (B : Heap), Inv X pins σ H s → s'.os = s.os → AllBare s'.gens →
  Un (frs X.stack) [] H H' s.heap s'.heap → HOk X.prog X.w H' s'.heap → Fly B X.stack s.heap H H' s'.heap ea cls → K cls σ H' → X.xe (.ref ea) s'

theorem frs_cons {env : Env} {l : List Env} {L : Addr} (h : env.frame = some L) : frs (env :: l) = L :: frs l := by
  unfold frs; rw [List.filterMap_cons, h]

theorem HOk.flown {P : Program} {w : World} {H : Hp} {B h h' : Heap} (x : HOk P w H h) (t : ∀ b u, H b = some u → ∃ o, B.get? b = some o) (s : B.StaysIn h) (s' : B.StaysIn h') : HOk P w H h' := fun a o e =>
  (x a o e).stay (fun b u hb q => by
    have hB : ∃ o, B.get? b = some o := by
      rcases hb with rfl | hb
      · exact t _ _ e
      · exact t _ _ hb
    obtain ⟨o', ho⟩ := hB
    have e1 := s b o' ho
    rw [q] at e1; cases e1
    exact s' b _ ho) (fun _ q => q) fun _ _ q => q

theorem xw_def {P : Program} {w : World} {K : PySem.W.Frag} {mg : Str → Option Value} {base : Heap} {N : List Str} {qual : Str} {scope : Scope} {f : Addr} {cd : Value} {A : Around} {outer : List Env} {s0 : Shared} {H0 : Hp} {E : XK} :
    XW (cxOf (CXe P w) P w K mg base N qual scope f cd A outer s0 H0 E) (fun c _ H' => E c none H') := by
  intro pins σ H s s' ea cls H' B I os bare un hok fly hK
  have I' := I.call' (s' := s') (ch := []) os un hok bare (fun b z => absurd z (by simp))
  have hfr := I.ok.frames
  have hstk : (cxOf (CXe P w) P w K mg base N qual scope f cd A outer s0 H0 E).stack = envOfC qual scope s0.heap.objs.size f cd :: outer := rfl
  rw [hstk] at hfr
  obtain ⟨a0, hfl⟩ := fly.fl
  have hf : (envOfC qual scope s0.heap.objs.size f cd).frame = some s0.heap.objs.size := rfl
  show wpAny _ _ (leaving (envOfC qual scope s0.heap.objs.size f cd) (.ref ea)) _ _ s'
  refine wpAny_leaves_onW hfr hf hfl fun h' fl' up => ?_
  have hfs : frs (envOfC qual scope s0.heap.objs.size f cd :: outer) = s0.heap.objs.size :: frs outer := frs_cons hf
  have nf : ∀ b o, s0.heap.get? b = some o → b ∉ frs outer → b ∉ frs (envOfC qual scope s0.heap.objs.size f cd :: outer) := fun b o e n z => by
    rw [hfs] at z
    rcases List.mem_cons.mp z with z | z
    · exact absurd (Heap.lt_size e) (by rw [z]; exact Nat.lt_irrefl _)
    · exact n z
  have stay : ∀ b o, s0.heap.get? b = some o → H0 b = none → b ∉ frs outer → B.get? b = some o := fun b o e n hb =>
    fly.kept b o (I.base.keep b o e n hb (by intro z; exact absurd z (by simp [cxOf]))) (I.base.free b o e n (by intro z; exact absurd z (by simp [cxOf]))) (nf b o e hb)
  have live : ∀ b o, s0.heap.get? b = some o → b ∉ frs outer → ∃ o', B.get? b = some o' := fun b o e hb => by
    obtain ⟨o1, e1⟩ := I.base.there b o e (by intro z; exact absurd z (by simp [cxOf]))
    exact fly.alive b o1 e1 (nf b o e hb)
  refine ⟨ea, cls, H', B, rfl, I'.os, bare, ?_, hok.flown fly.trk hfl.1 fl'.1, ⟨⟨a0, fl'⟩, fly.trk, stay, live⟩, hK⟩
  have noA : ∀ b : Addr, b ∉ (cxOf (CXe P w) P w K mg base N qual scope f cd A outer s0 H0 E).ex := fun b z => absurd z (by simp [cxOf])
  have slotOf : ∀ b, b ∈ frs outer → ∀ o, s'.heap.get? b = some o → ∃ sl, h'.get? b = some { o with slots := sl } := fun b hb o e => by
    have hm : b ∈ frs (envOfC qual scope s0.heap.objs.size f cd :: outer) := by rw [hfs]; exact List.mem_cons_of_mem _ hb
    obtain ⟨_, o', ho', hd⟩ := hfl.2.2.1.mem hm
    rw [e] at ho'; cases ho'
    exact up b o e hd
  refine ⟨fun b o e n hb _ => fl'.1 b o (stay b o e n hb), fun b o e n hb _ => ?_, fun b o e n _ => I'.base.free b o e n (noA b), fun b o e _ => ?_, I'.base.tups, I'.base.frzs, I'.base.tbls⟩
  · obtain ⟨sl, e1⟩ := I'.base.slot b o e n hb (noA b)
    obtain ⟨sl', e2⟩ := slotOf b hb _ e1
    exact ⟨sl', e2⟩
  · by_cases hb : b ∈ frs outer
    · obtain ⟨o1, e1⟩ := I'.base.there b o e (noA b)
      obtain ⟨sl, e2⟩ := slotOf b hb _ e1
      exact ⟨_, e2⟩
    · obtain ⟨o1, e1⟩ := live b o e hb
      exact ⟨o1, fl'.1 b o1 e1⟩

def Have (P : Program) (w : World) (K : PySem.W.Frag) (mg : Str → Option Value) (base : Heap) (x : Str) (k : Nat) (ps : List Str) (dvs : List V) (sp : Sp) : Prop :=
  ∃ f fd ds, mg x = some (.ref f) ∧ PySem.W.keepIn K (.ref f) = true ∧ Binds K fd ps ds ∧ Vals dvs ds ∧ FnOk P w K mg base (CXe P w) k f fd ps sp
def HaveM (P : Program) (w : World) (K : PySem.W.Frag) (mg : Str → Option Value) (base : Heap) (C : Addr) (m : Str) (k : Nat) (ps : List Str) (dvs : List V) (sp : Sp) : Prop :=
  ∃ f fd ds, Meth K C m f ∧ Binds K fd ps ds ∧ Vals dvs ds ∧ FnOk P w K mg base (CXe P w) k f fd ps sp
def HaveI (P : Program) (w : World) (K : PySem.W.Frag) (mg : Str → Option Value) (base : Heap) (x : Str) (C : Addr) (k : Nat) (ps : List Str) (dvs : List V) (sp : Sp) : Prop :=
  ∃ f fd ds, mg x = some (.ref C) ∧ Mk K C f ∧ Binds K fd ps ds ∧ Vals dvs ds ∧ FnOk P w K mg base (CXe P w) k f fd ps sp
def tCallE (Kx : XKs) (sp : Sp) (dvs : List V) (t : TA) : TE := fun σ H Q => t σ H fun vs H1 => sp (vs ++ dvs) H1 Q (fun c _ H' => Kx c σ H')
def tMethE (Kx : XKs) (C : Addr) (m : Str) (sp : Sp) (dvs : List V) (ta : TE) (t : TA) : TE := fun σ H Q => ta σ H fun x H1 => ∃ a dx fs, x = .ref a ∧ H1 a = some (.ins C dx fs) ∧ fs.lookup m = none ∧
  t σ H1 fun vs H2 => sp (x :: (vs ++ dvs)) H2 Q (fun c _ H' => Kx c σ H')
def tMakeE (Kx : XKs) (C : Addr) (sp : Sp) (dvs : List V) (t : TA) : TE := fun σ H Q => t σ H fun vs H1 => ∀ x dx, H1 x = none → H1 dx = none → dx ≠ x →
  sp (.ref x :: (vs ++ dvs)) (upd (upd H1 dx (.own x)) x (.ins C dx [])) (fun v H2 => v = .non ∧ Q (.ref x) H2) (fun c _ H' => Kx c σ H')
section
variable {X : Cx} {Kx : XKs} {k : Nat} {f C : Addr} {fd : FuncData} {ps : List Str} {sp : Sp} {dvs : List V} {ds : List Value} {x m : Str} {p pos apos : Pos} {e o : Expr} {es : List Expr} {ta : TE} {t : TA}
theorem run_fnE {pins : List (Addr × Obj)} {σ : St} {H : Hp} {s : Shared} {Q : VK} {us : List Value} {vs : List V} (F : FnOk X.prog X.w X.K X.mg X.base (CXe X.prog X.w) k f fd ps sp) (hr : Room k X.A) (hb : Binds X.K fd ps ds) (hd : Vals dvs ds) (hx : XW X Kx)
    (I : Inv X pins σ H s) (r : Vals vs us) (h : sp (vs ++ dvs) H Q (fun c _ H' => Kx c σ H')) : wpAny (model X.prog X.w) X.A (call (.ref f) us) (EP X pins σ Q) X.xe s := by
  have r2 : Vals (vs ++ dvs) (us ++ ds) := r.append hd
  have hl : (us ++ ds).length = ps.length := by rw [← r2.length]; exact F.len _ _ _ _ h
  refine wpAny_call (codeAny_mono (F.run X.A X.stack s H ⟨us, []⟩ (us ++ ds) (vs ++ dvs) Q _ hr I.env0 (hb s us I.kIn hl) r2 h) fun r s' hq => ?_)
  cases r with
  | error e =>
    obtain ⟨ea, cls, H', B, rfl, os, bare, un, hok, fly, hK⟩ := hq
    exact hx pins σ H s s' ea cls H' B I os bare un hok fly hK
  | ok fl =>
    cases fl with
    | ret u => exact I.after hq
    | next => exact False.elim hq
    | brk => exact False.elim hq
    | cont => exact False.elim hq
theorem pe_callE (F : Have X.prog X.w X.K X.mg X.base x k ps dvs sp) (hr : Room k X.A) (hx : XW X Kx) (ha : PA X (e :: es) t) (hg : Gl X x := by rfl) (hdb : (x == ("__debug__" : Str)) = false := by decide)
    (he : starEach (e :: es) X.env = (false, eval e X.env) :: starEach es X.env := by rfl) (hpl : (backTo pos (starEach es X.env)).any (·.1) = false := by rfl) :
    PE X (.Call (.Name x p) (e :: es) [] pos) (tCallE Kx sp dvs t) := by
  obtain ⟨f, fd, ds, hm, hk, hb, hd, F⟩ := F
  intro pins s σ H Q I h
  refine wpAny_Call_Name_kw (ld_glob I hg hm ?_ hdb)
  refine PySem.W.callWith_K (h₀ := X.base) I.ok.mod.kin hk (thn (ha pos pins s σ H _ I h) fun us s1 ⟨vs, H1, I1, r, q⟩ => ⟨I1.kIn, ?_⟩) he hpl
  exact run_fnE F hr hb hd hx I1 r q
theorem pe_methE {pl : Sem Bool} (ho : PE X o ta) (c : Cls X.K C) (F : HaveM X.prog X.w X.K X.mg X.base C m k ps dvs sp) (hr : Room k X.A) (hx : XW X Kx) (ha : PA X (e :: es) t)
    (hst : starEach (e :: es) X.env = (false, eval e X.env) :: starEach es X.env := by rfl) (hpl : (backTo pos (starEach es X.env)).any (·.1) = false := by rfl)
    (ht : eval (.Call (.Attribute o m apos) (e :: es) [] pos) X.env = (do
      let ov ← eval o X.env
      standAt apos.atName
      let (f, first) ← holding [ov] (getMethod ov m pl)
      callWith pos f first (backTo pos (starEach (e :: es) X.env)) (backToKw pos (keywordEach [] X.env))) := by rfl) :
    PE X (.Call (.Attribute o m apos) (e :: es) [] pos) (tMethE Kx C m sp dvs ta t) := by
  obtain ⟨f, fd, ds, hm, hb, hd, F⟩ := F
  intro pins s σ H Q I h
  refine PySem.W.methodCall_KW (pl := pl) (thn (ho pins s σ H _ I h) fun u s1 ⟨x, H1, I1, rx, a, dx, fs, ex, ea, l, q⟩ => ?_) ht
  subst ex
  obtain rfl : u = Value.ref a := rx
  refine getmeth_ok I1 ea c hm l ?_
  refine PySem.W.callWith_K (first := [.ref a]) (h₀ := X.base) I.ok.mod.kin hm.kp (thn (ha pos pins s1 σ H1 _ I1 q) fun us s2 ⟨vs, H2, I2, r, q2⟩ => ⟨I2.kIn, ?_⟩) hst hpl
  exact run_fnE (us := .ref a :: us) (vs := .ref a :: vs) F hr hb hd hx I2 (.cons rfl r) q2
theorem pe_methE0 {pl : Sem Bool} (ho : PE X o ta) (c : Cls X.K C) (F : HaveM X.prog X.w X.K X.mg X.base C m k ps dvs sp) (hr : Room k X.A) (hx : XW X Kx)
    (ht : eval (.Call (.Attribute o m apos) [] [] pos) X.env = (do
      let ov ← eval o X.env
      standAt apos.atName
      let (f, first) ← holding [ov] (getMethod ov m pl)
      callWith pos f first (backTo pos (starEach [] X.env)) (backToKw pos (keywordEach [] X.env))) := by rfl) :
    PE X (.Call (.Attribute o m apos) [] [] pos) (tMethE Kx C m sp dvs ta tNil) := by
  obtain ⟨f, fd, ds, hm, hb, hd, F⟩ := F
  intro pins s σ H Q I h
  refine PySem.W.methodCall_KW (pl := pl) (thn (ho pins s σ H _ I h) fun u s1 ⟨x, H1, I1, rx, a, dx, fs, ex, ea, l, q⟩ => ?_) ht
  subst ex
  obtain rfl : u = Value.ref a := rx
  refine getmeth_ok I1 ea c hm l ?_
  exact PySem.W.callWith_K0 (first := [.ref a]) I1.kIn hm.kp (run_fnE (us := [.ref a]) (vs := [.ref a]) F hr hb hd hx I1 (.cons rfl .nil) q)
theorem run_makeE {pins : List (Addr × Obj)} {σ : St} {H : Hp} {s : Shared} {Q : VK} {us : List Value} {vs : List V} (M : Mk X.K C f) (F : FnOk X.prog X.w X.K X.mg X.base (CXe X.prog X.w) k f fd ps sp) (hr : Room (k + 1) X.A) (hb : Binds X.K fd ps ds) (hd : Vals dvs ds)
    (hx : XW X Kx) (I : Inv X pins σ H s) (r : Vals vs us)
    (h : ∀ x dx, H x = none → H dx = none → dx ≠ x → sp (.ref x :: (vs ++ dvs)) (upd (upd H dx (.own x)) x (.ins C dx [])) (fun v H2 => v = .non ∧ Q (.ref x) H2) (fun c _ H' => Kx c σ H')) :
    wpAny (model X.prog X.w) X.A (call (.ref C) us) (EP X pins σ Q) X.xe s := by
  have hq := h (s.heap.objs.size + 1) s.heap.objs.size (I.hok.fresh (Nat.le_succ _)) (I.hok.fresh (Nat.le_refl _)) (Nat.ne_of_lt (Nat.lt_succ_self _))
  have I2 := Inv.made (C := C) I
  have r2 : Vals (V.ref (s.heap.objs.size + 1) :: (vs ++ dvs)) (Value.ref (s.heap.objs.size + 1) :: (us ++ ds)) := .cons rfl (r.append hd)
  have hl : (Value.ref (s.heap.objs.size + 1) :: us ++ ds).length = ps.length := by
    have e := r2.length
    rw [F.len _ _ _ _ hq] at e
    exact e.symm
  refine wpAny_call (make_map (f := f) I.kIn M.makes M.init (beq_iff_eq.mp M.fn) (codeAny_mono (F.run _ X.stack _ _ ⟨Value.ref (s.heap.objs.size + 1) :: us, []⟩ (Value.ref (s.heap.objs.size + 1) :: (us ++ ds)) _ _ _ (hr.make C us [])
    (I2.env0.make C us []) (hb _ (Value.ref (s.heap.objs.size + 1) :: us) I2.kIn hl) r2 hq) fun r s' hq' => ?_))
  cases r with
  | error e =>
    obtain ⟨ea, cls, H', B, rfl, os, bare, un, hok, fly, hK⟩ := hq'
    exact hx pins σ _ _ s' ea cls H' B I2 os bare un hok fly hK
  | ok fl =>
    cases fl with
    | ret u =>
      obtain ⟨v, H', I3, rv, ev, q3⟩ := I2.after hq'
      subst ev
      exact ⟨rv, ⟨V.ref (s.heap.objs.size + 1), H', I3, rfl, q3⟩⟩
    | next => exact False.elim hq'
    | brk => exact False.elim hq'
    | cont => exact False.elim hq'
theorem pe_makeE (F : HaveI X.prog X.w X.K X.mg X.base x C k ps dvs sp) (hr : Room (k + 1) X.A) (hx : XW X Kx) (ha : PA X (e :: es) t) (hg : Gl X x := by rfl) (hdb : (x == ("__debug__" : Str)) = false := by decide)
    (he : starEach (e :: es) X.env = (false, eval e X.env) :: starEach es X.env := by rfl) (hpl : (backTo pos (starEach es X.env)).any (·.1) = false := by rfl) :
    PE X (.Call (.Name x p) (e :: es) [] pos) (tMakeE Kx C sp dvs t) := by
  obtain ⟨f, fd, ds, hm, M, hb, hd, F⟩ := F
  intro pins s σ H Q I h
  refine wpAny_Call_Name_kw (ld_glob I hg hm ?_ hdb)
  refine PySem.W.callWith_K (h₀ := X.base) I.ok.mod.kin M.kp (thn (ha pos pins s σ H _ I h) fun us s1 ⟨vs, H1, I1, r, q⟩ => ⟨I1.kIn, ?_⟩) he hpl
  exact run_makeE M F hr hb hd hx I1 r q
theorem pe_globE {v : V} (hg : Gl X x) (hm : ∃ u, X.mg x = some u ∧ RelV v u) (hd : (x == ("__debug__" : Str)) = false := by decide) : PE X (.Name x pos) (tC v) := by
  obtain ⟨u, hm, r⟩ := hm
  exact pe_glob hg hm r hd
theorem pe_bltnE {n : String} (hg : Gl X x) (hm : X.mg x = none) (hv : bootBuiltins x = some (.type n)) (hn : x ≠ "__name__" := by decide) (hd : (x == ("__debug__" : Str)) = false := by decide) : PE X (.Name x pos) (tC (.ty n)) := pe_bltn hg hm hv rfl hn hd
end
def Raw (K : PySem.W.Frag) (mg : Str → Option Value) (x qual : Str) (st : Stmt) (ps : List Str) (dvs : List V) : Prop := ∃ f fd ds, mg x = some (.ref f) ∧ Fun K x qual st f fd ∧ Binds K fd ps ds ∧ Vals dvs ds
def RawM (K : PySem.W.Frag) (C : Addr) (m qual : Str) (st : Stmt) (ps : List Str) (dvs : List V) : Prop := ∃ f fd ds, Meth K C m f ∧ Fun K m qual st f fd ∧ Binds K fd ps ds ∧ Vals dvs ds
def RawI (K : PySem.W.Frag) (mg : Str → Option Value) (x : Str) (C : Addr) (qual : Str) (st : Stmt) (ps : List Str) (dvs : List V) : Prop := ∃ f fd ds, mg x = some (.ref C) ∧ Mk K C f ∧ Fun K "__init__" qual st f fd ∧ Binds K fd ps ds ∧ Vals dvs ds
section
variable {P : Program} {w : World} {K : PySem.W.Frag} {mg : Str → Option Value} {base : Heap}
def Body (P : Program) (w : World) (K : PySem.W.Frag) (mg : Str → Option Value) (base : Heap) (qual : Str) (st : Stmt) (N : List Str) (k : Nat) (sp : Sp) : Prop :=
  ∀ (f : Addr) (cdv : Value) (A : Around) (outer : List Env) (s : Shared) (H : Hp) (vs : List V) (Q : VK) (E : XK), Room k (A.deeper (envOfC qual (defScope st) s.heap.objs.size f cdv)) → sp vs H Q E →
    ∃ t, PSs (cxOf (CXe P w) P w K mg base N qual (defScope st) f cdv A outer s H E) (defBody st) t ∧ t { nx := fun _ H' => Q .non H', rt := Q } (start N vs) H
theorem Fun.okE {x qual : Str} {st : Stmt} {f : Addr} {fd : FuncData} {N ps : List Str} {k : Nat} {sp : Sp} (F : Fun K x qual st f fd) (S : FnScope N ps (defScope st)) (len : ∀ vs H Q E, sp vs H Q E → vs.length = ps.length)
    (hbody : Body P w K mg base qual st N k sp) : FnOk P w K mg base (CXe P w) (k + 1) f fd ps sp := by
  obtain ⟨oc, od, kV, doc, pm, an, cdv, ct, osl, rfl, lk, hcd⟩ := F.ex
  exact fn_of lk hcd S len fun A outer s H vs Q E hr hsp => hbody f cdv A outer s H vs Q E hr hsp
theorem Raw.have {x qual : Str} {st : Stmt} {N ps : List Str} {dvs : List V} {k : Nat} {sp : Sp} (R : Raw K mg x qual st ps dvs) (S : FnScope N ps (defScope st)) (len : ∀ vs H Q E, sp vs H Q E → vs.length = ps.length)
    (hbody : Body P w K mg base qual st N k sp) : Have P w K mg base x (k + 1) ps dvs sp :=
  let ⟨f, fd, ds, hm, F, hb, hd⟩ := R
  ⟨f, fd, ds, hm, F.kp, hb, hd, F.okE S len hbody⟩
theorem RawM.have {C : Addr} {m qual : Str} {st : Stmt} {N ps : List Str} {dvs : List V} {k : Nat} {sp : Sp} (R : RawM K C m qual st ps dvs) (S : FnScope N ps (defScope st)) (len : ∀ vs H Q E, sp vs H Q E → vs.length = ps.length)
    (hbody : Body P w K mg base qual st N k sp) : HaveM P w K mg base C m (k + 1) ps dvs sp :=
  let ⟨f, fd, ds, hm, F, hb, hd⟩ := R
  ⟨f, fd, ds, hm, hb, hd, F.okE S len hbody⟩
theorem RawI.have {C : Addr} {x qual : Str} {st : Stmt} {N ps : List Str} {dvs : List V} {k : Nat} {sp : Sp} (R : RawI K mg x C qual st ps dvs) (S : FnScope N ps (defScope st)) (len : ∀ vs H Q E, sp vs H Q E → vs.length = ps.length)
    (hbody : Body P w K mg base qual st N k sp) : HaveI P w K mg base x C (k + 1) ps dvs sp :=
  let ⟨f, fd, ds, hm, M, F, hb, hd⟩ := R
  ⟨f, fd, ds, hm, M, hb, hd, F.okE S len hbody⟩
end
end L2
namespace L2
open PySem PySem.Spec PyProof.Rows

def XR (X : Cx) (K : XKs) : Prop := ∀ (pins : List (Addr × Obj)) (σ : St) (H : Hp) (s : Shared) (h' : Heap) (e : Addr) (cls : Value) (args : List Value), Inv X pins σ H s → Heap.MadeExcOf s.heap h' e cls args → K cls σ H → X.xe (.ref e) { s with heap := h' }

theorem HOk.alive {P : Program} {w : World} {H : Hp} {h : Heap} (x : HOk P w H h) {b : Addr} {u : HO} (e : H b = some u) : ∃ o, h.get? b = some o := by
  have q := x b u e
  cases u with
  | lst xs => obtain ⟨_, _, _, _, e⟩ := q; exact ⟨_, e⟩
  | tup xs => obtain ⟨_, _, _, ⟨o, e, _⟩⟩ := q; exact ⟨_, e⟩
  | dK kvs => obtain ⟨_, _, _, _, o, _, _, e, _⟩ := q; exact ⟨_, e⟩
  | dT kvs => obtain ⟨_, _, _, _, o, _, _, e, _⟩ := q; exact ⟨_, e⟩
  | set S n => obtain ⟨o, _, _, _, e, _⟩ := q; exact ⟨_, e⟩
  | ins C dx fs => obtain ⟨_, _, _, e, _⟩ := q; exact ⟨_, e⟩
  | own y => exact q
  | xd fs => obtain ⟨_, ⟨_, _, _, e, _⟩, _⟩ := q; exact ⟨_, e⟩
  | rng lo hi => obtain ⟨_, _, _, e⟩ := q; exact ⟨_, e⟩
  | frz ob u => obtain ⟨e, _⟩ := q; exact ⟨_, e⟩
  | tbl ps => exact ⟨_, q⟩
  | met f y => exact ⟨_, q⟩
  | ext φ => obtain ⟨_, e, _⟩ := q; exact e

theorem xr_def {P : Program} {w : World} {K : PySem.W.Frag} {mg : Str → Option Value} {base : Heap} {N : List Str} {qual : Str} {scope : Scope} {f : Addr} {cd : Value} {A : Around} {outer : List Env} {s0 : Shared} {H0 : Hp} {E : XK} :
    XR (cxOf (CXe P w) P w K mg base N qual scope f cd A outer s0 H0 E) (fun c _ H' => E c none H') := by
  intro pins σ H s h1 ea cls args I mk hK
  have hfr := I.ok.frames
  have hstk : (cxOf (CXe P w) P w K mg base N qual scope f cd A outer s0 H0 E).stack = envOfC qual scope s0.heap.objs.size f cd :: outer := rfl
  have hfun := I.stack
  have hfree := I.stkFree
  rw [hstk] at hfr hfun hfree
  have hf : (envOfC qual scope s0.heap.objs.size f cd).frame = some s0.heap.objs.size := rfl
  have hfs : frs (envOfC qual scope s0.heap.objs.size f cd :: outer) = s0.heap.objs.size :: frs outer := frs_cons hf
  have noA : ∀ b : Addr, b ∉ (cxOf (CXe P w) P w K mg base N qual scope f cd A outer s0 H0 E).ex := fun b z => absurd z (by simp [cxOf])
  have nf : ∀ b o, s0.heap.get? b = some o → b ∉ frs outer → b ∉ frs (envOfC qual scope s0.heap.objs.size f cd :: outer) := fun b o e n z => by
    rw [hfs] at z
    rcases List.mem_cons.mp z with z | z
    · exact absurd (Heap.lt_size e) (by rw [z]; exact Nat.lt_irrefl _)
    · exact n z
  show wpAny _ _ (leaving (envOfC qual scope s0.heap.objs.size f cd) (.ref ea)) _ _ _
  refine wpAny_leaves_madeW (base := PySem.W.hideAll s.heap (frs (envOfC qual scope s0.heap.objs.size f cd :: outer))) (h := s.heap) hfr hf (fun b o q => PySem.W.of_hideAll _ q)
    (PySem.W.funFrames_hide hfun fun env he b hb => List.mem_filterMap.mpr ⟨env, he, hb⟩) mk fun h' t fl' _ _ up => ?_
  have inB : ∀ b o, s.heap.get? b = some o → b ∉ frs (envOfC qual scope s0.heap.objs.size f cd :: outer) → (PySem.W.hideAll s.heap (frs (envOfC qual scope s0.heap.objs.size f cd :: outer))).get? b = some o := fun b o e n => PySem.W.hideAll_get _ e n
  have stay : ∀ b o, s0.heap.get? b = some o → H0 b = none → b ∉ frs outer → (PySem.W.hideAll s.heap (frs (envOfC qual scope s0.heap.objs.size f cd :: outer))).get? b = some o := fun b o e n hb =>
    inB b o (I.base.keep b o e n hb (noA b)) (nf b o e hb)
  have live : ∀ b o, s0.heap.get? b = some o → b ∉ frs outer → ∃ o', (PySem.W.hideAll s.heap (frs (envOfC qual scope s0.heap.objs.size f cd :: outer))).get? b = some o' := fun b o e hb => by
    obtain ⟨o1, e1⟩ := I.base.there b o e (noA b)
    exact ⟨o1, inB b o1 e1 (nf b o e hb)⟩
  have trk : ∀ b u, H b = some u → ∃ o, (PySem.W.hideAll s.heap (frs (envOfC qual scope s0.heap.objs.size f cd :: outer))).get? b = some o := fun b u e => by
    obtain ⟨o, ho⟩ := I.hok.alive e
    exact ⟨o, inB b o ho fun z => by rw [hfree b z] at e; cases e⟩
  have slotOf : ∀ b, b ∈ frs outer → ∀ o, s.heap.get? b = some o → ∃ sl, h'.get? b = some { o with slots := sl } := fun b hb o e => by
    have hm : b ∈ frs (envOfC qual scope s0.heap.objs.size f cd :: outer) := by rw [hfs]; exact List.mem_cons_of_mem _ hb
    obtain ⟨_, o', ho', hd⟩ := hfun.mem hm
    rw [e] at ho'; cases ho'
    exact up b o (mk.keeps b o e) hd
  refine ⟨ea, cls, H, _, rfl, I.os, I.bare, ?_, I.hok.flown trk (fun b o q => PySem.W.of_hideAll _ q) fl'.1, ⟨⟨_, fl'⟩, trk, stay, live⟩, hK⟩
  refine ⟨fun b o e n hb _ => fl'.1 b o (stay b o e n hb), fun b o e n hb _ => ?_, fun b o e n _ => I.base.free b o e n (noA b), fun b o e _ => ?_, I.base.tups, I.base.frzs, I.base.tbls⟩
  · obtain ⟨sl, e1⟩ := I.base.slot b o e n hb (noA b)
    obtain ⟨sl', e2⟩ := slotOf b hb _ e1
    exact ⟨sl', e2⟩
  · by_cases hb : b ∈ frs outer
    · obtain ⟨o1, e1⟩ := I.base.there b o e (noA b)
      obtain ⟨sl, e2⟩ := slotOf b hb _ e1
      exact ⟨_, e2⟩
    · obtain ⟨o1, e1⟩ := live b o e hb
      exact ⟨o1, fl'.1 b o1 e1⟩

abbrev mroVE : List Value := [.type "ValueError", .type "Exception", .type "BaseException", .type "object"]
structure XC (K : PySem.W.Frag) (mg : Str → Option Value) (x : Str) (C : Addr) : Prop where
  m : mg x = some (.ref C)
  ex : PySem.W.excIn K C mroVE "ValueError.__new__" = true
theorem exc_obj {K : PySem.W.Frag} {h : Heap} {C : Addr} {l : List Value} {id : String} (hin : K.In h) (q : PySem.W.excIn K C l id = true) :
    ∃ bm N nm qn bs hdct sn sub ab col dd k0 k1 k2 k3 k5 mN, h.get? C = some (excClassObj nm qn C N bs bm hdct sn sub ab col dd k0 k1 k2 k3 k5 id) ∧ h.Ns N mN ∧ mN "__init__" = none ∧ OwnTail h l bm := by
  unfold PySem.W.excIn at q
  split at q
  case h_2 => cases q
  case h_1 dd cd sl ho =>
    split at q
    case h_2 => cases q
    case h_1 C' bm k0 k1 k2 k3 n k5 hm hs =>
      rw [Bool.and_eq_true, Bool.and_eq_true, Bool.and_eq_true, Bool.and_eq_true, Bool.and_eq_true] at q
      obtain ⟨⟨⟨⟨⟨q1, q2⟩, q3⟩, q4⟩, q5⟩, q6⟩ := q
      have e1 := beq_iff_eq.mp q1
      have e2 := beq_iff_eq.mp q2
      have e6 := beq_iff_eq.mp q6
      subst e1 e2
      obtain ⟨nm, bs, mro, ns, qn, hd, sn, sub, ab, col, del⟩ := cd
      have e3 : del = false := by
        cases del with
        | false => rfl
        | true => cases q3
      have hm' : mro = .ref C' :: bm := hm
      subst e3 hm'
      obtain ⟨l'⟩ := sl
      have hs' : l' = [k0, k1, k2, k3, some (.builtin n), k5] := hs
      subst hs'
      exact ⟨bm, ns, nm, qn, bs, hd, sn, sub, ab, col, dd, k0, k1, k2, k3, k5, _, hin _ _ ho, .of_isNs (PySem.W.isNs_of_in hin q5), PySem.W.nsMap_none_of_in hin q5 e6, PySem.W.tail_of_in hin q4⟩
def tRaise (Kx : XKs) (C : Addr) (t : TA) : TS := fun _ σ H => t σ H fun vs H1 => vs.length ≤ sizeLine ∧ Kx (.ref C) σ H1
theorem ps_raise {X : Cx} {Kx : XKs} {C : Addr} {x : Str} {np cpos pos : Pos} {e : Expr} {es : List Expr} {t : TA} (hx : XR X Kx) (hc : X.calm = true) (c : XC X.K X.mg x C) (ha : PA X (e :: es) t) (hg : Gl X x := by rfl) (hd : (x == ("__debug__" : Str)) = false := by decide)
    (he : starEach (e :: es) X.env = (false, eval e X.env) :: starEach es X.env := by rfl) (hpl : (backTo cpos (starEach es X.env)).any (·.1) = false := by rfl) :
    PS X (.Raise (some (.Call (.Name x np) (e :: es) [] cpos)) none pos) (tRaise Kx C t) := by
  intro pins s σ H D I h
  obtain ⟨bm, N, nm, qn, bs, hdct, sn, sub, ab, col, dd, k0, k1, k2, k3, k5, mN, hC, hN, hni, T⟩ := exc_obj I.mod.kin c.ex
  refine wpAny_Raise_call_subT (C := C) (nm := nm) (q := qn) (N := N) (bs := bs) (bm := bm) (hdct := hdct) (sn := sn) (sub := sub) (ab := ab) (col := col) (dd := dd) (k0 := k0) (k1 := k1) (k2 := k2) (k3 := k3) (k5 := k5) (mN := mN) PySem.F.excBase_ValueError (T.hasType PySem.F.excBase_ValueError.hasBase) (I.ok.hd hc) (by rw [he]; show (false || (backTo cpos (starEach es X.env)).any (·.1)) = false; rw [hpl]; rfl) hni
    (ld_glob I hg c.m ⟨rfl, ?_⟩ hd)
  have q := ha cpos pins s σ H _ I h
  rw [he] at q ⊢
  refine Calls.evalArgs_plain (wpAny_mono q (fun us s2 hq => ?_) fun _ _ y => y)
  obtain ⟨vs, H1, I1, r, hl, hk⟩ := hq
  exact ⟨rfl, by rw [← r.length]; exact hl, I1.bk _ _ hC, hN.keeps I1.bk, T.keeps I1.bk, fun h' ea mk => hx pins σ H1 s2 h' ea (.ref C) us I1 mk hk⟩

theorem Inv.flown {X : Cx} {pins : List (Addr × Obj)} {σ : St} {H H' : Hp} {s s' : Shared} {B h5 : Heap} {ea : Addr} {cls : Value} (I : Inv X pins σ H s) (I' : Inv X pins σ H' s') (fly : Fly B X.stack s.heap H H' s'.heap ea cls)
    (st : B.StaysIn h5) (up : s'.heap.UpToSlots h5) : Inv X pins σ H' { s' with heap := h5 } := by
  obtain ⟨a0, hfl⟩ := fly.fl
  have nf : ∀ b, b ∉ X.fs → b ≠ X.env.locals → b ∉ frs X.stack := fun b h1 h2 z => by
    rcases List.mem_cons.mp (I.stkSub b z) with q | q
    · exact h2 q
    · exact h1 q
  have lt0 : ∀ b o, X.s₀.heap.get? b = some o → b ≠ X.env.locals := fun b o e => Nat.ne_of_lt (Nat.lt_of_lt_of_le (Heap.lt_size e) I.ok.above)
  have cellK : ∀ {c : Addr} {v : Option Value}, s'.heap.IsCell c v → h5.IsCell c v := fun {c v} ⟨o, ho, hd⟩ => by
    obtain ⟨sl, e⟩ := up c o ho fun vs z => by rw [hd] at z; cases z
    exact ⟨_, e, hd⟩
  have slotOf : ∀ b, b ∈ X.fs → ∀ o, s'.heap.get? b = some o → ∃ sl, h5.get? b = some { o with slots := sl } := fun b hb o e => by
    obtain ⟨_, o', ho', hd⟩ := I'.funs.mem hb
    rw [e] at ho'; cases ho'
    exact up b o e hd
  refine ⟨I'.ok, I'.os, I'.bare, ⟨fun b o e n hb hx => ?_, fun b o e n hb hx => ?_, I'.base.free, fun b o e hx => ?_, I'.base.tups, I'.base.frzs, I'.base.tbls⟩, ?_, fun x c e => ?_, I'.free, I'.freeC, fun p hp => ?_, I'.hok.flown fly.trk hfl.1 st, I'.len⟩
  · exact st b o (fly.kept b o (I.base.keep b o e n hb hx) (I.base.free b o e n hx) (nf b hb (lt0 b o e)))
  · obtain ⟨sl, e1⟩ := I'.base.slot b o e n hb hx
    obtain ⟨sl', e2⟩ := slotOf b hb _ e1
    exact ⟨sl', e2⟩
  · by_cases hb : b ∈ X.fs
    · obtain ⟨o1, e1⟩ := I'.base.there b o e hx
      obtain ⟨sl, e2⟩ := slotOf b hb _ e1
      exact ⟨_, e2⟩
    · obtain ⟨o1, e1⟩ := I.base.there b o e hx
      obtain ⟨o2, e2⟩ := fly.alive b o1 e1 (nf b hb (lt0 b o e))
      exact ⟨o2, st b o2 e2⟩
  · obtain ⟨m, hn, hl⟩ := I'.loc
    refine ⟨m, up.ns hn, fun i x v e1 e2 e3 => ?_⟩
    obtain ⟨u, r, l⟩ := hl i x v e1 e2 e3
    refine ⟨u, r, ?_⟩
    rcases l with l | ⟨k, c, e, z⟩
    · exact .inl l
    · exact .inr ⟨k, c, e, cellK z⟩
  · obtain ⟨v, z⟩ := I'.cell x c e
    exact ⟨v, cellK z⟩
  · obtain ⟨e, n, ne, nfs, d⟩ := I.pin p hp
    obtain ⟨_, n', _, _, _⟩ := I'.pin p hp
    exact ⟨st _ _ (fly.kept p.1 p.2 e n (nf p.1 nfs ne)), n', ne, nfs, d⟩

def excO (a : Addr) (C : Addr) : HO := .ext fun h => ∃ o vs, h.get? a = some o ∧ o.cls = .ref C ∧ o.data = .fields vs
theorem Inv.track {X : Cx} {pins : List (Addr × Obj)} {σ : St} {H : Hp} {s : Shared} {a : Addr} {u : HO} (I : Inv X pins σ H s) (hn : H a = none) (hL : a ≠ X.env.locals) (h0 : ∀ o, X.s₀.heap.get? a = some o → a ∈ X.ex)
    (hc : ∀ x c, X.env.cells.lookup x = some c → c ≠ a) (hp : ∀ p ∈ X.pn ++ pins, p.1 ≠ a) (ok : ∀ H', ObjOk X.prog X.w H' s.heap a u) : Inv X pins σ (upd H a u) s := by
  refine ⟨I.ok, I.os, I.bare, ⟨I.base.keep, I.base.slot, fun b o e n hx => ?_, I.base.there, fun b xs e => ?_, fun b o xs e => ?_, fun b ps e => ?_⟩, I.loc, I.cell, ?_, fun x c e => ?_, fun p hq => ?_, fun b o e => ?_, I.len⟩
  · have hb : b ≠ a := fun z => hx (by rw [z] at e ⊢; exact h0 o e)
    rw [upd_ne hb]
    exact I.base.free b o e n hx
  · have q := I.base.tups b xs e
    rw [upd_ne (ne_of_none q hn)]
    exact q
  · have q := I.base.frzs b o xs e
    rw [upd_ne (ne_of_none q hn)]
    exact q
  · obtain ⟨more, q⟩ := I.base.tbls b ps e
    exact ⟨more, by rw [upd_ne (ne_of_none q hn)]; exact q⟩
  · rw [upd_ne (Ne.symm hL)]
    exact I.free
  · rw [upd_ne (hc x c e)]
    exact I.freeC x c e
  · obtain ⟨e, n, r⟩ := I.pin p hq
    exact ⟨e, by rw [upd_ne (hp p hq)]; exact n, r⟩
  · by_cases hb : b = a
    · subst hb; rw [upd_same] at e; cases e; exact ok _
    · rw [upd_ne hb] at e
      exact (I.hok b o e).stay (fun c v _ q => q) (fun c q => by rw [upd_ne (ne_of_none q hn)]; exact q) fun c xs q => by rw [upd_ne (ne_of_none q hn)]; exact q
theorem Inv.nameGone {X : Cx} {pins : List (Addr × Obj)} {σ : St} {H : Hp} {s : Shared} {i : Nat} {n : Str} {pos : Pos} {M : Model} {A : Around} {E : Value → Shared → Prop} {Q : Unit → Shared → Prop} (I : Inv X pins σ H s) (hN : X.N.Nodup) (hi : X.N[i]? = some n)
    (hl : X.env.kindOf n = some .local) (h : ∀ s', Inv X pins (σ.set i none) H s' → Q () s') : wpAny M A (do bindName X.env n .none; unbindBehindTheSuite X.env n pos) Q E s := by
  obtain ⟨m, hn, hv⟩ := id I.loc
  have hcls : (X.env.scope.kind == .class || (X.env.scope.kind == .module && X.env.locals != X.env.globals)) = false := by rw [I.ok.kind]; rfl
  have cne := I.cne
  have hiσ : i < σ.length := by rw [I.len]; exact (List.getElem?_eq_some_iff.mp hi).1
  refine wpAny_nameGoes_keeps hl hn hcls fun h' v hn' hs => ?_
  obtain ⟨oL, _, _, hoL, _⟩ := id hn
  refine h _ ⟨I.ok, I.os, I.bare, ⟨fun b o e n hb hx => ?_, fun b o e n hb hx => ?_, I.base.free, fun b o e hx => ?_, I.base.tups, I.base.frzs, I.base.tbls⟩, ⟨_, hn', fun j y v' e1 e2 e3 => ?_⟩, fun y c e => ?_, I.free, I.freeC, fun p hp => ?_, fun b ob e => ?_, by simpa using I.len⟩
  · exact (hs.2 b (Nat.ne_of_lt (Nat.lt_of_lt_of_le (Heap.lt_size e) I.ok.above))).trans (I.base.keep b o e n hb hx)
  · obtain ⟨sl, e1⟩ := I.base.slot b o e n hb hx
    exact ⟨sl, (hs.2 b (Nat.ne_of_lt (Nat.lt_of_lt_of_le (Heap.lt_size e) I.ok.above))).trans e1⟩
  · obtain ⟨o', e1⟩ := I.base.there b o e hx
    exact ⟨o', (hs.2 b (Nat.ne_of_lt (Nat.lt_of_lt_of_le (Heap.lt_size e) I.ok.above))).trans e1⟩
  · by_cases hj : j = i
    · subst hj
      rw [List.getElem?_set_self hiσ] at e2
      cases e2
    · rw [List.getElem?_set_ne (Ne.symm hj)] at e2
      obtain ⟨u', r', q⟩ := hv j y v' e1 e2 e3
      refine ⟨u', r', ?_⟩
      rcases q with ⟨k, e⟩ | ⟨k, c, e, z⟩
      · refine .inl ⟨k, ?_⟩
        have : y ≠ n := fun e => hj (nodup_ix hN e1 (e ▸ hi))
        simp [this, e]
      · exact .inr ⟨k, c, e, z.sameBut hs (cne y c e)⟩
  · obtain ⟨w', z⟩ := I.cell y c e
    exact ⟨w', z.sameBut hs (cne y c e)⟩
  · obtain ⟨e, n, ne, nf, d⟩ := I.pin p hp
    exact ⟨(hs.2 p.1 ne).trans e, n, ne, nf, d⟩
  · refine (I.hok b ob e).stay (fun c w' hc q => (hs.2 c ?_).trans q) (fun _ q => q) fun _ _ q => q
    rintro rfl
    rcases hc with rfl | hc
    · rw [I.free] at e; cases e
    · rw [I.free] at hc; cases hc

structure XH (K : PySem.W.Frag) (mg : Str → Option Value) (x : Str) (D : Addr) : Prop where
  m : mg x = some (.ref D)
  ty : PySem.W.typeIn K (.ref D) = some (.type "type")
  cl : ∃ cd, PySem.W.clsIn K D = some cd
  be : PySem.W.mroIn K D (.type "BaseException") = some true
def XSub (K : PySem.W.Frag) (C D : Addr) : Prop := PySem.W.mroIn K C (.ref D) = some true
theorem exc_match {K : PySem.W.Frag} {M : Model} {A : Around} {E : Value → Shared → Prop} {Q : Bool → Shared → Prop} {s : Shared} {mg : Str → Option Value} {x : Str} {ea C D : Addr} {o : Obj} (hin : K.In s.heap) (c : XH K mg x D) (sub : XSub K C D)
    (ho : s.heap.get? ea = some o) (hcl : o.cls = .ref C) (q : Q true s) : wpAny M A (excMatches (.ref ea) (.ref D)) Q E s := by
  obtain ⟨cd, hcd⟩ := c.cl
  have L1 := PySem.W.looks_typeIn (M := M) hin c.ty
  have L2' := PySem.W.looks_mroIn (M := M) hin c.be
  have L3 := PySem.W.looks_mroIn (M := M) hin sub
  have L4 : PySem.W.Looks M s.heap (typeOf (.ref ea)) (.ref C) := hcl ▸ (PySem.W.Looks.ld ho).andThen .now
  have L5 : PySem.W.Looks M s.heap (isType (.ref D)) true := by
    unfold PySem.W.clsIn at hcd
    split at hcd
    · rename_i ho'
      intro A' Q' E' s' k q'
      unfold isType loadHead
      exact wpAny_bind (wpAny_loadPart (k _ _ (hin _ _ ho')) (wpAny_pure q'))
    · cases hcd
  have L6 : PySem.W.Looks M s.heap (isExcClass (.ref D)) true := L5.andThen L2'
  obtain ⟨h, g, d, t, os⟩ := s
  have f := tc_notTuple
  unfold excMatches isInstance
  refine wpAny_bind (wpAny_bind (L1.at ?_))
  rw [f]
  refine wpAny_pure ?_
  simp only [Bool.false_eq_true, if_false]
  refine wpAny_bind (wpAny_pure ?_)
  rw [List.forIn_cons]
  refine wpAny_bind (wpAny_bind (wpAny_bind (L6.at ?_)))
  simp only [Bool.not_true, Bool.false_eq_true, if_false]
  refine wpAny_pure ?_
  dsimp only
  rw [List.forIn_nil]
  refine wpAny_pure ?_
  refine wpAny_bind (L4.at ?_)
  rw [List.forIn_cons]
  refine wpAny_bind (wpAny_bind (wpAny_bind (L3.at ?_)))
  simp only [if_true]
  refine wpAny_pure ?_
  dsimp only
  refine wpAny_pure ?_
  exact wpAny_pure q
end L2
namespace L2
open PySem PySem.Spec PyProof.Rows
def kdO : Option HO → String
  | some (.lst _) => "list"
  | some (.frz _ (.lst _)) => "list"
  | some (.tup _) => "tuple"
  | some (.dK _) => "dict"
  | some (.dT _) => "dict"
  | _ => ""
def kd (H : Hp) : V → String
  | .non => "NoneType"
  | .bl _ => "bool"
  | .int _ => "int"
  | .str _ => "str"
  | .ref a => kdO (H a)
  | _ => ""
def Kn (H : Hp) (x : V) : Prop := kd H x ≠ ""
def isTy (n : String) (H : Hp) (x : V) : Bool := kd H x == n || (kd H x == "bool" && n == "int")
theorem kd_ty {K : PySem.W.Frag} {H : Hp} {x : V} (h : Kn H x) : TyOf K H x (.type (kd H x)) := by
  cases x with
  | non => exact .non
  | bl b => exact .bl b
  | int i => exact .int i
  | str s => exact .str s
  | ref a =>
    have h : kdO (H a) ≠ "" := h
    show TyOf K H (.ref a) (.type (kdO (H a)))
    cases e : H a with
    | none => rw [e] at h; exact absurd rfl h
    | some o =>
      rw [e] at h
      cases o with
      | lst xs => exact .lst e
      | tup xs => exact .tup e
      | dK k => exact .dK e
      | dT k => exact .dT e
      | frz ob u =>
        cases u with
        | lst xs => exact .frz e
        | _ => exact absurd rfl h
      | _ => exact absurd rfl h
  | _ => exact absurd rfl h
theorem kdO_cases (o : Option HO) : kdO o = "" ∨ kdO o = "list" ∨ kdO o = "tuple" ∨ kdO o = "dict" := by
  unfold kdO
  split <;> simp
theorem Kn.cases {H : Hp} {x : V} (h : Kn H x) : kd H x = "NoneType" ∨ kd H x = "bool" ∨ kd H x = "int" ∨ kd H x = "str" ∨ kd H x = "list" ∨ kd H x = "tuple" ∨ kd H x = "dict" := by
  cases x with
  | ref a =>
    have h : kdO (H a) ≠ "" := h
    show kdO (H a) = _ ∨ kdO (H a) = _ ∨ kdO (H a) = _ ∨ kdO (H a) = _ ∨ kdO (H a) = _ ∨ kdO (H a) = _ ∨ kdO (H a) = _
    rcases kdO_cases (H a) with e | e | e | e
    · exact absurd e h
    · exact .inr (.inr (.inr (.inr (.inl e))))
    · exact .inr (.inr (.inr (.inr (.inr (.inl e)))))
    · exact .inr (.inr (.inr (.inr (.inr (.inr e)))))
  | non => exact .inl rfl
  | bl b => exact .inr (.inl rfl)
  | int i => exact .inr (.inr (.inl rfl))
  | str z => exact .inr (.inr (.inr (.inl rfl)))
  | _ => exact absurd rfl h
theorem kit_scal (K : PySem.W.Frag) : ∀ k ∈ ["NoneType", "bool", "int", "str", "list", "tuple", "dict"], ∀ n ∈ ["bool", "int", "str", "list", "tuple", "dict"], PySem.W.kitOne K (.type k) (.type n) = some (k == n || (k == "bool" && n == "int")) := by
  have e : ∀ k ∈ ["NoneType", "bool", "int", "str", "list", "tuple", "dict"], ∀ n ∈ ["bool", "int", "str", "list", "tuple", "dict"], (if (Value.type k == Value.type n) = true then some true else if PySem.W.kitMeta n = true then (fastBuiltinMro k).map (·.contains (.type n)) else none) = some (k == n || (k == "bool" && n == "int")) := by decide +kernel
  exact fun k hk n hn => e k hk n hn
theorem call_isi {X : Cx} : CallR X (.builtin "isinstance") (fun xs H Q => ∃ x n, xs = [x, .ty n] ∧ n ∈ ["bool", "int", "str", "list", "tuple", "dict"] ∧ Kn H x ∧ Q (.bl (isTy n H x)) H) := by
  intro pins s σ H xs us Q I r h
  obtain ⟨x, n, rfl, hn, hk, q⟩ := h
  cases r with
  | cons r1 rr =>
    cases rr with
    | cons r2 rr =>
      cases rr
      cases r2
      refine isinst_ok I r1 (kd_ty hk) (kit_scal X.K _ ?_ n hn) fun tk => ⟨.bl _, H, I.tok tk, rfl, q⟩
      rcases hk.cases with e | e | e | e | e | e | e <;> rw [e] <;> simp
end L2
namespace L2
open PySem PySem.Spec PyProof.Rows
theorem kn_int {H : Hp} {i : Int} : Kn H (.int i) ↔ True := ⟨fun _ => trivial, fun _ => (by decide : "int" ≠ "")⟩
theorem kn_bl {H : Hp} {i : Bool} : Kn H (.bl i) ↔ True := ⟨fun _ => trivial, fun _ => (by decide : "bool" ≠ "")⟩
theorem kn_str {H : Hp} {i : Str} : Kn H (.str i) ↔ True := ⟨fun _ => trivial, fun _ => (by decide : "str" ≠ "")⟩
theorem kn_lst {H : Hp} {a : Addr} {xs : List V} (h : H a = some (.lst xs)) : Kn H (.ref a) := fun z => by
  have z : kdO (H a) = "" := z
  rw [h] at z; exact absurd z (show "list" ≠ "" by decide)
theorem kn_tup {H : Hp} {a : Addr} {xs : List V} (h : H a = some (.tup xs)) : Kn H (.ref a) := fun z => by
  have z : kdO (H a) = "" := z
  rw [h] at z; exact absurd z (show "tuple" ≠ "" by decide)
theorem cxOf_K {CX : CXT} {P : Program} {w : World} {K : PySem.W.Frag} {mg : Str → Option Value} {base : Heap} {N : List Str} {qual : Str} {scope : Scope} {f : Addr} {cd : Value} {A : Around} {outer : List Env} {s : Shared} {H : Hp} {E : XK} :
    (cxOf CX P w K mg base N qual scope f cd A outer s H E).K = K := rfl
def whole : V → Bool
  | .int _ => true
  | _ => false
def within (x : V) (l h : Int) : Bool := match x with
  | .int i => decide (l ≤ i) && decide (i ≤ h)
  | _ => false
end L2
namespace L2
open PySem PySem.Spec PyProof.Rows
inductive Hid (t u : TS) : Type where
  | mk : Hid t u
def tCut (t u : TS) (_ : Hid t u) : TS := fun D σ H => ∃ M : St → Hp → Prop, t { D with nx := M } σ H ∧ ∀ σ' H', M σ' H' → u D σ' H'
theorem pss_cut {X : Cx} {st : Stmt} {rest : List Stmt} {t u : TS} (h1 : PS X st t) (h2 : PSs X rest u) : PSs X (st :: rest) (tCut t u .mk) := by
  intro pins s σ H D I h
  obtain ⟨M, h, hM⟩ := h
  refine wpAny_execs_cons (thn (h1 pins s σ H { D with nx := M } I h) fun f s1 q => ?_)
  cases f with
  | next =>
    obtain ⟨σ', H', I', q⟩ := q
    exact h2 pins s1 σ' H' D I' (hM σ' H' q)
  | ret v => exact q
  | brk => exact q
  | cont => exact q
def lstO : Option HO → Option (List V)
  | some (.lst xs) => some xs
  | some (.frz _ (.lst xs)) => some xs
  | _ => none
def tupO : Option HO → Option (List V)
  | some (.tup xs) => some xs
  | some (.frz _ (.tup xs)) => some xs
  | _ => none
theorem lstO_lst {xs : List V} : lstO (some (.lst xs)) = some xs := rfl
theorem tupO_tup {xs : List V} : tupO (some (.tup xs)) = some xs := rfl
theorem sq_tupO {K : PySem.W.Frag} {H : Hp} {a : Addr} {xs : List V} (h : tupO (H a) = some xs) : SqT K H a xs := by
  unfold tupO at h
  split at h
  · rename_i e; cases h; exact .inl (.inl e)
  · rename_i e; cases h; exact .inl (.inr ⟨_, e⟩)
  · cases h
theorem scal_ii {i j : Int} : scal (.int i) (.int j) = true := rfl
theorem scal_bb {i j : Bool} : scal (.bl i) (.bl j) = true := rfl
theorem scal_ss {i j : Str} : scal (.str i) (.str j) = true := rfl
theorem na10 : Int.natAbs 10 = 10 := rfl
theorem same_refl {H : Hp} : Same H H := fun _ _ h => h
theorem same_upd {H H' : Hp} {p : Addr} {o : HO} (s : Same H H') (h : H' p = none) : Same H (upd H' p o) := fun b u e => by
  have q := s b u e
  rw [upd_ne (ne_of_none q h)]
  exact q
end L2
namespace L2
open PySem PySem.Spec PyProof.Rows
end L2
namespace L2
open PySem PySem.Spec PyProof.Rows
inductive HidF (g : TG) (tb : TS) : Type where
  | mk : HidF g tb
def Loop (g : TG) (tb : TS) (_ : HidF g tb) (J : It) : TS := fun D σ H => ∃ W : Nat → Nat → St → Hp → Prop, (∃ m, W 0 m σ H) ∧ ∀ i m σ H, W i m σ H →
  (J.stop i H ∧ D.nx σ H) ∨ (J.go i H ∧ ∃ N : St → Hp → Prop, (∀ σ' H', N σ' H' → ∃ m', m' < m ∧ W (i + 1) m' σ' H') ∧ ∀ x H', J.yld i H x H' → g x σ H' fun σ2 H2 => tb { D with nx := N, ct := N, bk := D.nx } σ2 H2)
def tForE (wi : TI) (g : TG) (tb : TS) (h : HidF g tb) : TS := fun D σ H => wi σ H fun J H1 => Loop g tb h J D σ H1
theorem ps_forE {X : Cx} {tg iter : Expr} {body : List Stmt} {wi : TI} {g : TG} {tb : TS} {pos : Pos} (hp : PassesOwn (model X.prog X.w) X.A X.env X.xe) (hc : X.calm = true) (hi : PI X tg iter wi) (hg : PG X tg g) (hb : PSs X body tb)
    (hs : ∀ x, foldedSetIterable iter X.env x = pure x := by intro _; rfl) : PS X (.For tg iter body [] pos) (tForE wi g tb .mk) := ps_for hp hc hi hg hb hs
theorem loop_range {lo : Int} {n : Nat} {g : TG} {tb : TS} {h : HidF g tb} {D : Ends} {σ : St} {H : Hp} (Pv : Nat → St → Hp → Prop) (h0 : Pv 0 σ H)
    (hs : ∀ i σ H, i < n → Pv i σ H → g (.int (lo + i)) σ H fun σ2 H2 => tb { D with nx := Pv (i + 1), ct := Pv (i + 1), bk := D.nx } σ2 H2) (hd : ∀ σ H, Pv n σ H → D.nx σ H) : Loop g tb h (Itr lo n) D σ H := for_range Pv h0 hs hd
theorem loop_list {K : PySem.W.Frag} {a : Addr} {xs : List V} {g : TG} {tb : TS} {h : HidF g tb} {D : Ends} {σ : St} {H : Hp} (Pv : Nat → St → Hp → Prop) (h0 : Pv 0 σ H) (hl : ∀ i σ H, i ≤ xs.length → Pv i σ H → SqL K H a xs)
    (hs : ∀ i x σ H, xs[i]? = some x → Pv i σ H → g x σ H fun σ2 H2 => tb { D with nx := Pv (i + 1), ct := Pv (i + 1), bk := D.nx } σ2 H2) (hd : ∀ σ H, Pv xs.length σ H → D.nx σ H) : Loop g tb h (Itl K a) D σ H := for_list Pv h0 hl hs hd
end L2
namespace L2
open PySem PySem.Spec PyProof.Rows
end L2
namespace L2
open PySem PySem.Spec PyProof.Rows
theorem same_make {H : Hp} {x dx : Addr} {o : HO} (hx : H x = none) (hd : H dx = none) (hne : dx ≠ x) : Same H (upd (upd H dx (.own x)) x o) :=
  same_upd (same_upd same_refl hd) (by rw [upd_ne (Ne.symm hne)]; exact hx)
end L2
namespace L2
open PySem PySem.Spec PyProof.Rows
end L2
namespace L2
open PySem PySem.Spec PyProof.Rows
end L2
namespace L2
open PySem PySem.Spec PyProof.Rows
theorem isTy_tup {H : Hp} {a : Addr} {xs : List V} (h : H a = some (.tup xs)) : isTy "tuple" H (.ref a) = true := by
  unfold isTy
  rw [show kd H (.ref a) = kdO (H a) from rfl, h]; rfl
theorem isTy_lst {H : Hp} {a : Addr} {xs : List V} (h : H a = some (.lst xs)) : isTy "list" H (.ref a) = true := by
  unfold isTy
  rw [show kd H (.ref a) = kdO (H a) from rfl, h]; rfl
end L2
namespace L2
open PySem PySem.Spec PyProof.Rows
section
variable {X : Cx} {pins pins2 : List (Addr × Obj)} {σ : St} {H : Hp} {s : Shared} {E' : Value → Shared → Prop}
theorem Cx.Ok.re {pn : List (Addr × Obj)} (ok : X.Ok) : ({ X with xe := E', pn := pn } : Cx).Ok :=
  ⟨ok.mod, ok.kind, ok.glob, ok.blt, ok.above, ok.inj, ok.has, ok.cab, ok.hd, ok.frames, ok.stk, ok.exf, ok.bs, ok.bsz, ok.noex, ok.exfs, ok.funs, ok.frf⟩
theorem Inv.re (I : Inv X pins σ H s) : Inv { X with xe := E', pn := X.pn ++ pins } [] σ H s :=
  ⟨I.ok.re, I.os, I.bare, I.base, I.loc, I.cell, I.free, I.freeC, fun p hp => I.pin p (by rw [List.append_nil] at hp; exact hp), I.hok, I.len⟩
theorem Inv.unre (ok : X.Ok) (I : Inv { X with xe := E', pn := X.pn ++ pins } pins2 σ H s) : Inv X pins σ H s :=
  ⟨ok, I.os, I.bare, I.base, I.loc, I.cell, I.free, I.freeC, fun p hp => I.pin p (List.mem_append_left _ hp), I.hok, I.len⟩
theorem Inv.marked {v : Option Value} (I : Inv X pins σ H s) : Inv { X with A := X.A.mark v, calm := false, xe := E' } pins σ H s :=
  ⟨⟨I.ok.mod, I.ok.kind, I.ok.glob, I.ok.blt, I.ok.above, I.ok.inj, I.ok.has, I.ok.cab, fun z => Bool.noConfusion z, I.ok.frames, I.ok.stk, I.ok.exf, I.ok.bs, I.ok.bsz, I.ok.noex, I.ok.exfs, I.ok.funs, I.ok.frf⟩,
    I.os, I.bare, I.base, I.loc, I.cell, I.free, I.freeC, I.pin, I.hok, I.len⟩
theorem Inv.unmarked {v : Option Value} (ok : X.Ok) (I : Inv { X with A := X.A.mark v, calm := false, xe := E' } pins σ H s) : Inv X pins σ H s :=
  ⟨ok, I.os, I.bare, I.base, I.loc, I.cell, I.free, I.freeC, I.pin, I.hok, I.len⟩
end
def tTryAs (K : PySem.W.Frag) (D : Addr) (i : Nat) (tb : XKs → TS) (to th : TS) : TS := fun Dn σ H =>
  tb (fun cls σ' H' => ∃ C, cls = .ref C ∧ XSub K C D ∧ ∀ ea, H' ea = none → th { nx := fun σ2 H2 => Dn.nx (σ2.set i none) H2, rt := Dn.rt, bk := fun σ2 H2 => Dn.bk (σ2.set i none) H2, ct := fun σ2 H2 => Dn.ct (σ2.set i none) H2 }
    (σ'.set i (some (.ref ea))) (upd H' ea (excO ea C))) { Dn with nx := to Dn } σ H
theorem ps_try_as {X : Cx} {i : Nat} {n x : Str} {D : Addr} {body orelse : List Stmt} {b₀ : Stmt} {suite : List Stmt} {np hpos pos : Pos} {tb : XKs → TS} {to th : TS}
    (hN : X.N.Nodup) (hi : X.N[i]? = some n) (hlo : X.env.kindOf n = some .local) (c : XH X.K X.mg x D)
    (hb : ∀ (E' : Value → Shared → Prop) (pn : List (Addr × Obj)) (Kx : XKs), PassesOwn (model X.prog X.w) X.A X.env E' → XW { X with xe := E', pn := pn } Kx → PSs { X with xe := E', pn := pn } body (tb Kx))
    (ho : PSs X orelse to) (hh : ∀ ea : Addr, PSs { X with A := X.A.mark (some (.ref ea)), calm := false, xe := fun _ _ => False } (b₀ :: suite) th)
    (hg : Gl X x := by rfl) (hst : X.stack = X.env :: X.outer := by rfl) (hfm : X.env.frame = some X.env.locals := by rfl) (hd : (x == ("__debug__" : Str)) = false := by decide) :
    PS X (.Try body [.ExceptHandler (some (.Name x np)) (some n) (b₀ :: suite) hpos] orelse [] pos) (tTryAs X.K D i tb to th) := by
  intro pins s σ H Dn I h
  refine wpAny_Try_except ?_
  have xw : XW { X with xe := (fun e s₁ => wpAny (model X.prog X.w) X.A (noteFrame e X.env) (fun _ s₂ => wpAny (model X.prog X.w) X.A (setFlight e none) (fun _ s₃ =>
      wpAny (model X.prog X.w) X.A (handleBy e X.env [.ExceptHandler (some (.Name x np)) (some n) (b₀ :: suite) hpos]) (SP X pins Dn) X.xe s₃) X.xe s₂) X.xe s₁), pn := X.pn ++ pins }
      (fun cls σ' H' => ∃ C, cls = .ref C ∧ XSub X.K C D ∧ ∀ ea, H' ea = none → th { nx := fun σ2 H2 => Dn.nx (σ2.set i none) H2, rt := Dn.rt, bk := fun σ2 H2 => Dn.bk (σ2.set i none) H2, ct := fun σ2 H2 => Dn.ct (σ2.set i none) H2 }
        (σ'.set i (some (.ref ea))) (upd H' ea (excO ea C))) := by
    intro pins2 σ2 H2 s2 s' ea cls H' B I2 os bare un hok fly hK
    obtain ⟨C, rfl, hsub, hK⟩ := hK
    have J2 : Inv X pins σ2 H2 s2 := I2.unre I.ok
    have J' : Inv X pins σ2 H' s' := J2.call' (s' := s') (ch := []) os un hok bare (fun b z => absurd z (by simp))
    have fly : Fly B X.stack s2.heap H2 H' s'.heap ea (.ref C) := fly
    obtain ⟨a0, hfl⟩ := id fly.fl
    have hfr := I.ok.frames
    rw [hst] at hfr hfl
    show wpAny (model X.prog X.w) X.A (noteFrame (.ref ea) X.env) _ X.xe s'
    refine wpAny_looks_onW hfr hfm hfl fun h4 held4 up4 => ?_
    refine wpAny_landsW held4 fun h5 fl5 up5 => ?_
    have J5 : Inv X pins σ2 H' { s' with heap := h5 } := Inv.flown J2 J' fly fl5.1 (up4.trans up5)
    obtain ⟨oe, vs5, hoe, hoc, hod, _⟩ := fl5.first
    refine wpAny_handleBy_cons (codeAny_handlers_test (ld_glob (X := { X with A := X.A.mark (some (.ref ea)), calm := false, xe := fun _ _ => False }) (J5.marked (v := some (.ref ea))) hg c.m ?_ hd)) (by intro q; cases q)
    refine exc_match (x := x) (mg := X.mg) J5.kIn c hsub hoe hoc ?_
    refine codeAny_handlers_suite_as ?_
    refine lands_againW fl5 fun h6 fl6 up6 => ?_
    have J6 : Inv X pins σ2 H' { s' with heap := h6 } := Inv.flown J2 J' fly fl6.1 ((up4.trans up5).trans up6)
    obtain ⟨o6, vs6, ho6, hc6, hd6, _⟩ := fl6.first
    have hne : H' ea = none := by
      cases z : H' ea with
      | none => rfl
      | some u =>
        obtain ⟨o, e⟩ := fly.trk ea u z
        rw [fl6.2.1] at e; cases e
    have nB : ∀ b o, B.get? b = some o → b ≠ ea := fun b o e z => by rw [z, fl6.2.1] at e; cases e
    have J7 : Inv X pins σ2 (upd H' ea (excO ea C)) { s' with heap := h6 } := by
      refine J6.track hne ?_ ?_ ?_ ?_ ?_
      · intro z
        obtain ⟨m, ⟨oL, es, ep, hoL, hdL, _⟩, _⟩ := J6.loc
        rw [← z] at hoL
        have e := ho6.symm.trans hoL
        cases e
        rw [hd6] at hdL; cases hdL
      · intro o e
        by_cases hx : ea ∈ X.ex
        · exact hx
        · exfalso
          by_cases hf : ea ∈ X.fs
          · obtain ⟨_, o', ho', hnf⟩ := J6.funs.mem hf
            have e := ho6.symm.trans ho'
            cases e
            exact hnf _ hd6
          · obtain ⟨o1, e1⟩ := J2.base.there ea o e hx
            have hl : ea ≠ X.env.locals := Nat.ne_of_lt (Nat.lt_of_lt_of_le (Heap.lt_size e) I.ok.above)
            obtain ⟨o2, e2⟩ := fly.alive ea o1 e1 fun z => by
              rcases List.mem_cons.mp (J2.stkSub ea z) with q | q
              · exact hl q
              · exact hf q
            exact nB ea o2 e2 rfl
      · intro x' c' e z
        obtain ⟨v, o, ho, hdc⟩ := J6.cell x' c' e
        rw [z] at ho
        have e := ho6.symm.trans ho
        cases e
        rw [hd6] at hdc; cases hdc
      · intro p hp
        obtain ⟨e, nn, ne, nfs, _⟩ := J2.pin p hp
        exact nB p.1 p.2 (fly.kept p.1 p.2 e nn fun z => by
          rcases List.mem_cons.mp (J2.stkSub p.1 z) with q | q
          · exact ne q
          · exact nfs q)
      · intro H0
        exact ⟨⟨o6, vs6, ho6, hc6, hd6⟩, ⟨o6, ho6⟩, fun h1 h2 ⟨o, vs, a1, a2, a3⟩ k => ⟨o, vs, k o a1, a2, a3⟩⟩
    refine store_ok J7 hN hi (Or.inl hlo) (v := .ref ea) rfl (fun s7 J8 => ?_) (.inr hlo)
    refine wpAny_mono (hh ea pins s7 _ _ _ (J8.marked (v := some (.ref ea))) (hK ea hne)) (fun f s8 hq => ?_) (fun _ _ z => z.elim)
    show wpAny (model X.prog X.w) X.A (do bindName X.env n .none; unbindBehindTheSuite X.env n hpos) (fun _ s₃ => SP X pins Dn f s₃) X.xe s8
    cases f with
    | next =>
      obtain ⟨σ', H2', I3, q⟩ := hq
      exact (I3.unmarked I.ok).nameGone hN hi hlo fun s9 I9 => ⟨_, H2', I9, q⟩
    | brk =>
      obtain ⟨σ', H2', I3, q⟩ := hq
      exact (I3.unmarked I.ok).nameGone hN hi hlo fun s9 I9 => ⟨_, H2', I9, q⟩
    | cont =>
      obtain ⟨σ', H2', I3, q⟩ := hq
      exact (I3.unmarked I.ok).nameGone hN hi hlo fun s9 I9 => ⟨_, H2', I9, q⟩
    | ret u =>
      obtain ⟨v, σ', H2', I3, r, q⟩ := hq
      exact (I3.unmarked I.ok).nameGone hN hi hlo fun s9 I9 => ⟨v, _, H2', I9, r, q⟩
  have q := hb _ (X.pn ++ pins) _ PassesOwn.looking xw [] s σ H { Dn with nx := to Dn } I.re h
  refine wpAny_mono q (fun f s1 hq => ?_) (fun e s1 hq => hq)
  cases f with
  | next =>
    obtain ⟨σ', H', I1, q1⟩ := hq
    exact ho pins s1 σ' H' Dn (I1.unre I.ok) q1
  | brk => obtain ⟨σ', H', I1, q1⟩ := hq; exact ⟨σ', H', I1.unre I.ok, q1⟩
  | cont => obtain ⟨σ', H', I1, q1⟩ := hq; exact ⟨σ', H', I1.unre I.ok, q1⟩
  | ret u => obtain ⟨v, σ', H', I1, r, q1⟩ := hq; exact ⟨v, σ', H', I1.unre I.ok, r, q1⟩
end L2
namespace PySem.W
open PySem PySem.Spec PySem.Calls PyProof.Rows
open Builtin Builtin.ObjectAttr Builtin.Getset_descriptor
structure XIs (K : Frag) (C : Addr) : Prop where
  g : findIn K (.ref C) "__getattribute__" = some (some (.builtin "BaseException.__getattribute__"))
  h : findIn K (.ref C) "__getattr__" = some none
  b : mroIn K C (.type "BaseException") = some true
  d : hasDictIn K C = true
  a : findIn K (.ref C) "__class__" = some (some (.builtin "object.__class__"))
  n : specialIn K (.builtin "object.__class__") "__get__" = some (some (.builtin "getset_descriptor.__get__"))
  t : takesIn K (.builtin "object.__class__") = some true
  m : mroIn K C (.type "object") = some true
def ExcAt (e C : Addr) (h : Heap) : Prop := ∃ o, h.get? e = some o ∧ o.cls = .ref C
section
variable {K : Frag} {e C : Addr}
theorem ExcAt.ty {M : Model} {h : Heap} (p : ExcAt e C h) : Looks M h (typeOf (.ref e)) (.ref C) := by
  obtain ⟨o, h1, h2⟩ := p
  exact h2 ▸ (Looks.ld h1).andThen .now
theorem xcl {M : Model} {h : Heap} (hin : K.In h) (x : XIs K C) : Looks M h (isType (.ref C)) true := by
  obtain ⟨cd, hcd, _⟩ := any_some x.d
  unfold clsIn at hcd
  split at hcd
  · rename_i ho'
    intro A' Q' E' s' k q'
    unfold isType loadHead
    exact wpAny_bind (wpAny_loadPart (k _ _ (hin _ _ ho')) (wpAny_pure q'))
  · cases hcd
theorem xfind {M : Model} {h : Heap} (hin : K.In h) (x : XIs K C) : Looks M h (find (.ref e) (.ref C) "__class__") (.bind (.builtin "getset_descriptor.__get__") (.builtin "object.__class__")) := by
  have A1 := looks_findIn (M := M) hin x.a
  have A2 : Looks M h (getOf (some (.builtin "object.__class__"))) (some (.builtin "getset_descriptor.__get__")) := looks_specialIn hin x.n
  have A3 := looks_takesIn (M := M) hin x.t
  exact A1.andThen (A2.andThen ((show Looks M h (dataDescriptor? (some (.builtin "object.__class__")) (some (.builtin "getset_descriptor.__get__"))) (some _) from A3.andThen .now).andThen (Looks.tag .now)))
variable {prog : Program} {w : World} {A : Around} {E : Value → Shared → Prop} {s : Shared}
theorem xget {R : Result → Shared → Prop} {tp : Value} (hin : K.In s.heap) (p : ExcAt e C s.heap) (x : XIs K C) (h : R (.ok (.ret (.ref C))) s) :
    codeAny (model prog w) A (.call (.builtin "getset_descriptor.__get__") ⟨[.builtin "object.__class__", .ref e, tp], []⟩) R s := by
  obtain ⟨hh, g, dr, t, os⟩ := s
  have B0 := p.ty (M := model prog w)
  have B1 := looks_mroIn (M := model prog w) hin x.m
  refine codeAny_call_builtin KF.slot_gs.plain KF.entry_gs (KF.slot_gs.check _ _ _ _ _ _ _ _ KF.type_class (KF.args_gs _ _ _) ?_)
  unfold Builtin.«getset_descriptor.__get__» descrGet
  rw [dga_obj]
  refine wpAny_bind (wpAny_pure ?_)
  unfold descrGetter descrCheckInstance descrNameAndClass isInstance
  simp only [KF.owner_class]
  repeat lk
  refine ⟨Code.quiet_builtin _ (by decide +kernel), codeAny_builtin KF.entry_class ?_⟩
  unfold Builtin.«object.__class__» shownTypeOf
  repeat lk
  exact h
theorem xcheck {M : Model} {nameV : Value} {Q : Unit → Shared → Prop} (hin : K.In s.heap) (p : ExcAt e C s.heap) (x : XIs K C) (hq : Q () s) : wpAny M A (checkBuiltinCall "BaseException.__getattribute__" ⟨[.ref e, nameV], []⟩) Q E s := by
  have c1 : builtinKind "BaseException.__getattribute__" = some .slot := by decide +kernel
  have c2 : splitId "BaseException.__getattribute__" = some ("BaseException", "__getattribute__") := by decide +kernel
  have c3 := F.args_bexc_ga (.ref e) nameV
  obtain ⟨hh, g, d, t, os⟩ := s
  have B0 := p.ty (M := M)
  have B1 := looks_mroIn (M := M) hin x.b
  have B2 : Looks M hh (isInstance (.ref e) (.type "BaseException")) true := B0.andThen B1
  simp only [checkBuiltinCall, c1, c2]
  refine wpAny_bind (B2.at ?_)
  simp only [Bool.not_true, Bool.false_eq_true, if_false]
  exact wpAny_of_eq c3 hq
theorem xentry {tk : Tok} {Q : Fin → Shared → Prop} (hin : K.In s.heap) (p : ExcAt e C s.heap) (x : XIs K C) (hq : Q (.done (.ret (.ref C))) s) : wpAny (model prog w) A (Builtin.«object.__getattribute__» ⟨[.ref e, .str "__class__" tk], []⟩) Q E s := by
  obtain ⟨hh, g, d, t, os⟩ := s
  have B0 := p.ty (M := model prog w)
  have B2 := xfind (M := model prog w) (e := e) hin x
  unfold Builtin.«object.__getattribute__»
  refine wpAny_bind (wpAny_pure (a := (Value.ref e, [Value.str "__class__" tk])) ?_)
  refine wpAny_bind (wpAny_pure (a := ("__class__" : Str)) ?_)
  refine wpAny_bind (B0.at (wpAny_bind (B2.at ?_)))
  show wpAny _ _ (bindTo (Value.builtin "getset_descriptor.__get__") (Value.builtin "object.__class__") (Value.ref e) (Value.ref C)) _ _ _
  unfold bindTo
  dsimp only
  refine wpAny_bind (wpAny_holding (wpAny_call (xget (s := ⟨hh, g, d, t, os⟩) hin p x ?_)))
  exact wpAny_pure hq
theorem xca {Q : Option Value → Shared → Prop} (hin : K.In s.heap) (p : ExcAt e C s.heap) (x : XIs K C) (h : Q (some (.ref C)) { s with toks := s.toks + 1 }) : wpAny (model prog w) A (getAttr? (.ref e) "__class__") Q E s := by
  obtain ⟨hh, g, d, t, os⟩ := s
  have B0 := p.ty (M := model prog w)
  have B1 := looks_findIn (M := model prog w) hin x.g
  have B3 := looks_findIn (M := model prog w) hin x.h
  unfold getAttr? getAttrBy? getAttrBy
  refine wpAny_bind (wpAny_mkText (wpAny_bind (wpAny_attempt (wpAny_holding (wpAny_bind (B0.at (wpAny_bind (B1.at ?_))))))))
  have c2 : (Value.builtin "BaseException.__getattribute__" == Value.builtin "object.__getattribute__") = false := by decide +kernel
  simp only [c2, Bool.and_false, Bool.false_eq_true, if_false]
  unfold getAttrByItsOwn hookBefore
  rw [if_pos (show onTheHeap (Value.ref C) = true from rfl)]
  refine wpAny_bind (B3.at (wpAny_bind (wpAny_attempt (wpAny_holding ?_))))
  unfold callGetattribute boundAndCalled
  simp only [Bool.false_and, Bool.false_eq_true, if_false]
  refine wpAny_bind (wpAny_of_eq (PySem.F.attr_ValueError.ga.bind (.ref e)) ?_)
  refine wpAny_call (codeAny_call_builtin PySem.F.attr_ValueError.ga.plain F.entry_bexc_ga (xcheck (s := ⟨hh, g, d, t + 1, os⟩) hin p x (xentry (s := ⟨hh, g, d, t + 1, os⟩) hin p x ?_)))
  exact handed_on rfl (wpAny_pure h)
theorem kitx_exc (x : XIs K C) : KitX K (.ref e) (.ref C) (ExcAt e C) where
  ty := fun _ _ _ p => p.ty
  it := fun _ _ hin _ => xcl hin x
  ne := fun h tp dd its n sl hin htp => by
    refine Bool.eq_false_iff.mpr fun q => ?_
    obtain ⟨cd, hcd, _⟩ := any_some x.d
    have e1 : C = tp := Value.ref.inj (beq_iff_eq.mp q)
    rw [← e1] at htp
    unfold clsIn at hcd
    split at hcd
    · rename_i ho'
      have z := (hin _ _ ho').symm.trans htp
      cases z
    · cases hcd
  ca := fun hin p k => xca hin p x k
end
end PySem.W
namespace L2
open PySem PySem.Spec PyProof.Rows
abbrev XI (K : PySem.W.Frag) (C : Addr) : Prop := PySem.W.XIs K C
def clsV : V → Value
  | .ref a => .ref a
  | .ty n => .type n
  | _ => .none
theorem clsV_ref {a : Addr} : clsV (.ref a) = .ref a := rfl
theorem clsV_ty {n : String} : clsV (.ty n) = .type n := rfl
theorem excAt {X : Cx} {pins : List (Addr × Obj)} {σ : St} {H : Hp} {s : Shared} {a C : Addr} (I : Inv X pins σ H s) (e : H a = some (excO a C)) : PySem.W.ExcAt a C s.heap := by
  obtain ⟨⟨o, vs, h1, h2, _⟩, _⟩ := (show ObjOk X.prog X.w H s.heap a (excO a C) from I.hok a _ e)
  exact ⟨o, h1, h2⟩
theorem call_isxC {X : Cx} {K : PySem.W.Frag} (hK : X.K = K := by rfl) : CallR X (.builtin "isinstance") (fun xs H Q => ∃ a y C b, xs = [.ref a, y] ∧ H a = some (excO a C) ∧ XI K C ∧ PySem.W.kitOne K (.ref C) (clsV y) = some b ∧ Q (.bl b) H) := by
  subst hK
  intro pins s σ H xs us Q I r h
  obtain ⟨a, y, C, b, rfl, e, x, k, q⟩ := h
  cases r with
  | cons r1 rr =>
    cases rr with
    | cons r2 rr =>
      cases rr
      cases r1
      have c2 : ∀ u, RelV y u → PySem.W.kitOne X.K (.ref C) (clsV y) = some b → PySem.W.kitOne X.K (.ref C) u = some b := fun u ru k => by
        cases y with
        | ref a => cases ru; exact k
        | ty n => cases ru; exact k
        | _ => exact absurd k (by unfold clsV PySem.W.kitOne PySem.W.kitCls; simp)
      exact PySem.W.kia_one (PySem.W.kitx_exc x) I.kIn (excAt I e) (c2 _ r2 k) (fun z => nomatch z) fun tk => ⟨.bl b, H, I.tok tk, rfl, q⟩
theorem clsV_rel : ∀ {cs : List V} {its : List Value}, Vals cs its → (∀ y ∈ cs, (∃ a, y = .ref a) ∨ ∃ n, y = .ty n) → its = cs.map clsV
  | _, _, .nil, _ => rfl
  | y :: cs, u :: us, .cons r t, h => by
    have e := clsV_rel t fun z hz => h z (List.mem_cons_of_mem _ hz)
    rcases h y (List.mem_cons_self ..) with ⟨a, rfl⟩ | ⟨n, rfl⟩
    · cases r; rw [e]; rfl
    · cases r; rw [e]; rfl
theorem call_isxT {X : Cx} {K : PySem.W.Frag} (hK : X.K = K := by rfl) : CallR X (.builtin "isinstance") (fun xs H Q => ∃ a p cs C b, xs = [.ref a, .ref p] ∧ H a = some (excO a C) ∧ XI K C ∧ tupO (H p) = some cs ∧ (∀ y ∈ cs, (∃ a, y = .ref a) ∨ ∃ n, y = .ty n) ∧ PySem.W.kitAny K (.ref C) (cs.map clsV) = some b ∧ Q (.bl b) H) := by
  subst hK
  intro pins s σ H xs us Q I r h
  obtain ⟨a, p, cs, C, b, rfl, e, x, ht, hc, k, q⟩ := h
  cases r with
  | cons r1 rr =>
    cases rr with
    | cons r2 rr =>
      cases rr
      cases r1
      cases r2
      obtain ⟨its, rv, ⟨o, ho, hcl, n, hd⟩, _⟩ := I.tuple (sq_tupO (K := X.K) ht)
      obtain ⟨oc, odd, oda, osl⟩ := o
      have hcl : oc = .type "tuple" := hcl
      have hd : oda = .seq its.toArray n := hd
      subst hcl hd
      rw [← clsV_rel rv hc] at k
      exact PySem.W.kia_tup (PySem.W.kitx_exc x) I.kIn (excAt I e) ho k (fun z => nomatch z) fun tk => ⟨.bl b, H, I.tok tk, rfl, q⟩
end L2
namespace L2
open PySem PySem.Spec PyProof.Rows
inductive Dv where
  | leaf (v : V)
  | seq (t : Bool) (ds : List Dv)
mutual
def Sees (K : PySem.W.Frag) (H : Hp) : Dv → V → Prop
  | .leaf v, x => x = v ∧ flatV v = true
  | .seq t ds, x => ∃ a xs, x = .ref a ∧ (if t = true then SqT K H a xs else SqL K H a xs) ∧ SeesL K H ds xs
def SeesL (K : PySem.W.Frag) (H : Hp) : List Dv → List V → Prop
  | [], xs => xs = []
  | d :: ds, xs => ∃ x r, xs = x :: r ∧ Sees K H d x ∧ SeesL K H ds r
end
mutual
def deep : Dv → Nat
  | .leaf _ => 0
  | .seq _ ds => deepL ds + 1
def deepL : List Dv → Nat
  | [] => 0
  | d :: ds => max (deep d) (deepL ds)
end
theorem SeesL.length {K : PySem.W.Frag} {H : Hp} : ∀ {ds : List Dv} {xs : List V}, SeesL K H ds xs → ds.length = xs.length
  | [], xs, h => by unfold SeesL at h; subst h; rfl
  | d :: ds, xs, h => by
    unfold SeesL at h
    obtain ⟨x, r, rfl, _, h⟩ := h
    simp [h.length]
theorem SeesL.get {K : PySem.W.Frag} {H : Hp} : ∀ {ds : List Dv} {xs : List V} {j : Nat} {d : Dv}, SeesL K H ds xs → ds[j]? = some d → ∃ x, xs[j]? = some x ∧ Sees K H d x
  | [], xs, j, d, h, e => by simp at e
  | d' :: ds, xs, 0, d, h, e => by
    unfold SeesL at h
    obtain ⟨x, r, rfl, hx, h⟩ := h
    simp at e; subst e
    exact ⟨x, rfl, hx⟩
  | d' :: ds, xs, j + 1, d, h, e => by
    unfold SeesL at h
    obtain ⟨x, r, rfl, hx, h⟩ := h
    obtain ⟨y, e1, e2⟩ := SeesL.get (j := j) h (by simpa using e)
    exact ⟨y, by simpa using e1, e2⟩
end L2
namespace L2
open PySem PySem.Spec PyProof.Rows
def compChk (sc : Scope) (env : Env) (x : Str) (fs : List Str) : Bool :=
  sc.kind == .function && sc.names.all (fun y => y.2 != .cell && (y.2 != .local || sc.names.lookup y.1 == some .local) && (y.2 != .free || env.kindOf y.1 == some .cell || env.kindOf y.1 == some .free)) &&
    sc.names.lookup x == some .local && fs.all (fun f => sc.names.lookup f == some .free)
structure CompSc (sc : Scope) (env : Env) (x : Str) (fs : List Str) : Prop where
  kind : sc.kind = .function
  nocell : ∀ y ∈ sc.names, y.2 ≠ .cell
  own : ∀ y ∈ sc.names, y.2 = .local → sc.names.lookup y.1 = some .local
  fr : ∀ y ∈ sc.names, y.2 = .free → env.kindOf y.1 = some .cell ∨ env.kindOf y.1 = some .free
  x : sc.names.lookup x = some .local
  fs : ∀ f ∈ fs, sc.names.lookup f = some .free
theorem CompSc.of {sc : Scope} {env : Env} {x : Str} {fs : List Str} (h : compChk sc env x fs = true) : CompSc sc env x fs := by
  unfold compChk at h
  simp only [Bool.and_eq_true, beq_iff_eq, List.all_eq_true, Bool.or_eq_true, bne_iff_ne, ne_eq] at h
  obtain ⟨⟨⟨h1, h2⟩, h3⟩, h4⟩ := h
  refine ⟨h1, fun y hy => (h2 y hy).1.1, fun y hy e => ?_, fun y hy e => ?_, h3, h4⟩
  · rcases (h2 y hy).1.2 with z | z
    · exact absurd e z
    · exact z
  · rcases (h2 y hy).2 with (z | z) | z
    · exact absurd e z
    · exact .inl z
    · exact .inr z
theorem closure_ex {env : Env} : ∀ (names : List (Str × NameKind)) (acc : List (Str × Addr)), (∀ n, (n, NameKind.free) ∈ names → ∃ c, env.cells.lookup n = some c) →
    ∃ cl, (forIn names acc fun y r => (do if (y.2 == NameKind.free) = true then do let c ← cellOf env y.1; pure (ForInStep.yield ((y.1, c) :: r)) else pure (ForInStep.yield r) : Sem (ForInStep (List (Str × Addr))))) = pure cl ∧
      (∀ n c, cl.lookup n = some c → acc.lookup n = some c ∨ env.cells.lookup n = some c) ∧ ∀ n, (∃ c, acc.lookup n = some c) ∨ (n, NameKind.free) ∈ names → ∃ c, cl.lookup n = some c
  | [], acc, _ => ⟨acc, rfl, fun _ _ e => .inl e, fun n h => h.elim id fun z => nomatch z⟩
  | (n, k) :: r, acc, h => by
    have hr : ∀ m, (m, NameKind.free) ∈ r → ∃ c, env.cells.lookup m = some c := fun m hm => h m (List.mem_cons_of_mem _ hm)
    by_cases hk : k = .free
    · subst hk
      obtain ⟨c, hc⟩ := h n List.mem_cons_self
      obtain ⟨cl, e, h1, h2⟩ := closure_ex r ((n, c) :: acc) hr
      refine ⟨cl, ?_, fun m c' hm => ?_, fun m hm => h2 m ?_⟩
      · rw [List.forIn_cons]
        simp only [beq_self_eq_true, if_true, cellOf, hc, pure_bind]
        exact e
      · rcases h1 m c' hm with z | z
        · rw [List.lookup_cons] at z
          cases q : m == n with
          | true =>
            rw [q] at z
            cases z
            rw [beq_iff_eq.mp q]
            exact .inr hc
          | false => rw [q] at z; exact .inl z
        · exact .inr z
      · rw [List.lookup_cons]
        rcases hm with ⟨c', z⟩ | hm
        · cases q : m == n with
          | true => exact .inl ⟨c, rfl⟩
          | false => exact .inl ⟨c', z⟩
        · rcases List.mem_cons.mp hm with z | z
          · cases z
            rw [beq_self_eq_true]
            exact .inl ⟨c, rfl⟩
          · exact .inr z
    · obtain ⟨cl, e, h1, h2⟩ := closure_ex r acc hr
      refine ⟨cl, ?_, h1, fun m hm => h2 m ?_⟩
      · rw [List.forIn_cons]
        have hb : (k == NameKind.free) = false := by simpa using hk
        simp only [hb, Bool.false_eq_true, if_false, pure_bind]
        exact e
      · rcases hm with z | hm
        · exact .inl z
        · rcases List.mem_cons.mp hm with z | z
          · cases z; exact absurd rfl hk
          · exact .inr z
theorem closure_of {env : Env} {sc : Scope} (h : ∀ n, (n, NameKind.free) ∈ sc.names → ∃ c, env.cells.lookup n = some c) :
    ∃ cl, closureFor sc env = pure cl ∧ (∀ n c, cl.lookup n = some c → env.cells.lookup n = some c) ∧ ∀ n, (n, NameKind.free) ∈ sc.names → ∃ c, cl.lookup n = some c := by
  obtain ⟨cl, e, h1, h2⟩ := closure_ex sc.names [] h
  refine ⟨cl, ?_, fun n c z => (h1 n c z).elim (fun q => nomatch q) id, fun n hn => h2 n (.inr hn)⟩
  unfold closureFor
  simp only [bind_pure]
  exact e
theorem relabel_kind {env : Env} : ∀ {names : List (Str × NameKind)} {x : Str} {k : NameKind}, (names.map fun (n, k) => if (k == NameKind.free && env.scope.kind == .function && env.kindOf n == some .cell) then (n, NameKind.cell) else (n, k)).lookup x = some k →
    k = .cell ∨ k = .free → names.lookup x = some .free ∨ names.lookup x = some .cell
  | [], _, _, h, _ => by simp at h
  | (n, k0) :: r, x, k, h, hk => by
    have ih := @relabel_kind env r x k
    have h : List.lookup x ((if (k0 == NameKind.free && env.scope.kind == .function && env.kindOf n == some .cell) = true then (n, NameKind.cell) else (n, k0)) :: (r.map fun (n, k) => if (k == NameKind.free && env.scope.kind == .function && env.kindOf n == some .cell) then (n, NameKind.cell) else (n, k))) = some k := h
    by_cases hc : (k0 == NameKind.free && env.scope.kind == .function && env.kindOf n == some .cell) = true
    · rw [if_pos hc] at h
      simp only [List.lookup_cons] at h ⊢
      cases hx : x == n with
      | true =>
        simp only [Bool.and_eq_true, beq_iff_eq] at hc
        rw [hc.1.1]
        exact .inl rfl
      | false => rw [hx] at h; exact ih h hk
    · rw [if_neg hc] at h
      simp only [List.lookup_cons] at h ⊢
      cases hx : x == n with
      | true =>
        rw [hx] at h
        cases h
        rcases hk with rfl | rfl
        · exact .inr rfl
        · exact .inl rfl
      | false => rw [hx] at h; exact ih h hk
theorem relabel_free {env : Env} : ∀ {names : List (Str × NameKind)} {x : Str}, names.lookup x = some .free →
    (names.map fun (n, k) => if (k == NameKind.free && env.scope.kind == .function && env.kindOf n == some .cell) then (n, NameKind.cell) else (n, k)).lookup x = some .cell ∨ (names.map fun (n, k) => if (k == NameKind.free && env.scope.kind == .function && env.kindOf n == some .cell) then (n, NameKind.cell) else (n, k)).lookup x = some .free
  | [], _, h => by simp at h
  | (n, k0) :: r, x, h => by
    have ih := @relabel_free env r x
    show List.lookup x ((if (k0 == NameKind.free && env.scope.kind == .function && env.kindOf n == some .cell) = true then (n, NameKind.cell) else (n, k0)) :: _) = _ ∨ List.lookup x ((if (k0 == NameKind.free && env.scope.kind == .function && env.kindOf n == some .cell) = true then (n, NameKind.cell) else (n, k0)) :: _) = _
    simp only [List.lookup_cons] at h
    by_cases hc : (k0 == NameKind.free && env.scope.kind == .function && env.kindOf n == some .cell) = true
    · rw [if_pos hc]
      simp only [List.lookup_cons]
      cases hx : x == n with
      | true => exact .inl rfl
      | false => rw [hx] at h; exact ih h
    · rw [if_neg hc]
      simp only [List.lookup_cons]
      cases hx : x == n with
      | true => rw [hx] at h; exact .inr h
      | false => rw [hx] at h; exact ih h
def cxComp (X : Cx) (scope : Scope) (cl : List (Str × Addr)) (C : Addr) (N : List Str) (s₀ : Shared) (H₀ : Hp) (fp : List Addr) (xe : Value → Shared → Prop) : Cx :=
  { X with N := N, s₀ := s₀, H₀ := H₀, env := compEnvC scope cl C X.env, outer := X.stack, stack := X.stack, ex := fp, fn := fun _ => false, pn := [], xe := xe }
theorem xw_no {X : Cx} : XW X (fun _ _ _ => False) := fun _ _ _ _ _ _ _ _ _ _ _ _ _ _ _ h => h.elim
inductive HidC (g : TG) (tt : TT) (te : TE) : Type where
  | mk : HidC g tt te
def PF (X : Cx) (ifs : List Expr) (tt : TT) : Prop :=
  ∀ (pins : List (Addr × Obj)) (s : Shared) (σ : St) (H : Hp) (Q : Bool → Hp → Prop), Inv X pins σ H s → tt σ H Q →
    wpAny (model X.prog X.w) X.A (forIn ifs true fun c r => if r = true then do let ok ← isTrue c X.env (eval c X.env); pure (ForInStep.yield ok) else pure (ForInStep.yield r)) (TP X pins σ Q) X.xe s
def tYes : TT := fun _ H Q => Q true H
theorem pf_nil {X : Cx} : PF X [] tYes := fun _ _ _ H _ I h => by
  simp only [List.forIn_nil]
  exact wpAny_pure ⟨H, I, h⟩
theorem pf_one {X : Cx} {c : Expr} {tt : TT} (h : PT X c tt) : PF X [c] tt := fun pins s σ H Q I hw => wpAny_tests_one (h pins s σ H Q I hw)
def Comp (g : TG) (tt : TT) (te : TE) (_ : HidC g tt te) (J : It) (σ0 : St) (D : Addr) (Q : Hp → Prop) (H : Hp) : Prop :=
  ∃ W : Nat → Nat → List V → St → Hp → Prop, (∃ m, W 0 m [] σ0 (upd H D (.lst []))) ∧ ∀ i m ys σ H, W i m ys σ H →
    (J.stop i H ∧ Q H) ∨ (J.go i H ∧ ∃ N : List V → St → Hp → Prop, (∀ ys σ H, N ys σ H → ∃ m', m' < m ∧ W (i + 1) m' ys σ H) ∧
      ∀ y H', J.yld i H y H' → g y σ H' fun σ2 H2 => tt σ2 H2 fun b H2' => if b = true then te σ2 H2' fun v H3 => H3 D = some (.lst ys) ∧ ys.length < sizeLine ∧ N (ys ++ [v]) σ2 (upd H3 D (.lst (ys ++ [v]))) else N ys σ2 H2')
def tComp (wi : TI) (ix : List Nat) (g : TG) (tt : TT) (te : TE) (h : HidC g tt te) : TE := fun σ H Q => wi σ H fun J H1 => ∀ D, H1 D = none → Comp g tt te h J (none :: ix.map fun i => (σ[i]?).join) D (fun H' => Q (.ref D) H') H1
theorem comp_range {lo : Int} {n : Nat} {g : TG} {tt : TT} {te : TE} {h : HidC g tt te} {σ0 : St} {D : Addr} {Q : Hp → Prop} {H : Hp} (Pv : Nat → List V → St → Hp → Prop) (h0 : Pv 0 [] σ0 (upd H D (.lst [])))
    (hs : ∀ i ys σ H, i < n → Pv i ys σ H → g (.int (lo + i)) σ H fun σ2 H2 => tt σ2 H2 fun b H2' => if b = true then te σ2 H2' fun v H3 => H3 D = some (.lst ys) ∧ ys.length < sizeLine ∧ Pv (i + 1) (ys ++ [v]) σ2 (upd H3 D (.lst (ys ++ [v]))) else Pv (i + 1) ys σ2 H2') (hd : ∀ ys σ H, Pv n ys σ H → Q H) :
    Comp g tt te h (Itr lo n) σ0 D Q H := by
  refine ⟨fun i m ys σ H => i + m = n ∧ Pv i ys σ H, ⟨n, Nat.zero_add n, h0⟩, fun i m ys σ H ⟨e, p⟩ => ?_⟩
  by_cases hi : i < n
  · refine .inr ⟨hi, Pv (i + 1), fun ys σ H q => ⟨m - 1, by omega, by omega, q⟩, ?_⟩
    rintro y H' ⟨rfl, rfl⟩
    exact hs i ys σ H' hi p
  · have e' : i = n := by omega
    subst e'
    exact .inl ⟨Nat.le_refl _, hd ys σ H p⟩
theorem comp_list {K : PySem.W.Frag} {a : Addr} {xs : List V} {g : TG} {tt : TT} {te : TE} {h : HidC g tt te} {σ0 : St} {D : Addr} {Q : Hp → Prop} {H : Hp} (Pv : Nat → List V → St → Hp → Prop) (h0 : Pv 0 [] σ0 (upd H D (.lst []))) (hl : ∀ i ys σ H, i ≤ xs.length → Pv i ys σ H → SqL K H a xs)
    (hs : ∀ i x ys σ H, xs[i]? = some x → Pv i ys σ H → g x σ H fun σ2 H2 => tt σ2 H2 fun b H2' => if b = true then te σ2 H2' fun v H3 => H3 D = some (.lst ys) ∧ ys.length < sizeLine ∧ Pv (i + 1) (ys ++ [v]) σ2 (upd H3 D (.lst (ys ++ [v]))) else Pv (i + 1) ys σ2 H2') (hd : ∀ ys σ H, Pv xs.length ys σ H → Q H) :
    Comp g tt te h (Itl K a) σ0 D Q H := by
  refine ⟨fun i m ys σ H => i + m = xs.length ∧ Pv i ys σ H, ⟨xs.length, Nat.zero_add _, h0⟩, fun i m ys σ H ⟨e, p⟩ => ?_⟩
  have hq := hl i ys σ H (by omega) p
  by_cases hi : i < xs.length
  · have ex : xs[i]? = some xs[i] := List.getElem?_eq_getElem hi
    refine .inr ⟨⟨xs, _, hq, ex⟩, Pv (i + 1), fun ys σ H q => ⟨m - 1, by omega, by omega, q⟩, ?_⟩
    rintro y H' ⟨rfl, hy⟩
    exact hs i y ys σ H' (hy xs hq) p
  · have e' : i = xs.length := by omega
    subst e'
    exact .inl ⟨⟨xs, hq, Nat.le_refl _⟩, hd ys σ H p⟩
theorem compLoop_turn {prog : Program} {w : World} {A : Around} {R : Result → Shared → Prop} {s : Shared} {elt target iter : Expr} {ifs : List Expr} {scope : Scope} {pos : Pos} {it acc : Value} {env : Env} (I : Nat → Shared → Prop)
    (turn : ∀ n s, I n s → wpAny (model prog w) A (pyNext it) (fun r s₁ => match r with
      | none => R (.ok .next) s₁
      | some v => wpAny (model prog w) A (letOwnedTupleGo target it v) (fun _ s₁' => wpAny (model prog w) A (assign target env v) (fun _ s₂ =>
          wpAny (model prog w) A (forIn ifs true fun c r => if r = true then do let ok ← isTrue c env (eval c env); pure (ForInStep.yield ok) else pure (ForInStep.yield r)) (fun ok s₃ =>
            if ok = true then wpAny (model prog w) A (eval elt env) (fun x s₄ =>
              wpAny (model prog w) A (call (.builtin "list.append") [acc, x]) (fun _ s₅ => ∃ m, m < n ∧ I m s₅) (notedBy (model prog w) A env fun e s' => R (.error e) s') s₄) (notedBy (model prog w) A env fun e s' => R (.error e) s') s₃
            else ∃ m, m < n ∧ I m s₃) (notedBy (model prog w) A env fun e s' => R (.error e) s') s₂) (notedBy (model prog w) A env fun e s' => R (.error e) s') s₁') (notedBy (model prog w) A env fun e s' => R (.error e) s') s₁) (notedBy (model prog w) A env fun e s' => R (.error e) s') s)
    (n : Nat) (h : I n s) : codeAny (model prog w) A (.compLoop (.ListComp elt [⟨target, iter, ifs, 0⟩] scope pos) 0 it acc env) R s := by
  refine codeAny_loop rfl I (fun n s hI => ?_) n h
  show wpAny _ _ ((compTurn (.ListComp elt [⟨target, iter, ifs, 0⟩] scope pos) 0 it acc env).onRaise (fun x => do noteFrame x env; theTreesLotGoes x)) _ _ s
  refine wpAny_noted ?_
  rw [compTurn_list]
  refine wpAny_bind (wpAny_standAt (wpAny_bind (wpAny_mono (turn n s hI) (fun r s₁ h₁ => ?_) fun _ _ h' => h')))
  cases r with
  | none => exact wpAny_pure h₁
  | some v =>
    refine wpAny_bind (wpAny_mono h₁ (fun _ s₁' h₁' => ?_) fun _ _ h' => h')
    refine wpAny_bind (wpAny_mono h₁' (fun _ s₂ h₂ => wpAny_bind (wpAny_mono h₂ (fun ok s₃ h₃ => ?_) fun _ _ h' => h')) fun _ _ h' => h')
    cases ok with
    | false => exact wpAny_pure ⟨rfl, h₃⟩
    | true =>
      exact wpAny_bind (wpAny_bind (wpAny_mono h₃ (fun x s₄ h₄ => wpAny_bind (wpAny_mono h₄ (fun _ s₅ h₅ => wpAny_pure (wpAny_pure ⟨rfl, h₅⟩)) fun _ _ h' => h')) fun _ _ h' => h'))
section
variable {X : Cx}
theorem comp_block {pins : List (Addr × Obj)} {σ : St} {H2 : Hp} {s2 : Shared} {it : Addr} {fp : List Addr} {tn : Nat → Heap → Prop} {J : It} {tg iter elt : Expr} {ifs : List Expr} {scope : Scope} {cl : List (Str × Addr)} {pos : Pos} {x : Str} {fs : List Str} {ix : List Nat} {g : TG} {tt : TT} {te : TE}
    {Qf : Addr → Hp → Prop} {E : Value → Shared → Prop} {RR : Value → Addr → Result → Shared → Prop}
    (I2 : Inv X pins σ H2 s2) (T : Turn X.prog X.w X.K tg J fp it tn) (st2 : tn 0 s2.heap) (f2 : ∀ b ∈ fp, FpOk X pins H2 b) (hc : X.calm = true) (S : CompSc scope X.env x fs)
    (c1 : ∀ n c, cl.lookup n = some c → X.env.cells.lookup n = some c) (c2 : ∀ n, (n, NameKind.free) ∈ scope.names → ∃ c, cl.lookup n = some c) (hix : ix.map (X.N[·]?) = fs.map some)
    (hg : ∀ C s₀ H₀ xe, PG (cxComp X scope cl C (x :: fs) s₀ H₀ fp xe) tg g) (hf : ∀ C s₀ H₀ xe, PF (cxComp X scope cl C (x :: fs) s₀ H₀ fp xe) ifs tt) (he : ∀ C s₀ H₀ xe, PE (cxComp X scope cl C (x :: fs) s₀ H₀ fp xe) elt te)
    (h : ∀ D, H2 D = none → Comp g tt te .mk J (none :: ix.map fun i => (σ[i]?).join) D (Qf D) H2)
    (fin : ∀ D C H' s', Inv X pins σ H' s' → Qf D H' → (∃ m, s'.heap.Ns C m) → FpOk X pins H' C → RR (.ref D) C (.ok .next) s') :
    wpAny (model X.prog X.w) X.A (newList []) (fun acc s₃ => wpAny (model X.prog X.w) X.A (newFunctionEnv scope X.env.globals cl [] X.env.qual none .none (some X.env)) (fun cenv s₄ =>
      codeAny (model X.prog X.w) X.A (.compStart (.ListComp elt [⟨tg, iter, ifs, 0⟩] scope pos) 0 (.ref it) acc { cenv with scope := relabel scope X.env }) (RR acc cenv.locals) s₄) E s₃) E s2 := by
  have hD : H2 s2.heap.objs.size = none := I2.hok.fresh (Nat.le_refl _)
  obtain ⟨W, ⟨m0, w0⟩, turn⟩ := h _ hD
  refine wpAny_newObj_type (wpAny_newFunctionEnv S.nocell (by intro y hy; simp at hy) (fun h₁ hns₁ hsb₁ => ?_) S.kind)
  have I3 : Inv X pins σ (upd H2 s2.heap.objs.size (.lst [])) { s2 with heap := s2.heap.push { cls := .type "list", dict := none, data := .seq ([] : List Value).toArray } } :=
    I2.laid (t' := s2.toks) (fun b u e => Heap.get?_push_of_some _ e) (Nat.le_refl _) ⟨by decide, [], 0, .nil, Heap.get?_push_size _ rfl⟩
  obtain ⟨e3, he3⟩ : ∃ s3 : Shared, s3 = { s2 with heap := s2.heap.push { cls := .type "list", dict := none, data := .seq ([] : List Value).toArray } } := ⟨_, rfl⟩
  rw [← he3] at I3
  have hh3 : s2.heap.push { cls := .type "list", dict := none, data := .seq ([] : List Value).toArray } = e3.heap := by rw [he3]
  have sz3 : e3.heap.objs.size = s2.heap.objs.size + 1 := by rw [← hh3, Heap.size_push]
  dsimp only at hns₁ hsb₁ ⊢
  rw [hh3] at hns₁ hsb₁ ⊢
  generalize hH3 : upd H2 s2.heap.objs.size (.lst []) = H3 at *
  have live : ∀ b ∈ fp, b < s2.heap.objs.size := fun b hb => let ⟨_, e, _⟩ := T.obj _ _ st2 b hb; Heap.lt_size e
  have f3 : ∀ b ∈ fp, FpOk X pins H3 b := fun b hb => by
    refine ⟨?_, (f2 b hb).2⟩
    rw [← hH3, upd_ne (Nat.ne_of_lt (live b hb))]
    exact (f2 b hb).1
  have C0 : FpOk X pins H3 e3.heap.objs.size := I3.fpOk (Nat.le_refl _) (I3.hok.fresh (Nat.le_refl _))
  have old3 : ∀ b o, e3.heap.get? b = some o → h₁.get? b = some o := fun b o e => hsb₁.extBut b o (Nat.ne_of_lt (Heap.lt_size e)) (Heap.get?_push_of_some _ e)
  have nofs : ∀ b ∈ fp, b ∉ frs X.stack := fun b hb z => (List.mem_cons.mp (I3.stkSub b z)).elim (f3 b hb).2.1 (f3 b hb).2.2.1
  have hst1 : tn 0 h₁ := T.keep _ _ _ st2 fun b _ o e => old3 b o (by rw [← hh3]; exact Heap.get?_push_of_some _ e)
  have e0 := I3.env0
  have ok : ∀ xe, (cxComp X scope cl e3.heap.objs.size (x :: fs) e3 H3 fp xe).Ok := fun xe => by
    refine ⟨I3.ok.mod, S.kind, I3.ok.glob, I3.ok.blt, Nat.le_refl _, fun y z c h1 h2 => I3.ok.inj y z c (c1 _ _ h1) (c1 _ _ h2), fun y hy => ?_, fun y c z => ?_, I3.ok.hd, I3.ok.frames, .inl rfl, fun b hb => ⟨?_, fun y c e => (f3 b hb).2.2.2.2.1 y c (c1 _ _ e)⟩, e0.bs, e0.bsz, fun b o e hb => ?_, nofs, e0.funs, e0.frf⟩
    · have q : scope.names.lookup y = some .free ∨ scope.names.lookup y = some .cell := by
        rcases hy with hy | hy
        · exact relabel_kind hy (.inl rfl)
        · exact relabel_kind hy (.inr rfl)
      rcases q with q | q
      · exact c2 y (PySem.mem_of_lookup q)
      · exact absurd rfl (S.nocell _ (PySem.mem_of_lookup q))
    · cases z
    · exact Nat.ne_of_lt (Nat.lt_of_lt_of_le (live b hb) (by rw [sz3]; exact Nat.le_succ _))
    · rcases (f3 b hb).2.2.2.1 with z | z
      · exact I3.ok.noex b o e z
      · exact absurd (Nat.lt_of_lt_of_le (Heap.lt_size e) (Nat.le_trans I3.ok.bsz z)) (Nat.lt_irrefl _)
  have cellUp : ∀ c v, e3.heap.IsCell c v → h₁.IsCell c v := fun c v ⟨o, ho, hd⟩ => ⟨o, old3 _ _ ho, hd⟩
  have J0 : ∀ xe, Inv (cxComp X scope cl e3.heap.objs.size (x :: fs) e3 H3 fp xe) [] (none :: ix.map fun i => (σ[i]?).join) H3 { e3 with heap := h₁, toks := e3.toks + ([] : List (Str × Value)).length } := fun xe => by
    have hk : ∀ b o, e3.heap.get? b = some o → h₁.get? b = some o := old3
    refine ⟨ok xe, rfl, I3.bare, Un.kept hk, ⟨_, hns₁, fun i y v h1 h2 h3 => ?_⟩, fun y c e => ?_, I3.hok.fresh (Nat.le_refl _), fun y c e => I3.freeC y c (c1 _ _ e), fun p hp => absurd (show p ∈ ([] : List (Addr × Obj)) from hp) (by simp), I3.hok.kept hk, ?_⟩
    · cases i with
      | zero => cases h2
      | succ i =>
        have h1 : fs[i]? = some y := h1
        have h2 : (ix.map fun i => (σ[i]?).join)[i]? = some (some v) := h2
        have hy := S.fs y (List.mem_of_getElem? h1)
        rw [List.getElem?_map] at h2
        cases ej : ix[i]? with
        | none => rw [ej] at h2; cases h2
        | some j =>
          rw [ej] at h2
          have h2 : (σ[j]?).join = some v := Option.some.inj h2
          have hσ : σ[j]? = some (some v) := by
            cases q : σ[j]? with
            | none => rw [q] at h2; cases h2
            | some o => rw [q] at h2; cases o with
              | none => cases h2
              | some o => cases h2; rfl
          have hN : X.N[j]? = some y := by
            have z := congrArg (·[i]?) hix
            simp only [List.getElem?_map, ej, h1, Option.map_some] at z
            exact Option.some.inj z
          have kf := S.fr _ (PySem.mem_of_lookup hy) rfl
          obtain ⟨m, hn, hl⟩ := I3.loc
          obtain ⟨u, r, l⟩ := hl j y v hN hσ (by rcases kf with k | k; exact .inr (.inl k); exact .inr (.inr k))
          refine ⟨u, r, .inr ⟨relabel_free hy, ?_⟩⟩
          rcases l with ⟨l, _⟩ | ⟨_, c, e, z⟩
          · rcases kf with k | k <;> (rw [l] at k; cases k)
          · obtain ⟨c', e'⟩ := c2 y (PySem.mem_of_lookup hy)
            have q := c1 _ _ e'
            rw [e] at q; cases q
            exact ⟨c, e', cellUp _ _ z⟩
    · obtain ⟨v, z⟩ := I3.cell y c (c1 _ _ e)
      exact ⟨v, cellUp _ _ z⟩
    · have z := congrArg List.length hix
      simp only [List.length_map] at z
      show (none :: _ : St).length = (x :: fs).length
      simp only [List.length_cons, List.length_map, z]
  have back : ∀ {xe σ' H' s'}, Inv (cxComp X scope cl e3.heap.objs.size (x :: fs) e3 H3 fp xe) [] σ' H' s' → Inv X pins σ H' s' := fun {xe σ' H' s'} J =>
    I3.call' (s' := s') (ch := fp) J.os J.base J.hok J.bare fun b hb => ⟨(f3 b hb).2.2.2.1, (f3 b hb).2.1, (f3 b hb).2.2.2.2.1, (f3 b hb).2.2.2.2.2⟩
  have stat : ∀ {xe} {H' : Hp}, (∀ b ∈ fp, H' b = none) → ∀ b ∈ fp, FpOk (cxComp X scope cl e3.heap.objs.size (x :: fs) e3 H3 fp xe) [] H' b := fun {xe H'} hn b hb =>
    ⟨hn b hb, Nat.ne_of_lt (Nat.lt_of_lt_of_le (live b hb) (by rw [sz3]; exact Nat.le_succ _)), nofs b hb, .inl hb, fun y c e => (f3 b hb).2.2.2.2.1 y c (c1 _ _ e), fun p hp => absurd (show p ∈ ([] : List (Addr × Obj)) from hp) (by simp)⟩
  have loop : ∀ s4 : Shared, s4 = { e3 with heap := h₁, toks := e3.toks + ([] : List (Str × Value)).length } →
      codeAny (model X.prog X.w) X.A (.compLoop (.ListComp elt [⟨tg, iter, ifs, 0⟩] scope pos) 0 (.ref it) (.ref s2.heap.objs.size) (compEnvC scope cl e3.heap.objs.size X.env)) (RR (.ref s2.heap.objs.size) e3.heap.objs.size) s4 := by
    rintro s4 rfl
    let xe := notedBy (model X.prog X.w) X.A (compEnvC scope cl e3.heap.objs.size X.env) fun e s' => RR (.ref s2.heap.objs.size) e3.heap.objs.size (.error e) s'
    refine compLoop_turn (fun n s' => ∃ i ys σ' H', Inv (cxComp X scope cl e3.heap.objs.size (x :: fs) e3 H3 fp xe) [] σ' H' s' ∧ tn i s'.heap ∧ (∀ b ∈ fp, H' b = none) ∧ W i n ys σ' H') ?_ m0 ⟨0, [], _, _, J0 xe, hst1, fun b hb => (f3 b hb).1, w0⟩
    rintro n s5 ⟨i, ys, σ5, H5, J5, st5, fr5, w5⟩
    rcases turn i n ys σ5 H5 w5 with ⟨stop, qn⟩ | ⟨go, N, hN, step⟩
    · refine thn (T.done (cxComp X scope cl e3.heap.objs.size (x :: fs) e3 H3 fp xe) rfl rfl rfl hc i [] s5 σ5 H5 xe J5 (stat fr5) st5 stop) fun r s6 ⟨hr, J6⟩ => ?_
      subst hr
      obtain ⟨m, hn, _⟩ := J6.loc
      exact fin _ _ H5 s6 (back J6) qn ⟨m, hn⟩ ⟨J6.free, C0.2⟩
    · refine thn (T.item (cxComp X scope cl e3.heap.objs.size (x :: fs) e3 H3 fp xe) rfl rfl rfl hc i [] s5 σ5 H5 xe J5 (stat fr5) st5 go) fun r s6 ⟨u, hr, h6⟩ => ?_
      subst hr
      refine thn h6 fun _ s7 ⟨y, H7, J7, r7, y7, st7, fr7⟩ => ?_
      have J7' := J7.pinned (stat fr7) (T.obj _ _ st7)
      refine thn (hg _ _ _ xe _ s7 σ5 H7 y u _ J7' r7 (step y H7 y7)) fun _ s8 ⟨σ8, H8, J8, q8⟩ => ?_
      refine thn (hf _ _ _ xe _ s8 σ8 H8 _ J8 q8) fun ok s8' ⟨H8', J8', q8'⟩ => ?_
      cases ok with
      | false =>
        obtain ⟨m', hm', w9⟩ := hN _ _ _ (by simpa using q8')
        refine ⟨m', hm', i + 1, ys, σ8, _, J8'.unpinned, T.keep _ _ _ st7 fun b hb o e => (J8'.pin (b, o) (List.mem_append_right _ (List.mem_append_right _ (mem_pinsAt hb e)))).1, fun b hb => ?_, w9⟩
        obtain ⟨o, e, d⟩ := T.obj _ _ st7 b hb
        exact (J8'.pin (b, o) (List.mem_append_right _ (List.mem_append_right _ (mem_pinsAt hb e)))).2.1
      | true =>
      rw [if_pos rfl] at q8' ⊢
      refine thn (he _ _ _ xe _ s8' σ8 H8' _ J8' q8') fun uv s9 ⟨v, H9, J9, r9, hD9, hl9, n9⟩ => ?_
      obtain ⟨m', hm', w9⟩ := hN _ _ _ n9
      refine thn (mt_append (X := cxComp X scope cl e3.heap.objs.size (x :: fs) e3 H3 fp xe) _ s9 σ8 H9 (.ref s2.heap.objs.size) [v] _ [uv] (fun _ H' => H' = upd H9 s2.heap.objs.size (.lst (ys ++ [v]))) J9 rfl (.cons r9 .nil) ⟨_, ys, v, rfl, rfl, hD9, hl9, rfl⟩) fun _ s10 ⟨_, H10, J10, _, eH⟩ => ?_
      subst eH
      refine ⟨m', hm', i + 1, ys ++ [v], σ8, _, J10.unpinned, T.keep _ _ _ st7 fun b hb o e => (J10.pin (b, o) (List.mem_append_right _ (List.mem_append_right _ (mem_pinsAt hb e)))).1, fun b hb => ?_, w9⟩
      obtain ⟨o, e, d⟩ := T.obj _ _ st7 b hb
      exact (J10.pin (b, o) (List.mem_append_right _ (List.mem_append_right _ (mem_pinsAt hb e)))).2.1
  subst he3
  exact codeAny_compStart_list (loop _ rfl) (T.self X.A 0 _ _ _ hst1 (loop _ rfl))
theorem CompSc.clos {pins : List (Addr × Obj)} {σ : St} {H : Hp} {s : Shared} {scope : Scope} {x : Str} {fs : List Str} (S : CompSc scope X.env x fs) (I : Inv X pins σ H s) :
    ∃ cl, closureFor scope X.env = pure cl ∧ (∀ n c, cl.lookup n = some c → X.env.cells.lookup n = some c) ∧ ∀ n, (n, NameKind.free) ∈ scope.names → ∃ c, cl.lookup n = some c :=
  closure_of fun n hn => I.ok.has n (S.fr _ hn rfl)
theorem pe_comp {tg iter elt : Expr} {ifs : List Expr} {scope : Scope} {pos : Pos} {x : Str} {fs : List Str} {ix : List Nat} {wi : TI} {g : TG} {tt : TT} {te : TE} (hc : X.calm = true) (hi : PI X tg iter wi) (hk : compChk scope X.env x fs = true) (hix : ix.map (X.N[·]?) = fs.map some)
    (hg : ∀ cl C s₀ H₀ fp xe, PG (cxComp X scope cl C (x :: fs) s₀ H₀ fp xe) tg g) (hf : ∀ cl C s₀ H₀ fp xe, PF (cxComp X scope cl C (x :: fs) s₀ H₀ fp xe) ifs tt) (he : ∀ cl C s₀ H₀ fp xe, PE (cxComp X scope cl C (x :: fs) s₀ H₀ fp xe) elt te) (hs : ∀ x, foldedSetIterable iter X.env x = pure x := by intro _; rfl) :
    PE X (.ListComp elt [⟨tg, iter, ifs, 0⟩] scope pos) (tComp wi ix g tt te .mk) := by
  intro pins s σ H Q I h
  have S := CompSc.of hk
  obtain ⟨cl, hcl, c1, c2⟩ := S.clos I
  rw [eval_ListComp]
  refine wpAny_comprehension_free (use := none) rfl hs hcl S.kind S.own (thn (hi pins s σ H _ I h) fun v s1 h1 => thn h1 fun itv s2 h2 => ?_)
  obtain ⟨it, fp, tn, J, H2, e, I2, T, st2, f2, q⟩ := h2
  subst e
  refine comp_block (RR := fun acc C => compPost (model X.prog X.w) X.A X.xe none (EP X pins σ Q) acc C) I2 T st2 f2 hc S c1 c2 hix (fun C s₀ H₀ xe => hg cl C s₀ H₀ fp xe) (fun C s₀ H₀ xe => hf cl C s₀ H₀ fp xe) (fun C s₀ H₀ xe => he cl C s₀ H₀ fp xe) q fun D C H' s' I' q' ⟨m, hn⟩ ⟨f0, f1, _, f3, f4, f5⟩ => ?_
  exact ⟨m, hn, fun h' hs' => ⟨.ref D, H', I'.turned (t' := s'.toks) (fun b o hb e => (hs'.2 b hb).trans e) f0 f1 f3 f4 f5, rfl, q'⟩⟩
theorem ps_setC {tg iter elt : Expr} {ifs : List Expr} {scope : Scope} {pos spos py : Pos} {x y : Str} {i : Nat} {fs : List Str} {ix : List Nat} {wi : TI} {g : TG} {tt : TT} {te : TE} (hN : X.N.Nodup) (hy : X.N[i]? = some y) (hl : X.env.kindOf y = some .local) (hc : X.calm = true) (hi : PI X tg iter wi)
    (hk : compChk scope X.env x fs = true) (hix : ix.map (X.N[·]?) = fs.map some)
    (hg : ∀ cl C s₀ H₀ fp xe, PG (cxComp X scope cl C (x :: fs) s₀ H₀ fp xe) tg g) (hf : ∀ cl C s₀ H₀ fp xe, PF (cxComp X scope cl C (x :: fs) s₀ H₀ fp xe) ifs tt) (he : ∀ cl C s₀ H₀ fp xe, PE (cxComp X scope cl C (x :: fs) s₀ H₀ fp xe) elt te)
    (hsw : swapsWith (.ListComp elt [⟨tg, iter, ifs, 0⟩] scope pos) (some (.Name y py)) spos.line X.env = pure true := by rfl) (hs : ∀ x, foldedSetIterable iter X.env x = pure x := by intro _; rfl) :
    PS X (.Assign [.Name y py] (.ListComp elt [⟨tg, iter, ifs, 0⟩] scope pos) spos) (tAsg (tComp wi ix g tt te .mk) (gName i)) := by
  intro pins s σ H D I h
  have S := CompSc.of hk
  obtain ⟨cl, hcl, c1, c2⟩ := S.clos I
  rw [exec_Assign_Name_used _ _ _ _ hsw]
  refine wpAny_bind (wpAny_standAt (wpAny_bind ?_))
  show wpAny _ X.A (do let _ ← comprehension (.ListComp elt [⟨tg, iter, ifs, 0⟩] scope pos) scope X.env _ (newList []) false (eval iter X.env) (some (assign (.Name y py) X.env))) _ _ s
  refine wpAny_bind (wpAny_mono (wpAny_comprehension_free (use := some (assign (.Name y py) X.env)) (Q := fun _ s' => SP X pins D .next s') rfl hs hcl S.kind S.own
    (thn (hi pins s σ H _ I h) fun v s1 h1 => thn h1 fun itv s2 h2 => ?_)) (fun _ s' hq => wpAny_pure (wpAny_pure hq)) fun _ _ e => e)
  obtain ⟨it, fp, tn, J, H2, e, I2, T, st2, f2, q⟩ := h2
  subst e
  refine comp_block (RR := fun acc C => compPost (model X.prog X.w) X.A X.xe (some (assign (.Name y py) X.env)) (fun _ s' => SP X pins D .next s') acc C) I2 T st2 f2 hc S c1 c2 hix (fun C s₀ H₀ xe => hg cl C s₀ H₀ fp xe) (fun C s₀ H₀ xe => hf cl C s₀ H₀ fp xe) (fun C s₀ H₀ xe => he cl C s₀ H₀ fp xe) q
    fun D' C H' s' I' q' ⟨m, hn⟩ ⟨f0, f1, _, f3, f4, f5⟩ => ?_
  show wpAny _ X.A (assign (.Name y py) X.env (.ref D')) _ _ _
  refine wpAny_assign_Name (store_ok2 (v := .ref D') I' hN hy (.inl hl) rfl (fun s'' I'' ⟨a, sb, ha⟩ => ?_) (.inr hl))
  have hne : C ≠ a := by
    rcases ha with ha | ha
    · rw [ha]; exact f1
    · exact fun z => f4 _ _ ha z.symm
  exact ⟨m, hn.sameBut sb hne, fun h' hs' => ⟨_, H', I''.turned (t' := s''.toks) (fun b o hb e => (hs'.2 b hb).trans e) f0 f1 f3 f4 f5, q'⟩⟩
end
end L2
namespace L2
open PySem PySem.Spec PyProof.Rows
section
variable {X : Cx} {pins : List (Addr × Obj)} {σ : List (Option V)} {H H' : Hp} {s : Shared} {h' : Heap}
theorem Inv.turnedL {t' : Nat} {ch : List Addr} (I : Inv X pins σ H s) (k : ∀ b o, b ∉ ch → s.heap.get? b = some o → h'.get? b = some o) (hf : ∀ b ∈ ch, FpOk X pins H b) : Inv X pins σ H { s with heap := h', toks := t' } := by
  have nit : ∀ b u, H b = some u → b ∉ ch := fun b u e z => by rw [(hf b z).1] at e; cases e
  refine I.step (g' := s.gens) (d' := s.drawn) (ch := ch) (fun b hb => ⟨(hf b hb).2.2.2.1, (hf b hb).2.1, (hf b hb).2.2.2.2.1, (hf b hb).2.2.2.2.2⟩) (fun b o _ _ hc e _ => k b o hc e) (fun b o _ _ hc e _ => ⟨o.slots, k b o hc e⟩) (fun _ _ _ _ n => n)
    (fun b o hc e => ⟨o, k b o hc e⟩) (fun _ _ e => e) (fun _ _ _ e => e) (fun b ps e => ⟨#[], by rw [e]; simp⟩) (fun m hm => ?_) (fun b u e => ?_) I.bare
  · obtain ⟨o, es, ep, ho, r⟩ := hm
    exact ⟨o, es, ep, k _ o (fun z => (hf _ z).2.1 rfl) ho, r⟩
  · refine (I.hok b u e).stay (fun c v hc q => k c v ?_ q) (fun _ q => q) fun _ _ q => q
    rcases hc with z | z
    · rw [z]; exact nit b u e
    · exact nit c _ z
end
def Ite (K : PySem.W.Frag) (a : Addr) : It :=
  ⟨fun i H => ∃ xs x, SqL K H a xs ∧ xs[i]? = some x, fun i H v H' => ∃ t x, v = .ref t ∧ H t = none ∧ H' = upd H t (.tup [.int i, x]) ∧ ∀ xs, SqL K H a xs → xs[i]? = some x, fun i H => ∃ xs, SqL K H a xs ∧ xs.length ≤ i⟩
theorem turn_enum {P : Program} {w : World} {K : PySem.W.Frag} {elts : List Expr} {x1} {pos : Pos} (a e it : Addr) (hne : e ≠ it) :
    Turn P w K (.Tuple elts x1 pos) (Ite K a) [e, it] e (fun i h => (∃ old, IsEnum h e it i old) ∧ h.IsListIter it a i) where
  mem := by simp
  obj := fun i h st b hb => by
    obtain ⟨⟨old, he⟩, o, ho, c, d⟩ := st
    have hb : b = e ∨ b = it := by simpa using hb
    rcases hb with rfl | rfl
    · exact ⟨_, he, fun v z => by
        have z' : Data.fields _ = Data.cell v := z
        cases z'⟩
    · exact ⟨o, ho, fun v z => by rw [d] at z; cases z⟩
  keep := fun i h h' st k => ⟨let ⟨old, he⟩ := st.1; ⟨old, k e (by simp) _ he⟩, st.2.at fun o q => k it (by simp) o q⟩
  item := by
    intro X hP hw hK hc i pins s σ H E I hf st hg
    subst hP hw hK
    obtain ⟨xs, x, hq, hx⟩ := hg
    obtain ⟨its, rv, p, hz⟩ := I.list hq
    obtain ⟨u, hu, ru⟩ := rv.get hx
    obtain ⟨⟨old, he⟩, hit⟩ := st
    refine wpAny_pyNext_enum_item he hit p.isList (x := u) (by simpa using hu) hne fun h1 eo hit1 ht hsz kk => ?_
    refine ⟨_, rfl, wpAny_letOwnedTupleGo_enum eo fun h2 en sb => ?_⟩
    have hT : H s.heap.objs.size = none := I.hok.fresh (Nat.le_refl _)
    have hef : e ≠ s.heap.objs.size := Nat.ne_of_lt (Heap.lt_size he)
    have hif : it ≠ s.heap.objs.size := Nat.ne_of_lt (let ⟨_, ho, _⟩ := hit; Heap.lt_size ho)
    have ht2 : h2.get? s.heap.objs.size = some { cls := .type "tuple", data := .seq #[.int i s.toks, u] } := (sb.2 _ (Ne.symm hef)).trans ht
    have I1 : Inv X pins σ (upd H s.heap.objs.size (.tup [.int i, x])) { s with heap := s.heap.push { cls := .type "tuple", data := .seq #[.int i s.toks, u] } } :=
      I.laid (t' := s.toks) (fun b o q => Heap.get?_push_of_some _ q) (Nat.le_refl _) ⟨by show 2 ≤ sizeLine; decide, [.int i s.toks, u], .cons ⟨_, rfl⟩ (.cons ru .nil), ⟨_, Heap.get?_push_size _ rfl, rfl, _, rfl⟩⟩
    have hf1 : ∀ b ∈ [e, it], FpOk X pins (upd H s.heap.objs.size (.tup [.int i, x])) b := fun b hb => by
      refine ⟨?_, (hf b hb).2⟩
      have hb' : b = e ∨ b = it := by simpa using hb
      rw [upd_ne (by rcases hb' with rfl | rfl; exact hef; exact hif)]
      exact (hf b hb).1
    have I2 : Inv X pins σ (upd H s.heap.objs.size (.tup [.int i, x])) { s with heap := h2, toks := s.toks + 1 } := by
      have J := Inv.turnedL (t' := s.toks + 1) (h' := h2) (ch := [e, it]) I1 ?k hf1
      · exact J
      intro b o hb q
      dsimp only at q
      have hb1 : b ≠ e := fun z => hb (by simp [z])
      have hb2 : b ≠ it := fun z => hb (by simp [z])
      rcases PySem.Heap.get?_push_cases q with ⟨rfl, rfl⟩ | q
      · exact ht2
      · exact (sb.2 b hb1).trans (kk b o hb1 hb2 q)
    refine ⟨.ref s.heap.objs.size, _, I2, rfl, ⟨_, x, rfl, hT, rfl, fun ys hy => by rw [I.list_inj hy hq]; exact hx⟩, ⟨⟨_, en⟩, hit1.extBut sb.extBut (Ne.symm hne)⟩, fun b hb => (hf1 b hb).1⟩
  done := by
    intro X hP hw hK hc i pins s σ H E I hf st hg
    subst hP hw hK
    obtain ⟨xs, hq, hx⟩ := hg
    obtain ⟨its, rv, p, hz⟩ := I.list hq
    obtain ⟨⟨old, he⟩, hit⟩ := st
    obtain ⟨f0, f1, f2, f3, f4, f5⟩ := hf it (by simp)
    have hl := rv.length
    exact wpAny_pyNext_enum_end (I.ok.hd hc) he hit p.isList (by simp; omega) fun h' eb => ⟨rfl, I.turned (t' := s.toks) (fun b o hb e => eb b o hb e) f0 f1 f3 f4 f5⟩
  self := fun _ _ _ _ _ st h => let ⟨_, he⟩ := st.1; wpAny_pyIter_enum he h
section
variable {X : Cx}
def iEnum (K : PySem.W.Frag) (ta : TA) : TI := fun σ H R => ta σ H fun vs H1 => ∃ a, vs = [.ref a] ∧ (∃ xs, SqL K H1 a xs) ∧ R (Ite K a) H1
theorem boot_enum : bootBuiltins "enumerate" = some (.type "enumerate") := by decide +kernel
theorem pi_enum {e : Expr} {ta : TA} {p pos tpos : Pos} {elts : List Expr} {x1} (hg : Gl X "enumerate") (hm : X.mg "enumerate" = none) (ha : PA X [e] ta) (hs : starEach [e] X.env = [(false, eval e X.env)] := by rfl) :
    PI X (.Tuple elts x1 tpos) (.Call (.Name "enumerate" p) [e] [] pos) (iEnum X.K ta) := by
  intro pins s σ H R I h
  refine Call_ (ld_blt I hg hm boot_enum (PyProof.Rows.callWith_type1 (thn (ha pos pins s σ H _ I h) fun us s1 ⟨vs, H1, I1, r1, q1⟩ => ?_) hs rfl))
  obtain ⟨a, ev, ⟨xs, hq⟩, q⟩ := q1
  subst ev
  cases r1 with
  | cons r rr =>
    cases rr
    cases r
    obtain ⟨its, rv, pl, hz⟩ := I1.list hq
    refine call_enumerate_list pl.isList fun h' he hit hsz kk => wpAny_pyIter_enum he ?_
    have I2 : Inv X pins σ H1 { s1 with heap := h' } := I1.kept (t' := s1.toks) kk
    refine ⟨s1.heap.objs.size + 1, [s1.heap.objs.size + 1, s1.heap.objs.size], _, _, H1, rfl, I2, turn_enum a _ _ (Nat.ne_of_gt (Nat.lt_succ_self _)), ⟨⟨_, he⟩, hit⟩, fun b hb => ?_, q⟩
    have hb : b = s1.heap.objs.size + 1 ∨ b = s1.heap.objs.size := by simpa using hb
    have hle : s1.heap.objs.size ≤ b := by rcases hb with rfl | rfl; exact Nat.le_succ _; exact Nat.le_refl _
    exact I1.fpOk hle (I1.hok.fresh hle)
end
theorem loop_enum {K : PySem.W.Frag} {a : Addr} {xs : List V} {g : TG} {tb : TS} {h : HidF g tb} {D : Ends} {σ : St} {H : Hp} (Pv : Nat → St → Hp → Prop) (h0 : Pv 0 σ H) (hl : ∀ i σ H, i ≤ xs.length → Pv i σ H → SqL K H a xs)
    (hs : ∀ i x t σ H, xs[i]? = some x → Pv i σ H → H t = none → g (.ref t) σ (upd H t (.tup [.int i, x])) fun σ2 H2 => tb { D with nx := Pv (i + 1), ct := Pv (i + 1), bk := D.nx } σ2 H2) (hd : ∀ σ H, Pv xs.length σ H → D.nx σ H) : Loop g tb h (Ite K a) D σ H := by
  refine ⟨fun i m σ H => i + m = xs.length ∧ Pv i σ H, ⟨xs.length, Nat.zero_add _, h0⟩, fun i m σ H ⟨e, p⟩ => ?_⟩
  have hq := hl i σ H (by omega) p
  by_cases hi : i < xs.length
  · have ex : xs[i]? = some xs[i] := List.getElem?_eq_getElem hi
    refine .inr ⟨⟨xs, _, hq, ex⟩, Pv (i + 1), fun σ H q => ⟨m - 1, by omega, by omega, q⟩, ?_⟩
    rintro y H' ⟨t, x, rfl, ht, rfl, hy⟩
    exact hs i x t σ H (hy xs hq) p ht
  · have e' : i = xs.length := by omega
    subst e'
    exact .inl ⟨⟨xs, hq, Nat.le_refl _⟩, hd σ H p⟩
end L2
namespace L2
open PySem PySem.Spec PyProof.Rows
section
variable {X : Cx} {pins : List (Addr × Obj)} {σ : St} {H : Hp} {s : Shared} {a : Addr} {kvs : List (Key × V)} {k : Key} {u r : Value} {z : V} {A : Around} {E : Value → Shared → Prop}
end
section
variable {X : Cx} {o e f : Expr} {apos cpos : Pos} {td ty tx : TE}
end
inductive HidW (c : TT) (tb : TS) : Type where
  | mk : HidW c tb
inductive HidB (tb : TS) : Type where
  | mk : HidB tb
def LoopW (c : TT) (tb : TS) (_ : HidW c tb) : TS := tWhile c tb
def TurnW (tb : TS) (_ : HidB tb) (Pv : Nat → St → Hp → Prop) (m : Nat) (D : Ends) (σ : St) (H : Hp) : Prop :=
  ∃ N : St → Hp → Prop, (∀ σ' H', N σ' H' → ∃ m', m' < m ∧ Pv m' σ' H') ∧ tb { D with nx := N, ct := N, bk := D.nx } σ H
theorem ps_whileE {X : Cx} {c : Expr} {body : List Stmt} {tc : TT} {tb : TS} {pos : Pos} (hp : PassesOwn (model X.prog X.w) X.A X.env X.xe) (hc : PT X c tc) (hb : PSs X body tb) : PS X (.While c body [] pos) (LoopW tc tb .mk) := ps_while hp hc hb
theorem loop_while {c : TT} {tb : TS} {h : HidW c tb} {D : Ends} {σ : St} {H : Hp} (Pv : Nat → St → Hp → Prop) (m0 : Nat) (h0 : Pv m0 σ H)
    (hs : ∀ m σ H, Pv m σ H → c σ H fun b H1 => if b = true then TurnW tb .mk Pv m D σ H1 else D.nx σ H1) : LoopW c tb h D σ H := ⟨Pv, ⟨m0, h0⟩, hs⟩
theorem turnW {tb : TS} {h : HidB tb} {Pv : Nat → St → Hp → Prop} {m : Nat} {D : Ends} {σ : St} {H : Hp}
    (q : tb { D with nx := fun σ' H' => ∃ m', m' < m ∧ Pv m' σ' H', ct := fun σ' H' => ∃ m', m' < m ∧ Pv m' σ' H', bk := D.nx } σ H) : TurnW tb h Pv m D σ H := ⟨_, fun _ _ h => h, q⟩
end L2
namespace L2
open PySem PySem.Spec PyProof.Rows
section
variable {X : Cx} {pins : List (Addr × Obj)} {σ : List (Option V)} {H : Hp} {s : Shared} {a : Addr}
end
end L2
namespace L2
open PySem PySem.Spec PyProof.Rows
end L2
namespace L2
open PySem PySem.Spec PyProof.Rows
end L2
namespace L2
open PySem PySem.Spec PyProof.Rows
end L2
namespace L2
open PySem PySem.Spec PyProof.Rows
end L2
namespace L2
open PySem PySem.Spec PyProof.Rows
structure FunD (K : PySem.W.Frag) (x qual : Str) (st : Stmt) (f : Addr) (fd : FuncData) : Prop where
  ex : ∃ (oc : Value) (od : Option Addr) (dV kV doc pm : Value) (an : Option Addr) (cdv ct : Value) (osl : Array (Option Value)),
    fd = PySem.W.fnOf x qual (defArgs st) (defBody st) (defScope st) dV kV doc pm an cdv ct ∧ K.lookup f = some ⟨oc, od, .func fd, osl⟩ ∧ PySem.W.codeIn K cdv qual = true
  kp : PySem.W.keepIn K (.ref f) = true
section
variable {P : Program} {w : World} {K : PySem.W.Frag} {mg : Str → Option Value} {base : Heap}
theorem FunD.okE {x qual : Str} {st : Stmt} {f : Addr} {fd : FuncData} {N ps : List Str} {k : Nat} {sp : Sp} (F : FunD K x qual st f fd) (S : FnScope N ps (defScope st)) (len : ∀ vs H Q E, sp vs H Q E → vs.length = ps.length)
    (hbody : Body P w K mg base qual st N k sp) : FnOk P w K mg base (CXe P w) (k + 1) f fd ps sp := by
  obtain ⟨oc, od, dV, kV, doc, pm, an, cdv, ct, osl, rfl, lk, hcd⟩ := F.ex
  exact fn_of lk hcd S len fun A outer s H vs Q E hr hsp => hbody f cdv A outer s H vs Q E hr hsp
def RawMD (K : PySem.W.Frag) (C : Addr) (m qual : Str) (st : Stmt) (ps : List Str) (dvs : List V) : Prop := ∃ f fd ds, Meth K C m f ∧ FunD K m qual st f fd ∧ Binds K fd ps ds ∧ Vals dvs ds
def RawID (K : PySem.W.Frag) (mg : Str → Option Value) (x : Str) (C : Addr) (qual : Str) (st : Stmt) (ps : List Str) (dvs : List V) : Prop := ∃ f fd ds, mg x = some (.ref C) ∧ Mk K C f ∧ FunD K "__init__" qual st f fd ∧ Binds K fd ps ds ∧ Vals dvs ds
theorem RawMD.have {C : Addr} {m qual : Str} {st : Stmt} {N ps : List Str} {dvs : List V} {k : Nat} {sp : Sp} (R : RawMD K C m qual st ps dvs) (S : FnScope N ps (defScope st)) (len : ∀ vs H Q E, sp vs H Q E → vs.length = ps.length)
    (hbody : Body P w K mg base qual st N k sp) : HaveM P w K mg base C m (k + 1) ps dvs sp :=
  let ⟨f, fd, ds, hm, F, hb, hd⟩ := R
  ⟨f, fd, ds, hm, hb, hd, F.okE S len hbody⟩
theorem RawID.have {C : Addr} {x qual : Str} {st : Stmt} {N ps : List Str} {dvs : List V} {k : Nat} {sp : Sp} (R : RawID K mg x C qual st ps dvs) (S : FnScope N ps (defScope st)) (len : ∀ vs H Q E, sp vs H Q E → vs.length = ps.length)
    (hbody : Body P w K mg base qual st N k sp) : HaveI P w K mg base x C (k + 1) ps dvs sp :=
  let ⟨f, fd, ds, hm, M, F, hb, hd⟩ := R
  ⟨f, fd, ds, hm, M, hb, hd, F.okE S len hbody⟩
end
end L2
namespace L2
open PySem PySem.Spec PyProof.Rows
end L2
namespace L2
open PySem PySem.Spec PyProof.Rows
end L2
namespace L2
open PySem PySem.Spec PyProof.Rows
def rIx2 (K : PySem.W.Frag) : R2 := fun x y H Q => rIxL K x y H Q ∨ rIxT K x y H Q
theorem ix_two {X : Cx} : IxR X (rIx2 X.K) := ix_list.or ix_tup
section
variable {X : Cx}
end
theorem Vals.at {xs : List V} {us : List Value} (r : Vals xs us) (m : Nat) (h1 : m < xs.length) (h2 : m < us.length) : RelV xs[m] us[m] := by
  obtain ⟨u, hu, ru⟩ := r.get (List.getElem?_eq_getElem h1)
  rw [List.getElem?_eq_getElem h2] at hu
  cases hu
  exact ru
end L2
namespace L2
open PySem PySem.Spec PyProof.Rows
theorem meets_lenE {prog : Program} {w : World} {d : Addr} (hd : (d == sysModules) = false) : MeetsIn prog w (Builtin.«dict.__len__» ⟨[.ref d], []⟩) (fun _ R s => ∃ o es ep, s.heap.get? d = some o ∧ o.data = .dict es ep ∧ R (.ok (.ret (.int es.size s.toks))) { s with toks := s.toks + 1 }) :=
  .of_wp fun A R s ⟨o, es, ep, ho, hdat, h⟩ => by
    show wpAny _ _ (dictSize d >>= _) _ _ s
    unfold dictSize
    refine wpAny_bind (wpAny_bind (wpAny_dictEntries ho hdat (wpAny_pure ?_)))
    show wpAny _ _ (Builtin.Dict.pendingCount d >>= _) _ _ s
    refine wpAny_bind (wpAny_pendingCount_other hd ?_)
    refine wpAny_ret_mkInt ?_
    rw [Nat.add_zero]; exact h
theorem call_lenE {prog : Program} {w : World} {A : Around} {E : Value → Shared → Prop} {s : Shared} {d : Addr} {o : Obj} {es : Array DictEntry} {ep : Nat} {Q : Value → Shared → Prop} (hd : (d == sysModules) = false) (ho : s.heap.get? d = some o) (hc : o.cls = .type "dict") (hdat : o.data = .dict es ep) (hfit : (es.size : Int) < 2 ^ 63)
    (h : Q (.int es.size (s.toks + 1)) { s with toks := s.toks + 1 + 1 }) : wpAny (model prog w) A (call (.builtin "len") [.ref d]) Q E s := by
  have hT : s.TypeIs (.ref d) "dict" := ⟨o, ho, hc⟩
  refine Calls.call_function_entry kind_len plain_len entry_len (args_len1 _) ?_
  unfold Builtin.«len»
  refine wpAny_bind (m := oneArg "len" _) (wpAny_pure ?_)
  refine wpAny_bind (m := callSpecial? (.ref d) (Str.ofString "__len__")) (wpAny_callSpecial?_slot (name := Str.ofString "__len__") hT F.slot_dict_len
    (call_meetsIn F.slot_dict_len hT F.entry_dict_len (F.args_dict_len_1 _) (meets_lenE hd) ⟨o, es, ep, ho, hdat, ?_⟩))
  show wpAny _ _ _ _ _ { s with toks := s.toks + 1 }
  refine wpAny_bind (wpAny_holding (wpAny_pure ?_))
  refine wpAny_bind (wpAny_letGo ?_)
  show wpAny _ _ (if ((es.size : Nat) : Int) < 0 then _ else _) _ _ _
  rw [if_neg (by omega)]
  show wpAny _ _ (if ((es.size : Nat) : Int) ≥ 2 ^ 63 then _ else _) _ _ _
  rw [if_neg (by omega)]
  exact wpAny_bind (wpAny_mkInt (wpAny_pure ⟨_, rfl, h⟩))
theorem call_lenDT {X : Cx} : CallR X (.builtin "len") (fun xs H Q => ∃ a kvs, xs = [V.ref a] ∧ H a = some (.dT kvs) ∧ Q (.int kvs.length) H) := by
  intro pins s σ H xs us Q I r h
  obtain ⟨a, kvs, rfl, ha, q⟩ := h
  obtain ⟨u, rfl, ru⟩ := vals1 r
  cases ru
  obtain ⟨z, hd, xs, rel, o, es, ep, ho, hc, hdat, he, _⟩ := dt_of I.hok ha
  have hs : es.size = kvs.length := by
    have e1 : es.size = xs.length := by rw [← Array.length_toList, he, List.length_map]
    rw [e1, ← rel.length]
  refine call_lenE hd ho hc.1 hdat (by rw [sizeLine_eq] at z; omega) ?_
  rw [hs]
  exact ⟨.int kvs.length, H, I.tok _, ⟨_, rfl⟩, q⟩
end L2
namespace L2
open PySem PySem.Spec PyProof.Rows
theorem map_erase {α β : Type} {f : α → β} : ∀ {l : List α} {j : Nat}, (l.map f).eraseIdx j = (l.eraseIdx j).map f
  | [], _ => rfl
  | _ :: _, 0 => rfl
  | x :: l, j + 1 => congrArg (f x :: ·) (map_erase (l := l) (j := j))
section
variable {prog : Program} {w : World} {K : Type} [DecidableEq K] {knd : HeapKind prog w K} {A : Around} {E : Value → Shared → Prop} {s : Shared}
theorem takeOut_heap {d a : Addr} {xs : List (K × Addr × Value)} {k : K} {j : Nat} {p : Addr × Value} {Q : Option DictEntry → Shared → Prop} (hu : knd.room A) (hkey : knd.is s.heap k a) (hm : s.heap.DictOfH knd d xs) (hj : xs[j]? = some (k, p)) (hsz : xs.length ≤ sizeLine)
    (hQ : ∀ e h', e.val = p.2 → h'.DictOfH knd d (xs.eraseIdx j) → Heap.SameBut d s.heap h' → Q (some e) { s with heap := h', toks := s.toks + knd.draws k }) : wpAny (model prog w) A (Builtin.Dict.takeOut d (.ref a)) Q E s := by
  obtain ⟨o, es, ep, ho, hc, hd, he, his, hn⟩ := hm
  have hes := size_of_entries he
  unfold Builtin.Dict.takeOut
  try with_reducible refine wpAny_holding ?_
  refine wpAny_bind (knd.pyHash hu hkey ?_)
  refine wpAny_bind (wpAny_dictFind_heap (s := { s with toks := s.toks + knd.draws k }) hu hkey ho hd he his hn (fun hno => absurd hj (hno j p)) fun j' p' hj' => ?_)
  have ej : j' = j := idxH_unique hn hj' hj
  subst ej
  refine wpAny_bind (wpAny_dictEntries (s := { s with toks := s.toks + knd.draws k }) ho hd ?_)
  have ee : es[j']? = some (entryOfKey knd (k, p)) := by rw [entry_at he, hj]; rfl
  rw [ee]
  refine wpAny_bind (wpAny_updateDictKeys (hz := by omega) (s := { s with toks := s.toks + knd.draws k }) ho hd (wpAny_pure (hQ (entryOfKey knd (k, p)) _ rfl ⟨_, _, ep + 1, Heap.get?_update_self _ ho (Obj.isFreed_of_dict (Obj.data_mapDictKeys hd _)), hc.mapDictKeys _, Obj.data_mapDictKeys hd _, ?_, ?_, ?_⟩ (Heap.SameBut.update ..))))
  · have hlt : j' < es.size := by rw [hes]; exact (List.getElem?_eq_some_iff.mp hj).1
    simp [Array.eraseIdxIfInBounds, hlt, he, map_erase]
  · intro x hx
    exact knd.keeps (his x ((List.eraseIdx_sublist ..).subset hx)) ho hd (Heap.SameBut.update ..)
  · exact hn.sublist ((List.eraseIdx_sublist ..).map _)
theorem meets_popH {d a : Addr} : MeetsIn prog w (Builtin.«dict.pop» ⟨[.ref d, .ref a], []⟩) (fun A R s => knd.room A.in1 ∧ ∃ k xs j p, knd.is s.heap k a ∧ s.heap.DictOfH knd d xs ∧ xs.length ≤ sizeLine ∧ xs[j]? = some (k, p) ∧
      ∀ h', h'.DictOfH knd d (xs.eraseIdx j) → Heap.SameBut d s.heap h' → R (.ok (.ret p.2)) { s with heap := h', toks := s.toks + knd.draws k }) :=
  .of_wp fun A R s ⟨hu, k, xs, j, p, hkey, hm, hsz, hj, h⟩ => by
    unfold Builtin.«dict.pop»
    refine wpAny_bind ?_
    unfold Builtin.Dict.keyAndDefault
    refine wpAny_bind (wpAny_notOrdered_dict hm.typeIs ?_)
    show wpAny _ _ (pure (d, Value.ref a, none)) _ _ s
    refine wpAny_pure ?_
    obtain ⟨o, es, ep, ho, hc, hd, he, his, hn⟩ := id hm
    have hes := size_of_entries he
    have hne : es.isEmpty = false := by
      have hlt := (List.getElem?_eq_some_iff.mp hj).1
      cases hE : es.isEmpty with
      | false => rfl
      | true =>
        rw [Array.isEmpty_iff.mp hE] at hes
        have h0 : xs.length = 0 := by simpa using hes.symm
        omega
    have hk : (keyPart (.ref a)).isSome = false := rfl
    simp only [hk, Bool.false_eq_true, if_false]
    refine wpAny_bind (wpAny_dictEntries ho hd ?_)
    refine wpAny_bind (wpAny_pure ?_)
    rw [hne]
    simp only [Bool.false_eq_true, if_false]
    refine wpAny_bind (takeOut_heap hu hkey hm hj hsz fun e h' ev hm' hs' => ?_)
    simp only [Option.isNone_some, Bool.false_eq_true, if_false]
    exact wpAny_bind (wpAny_letGo (wpAny_pure ⟨e.val, rfl, by rw [ev]; exact h h' hm' hs'⟩))
end
theorem KT.erase {H : Hp} : ∀ {kvs : List (List Key × V)} {xs : List (List Key × Addr × Value)} (j : Nat), KT H kvs xs → KT H (kvs.eraseIdx j) (xs.eraseIdx j)
  | _, _, _, .nil => .nil
  | _, _, 0, .cons _ t => t
  | _, _, j + 1, .cons r t => .cons r (KT.erase j t)
theorem KT.find {H : Hp} {k : List Key} {v : V} : ∀ {kvs : List (List Key × V)} {xs : List (List Key × Addr × Value)}, KT H kvs xs → (xs.map (·.1)).Nodup → valV kvs k = some v → ∃ (j : Nat) (p : Addr × Value), xs[j]? = some (k, p) ∧ RelV v p.2 ∧ dropK kvs k = kvs.eraseIdx j
  | _, _, .nil, _, h => by cases h
  | kv :: kvs, x :: xs, .cons r t, hn, h => by
    obtain ⟨h1, h2⟩ := List.nodup_cons.mp hn
    by_cases c : kv.1 = k
    · rw [valV_pos c] at h
      refine ⟨0, x.2, ?_, ?_, ?_⟩
      · show some x = some (k, x.2)
        rw [← c, r.1]
      · cases h; exact r.2.2
      · have hk : ∀ y ∈ kvs, y.1 ≠ k := fun y hy e => by
          have hx : k ∈ xs.map (·.1) := by
            have : xs.map (·.1) = kvs.map (·.1) := by
              have aux : ∀ {a : List (List Key × V)} {b : List (List Key × Addr × Value)}, KT H a b → b.map (·.1) = a.map (·.1) := fun q => by
                induction q with
                | nil => rfl
                | cons r _ ih => rw [List.map_cons, List.map_cons, ih, r.1]
              exact aux t
            rw [this]
            exact List.mem_map.mpr ⟨y, hy, e⟩
          exact h1 (by show x.1 ∈ _; rw [← r.1, c]; exact hx)
        show (kv :: kvs).filter _ = kvs
        rw [List.filter_cons, if_neg (by simp [c]), List.filter_eq_self.mpr fun y hy => by simpa using hk y hy]
    · rw [valV_neg c] at h
      obtain ⟨j, p, e1, e2, e3⟩ := KT.find t h2 h
      refine ⟨j + 1, p, by simpa using e1, e2, ?_⟩
      show (kv :: kvs).filter _ = kv :: kvs.eraseIdx j
      rw [List.filter_cons, if_pos (by simp [c]), ← e3]
      rfl
theorem d_popT {X : Cx} {pins : List (Addr × Obj)} {σ : St} {H : Hp} {s : Shared} {a b : Addr} {kvs : List (List Key × V)} {k : List Key} {A : Around} {E : Value → Shared → Prop} {v : V} {Q : Value → Shared → Prop} (hu : A.units + 1 < cLine) (I : Inv X pins σ H s) (e : H a = some (.dT kvs)) (eb : H b = some (.tup (k.map kV))) (l : valV kvs k = some v)
    (h : ∀ w' s', Inv X pins σ (upd H a (.dT (dropK kvs k))) s' → RelV v w' → Q w' s') : wpAny (model X.prog X.w) A (call (.builtin "dict.pop") [.ref a, .ref b]) Q E s := by
  obtain ⟨z, hd, xs, rel, dd⟩ := dt_of I.hok e
  have hz : xs.length ≤ sizeLine := by rw [← Paired.length rel]; exact z
  have hn : (xs.map (·.1)).Nodup := let ⟨_, _, _, _, _, _, _, _, q⟩ := dd; q
  obtain ⟨j, p, hj, rv, ed⟩ := KT.find rel hn l
  refine call_meetsIn PySem.F.slot_dict_pop dd.typeIs PySem.F.entry_dict_pop (PySem.F.args_dict_pop_2 _ _) (meets_popH (knd := tupleKind (mixKind X.prog X.w))) ⟨tupleKind_room_in1 hu, k, xs, j, p, key_of I.hok eb, dd, hz, hj, fun h' dd' hs => h _ _ ?_ rv⟩
  obtain ⟨q, es, ep, hq, h2, h3, h4, _, h5⟩ := dd'
  refine d_write I (by rw [e]; exact True.intro) hs ⟨q, hq⟩ ⟨?_, hd, _, KT.keeps (ed ▸ KT.erase j rel) fun c ys ec => ?_, q, es, ep, hq, h2, h3, h4, h5⟩
  · exact Nat.le_trans (dropK_le kvs k) z
  · rw [upd_ne (ne_of ec e (fun z => nomatch z))]
    exact ec
def tDPopT (td ty : TE) : TE := fun σ H Q => td σ H fun x H1 => ∃ a, x = .ref a ∧ IsD H1 a ∧ ty σ H1 fun y H2 => ∃ kvs k v b, H2 a = some (.dT kvs) ∧ y = .ref b ∧ H2 b = some (.tup (k.map kV)) ∧ valV kvs k = some v ∧ Q v (upd H2 a (.dT (dropK kvs k)))
theorem pe_dpopT {X : Cx} {o e : Expr} {apos cpos : Pos} {td ty : TE} (hu : X.A.units + 1 < cLine) (ho : PE X o td) (he : PE X e ty) (m : M1 X o "pop" apos e cpos) : PE X (.Call (.Attribute o "pop" apos) [e] [] cpos) (tDPopT td ty) := by
  intro pins s σ H Q I h
  refine wpAny_Call_method m.base m.few m.line PySem.F.plainAttrs_dict PySem.F.slot_dict_pop PySem.F.type_dict_pop (thn (ho pins s σ H _ I h) fun u s1 ⟨x, H1, I1, rx, a, ex, d, q1⟩ => ?_)
  subst ex
  obtain rfl : u = Value.ref a := rx
  obtain ⟨t1, t2, _⟩ := isD_at I1 d
  refine ⟨t1, t2, ?_⟩
  rw [m.trees]
  refine Calls.callWith_builtin rfl (Calls.evalArgs_plain (Calls.spliced_cons (thn (he pins s1 σ H1 _ I1 q1) fun iv s2 ⟨y, H2, I2, ry, kvs, k, v, b, ea, ey, eb, l, q2⟩ => Calls.spliced_nil ?_)))
  subst ey
  cases ry
  exact d_popT hu I2 ea eb l fun w' s3 I3 rw' => ⟨v, _, I3, rw', q2⟩
end L2
namespace L2
open PySem PySem.Spec PyProof.Rows
def RawD (h : Heap) (d : Addr) (es : Array DictEntry) (ep : Nat) : Prop := ∃ o, h.get? d = some o ∧ o.ExactDict ∧ o.data = .dict es ep
theorem RawD.ty {s : Shared} {d : Addr} {es : Array DictEntry} {ep : Nat} (r : RawD s.heap d es ep) : s.TypeIs (.ref d) "dict" := let ⟨o, ho, hc, _⟩ := r; ⟨o, ho, hc.1⟩
theorem RawD.lt {h : Heap} {d : Addr} {es : Array DictEntry} {ep : Nat} (r : RawD h d es ep) : d < h.objs.size := let ⟨_, ho, _⟩ := r; Heap.lt_size ho
theorem RawD.kept {h h' : Heap} {d : Addr} {es : Array DictEntry} {ep : Nat} (r : RawD h d es ep) (k : ∀ o, h.get? d = some o → h'.get? d = some o) : RawD h' d es ep := let ⟨o, ho, q⟩ := r; ⟨o, k _ ho, q⟩
section
variable {prog : Program} {w : World} {A : Around} {E : Value → Shared → Prop} {s : Shared} {d it : Addr} {es : Array DictEntry} {ep i : Nat}
theorem raw_iter {Q : Value → Shared → Prop} (nd : (d == sysModules) = false) (r : RawD s.heap d es ep)
    (q : Q (.ref s.heap.objs.size) { s with heap := s.heap.push { cls := .type "dict_keyiterator", data := .fields #[.ref d, .int 0 0, .int es.size 0, .int ep 0] } }) : wpAny (model prog w) A (pyIter (.ref d)) Q E s := by
  obtain ⟨o, e0, ec, ed⟩ := id r
  refine wpAny_pyIter_slot r.ty PySem.F.slot_dict_iter (wpAny_call_entry PySem.F.slot_dict_iter r.ty PySem.F.entry_dict_iter ?_ (PySem.F.args_dict_iter_1 _))
  unfold Builtin.«dict.__iter__» Builtin.Dict.dictSlotNone Builtin.Dict.showsAll
  refine wpAny_bind (wpAny_bind (wpAny_notOrdered_dict r.ty (wpAny_pure ?_)))
  refine wpAny_bind (m := if d == sysModules then _ else _) ?_
  rw [if_neg (by rw [nd]; exact Bool.false_ne_true)]
  refine wpAny_pure (wpAny_bind (wpAny_dictEntries e0 ed (wpAny_bind (wpAny_dictEpoch e0 ed ?_))))
  exact wpAny_bind (wpAny_newObj_type (wpAny_pure ⟨_, rfl, "dict_keyiterator", _, ⟨_, Heap.get?_push_size _ rfl, rfl⟩, PySem.F.slot_dict_keyiterator_next.lookup, by simpa [rawInt] using q⟩))
theorem raw_next {Q : Option Value → Shared → Prop} (t : s.heap.IsKeyIter it d i es.size ep) (r : RawD s.heap d es ep) (hi : i < es.size)
    (q : ∀ h', h'.IsKeyIter it d (i + 1) es.size ep → Heap.SameBut it s.heap h' → Q (some es[i].key) { s with heap := h' }) : wpAny (model prog w) A (pyNext (.ref it)) Q E s := by
  obtain ⟨b, b0, bc, bd⟩ := id t
  obtain ⟨o, e0, ec, ed⟩ := id r
  unfold pyNext
  refine wpAny_bind (wpAny_attempt (wpAny_callSpecial?_slot (name := Str.ofString "__next__") t.typeIs PySem.F.slot_dict_keyiterator_next (wpAny_call_entry PySem.F.slot_dict_keyiterator_next t.typeIs PySem.F.entry_dict_keyiterator_next ?_ (PySem.F.args_dict_keyiterator_next_1 _))))
  refine wpAny_bind (wpAny_pure (wpAny_bind (wpAny_bind (wpAny_bind (wpAny_typeNameOfWhole_keyiter t.typeIs (wpAny_pure (wpAny_bind (wpAny_fieldsOf b0 bd ?_))))))))
  simp only [show Builtin.Dict_items.ownsTuple "dict_keyiterator" = false by decide, Bool.false_eq_true, if_false]
  show wpAny _ _ (if (Value.ref d == Value.none) = true then _ else _) _ _ s
  rw [if_neg (show ¬ ((Value.ref d == Value.none) = true) from Bool.false_ne_true)]
  refine wpAny_bind (wpAny_pure (wpAny_bind (wpAny_dictEntries e0 ed ?_)))
  rw [if_neg (by simp)]
  refine wpAny_bind (wpAny_pure (wpAny_bind (wpAny_dictEpoch e0 ed ?_)))
  rw [if_neg (by simp)]
  refine wpAny_pure ?_
  simp only [show ¬ ((i : Int) < 0) from by omega, if_false, Int.toNat_natCast, Array.getElem?_eq_getElem hi]
  refine wpAny_bind (wpAny_bind (wpAny_typeNameOfWhole_keyiter t.typeIs (wpAny_pure (wpAny_bind (wpAny_isOneOf_keyiter t.typeIs ?_)))))
  show wpAny _ _ (setField (.ref it) 1 (rawInt ((i : Int) + 1)) >>= _) _ _ s
  refine wpAny_bind (wpAny_setField b0 bd (by simp) ?_)
  have t2 : (s.heap.update it (Obj.mapFields (·.setIfInBounds 1 (rawInt ((i : Int) + 1))))).IsKeyIter it d (i + 1) es.size ep := ⟨_, Heap.get?_update_self _ b0 (Obj.isFreed_of_fields (Obj.data_mapFields bd _)), (Obj.cls_mapFields ..).trans bc, by rw [Obj.data_mapFields bd]; simp [rawInt]⟩
  refine wpAny_bind (wpAny_holding (wpAny_bind (wpAny_isOneOf_keyiter (s := { s with heap := s.heap.update it (Obj.mapFields (·.setIfInBounds 1 (rawInt ((i : Int) + 1)))) }) t2.typeIs ?_)))
  show wpAny _ _ (pure es[i].key) _ _ _
  exact wpAny_pure (wpAny_pure ⟨_, rfl, wpAny_pure (q _ t2 (Heap.SameBut.update ..))⟩)
theorem raw_end {Q : Option Value → Shared → Prop} (hh : A.handled = none) (t : s.heap.IsKeyIter it d es.size es.size ep) (r : RawD s.heap d es ep)
    (q : ∀ h', Heap.ExtBut it s.heap h' → Q none { s with heap := h' }) : wpAny (model prog w) A (pyNext (.ref it)) Q E s := by
  obtain ⟨b, b0, bc, bd⟩ := id t
  obtain ⟨o, e0, ec, ed⟩ := id r
  unfold pyNext
  refine wpAny_bind (wpAny_attempt (wpAny_callSpecial?_slot (name := Str.ofString "__next__") t.typeIs PySem.F.slot_dict_keyiterator_next (wpAny_call_entry PySem.F.slot_dict_keyiterator_next t.typeIs PySem.F.entry_dict_keyiterator_next ?_ (PySem.F.args_dict_keyiterator_next_1 _))))
  refine wpAny_bind (wpAny_pure (wpAny_bind (wpAny_bind (wpAny_bind (wpAny_typeNameOfWhole_keyiter t.typeIs (wpAny_pure (wpAny_bind (wpAny_fieldsOf b0 bd ?_))))))))
  simp only [show Builtin.Dict_items.ownsTuple "dict_keyiterator" = false by decide, Bool.false_eq_true, if_false]
  show wpAny _ _ (if (Value.ref d == Value.none) = true then _ else _) _ _ s
  rw [if_neg (show ¬ ((Value.ref d == Value.none) = true) from Bool.false_ne_true)]
  refine wpAny_bind (wpAny_pure (wpAny_bind (wpAny_dictEntries e0 ed ?_)))
  rw [if_neg (by simp)]
  refine wpAny_bind (wpAny_pure (wpAny_bind (wpAny_dictEpoch e0 ed ?_)))
  rw [if_neg (by simp)]
  refine wpAny_pure ?_
  simp only [show ¬ ((es.size : Int) < 0) from by omega, if_false, Int.toNat_natCast, Array.getElem?_eq_none (Nat.le_refl es.size)]
  refine wpAny_bind (wpAny_bind (wpAny_typeNameOfWhole_keyiter t.typeIs (wpAny_pure ?_)))
  show wpAny _ _ (setField (.ref it) 0 .none >>= _) _ _ s
  refine wpAny_bind (wpAny_setField b0 bd (by simp) ?_)
  show wpAny _ _ (newExc (.type "StopIteration") [] >>= _) _ _ _
  refine wpAny_bind ?_
  simp only [newExc, newTuple]
  refine wpAny_bind (wpAny_newObj_type (wpAny_bind (m := firstArgMember _ _) (wpAny_of_eq (a := Value.none) (by first | rfl | (simp only [firstArgMember]; rfl)) (wpAny_newObj_type ?_ (by size_fits)))) (by size_fits))
  simp only [raiseNew]
  refine wpAny_bind (wpAny_handled ?_)
  rw [show A.in1.handled = none from hh]
  refine wpAny_bind (wpAny_pure (wpAny_throw ?_))
  refine wpAny_bind (m := isInstance _ _) (wpAny_isInstance (b := true) (T := "StopIteration") ⟨_, Heap.get?_push_size _ rfl, rfl⟩ isSubtype_stop ?_)
  exact wpAny_pure (q _ (((Heap.SameBut.update ..).extBut.push _).push _))
theorem raw_walks (hh : A.handled = none) (I : Addr) (ne : d ≠ I) : Walks prog w A I [I, d] [I] es.size (fun i v => ∃ h : i < es.size, v = es[i].key) (fun i h => h.IsKeyIter I d i es.size ep ∧ RawD h d es ep) where
  sub := fun b hb => List.mem_cons.mpr (.inl (List.mem_singleton.mp hb))
  frame := fun _ _ _ x k => ⟨x.1.at fun o e => k I (List.mem_cons_self ..) o e, x.2.kept fun o e => k d (List.mem_cons_of_mem _ (List.mem_cons_self ..)) o e⟩
  item := fun i s Q E hi x q => raw_next x.1 x.2 hi fun h' t2 sb => q _ h' s.toks ⟨hi, rfl⟩ ⟨t2, x.2.kept fun o e => (sb.2 d ne).trans e⟩ fun b o hb e => (sb.2 b fun z => hb (List.mem_singleton.mpr z)).trans e
  done := fun s Q E x q => raw_end hh x.1 x.2 fun h' eb => q h' s.toks fun b o hb e => eb b o (fun z => hb (List.mem_singleton.mpr z)) e
  self := fun _ _ _ _ x q => wpAny_pyIter_keyiter x.1 q
theorem raw_src (nd : (d == sysModules) = false) : PySem.W.KdlSrc prog w "dict" d d es.size (fun i v => ∃ h : i < es.size, v = es[i].key) (fun h => RawD h d es ep) where
  type := fun _ r => r.ty
  there := fun _ r => ⟨r.lt, r.lt⟩
  keep := fun _ _ r k => r.kept fun o e => k d (.inl rfl) o e
  notList := by decide
  notTuple := by decide
  hint := fun _ _ _ _ r q => PySem.W.kdl_hint_dict r.ty q
  iter := fun _ _ hh r => ⟨_, _, (fun _ _ q => raw_iter nd r q), raw_walks hh _ (Nat.ne_of_lt r.lt), ⟨⟨_, Heap.get?_push_size _ rfl, rfl, rfl⟩, r.kept fun o e => Heap.get?_push_of_some _ e⟩⟩
end
end L2
namespace L2
open PySem PySem.Spec PyProof.Rows
section
variable {X : Cx}
end
end L2
namespace L2
open PySem PySem.Spec PyProof.Rows
end L2
namespace L2
open PySem PySem.Spec PyProof.Rows
end L2
namespace L2
open PySem PySem.Spec PyProof.Rows
def tDispT (tk tv : TE) : TE := fun σ H Q => ∀ p, H p = none → tk σ (upd H p (.dT [])) fun x H1 => tv σ H1 fun y H2 => H2 p = some (.dT []) ∧ ∃ b k, x = .ref b ∧ H2 b = some (.tup (k.map kV)) ∧ Q (.ref p) (upd H2 p (.dT [(k, y)]))
theorem pe_dispT {X : Cx} {pos : Pos} {k v : Expr} {tk tv : TE} (hu : X.A.units + 1 < cLine) (hk : PE X k tk) (hv : PE X v tv) : PE X (.Dict [some k] [v] pos) (tDispT tk tv) := by
  intro pins s σ H Q I q
  have hn := I.hok.fresh (Nat.le_refl s.heap.objs.size)
  have I1 := I.laid (a := s.heap.objs.size) (o := .dT []) (h' := s.heap.push { cls := .type "dict", data := .dict #[] }) (t' := s.toks) (fun _ _ q => Heap.get?_push_of_some _ q) (Nat.le_refl _) (dt_empty s.heap I.big)
  rw [arm_eval_Dict, zip_pairTrees [some k] [v] X.env pos rfl rfl, dictDisplay_pairs (pairTrees [some k] [v] X.env pos) (by intro z; cases z) (by show (1 : Nat) < 17; decide)]
  refine wpAny_bind (wpAny_standAt (wpAny_bind ?_))
  unfold subDict
  refine wpAny_bind (wpAny_alloc ?_)
  refine wpAny_bind (wpAny_holding ?_)
  rw [if_pos (by show (1 : Nat) ≤ 15; decide)]
  refine wpAny_bind (pairTrees_cons_walk (thn (hk pins _ σ _ _ I1 (q _ hn)) fun u s1 ⟨x, H1, I2, rx, q1⟩ => thn (hv pins s1 σ H1 _ I2 q1) fun w2 s2 ⟨y, H2, I3, ry, hp, b, kk, ex, hb, q2⟩ => pairTrees_nil_walk ?_))
  subst ex
  cases (show u = Value.ref b from rx)
  refine wpAny_holding ?_
  obtain ⟨z, hd, xs, rel, dd⟩ := dt_of I3.hok hp
  cases rel
  rw [List.forIn_cons]
  dsimp only
  refine wpAny_bind (wpAny_bind (wpAny_bind (wpAny_dictSet_heap (hsz := by rw [sizeLine_eq]; exact Nat.zero_le _) (show (tupleKind (mixKind X.prog X.w)).room X.A from (by omega : X.A.units < cLine)) (key_of I3.hok hb) dd fun h' dd' hs => wpAny_pure ?_)))
  dsimp only
  rw [List.forIn_nil]
  refine wpAny_pure (wpAny_pure ?_)
  obtain ⟨o, es, ep, hq, h2, h3, h4, _, h5⟩ := dd'
  refine wpAny_pure (wpAny_pure ⟨.ref s.heap.objs.size, _, d_write (ob := .dT [(kk, y)]) I3 (by rw [hp]; exact True.intro) hs ⟨o, hq⟩ ⟨by rw [sizeLine_eq]; show (1 : Nat) ≤ _; decide, hd, [(kk, b, w2)], .cons ⟨rfl, by rw [upd_ne (ne_of hb hp (fun z => nomatch z))]; exact hb, ry⟩ .nil, o, es, ep, hq, h2, h3, h4, h5⟩, rfl, q2⟩)
section
variable {prog : Program} {w : World} {A : Around} {E : Value → Shared → Prop} {s : Shared}
theorem list_sort_one {a : Addr} {v : Value} {n : Nat} {P : Fin → Shared → Prop} (ho : s.heap.get? a = some (seqObj "list" [v].toArray n))
    (h : P (.done (.ret .none)) { s with heap := sortedHeap s.heap a [v] #[v] }) : wpAny (model prog w) A (Builtin.«list.sort» ⟨[.ref a], []⟩) P E s := by
  rw [list_sort_plain]
  have ha : a < s.heap.objs.size := Heap.lt_size ho
  refine wpAny_bind (listItems_at ho rfl ?_)
  refine wpAny_bind (listUpdate_at ho rfl ?_)
  obtain ⟨e1, ho1⟩ : ∃ e1, (s.heap.update a (Obj.mapSeq fun _ => #[])).get? a = some (seqObj "list" #[] e1) := ⟨_, get?_update_seq ho (fun _ => #[])⟩
  refine wpAny_bind (seqEpoch_at ho1 rfl ?_)
  refine wpAny_bind (wpAny_newTuple ?_)
  refine wpAny_bind (wpAny_newList ?_)
  refine wpAny_holding ?_
  have ho6 : (((s.heap.update a (Obj.mapSeq fun _ => #[])).push (seqObj "tuple" [v].toArray 0)).push (seqObj "list" #[] 0)).get? a = some (seqObj "list" #[] e1) := by
    rw [Heap.get?_push_ne _ _ _ (by rw [size_push', Heap.size_update]; exact Nat.ne_of_lt (Nat.lt_succ_of_lt ha)), Heap.get?_push_ne _ _ _ (by rw [Heap.size_update]; exact Nat.ne_of_lt ha)]
    exact ho1
  show wpAny (model prog w) A _ P E { s with heap := ((s.heap.update a (Obj.mapSeq fun _ => #[])).push (seqObj "tuple" [v].toArray 0)).push (seqObj "list" #[] 0) }
  dsimp only
  have h2 : [v].toArray.size < 2 := by show (1 : Nat) < 2; decide
  rw [if_pos h2, if_pos h2]
  refine wpAny_bind (wpAny_pure ?_)
  rw [StateT.run_pure]
  refine wpAny_bind (wpAny_pure ?_)
  dsimp only
  refine wpAny_bind (seqEpoch_at ho6 rfl ?_)
  have hm : Array.map (fun x => x.snd) (arrOf (SortSt.mk' general' (#[v].zip #[v]) #[] 7 none)) = #[v] := by
    show (#[v].zip #[v]).map (fun x => x.snd) = #[v]
    simp
  show wpAny _ _ (Builtin.List.listUpdate (.ref a) (fun _ => Array.map (fun x => x.snd) (arrOf (SortSt.mk' general' (#[v].zip #[v]) #[] 7 none))) >>= _) _ _ _
  rw [hm]
  refine wpAny_bind (listUpdate_at ho6 rfl ?_ (hsz2 := by rw [sizeLine_eq]; show (1 : Nat) ≤ _; decide))
  simp only [bne_self_eq_false, Bool.false_eq_true, if_false]
  exact wpAny_pure h
end
theorem call_sortedT1 {X : Cx} (hc : X.calm = true) : CallR X (.builtin "sorted") (fun xs H Q => ∃ p k v, xs = [.ref p] ∧ H p = some (.dT [(k, v)]) ∧ ∀ l a, H l = none → H a = some (.tup (k.map kV)) → Q (.ref l) (upd H l (.lst [.ref a]))) := by
  intro pins s σ H xs us Q I r h
  obtain ⟨p, k, v, rfl, hp, q⟩ := h
  obtain ⟨u, rfl, ru⟩ := vals1 r
  cases ru
  obtain ⟨z, nd, ys, rel, o, es, ep, e0, ec, ed, he, _⟩ := dt_of I.hok hp
  have hsz := size_of_entries he
  have hlen := Paired.length rel
  obtain ⟨y, rfl, hy⟩ : ∃ y, ys = [y] ∧ H y.2.1 = some (.tup (k.map kV)) := by
    cases rel with
    | cons r t =>
      cases t
      exact ⟨_, rfl, r.2.1⟩
  have h1 : es.size = 1 := hsz
  refine Calls.call_function_entry kind_sorted plain_sorted entry_sorted (args_sorted1 _) ?_
  unfold Builtin.«sorted»
  refine wpAny_bind (m := checkCount "sorted" 1 1 _) (wpAny_pure ?_)
  refine wpAny_bind (PySem.W.kdu_collect (A := X.A.in1) (raw_src (es := es) (ep := ep) nd) (I.ok.hd hc) ⟨o, e0, ec, ed⟩ (by rw [h1, sizeLine_eq]; decide) fun h' tk acc hk hacc => ?_)
  have ea : acc.toList = [Value.ref y.2.1] := by
    refine List.ext_getElem? fun j => ?_
    match j with
    | 0 =>
      have hj : 0 < acc.toList.length := by rw [Array.length_toList, hacc.1, h1]; decide
      obtain ⟨c, e⟩ := hacc.2 0 _ (by rw [← Array.getElem?_toList]; exact List.getElem?_eq_getElem hj)
      rw [List.getElem?_eq_getElem hj, e]
      have e3 := entry_at he 0
      rw [Array.getElem?_eq_getElem c] at e3
      have e3 := Option.some.inj e3
      rw [e3]
      rfl
    | j + 1 => rw [List.getElem?_eq_none (by rw [Array.length_toList, hacc.1, h1]; omega)]; rfl
  rw [ea]
  refine wpAny_bind (wpAny_newList ?_ (by rw [sizeLine_eq]; show (1 : Nat) ≤ _; decide))
  have hoL : (h'.push (seqObj "list" [Value.ref y.2.1].toArray 0)).get? h'.objs.size = some (seqObj "list" [Value.ref y.2.1].toArray 0) := Heap.get?_push_size _ rfl
  refine wpAny_bind (wpAny_holding (wpAny_call_entry slot_list_sort ⟨_, hoL, rfl⟩ entry_list_sort (list_sort_one hoL ⟨_, rfl, ?_⟩) (args_list_sort _)))
  obtain ⟨e, he2⟩ := sortedHeap_at (out := #[Value.ref y.2.1]) hoL
  have I1 : Inv X pins σ H { s with heap := h', toks := tk } := I.kept (t' := tk) hk
  refine wpAny_pure ⟨_, rfl, ⟨.ref h'.objs.size, _, I1.laid (t' := tk) (fun b o hb => ?_) (Nat.le_refl _) (show ObjOk X.prog X.w _ _ _ (.lst [.ref y.2.1]) from ⟨by rw [sizeLine_eq]; show (1 : Nat) ≤ _; decide, [Value.ref y.2.1], e, .cons rfl .nil, he2⟩), rfl, q _ _ (I1.hok.fresh (Nat.le_refl _)) hy⟩⟩
  have hlt := Heap.lt_size hb
  rw [sortedHeap_old (Nat.ne_of_lt hlt) (by rw [size_push']; exact Nat.lt_succ_of_lt hlt)]
  exact Heap.get?_push_of_some _ hb
end L2
namespace L2
open PySem PySem.Spec PyProof.Rows
def tVarM (i : Nat) : TE := fun σ H Q => match σ[i]? with
  | some (some v) => Q v H
  | _ => False
theorem tVarM_le {i : Nat} {σ : St} {H : Hp} {Q : VK} (h : tVarM i σ H Q) : tVar i σ H Q := by
  unfold tVarM at h
  split at h
  · rename_i v e; exact ⟨v, e, h⟩
  · exact h.elim
theorem pvM {X : Cx} (i : Nat) {x : Str} {pos : Pos} (hN : X.N[i]? = some x := by rfl) (hv : Vis X.env.scope x := by first | exact Or.inl rfl | exact Or.inr (Or.inl rfl) | exact Or.inr (Or.inr rfl)) (hd : (x == ("__debug__" : Str)) = false := by decide)
    (hcd : (x == ("__classdict__" : Str)) = false := by decide) : PE X (.Name x pos) (tVarM i) := fun pins s σ H Q I h => pe_var hN hv hd hcd pins s σ H Q I (tVarM_le h)
theorem rI0_ii {g : Int → Int → V} {i j : Int} {H : Hp} {Q : VK} : rI0 g (.int i) (.int j) H Q = Q (g i j) H := propext ⟨fun ⟨_, _, e1, e2, h⟩ => by cases e1; cases e2; exact h, fun h => ⟨_, _, rfl, rfl, h⟩⟩
theorem rI_ii {C : Int → Int → Prop} {g : Int → Int → V} {i j : Int} {H : Hp} {Q : VK} : rI C g (.int i) (.int j) H Q = (C i j ∧ Q (g i j) H) := propext ⟨fun ⟨_, _, e1, e2, h⟩ => by cases e1; cases e2; exact h, fun h => ⟨_, _, rfl, rfl, h⟩⟩
theorem ex_int {c : Int} {P : Int → Prop} : (∃ i, V.int c = V.int i ∧ P i) = P c := propext ⟨fun ⟨_, e, h⟩ => by cases e; exact h, fun h => ⟨_, rfl, h⟩⟩
theorem ex_bl {c : Bool} {P : Bool → Prop} : (∃ i, V.bl c = V.bl i ∧ P i) = P c := propext ⟨fun ⟨_, e, h⟩ => by cases e; exact h, fun h => ⟨_, rfl, h⟩⟩
end L2
namespace L2
open PySem PySem.Spec PyProof.Rows
section
open PySem.Builtin PySem.Builtin.Str
end
end L2
namespace Hd
open PySem PySem.W PySem.Calls PyProof.Rows
def runT (tb : String → Option Builtin) (p : Program) (w : World) (n0 : Nat) (ann : Option Value) : Nat → SharedT → Thread → Option SharedT
  | 0, _, _ => none
  | n + 1, s, t => match through t with
    | true => some s
    | false => match stepOk n0 ann t with
      | false => none
      | true => match stepT (denote tb) p w s t with
        | some (s', t') => runT tb p w n0 ann n s' t'
        | none => none
theorem runT_of {tb : String → Option Builtin} {p : Program} {w : World} {n0 : Nat} {ann : Option Value} : ∀ {n : Nat} {s r : SharedT} {t : Thread}, runT tb p w n0 ann n s t = some r → topRun tb p w n0 ann n s.abs t = some r.abs
  | 0, _, _, _, h => by cases h
  | n + 1, s, r, t, h => by
    unfold runT at h
    unfold topRun
    cases he : through t with
    | true => rw [he] at h; cases h; rfl
    | false =>
      rw [he] at h
      cases hk : stepOk n0 ann t with
      | false => rw [hk] at h; cases h
      | true =>
        rw [hk] at h
        cases hs : stepT (denote tb) p w s t with
        | none => rw [hs] at h; cases h
        | some x => obtain ⟨s2, t2⟩ := x; rw [hs] at h; rw [stepT_spec hs]; exact runT_of h
def grow : List Obj → Nat → BT → BT
  | [], _, t => t
  | o :: l, n, t => grow l (n + 1) (t.ins n o)
noncomputable def bootT (P : Params) : BT := grow (boot_heap P).objs.toList 0 .nil
noncomputable def bootS (w : World) (os : OsState) : SharedT := ⟨bootT w.params, (boot_heap w.params).objs.size, (boot_heap w.params).life, #[], boot_drawn, boot_toks, os⟩
theorem boot_abs (w : World) (os : OsState) : (bootS w os).abs = ⟨boot_heap w.params, #[], boot_drawn, boot_toks, os⟩ := by kernel_rfl
theorem boot_size (w : World) : ((boot_heap w.params).isNs mainGlobals && (#[] : Array GenState).size == 0) = true := by kernel_rfl
noncomputable abbrev ann0 (w : World) : Option Value := (boot_heap w.params).nsMap mainGlobals "__annotations__"
def look {α : Type} (p : Program) (Yf : Shared → α) (H0 : Heap) (s : Shared) : Bool × α :=
  (staticsOk (importedModules p.main.body) H0 s.heap && namesBound p s.heap && gensDone s && laidKept H0 s.heap, Yf s)
noncomputable def ran (p : Program) (N : Nat) (w : World) (os : OsState) : Option SharedT := runT treeTable p w (boot_heap w.params).objs.size (ann0 w) N (bootS w os) (topStub p)
noncomputable def once {α : Type} (p : Program) (Yf : Shared → α) (N : Nat) (w : World) (os : OsState) := (ran p N w os).map fun s => look p Yf (boot_heap w.params) s.abs
noncomputable def seen (p q : Program) (loose : List Str) (Xt : Shared → Bool) (N : Nat) (w : World) (os : OsState) := (ran p N w os).map fun s => openSeen q loose (importedModules p.main.body) Xt true s.abs
end Hd
namespace Hd
open PySem PySem.W
def dig : Nat → Nat → List Nat
  | 0, _ => []
  | k + 1, n => match Nat.beq n 0 with
    | true => []
    | false => Nat.sub (n % 256) 1 :: dig k (n / 256)
def S (n : Nat) : Str := ⟨⟨dig 200 n⟩⟩
def ent (P : Params) (x : Str) (t : Nat) (v : Value) : DictEntry := ⟨PyData.keyHash P x, .str x t, v⟩
def dO (n : Nat) (l : List DictEntry) : Obj := ⟨.type "dict", none, .dict ⟨l⟩ n, #[]⟩
def tO (l : List Value) : Obj := ⟨.type "tuple", none, .seq ⟨l⟩ 0, #[]⟩
def cO (l : List Value) : Obj := ⟨.type "code", none, .fields ⟨l⟩, #[]⟩
end Hd
namespace Hd
open PySem PySem.W PySem.Calls PyProof.Rows
def goT (tb : String → Option Builtin) (p : Program) (w : World) (n0 : Nat) (ann : Option Value) : Nat → SharedT → Thread → Option (SharedT × Thread)
  | 0, s, t => some (s, t)
  | n + 1, s, t => match through t with
    | true => none
    | false => match stepOk n0 ann t with
      | false => none
      | true => match stepT (denote tb) p w s t with
        | some (s', t') => goT tb p w n0 ann n s' t'
        | none => none
theorem goT_of {tb : String → Option Builtin} {p : Program} {w : World} {n0 : Nat} {ann : Option Value} : ∀ {n : Nat} {s s' : SharedT} {t t' : Thread}, goT tb p w n0 ann n s t = some (s', t') → topGo tb p w n0 ann n s.abs t = some (s'.abs, t')
  | 0, _, _, _, _, h => by cases h; rfl
  | n + 1, s, s', t, t', h => by
    unfold goT at h
    unfold topGo
    cases he : through t with
    | true => rw [he] at h; cases h
    | false =>
      rw [he] at h
      cases hk : stepOk n0 ann t with
      | false => rw [hk] at h; cases h
      | true =>
        rw [hk] at h
        cases hs : stepT (denote tb) p w s t with
        | none => rw [hs] at h; cases h
        | some x => obtain ⟨s2, t2⟩ := x; rw [hs] at h; rw [stepT_spec hs]; exact goT_of h
theorem seg_on {tb : String → Option Builtin} {p : Program} {w : World} {n0 : Nat} {ann : Option Value} {env : Env} {q : Pos} {n N i : Nat} {s s' : SharedT} {r : Shared} {l : List Stmt} {c : Code} {pos p' : Pos} (h : segRunT tb p w n0 ann 1 n s (piecesOf (l.take i) env c pos [topFrame q]) = some (.next, s', c, p'))
    (k : topRun tb p w n0 ann N s'.abs (restOf (l.drop i) env c p' [topFrame q]) = some r) : topRun tb p w n0 ann (n + N) s.abs (restOf l env c pos [topFrame q]) = some r := by
  have := piece_app (segRun_of h) k
  rwa [List.take_append_drop] at this
theorem left_lead {p q : Program} {loose : List Str} {Xt : Shared → Bool} {α : Type} {Yf : Shared → α} {Ya : World → α} {N Nl : Nat} {S : World → OsState → SharedT} {t : Thread}
    (e : opening p = plainProg p.main.scope.names) (hN : Nat.ble 600 N = true) (f : ∀ s, fenceModules? p s = some s)
    (lead : ∀ (w : World) (os : OsState) (r : Shared), topRun treeTable p w (boot_heap w.params).objs.size (ann0 w) Nl (S w os).abs t = some r → topRun treeTable p w (boot_heap w.params).objs.size (ann0 w) N (bootS w os).abs (topStub p) = some r)
    (one : ∀ (w : World) (os : OsState), (runT treeTable p w (boot_heap w.params).objs.size (ann0 w) Nl (S w os) t).map (fun s => look p Yf (boot_heap w.params) s.abs) = some (true, Ya w))
    (two : ∀ (w : World) (os : OsState), (runT treeTable p w (boot_heap w.params).objs.size (ann0 w) Nl (S w os) t).map (fun s => openSeen q loose (importedModules p.main.body) Xt true s.abs) = some (openGood q loose)) : LeftO p q loose Xt Yf Ya N := fun w => by
  obtain ⟨⟨h, gs, d, k, os⟩, e1, e2⟩ := Option.map_eq_some_iff.mp (boot_open e hN f w)
  obtain ⟨rfl, rfl, rfl, rfl⟩ : h = boot_heap w.params ∧ gs = #[] ∧ d = boot_drawn ∧ k = boot_toks := by simpa using e2
  obtain ⟨sT, r, l⟩ := Option.map_eq_some_iff.mp (one w os)
  obtain ⟨sT', r', l2⟩ := Option.map_eq_some_iff.mp (two w os)
  obtain rfl : sT = sT' := Option.some.inj (r.symm.trans r')
  have r := lead w os _ (runT_of r)
  rw [boot_abs] at r
  obtain ⟨l1, l3⟩ : _ ∧ _ := by simpa only [look, Prod.mk.injEq] using l
  have t : topFrom treeTable p w N ⟨boot_heap w.params, #[], boot_drawn, boot_toks, os⟩ = some sT.abs := by
    unfold topFrom
    dsimp only
    rw [boot_size w, r]
    show (match staticsOk (importedModules p.main.body) (boot_heap w.params) sT.abs.heap && namesBound p sT.abs.heap && gensDone sT.abs && laidKept (boot_heap w.params) sT.abs.heap with | true => _ | false => _) = _
    rw [l1]
  unfold openEnds
  rw [e1]
  show (topFrom treeTable p w N _).map _ = _
  rw [t]
  exact congrArg some (Prod.ext l2 l3)
end Hd
namespace Hd
open PySem PySem.W PySem.Calls PyProof.Rows
theorem tw_run : (fun (_ : (String → Option Builtin) → Program → World → Nat → Option Value → Nat → SharedT → Thread → Option SharedT) => true) runT = true := by k_qdec
theorem tw_go : (fun (_ : (String → Option Builtin) → Program → World → Nat → Option Value → Nat → SharedT → Thread → Option (SharedT × Thread)) => true) goT = true := by k_qdec
theorem tw_boot : (fun (_ : World → OsState → SharedT) (_ : World → Option Value) => true) bootS ann0 = true := by k_qdec
theorem tw_look : (fun (_ : {α : Type} → Program → (Shared → α) → Heap → Shared → Bool × α) => true) @look = true := by k_qdec
theorem tw_once : (fun (_ : {α : Type} → Program → (Shared → α) → Nat → World → OsState → Option (Bool × α)) => true) @once = true := by k_qdec
theorem tw_seen : (fun (_ : Program → Program → List Str → (Shared → Bool) → Nat → World → OsState → Option _) => true) seen = true := by k_qdec
end Hd
namespace L2
open PySem PySem.Spec PyProof.Rows
structure RoomH (k : Nat) (A : Around) : Prop where
  dp : A.depth + 3 * k + 5 < recursionLimit
  un : A.units + 16 * k + 200 < cLine
theorem Room.h {k : Nat} {A : Around} (r : Room k A) : RoomH k A := ⟨r.dp, r.un⟩
theorem RoomH.deeper {k : Nat} {A : Around} (r : RoomH (k + 1) A) (env : Env) : RoomH k (A.deeper env) :=
  ⟨by have := r.dp; show A.depth + 1 + 3 * k + 5 < _; omega, by have := r.un; show A.units + 3 + 16 * k + 200 < _; omega⟩
def cxOfH (P : Program) (w : World) (K : PySem.W.Frag) (mg : Str → Option Value) (base : Heap) (N : List Str) (qual : Str) (scope : Scope) (f : Addr) (cd : Value) (A : Around) (outer : List Env) (s : Shared) (H : Hp) (E : XK) : Cx :=
  { cxOf (CXe P w) P w K mg base N qual scope f cd A outer s H E with calm := false }
theorem cxOfH_K {P : Program} {w : World} {K : PySem.W.Frag} {mg : Str → Option Value} {base : Heap} {N : List Str} {qual : Str} {scope : Scope} {f : Addr} {cd : Value} {A : Around} {outer : List Env} {s : Shared} {H : Hp} {E : XK} : (cxOfH P w K mg base N qual scope f cd A outer s H E).K = K := rfl
end L2
namespace L2
open PySem PySem.Spec PyProof.Rows
def BindsK (K : PySem.W.Frag) (fd : FuncData) (ps ks : List Str) : Prop := ∀ (s : Shared) (us : List Value) (a b : Value), K.In s.heap → us.length + 2 = ps.length → BindsTo s fd ⟨us, ks.zip [a, b]⟩ (ps.zip (us ++ [b, a]))
def RawMK (K : PySem.W.Frag) (C : Addr) (m qual : Str) (st : Stmt) (ps ks : List Str) : Prop := ∃ f fd, Meth K C m f ∧ FunD K m qual st f fd ∧ BindsK K fd ps ks
def HaveMK (P : Program) (w : World) (K : PySem.W.Frag) (mg : Str → Option Value) (base : Heap) (C : Addr) (m : Str) (k : Nat) (ps ks : List Str) (sp : Sp) : Prop :=
  ∃ f fd, Meth K C m f ∧ BindsK K fd ps ks ∧ FnOk P w K mg base (CXe P w) k f fd ps sp
theorem RawMK.have {P : Program} {w : World} {K : PySem.W.Frag} {mg : Str → Option Value} {base : Heap} {C : Addr} {m qual : Str} {st : Stmt} {N ps ks : List Str} {k : Nat} {sp : Sp} (R : RawMK K C m qual st ps ks) (S : FnScope N ps (defScope st)) (len : ∀ vs H Q E, sp vs H Q E → vs.length = ps.length)
    (hbody : Body P w K mg base qual st N k sp) : HaveMK P w K mg base C m (k + 1) ps ks sp :=
  let ⟨f, fd, hm, F, hb⟩ := R
  ⟨f, fd, hm, hb, F.okE S len hbody⟩
end L2
namespace L2
open PySem PySem.Spec PyProof.Rows
end L2
namespace L2
open PySem PySem.Spec PyProof.Rows
def tTryN (K : PySem.W.Frag) (D : Addr) (tb : XKs → TS) (to th : TS) : TS := fun Dn σ H =>
  tb (fun cls σ' H' => ∃ C, cls = .ref C ∧ XSub K C D ∧ th Dn σ' H') { Dn with nx := to Dn } σ H
theorem ps_try_n {X : Cx} {x : Str} {D : Addr} {body orelse : List Stmt} {b₀ : Stmt} {suite : List Stmt} {rest : List ExceptHandler} {np hpos pos : Pos} {tb : XKs → TS} {to th : TS}
    (c : XH X.K X.mg x D)
    (hb : ∀ (E' : Value → Shared → Prop) (pn : List (Addr × Obj)) (Kx : XKs), PassesOwn (model X.prog X.w) X.A X.env E' → XW { X with xe := E', pn := pn } Kx → PSs { X with xe := E', pn := pn } body (tb Kx))
    (ho : PSs X orelse to) (hh : ∀ ea : Addr, PSs { X with A := X.A.mark (some (.ref ea)), calm := false, xe := fun _ _ => False } (b₀ :: suite) th)
    (hg : Gl X x := by rfl) (hst : X.stack = X.env :: X.outer := by rfl) (hfm : X.env.frame = some X.env.locals := by rfl) (hd : (x == ("__debug__" : Str)) = false := by decide) :
    PS X (.Try body (.ExceptHandler (some (.Name x np)) none (b₀ :: suite) hpos :: rest) orelse [] pos) (tTryN X.K D tb to th) := by
  intro pins s σ H Dn I h
  refine wpAny_Try_except ?_
  have xw : XW { X with xe := (fun e s₁ => wpAny (model X.prog X.w) X.A (noteFrame e X.env) (fun _ s₂ => wpAny (model X.prog X.w) X.A (setFlight e none) (fun _ s₃ =>
      wpAny (model X.prog X.w) X.A (handleBy e X.env (.ExceptHandler (some (.Name x np)) none (b₀ :: suite) hpos :: rest)) (SP X pins Dn) X.xe s₃) X.xe s₂) X.xe s₁), pn := X.pn ++ pins }
      (fun cls σ' H' => ∃ C, cls = .ref C ∧ XSub X.K C D ∧ th Dn σ' H') := by
    intro pins2 σ2 H2 s2 s' ea cls H' B I2 os bare un hok fly hK
    obtain ⟨C, rfl, hsub, hK⟩ := hK
    have J2 : Inv X pins σ2 H2 s2 := I2.unre I.ok
    have J' : Inv X pins σ2 H' s' := J2.call' (s' := s') (ch := []) os un hok bare (fun b z => absurd z (by simp))
    have fly : Fly B X.stack s2.heap H2 H' s'.heap ea (.ref C) := fly
    obtain ⟨a0, hfl⟩ := id fly.fl
    have hfr := I.ok.frames
    rw [hst] at hfr hfl
    show wpAny (model X.prog X.w) X.A (noteFrame (.ref ea) X.env) _ X.xe s'
    refine wpAny_looks_onW hfr hfm hfl fun h4 held4 up4 => ?_
    refine wpAny_landsW held4 fun h5 fl5 up5 => ?_
    have J5 : Inv X pins σ2 H' { s' with heap := h5 } := Inv.flown J2 J' fly fl5.1 (up4.trans up5)
    obtain ⟨oe, vs5, hoe, hoc, hod, _⟩ := fl5.first
    refine wpAny_handleBy_cons (codeAny_handlers_test (ld_glob (X := { X with A := X.A.mark (some (.ref ea)), calm := false, xe := fun _ _ => False }) (J5.marked (v := some (.ref ea))) hg c.m ?_ hd)) (by intro q; cases q)
    refine exc_match (x := x) (mg := X.mg) J5.kIn c hsub hoe hoc ?_
    refine codeAny_handlers_suite ?_
    refine lands_againW fl5 fun h6 fl6 up6 => ?_
    have J6 : Inv X pins σ2 H' { s' with heap := h6 } := Inv.flown J2 J' fly fl6.1 ((up4.trans up5).trans up6)
    refine wpAny_mono (hh ea pins _ _ _ _ (J6.marked (v := some (.ref ea))) hK) (fun f s8 hq => ?_) (fun _ _ z => z.elim)
    show SP X pins Dn f s8
    cases f with
    | next => obtain ⟨σ', H2', I3, q⟩ := hq; exact ⟨σ', H2', I3.unmarked I.ok, q⟩
    | brk => obtain ⟨σ', H2', I3, q⟩ := hq; exact ⟨σ', H2', I3.unmarked I.ok, q⟩
    | cont => obtain ⟨σ', H2', I3, q⟩ := hq; exact ⟨σ', H2', I3.unmarked I.ok, q⟩
    | ret u => obtain ⟨v, σ', H2', I3, r, q⟩ := hq; exact ⟨v, σ', H2', I3.unmarked I.ok, r, q⟩
  have q := hb _ (X.pn ++ pins) _ PassesOwn.looking xw [] s σ H { Dn with nx := to Dn } I.re h
  refine wpAny_mono q (fun f s1 hq => ?_) (fun e s1 hq => hq)
  cases f with
  | next =>
    obtain ⟨σ', H', I1, q1⟩ := hq
    exact ho pins s1 σ' H' Dn (I1.unre I.ok) q1
  | brk => obtain ⟨σ', H', I1, q1⟩ := hq; exact ⟨σ', H', I1.unre I.ok, q1⟩
  | cont => obtain ⟨σ', H', I1, q1⟩ := hq; exact ⟨σ', H', I1.unre I.ok, q1⟩
  | ret u => obtain ⟨v, σ', H', I1, r, q1⟩ := hq; exact ⟨v, σ', H', I1.unre I.ok, r, q1⟩
end L2
namespace L2
open PySem PySem.Spec PyProof.Rows
section
variable {prog : Program} {w : World} {A : Around} {E : Value → Shared → Prop} {s : Shared}
end
section
variable {X : Cx}
end
end L2
namespace L2
open PySem PySem.Spec PyProof.Rows
section
variable {prog : Program} {w : World} {A : Around} {E : Value → Shared → Prop} {s : Shared}
end
section
variable {X : Cx}
end
end L2
namespace L2
open PySem PySem.Spec PyProof.Rows
section
variable {X : Cx} {pins : List (Addr × Obj)} {σ : List (Option V)} {H : Hp} {s : Shared} {a : Addr}
end
end L2
set_option hygiene false in
local macro_rules | `(tactic| walk_at "wp") => `(tactic| simp only [↓L2.rI0_ii, ↓L2.rI_ii, ↓L2.ex_int, ↓L2.ex_bl, ↓L2.tSeq, L2.tNext, L2.tAsg, L2.gName, L2.tRet, L2.tDrop, L2.tIfS, L2.tIf, L2.tTest, L2.tB, L2.tOp, L2.tVar, L2.tVarM, L2.tC, L2.rI, L2.rI0, L2.tAnd, L2.tOr, L2.tNot, L2.tAndV, L2.tNotV, L2.tCallE, L2.tMethE, L2.tMakeE, L2.tCB, L2.tCons, L2.tNil, L2.tLst, L2.tTup, L2.rIxL, L2.rIxT, L2.rIx2, L2.tFld, L2.sFld, L2.tRaise, L2.rEq, L2.rNe, L2.start, L2.CDiv, L2.CPow, L2.CMul, L2.kn_int, L2.kn_bl, L2.kn_str, L2.cxOf_K, L2.cxOfH_K, L2.scal_ii, L2.scal_bb, L2.scal_ss, L2.lstO_lst, L2.tupO_tup, L2.upd_same, L2.upd_upd, L2.HO.ins.injEq, L2.tTryAs, L2.tTryN, L2.rSlL, L2.tSl, L2.tPart, L2.clsV_ref, L2.clsV_ty, L2.tForE, L2.iRng1, L2.iList, L2.iEnum, L2.gTup, L2.gNil, L2.gCons, L2.tBM, L2.rAppend, L2.gSub, L2.rSetL, L2.tComp, L2.tYes, Option.join_some, Option.join_none, PySem.sizeLine_eq, Nat.reduceLeDiff, eq_self, decide_eq_true_eq, 
  List.map_cons, List.map_nil, List.length_cons, List.length_nil, List.cons_append, List.nil_append, List.append_nil, List.replicate, Nat.reduceSub, Nat.reduceAdd, List.getElem?_cons_zero, List.getElem?_cons_succ, List.set_cons_zero, List.set_cons_succ,
  Option.some.injEq, List.cons.injEq, L2.V.int.injEq, L2.V.bl.injEq, L2.V.ref.injEq, L2.V.ty.injEq, L2.V.str.injEq, exists_eq_left, exists_eq_left', exists_and_left, exists_eq', exists_const, and_assoc, and_true, true_and, ↓reduceIte, Int.reduceLE, Int.reduceLT, Nat.reducePow, Int.reducePow, Int.reduceNeg, L2.na10, Nat.reduceLT, Int.reduceToNat, Int.reduceAdd, Int.reduceMul, Int.reduceSub, true_or, or_true, decide_true, decide_false])
namespace Pf
open PySem L2
def top (i : Nat) : Stmt := PySem.Challenge.pw_frameland_k67_full_refused.main.body.getD i (.Pass ⟨0, 0, 0, 0⟩)
abbrev s_swept : Stmt := top 16
theorem sc_swept : FnScope ["marks", "hand", "passed", "place"] ["marks", "hand"] (defScope s_swept) := ⟨rfl, rfl, rfl, by decide +kernel, rfl, by decide +kernel, by decide +kernel⟩
abbrev s_Sheet_init : Stmt := inClass (top 18) 0
theorem sc_Sheet_init : FnScope ["self", "boxes", "holder"] ["self", "boxes", "holder"] (defScope s_Sheet_init) := ⟨rfl, rfl, rfl, by decide +kernel, rfl, by decide +kernel, by decide +kernel⟩
abbrev s_Sheet_told_holders : Stmt := inClass (top 18) 1
theorem sc_Sheet_told_holders : FnScope ["self"] ["self"] (defScope s_Sheet_told_holders) := ⟨rfl, rfl, rfl, by decide +kernel, rfl, by decide +kernel, by decide +kernel⟩
abbrev s_Spots_init : Stmt := inClass (top 19) 0
theorem sc_Spots_init : FnScope ["self", "many"] ["self", "many"] (defScope s_Spots_init) := ⟨rfl, rfl, rfl, by decide +kernel, rfl, by decide +kernel, by decide +kernel⟩
abbrev s_Spots_first_empty : Stmt := inClass (top 19) 1
theorem sc_Spots_first_empty : FnScope ["self", "place", "sheet"] ["self"] (defScope s_Spots_first_empty) := ⟨rfl, rfl, rfl, by decide +kernel, rfl, by decide +kernel, by decide +kernel⟩
abbrev s_Spots_first_twin : Stmt := inClass (top 19) 2
theorem sc_Spots_first_twin : FnScope ["self", "twin"] ["self"] (defScope s_Spots_first_twin) := ⟨rfl, rfl, rfl, by decide +kernel, rfl, by decide +kernel, by decide +kernel⟩
abbrev s_Spots_live_count : Stmt := inClass (top 19) 3
theorem sc_Spots_live_count : FnScope ["self"] ["self"] (defScope s_Spots_live_count) := ⟨rfl, rfl, rfl, by decide +kernel, rfl, by decide +kernel, by decide +kernel⟩
abbrev s_Sheets_init : Stmt := inClass (top 21) 0
theorem sc_Sheets_init : FnScope ["self", "frames", "slots", "size"] ["self", "frames", "slots", "size"] (defScope s_Sheets_init) := ⟨rfl, rfl, rfl, by decide +kernel, rfl, by decide +kernel, by decide +kernel⟩
abbrev s_Sheets_fresh : Stmt := inClass (top 21) 1
theorem sc_Sheets_fresh : FnScope ["self", "sheet", "holder", "marks", "way"] ["self", "sheet", "holder", "marks"] (defScope s_Sheets_fresh) := ⟨rfl, rfl, rfl, by decide +kernel, rfl, by decide +kernel, by decide +kernel⟩
abbrev s_Sheets_back : Stmt := inClass (top 21) 2
theorem sc_Sheets_back : FnScope ["self", "slot", "marks", "coming", "way"] ["self", "slot", "marks"] (defScope s_Sheets_back) := ⟨rfl, rfl, rfl, by decide +kernel, rfl, by decide +kernel, by decide +kernel⟩
abbrev s_Sheets_let_go : Stmt := inClass (top 21) 4
theorem sc_Sheets_let_go : FnScope ["self", "spot", "holder", "sheet"] ["self", "spot", "holder"] (defScope s_Sheets_let_go) := ⟨rfl, rfl, rfl, by decide +kernel, rfl, by decide +kernel, by decide +kernel⟩
abbrev s_Sheets_holders_of : Stmt := inClass (top 21) 5
theorem sc_Sheets_holders_of : FnScope ["self", "spot", "sheet"] ["self", "spot"] (defScope s_Sheets_holders_of) := ⟨rfl, rfl, rfl, by decide +kernel, rfl, by decide +kernel, by decide +kernel⟩
abbrev s_Sheets_sheet_at : Stmt := inClass (top 21) 7
theorem sc_Sheets_sheet_at : FnScope ["self", "spot", "sheet"] ["self", "spot"] (defScope s_Sheets_sheet_at) := ⟨rfl, rfl, rfl, by decide +kernel, rfl, by decide +kernel, by decide +kernel⟩
abbrev s_Sheets_live_sheets : Stmt := inClass (top 21) 11
theorem sc_Sheets_live_sheets : FnScope ["self"] ["self"] (defScope s_Sheets_live_sheets) := ⟨rfl, rfl, rfl, by decide +kernel, rfl, by decide +kernel, by decide +kernel⟩
abbrev s_Sheets_is_full : Stmt := inClass (top 21) 12
theorem sc_Sheets_is_full : FnScope ["self"] ["self"] (defScope s_Sheets_is_full) := ⟨rfl, rfl, rfl, by decide +kernel, rfl, by decide +kernel, by decide +kernel⟩
abbrev s_Sheets_hand_at : Stmt := inClass (top 21) 13
theorem sc_Sheets_hand_at : FnScope ["self"] ["self"] (defScope s_Sheets_hand_at) := ⟨rfl, rfl, rfl, by decide +kernel, rfl, by decide +kernel, by decide +kernel⟩
abbrev s_Sheets_told_frames : Stmt := inClass (top 21) 14
theorem sc_Sheets_told_frames : FnScope ["self", "told", "frame", "sheet"] ["self"] (defScope s_Sheets_told_frames) := ⟨rfl, rfl, rfl, by decide +kernel, rfl, by decide +kernel, by decide +kernel⟩
abbrev s_Sheets_told_slots : Stmt := inClass (top 21) 15
theorem sc_Sheets_told_slots : FnScope ["self"] ["self"] (defScope s_Sheets_told_slots) := ⟨rfl, rfl, rfl, by decide +kernel, rfl, by decide +kernel, by decide +kernel⟩
abbrev s_Sheets_moved : Stmt := inClass (top 21) 16
theorem sc_Sheets_moved : FnScope ["self"] ["self"] (defScope s_Sheets_moved) := ⟨rfl, rfl, rfl, by decide +kernel, rfl, by decide +kernel, by decide +kernel⟩
abbrev s_Sheets_lying_at : Stmt := inClass (top 21) 17
theorem sc_Sheets_lying_at : FnScope ["self", "spot", "spots"] ["self", "spot"] (defScope s_Sheets_lying_at) := ⟨rfl, rfl, rfl, by decide +kernel, rfl, by decide +kernel, by decide +kernel⟩
abbrev s_Sheets_told_slot : Stmt := inClass (top 21) 19
theorem sc_Sheets_told_slot : FnScope ["self", "slot", "sheet", "frame"] ["self", "slot"] (defScope s_Sheets_told_slot) := ⟨rfl, rfl, rfl, by decide +kernel, rfl, by decide +kernel, by decide +kernel⟩
abbrev s_Sheets_make_empty : Stmt := inClass (top 21) 21
theorem sc_Sheets_make_empty : FnScope ["self", "spot"] ["self", "spot"] (defScope s_Sheets_make_empty) := ⟨rfl, rfl, rfl, by decide +kernel, rfl, by decide +kernel, by decide +kernel⟩
abbrev s_Sheets_lose_twin : Stmt := inClass (top 21) 22
theorem sc_Sheets_lose_twin : FnScope ["self", "frame", "slot"] ["self", "frame"] (defScope s_Sheets_lose_twin) := ⟨rfl, rfl, rfl, by decide +kernel, rfl, by decide +kernel, by decide +kernel⟩
abbrev s_Sheets_frame_for : Stmt := inClass (top 21) 23
theorem sc_Sheets_frame_for : FnScope ["self", "coming_from", "marks", "frame", "choice"] ["self", "coming_from", "marks"] (defScope s_Sheets_frame_for) := ⟨rfl, rfl, rfl, by decide +kernel, rfl, by decide +kernel, by decide +kernel⟩
abbrev s_Sheets_put_out : Stmt := inClass (top 21) 24
theorem sc_Sheets_put_out : FnScope ["self", "frame", "coming_from", "sheet", "slot"] ["self", "frame", "coming_from"] (defScope s_Sheets_put_out) := ⟨rfl, rfl, rfl, by decide +kernel, rfl, by decide +kernel, by decide +kernel⟩
abbrev s_Sheets_slot_for : Stmt := inClass (top 21) 25
theorem sc_Sheets_slot_for : FnScope ["self", "frame", "coming_from", "empty", "twin"] ["self", "frame", "coming_from"] (defScope s_Sheets_slot_for) := ⟨rfl, rfl, rfl, by decide +kernel, rfl, by decide +kernel, by decide +kernel⟩
abbrev s_l_cell : Stmt := top 23
theorem sc_l_cell : FnScope ["_law_script", "_law_k"] ["_law_script", "_law_k"] (defScope s_l_cell) := ⟨rfl, rfl, rfl, by decide +kernel, rfl, by decide +kernel, by decide +kernel⟩
abbrev s_l_like : Stmt := top 24
theorem sc_l_like : FnScope ["_law_found", "_law_due", "_law_k"] ["_law_found", "_law_due"] (defScope s_l_like) := ⟨rfl, rfl, rfl, by decide +kernel, rfl, by decide +kernel, by decide +kernel⟩
abbrev s_l_refused : Stmt := top 25
theorem sc_l_refused : FnScope ["_law_sheets", "_law_sheet", "_law_holder", "_law_marks", "_law_refused_here"] ["_law_sheets", "_law_sheet", "_law_holder", "_law_marks"] (defScope s_l_refused) := ⟨rfl, rfl, rfl, by decide +kernel, rfl, by decide +kernel, by decide +kernel⟩
abbrev s_l_alone : Stmt := top 26
theorem sc_l_alone : FnScope ["_law_sheets", "_law_sheet", "_law_holder", "_law_marks", "e"] ["_law_sheets", "_law_sheet", "_law_holder", "_law_marks"] (defScope s_l_alone) := ⟨rfl, rfl, rfl, by decide +kernel, rfl, by decide +kernel, by decide +kernel⟩
abbrev s_l_state : Stmt := top 27
theorem sc_l_state : FnScope ["_law_sheets"] ["_law_sheets"] (defScope s_l_state) := ⟨rfl, rfl, rfl, by decide +kernel, rfl, by decide +kernel, by decide +kernel⟩
abbrev s_l_too_many : Stmt := top 28
theorem sc_l_too_many : FnScope ["_law_sheets", "_law_cell_here", "_law_number", "_law_marks", "_law_many", "_law_ahead"] ["_law_sheets", "_law_cell_here", "_law_number", "_law_marks", "_law_many"] (defScope s_l_too_many) := ⟨rfl, rfl, rfl, by decide +kernel, rfl, by decide +kernel, by decide +kernel⟩
abbrev s_l_changed : Stmt := top 29
theorem sc_l_changed : FnScope ["_law_sheets", "_law_frames", "_law_slots", "_law_number", "_law_value", "_law_holder", "_law_marks", "_law_spot", "_law_found"] ["_law_sheets", "_law_frames", "_law_slots", "_law_number", "_law_value", "_law_holder", "_law_marks"] (defScope s_l_changed) := ⟨rfl, rfl, rfl, by decide +kernel, rfl, by decide +kernel, by decide +kernel⟩
abbrev s_law : Stmt := top 30
theorem sc_law : FnScope ["_law_script", "_law_frames", "_law_slots", "_law_sheets", "_law_k", "_law_cell_here", "_law_marks", "_law_number", "_law_holder"] ["_law_script"] (defScope s_law) := ⟨rfl, rfl, rfl, by decide +kernel, rfl, by decide +kernel, by decide +kernel⟩
structure Adr where
  C_Sheet : Addr
  C_Spots : Addr
  C_Sheets : Addr
  C_FrameError : Addr
  C_NoRoom : Addr
  C_NoShape : Addr
  C_OutOfRoom : Addr
  C_BadRights : Addr
  C_NoTask : Addr
  C_NoBank : Addr
  C_OutOfBank : Addr
  C_Taken : Addr
  C_NotMapped : Addr
  C_NoRight : Addr
  C_Busy : Addr
  C_NoRow : Addr
structure Txt (K : PySem.W.Frag) (mg : Str → Option Value) (A : Adr) : Prop where
  b_ValueError : mg "ValueError" = none
  b_bool : mg "bool" = none
  b_enumerate : mg "enumerate" = none
  b_int : mg "int" = none
  b_isinstance : mg "isinstance" = none
  b_len : mg "len" = none
  b_list : mg "list" = none
  b_max : mg "max" = none
  b_range : mg "range" = none
  b_sorted : mg "sorted" = none
  b_str : mg "str" = none
  b_tuple : mg "tuple" = none
  r_swept : Raw K mg "swept" "swept" s_swept ["marks", "hand"] []
  r_l_cell : Raw K mg "_law_cell" "_law_cell" s_l_cell ["_law_script", "_law_k"] []
  r_l_like : Raw K mg "_law_like" "_law_like" s_l_like ["_law_found", "_law_due"] []
  r_l_refused : Raw K mg "_law_refused" "_law_refused" s_l_refused ["_law_sheets", "_law_sheet", "_law_holder", "_law_marks"] []
  r_l_alone : Raw K mg "_law_alone" "_law_alone" s_l_alone ["_law_sheets", "_law_sheet", "_law_holder", "_law_marks"] []
  r_l_state : Raw K mg "_law_state" "_law_state" s_l_state ["_law_sheets"] []
  r_l_too_many : Raw K mg "_law_too_many" "_law_too_many" s_l_too_many ["_law_sheets", "_law_cell_here", "_law_number", "_law_marks", "_law_many"] []
  r_l_changed : Raw K mg "_law_changed" "_law_changed" s_l_changed ["_law_sheets", "_law_frames", "_law_slots", "_law_number", "_law_value", "_law_holder", "_law_marks"] []
  cl_Sheet : Cls K A.C_Sheet
  na_Sheet_boxes : NoAttr K A.C_Sheet "boxes"
  na_Sheet_holders : NoAttr K A.C_Sheet "holders"
  r_Sheet_init : RawI K mg "Sheet" A.C_Sheet "Sheet.__init__" s_Sheet_init ["self", "boxes", "holder"] []
  r_Sheet_told_holders : RawM K A.C_Sheet "told_holders" "Sheet.told_holders" s_Sheet_told_holders ["self"] []
  cl_Spots : Cls K A.C_Spots
  na_Spots_lying : NoAttr K A.C_Spots "lying"
  na_Spots_twins : NoAttr K A.C_Spots "twins"
  r_Spots_init : RawI K mg "Spots" A.C_Spots "Spots.__init__" s_Spots_init ["self", "many"] []
  r_Spots_first_empty : RawM K A.C_Spots "first_empty" "Spots.first_empty" s_Spots_first_empty ["self"] []
  r_Spots_first_twin : RawM K A.C_Spots "first_twin" "Spots.first_twin" s_Spots_first_twin ["self"] []
  r_Spots_live_count : RawM K A.C_Spots "live_count" "Spots.live_count" s_Spots_live_count ["self"] []
  cl_Sheets : Cls K A.C_Sheets
  na_Sheets_size : NoAttr K A.C_Sheets "size"
  na_Sheets_frames : NoAttr K A.C_Sheets "frames"
  na_Sheets_slots : NoAttr K A.C_Sheets "slots"
  na_Sheets_hand : NoAttr K A.C_Sheets "hand"
  na_Sheets_gone_out : NoAttr K A.C_Sheets "gone_out"
  na_Sheets_gone_astray : NoAttr K A.C_Sheets "gone_astray"
  na_Sheets_come_back : NoAttr K A.C_Sheets "come_back"
  r_Sheets_init : RawI K mg "Sheets" A.C_Sheets "Sheets.__init__" s_Sheets_init ["self", "frames", "slots", "size"] []
  r_Sheets_fresh : RawM K A.C_Sheets "fresh" "Sheets.fresh" s_Sheets_fresh ["self", "sheet", "holder", "marks"] []
  r_Sheets_back : RawM K A.C_Sheets "back" "Sheets.back" s_Sheets_back ["self", "slot", "marks"] []
  r_Sheets_let_go : RawM K A.C_Sheets "let_go" "Sheets.let_go" s_Sheets_let_go ["self", "spot", "holder"] []
  r_Sheets_holders_of : RawM K A.C_Sheets "holders_of" "Sheets.holders_of" s_Sheets_holders_of ["self", "spot"] []
  r_Sheets_sheet_at : RawM K A.C_Sheets "sheet_at" "Sheets.sheet_at" s_Sheets_sheet_at ["self", "spot"] []
  r_Sheets_live_sheets : RawM K A.C_Sheets "live_sheets" "Sheets.live_sheets" s_Sheets_live_sheets ["self"] []
  r_Sheets_is_full : RawM K A.C_Sheets "is_full" "Sheets.is_full" s_Sheets_is_full ["self"] []
  r_Sheets_hand_at : RawM K A.C_Sheets "hand_at" "Sheets.hand_at" s_Sheets_hand_at ["self"] []
  r_Sheets_told_frames : RawM K A.C_Sheets "told_frames" "Sheets.told_frames" s_Sheets_told_frames ["self"] []
  r_Sheets_told_slots : RawM K A.C_Sheets "told_slots" "Sheets.told_slots" s_Sheets_told_slots ["self"] []
  r_Sheets_moved : RawM K A.C_Sheets "moved" "Sheets.moved" s_Sheets_moved ["self"] []
  r_Sheets_lying_at : RawM K A.C_Sheets "lying_at" "Sheets.lying_at" s_Sheets_lying_at ["self", "spot"] []
  r_Sheets_told_slot : RawM K A.C_Sheets "told_slot" "Sheets.told_slot" s_Sheets_told_slot ["self", "slot"] []
  r_Sheets_make_empty : RawM K A.C_Sheets "make_empty" "Sheets.make_empty" s_Sheets_make_empty ["self", "spot"] []
  r_Sheets_lose_twin : RawM K A.C_Sheets "lose_twin" "Sheets.lose_twin" s_Sheets_lose_twin ["self", "frame"] []
  r_Sheets_frame_for : RawM K A.C_Sheets "frame_for" "Sheets.frame_for" s_Sheets_frame_for ["self", "coming_from", "marks"] []
  r_Sheets_put_out : RawM K A.C_Sheets "put_out" "Sheets.put_out" s_Sheets_put_out ["self", "frame", "coming_from"] []
  r_Sheets_slot_for : RawM K A.C_Sheets "slot_for" "Sheets.slot_for" s_Sheets_slot_for ["self", "frame", "coming_from"] []
  m_FrameError : ∃ u, mg "FrameError" = some u ∧ RelV (.ref A.C_FrameError) u
  h_FrameError : XH K mg "FrameError" A.C_FrameError
  m_NoRoom : ∃ u, mg "NoRoom" = some u ∧ RelV (.ref A.C_NoRoom) u
  h_NoRoom : XH K mg "NoRoom" A.C_NoRoom
  x_NoRoom : XC K mg "NoRoom" A.C_NoRoom
  xi_NoRoom : XI K A.C_NoRoom
  m_NoShape : ∃ u, mg "NoShape" = some u ∧ RelV (.ref A.C_NoShape) u
  m_OutOfRoom : ∃ u, mg "OutOfRoom" = some u ∧ RelV (.ref A.C_OutOfRoom) u
  m_BadRights : ∃ u, mg "BadRights" = some u ∧ RelV (.ref A.C_BadRights) u
  m_NoTask : ∃ u, mg "NoTask" = some u ∧ RelV (.ref A.C_NoTask) u
  m_NoBank : ∃ u, mg "NoBank" = some u ∧ RelV (.ref A.C_NoBank) u
  m_OutOfBank : ∃ u, mg "OutOfBank" = some u ∧ RelV (.ref A.C_OutOfBank) u
  m_Taken : ∃ u, mg "Taken" = some u ∧ RelV (.ref A.C_Taken) u
  m_NotMapped : ∃ u, mg "NotMapped" = some u ∧ RelV (.ref A.C_NotMapped) u
  m_NoRight : ∃ u, mg "NoRight" = some u ∧ RelV (.ref A.C_NoRight) u
  m_Busy : ∃ u, mg "Busy" = some u ∧ RelV (.ref A.C_Busy) u
  m_NoRow : ∃ u, mg "NoRow" = some u ∧ RelV (.ref A.C_NoRow) u
  sub_NoRoom_FrameError : XSub K A.C_NoRoom A.C_FrameError
  sub_NoRoom_NoRoom : XSub K A.C_NoRoom A.C_NoRoom
  kit_NoRoom_NoRoom : PySem.W.kitOne K (.ref A.C_NoRoom) (.ref A.C_NoRoom) = some true
  kit_NoRoom_ValueError : PySem.W.kitOne K (.ref A.C_NoRoom) (.type "ValueError") = some true
  kit_NoRoom_NoShape : PySem.W.kitOne K (.ref A.C_NoRoom) (.ref A.C_NoShape) = some false
  kit_NoRoom_OutOfRoom : PySem.W.kitOne K (.ref A.C_NoRoom) (.ref A.C_OutOfRoom) = some false
  kit_NoRoom_BadRights : PySem.W.kitOne K (.ref A.C_NoRoom) (.ref A.C_BadRights) = some false
  kit_NoRoom_NoTask : PySem.W.kitOne K (.ref A.C_NoRoom) (.ref A.C_NoTask) = some false
  kit_NoRoom_NoBank : PySem.W.kitOne K (.ref A.C_NoRoom) (.ref A.C_NoBank) = some false
  kit_NoRoom_OutOfBank : PySem.W.kitOne K (.ref A.C_NoRoom) (.ref A.C_OutOfBank) = some false
  kit_NoRoom_Taken : PySem.W.kitOne K (.ref A.C_NoRoom) (.ref A.C_Taken) = some false
  kit_NoRoom_NotMapped : PySem.W.kitOne K (.ref A.C_NoRoom) (.ref A.C_NotMapped) = some false
  kit_NoRoom_NoRight : PySem.W.kitOne K (.ref A.C_NoRoom) (.ref A.C_NoRight) = some false
  kit_NoRoom_Busy : PySem.W.kitOne K (.ref A.C_NoRoom) (.ref A.C_Busy) = some false
  kit_NoRoom_NoRow : PySem.W.kitOne K (.ref A.C_NoRoom) (.ref A.C_NoRow) = some false
  r_law : ∃ f fd, mg "law" = some (.ref f) ∧ Fun K "law" "law" s_law f fd ∧ ∀ (s : Shared) (u : Value), BindsTo s fd ⟨[u], []⟩ [("_law_script", u)]
theorem el1 {P : List Value → Prop} (h : ∀ a0, P [a0]) : ∀ us : List Value, us.length = 1 → P us
  | [a0], _ => h a0
theorem el2 {P : List Value → Prop} (h : ∀ a0 a1, P [a0, a1]) : ∀ us : List Value, us.length = 2 → P us
  | [a0, a1], _ => h a0 a1
theorem el3 {P : List Value → Prop} (h : ∀ a0 a1 a2, P [a0, a1, a2]) : ∀ us : List Value, us.length = 3 → P us
  | [a0, a1, a2], _ => h a0 a1 a2
theorem el4 {P : List Value → Prop} (h : ∀ a0 a1 a2 a3, P [a0, a1, a2, a3]) : ∀ us : List Value, us.length = 4 → P us
  | [a0, a1, a2, a3], _ => h a0 a1 a2 a3
theorem el5 {P : List Value → Prop} (h : ∀ a0 a1 a2 a3 a4, P [a0, a1, a2, a3, a4]) : ∀ us : List Value, us.length = 5 → P us
  | [a0, a1, a2, a3, a4], _ => h a0 a1 a2 a3 a4
theorem el7 {P : List Value → Prop} (h : ∀ a0 a1 a2 a3 a4 a5 a6, P [a0, a1, a2, a3, a4, a5, a6]) : ∀ us : List Value, us.length = 7 → P us
  | [a0, a1, a2, a3, a4, a5, a6], _ => h a0 a1 a2 a3 a4 a5 a6
theorem txt_mk {K : PySem.W.Frag} {h : Heap} {mg : Str → Option Value} (X : K.In h) (G : h.Ns mainGlobals mg)
    {C_NoRow : Addr}
    {C_Busy : Addr}
    {C_NoRight : Addr}
    {C_NotMapped : Addr}
    {C_Taken : Addr}
    {C_OutOfBank : Addr}
    {C_NoBank : Addr}
    {C_NoTask : Addr}
    {C_BadRights : Addr}
    {C_OutOfRoom : Addr}
    {C_NoShape : Addr}
    {C_NoRoom : Addr}
    {C_FrameError : Addr}
    {C_Sheets : Addr}
    {C_Spots : Addr}
    {C_Sheet : Addr}
    {f_0 : Addr} {od_0 an_0 : Option Addr} {sl_0 : Array (Option Value)} {oc_0 kV_0 dc_0 pm_0 cd_0 ct_0 : Value}
    {f_1 : Addr} {od_1 an_1 : Option Addr} {sl_1 : Array (Option Value)} {oc_1 kV_1 dc_1 pm_1 cd_1 ct_1 : Value}
    {f_2 : Addr} {od_2 an_2 : Option Addr} {sl_2 : Array (Option Value)} {oc_2 kV_2 dc_2 pm_2 cd_2 ct_2 : Value}
    {f_3 : Addr} {od_3 an_3 : Option Addr} {sl_3 : Array (Option Value)} {oc_3 kV_3 dc_3 pm_3 cd_3 ct_3 : Value}
    {f_4 : Addr} {od_4 an_4 : Option Addr} {sl_4 : Array (Option Value)} {oc_4 kV_4 dc_4 pm_4 cd_4 ct_4 : Value}
    {f_5 : Addr} {od_5 an_5 : Option Addr} {sl_5 : Array (Option Value)} {oc_5 kV_5 dc_5 pm_5 cd_5 ct_5 : Value}
    {f_6 : Addr} {od_6 an_6 : Option Addr} {sl_6 : Array (Option Value)} {oc_6 kV_6 dc_6 pm_6 cd_6 ct_6 : Value}
    {f_7 : Addr} {od_7 an_7 : Option Addr} {sl_7 : Array (Option Value)} {oc_7 kV_7 dc_7 pm_7 cd_7 ct_7 : Value}
    {f_8 : Addr} {od_8 an_8 : Option Addr} {sl_8 : Array (Option Value)} {oc_8 kV_8 dc_8 pm_8 cd_8 ct_8 : Value}
    {f_9 : Addr} {od_9 an_9 : Option Addr} {sl_9 : Array (Option Value)} {oc_9 kV_9 dc_9 pm_9 cd_9 ct_9 : Value}
    {f_10 : Addr} {od_10 an_10 : Option Addr} {sl_10 : Array (Option Value)} {oc_10 kV_10 dc_10 pm_10 cd_10 ct_10 : Value}
    {f_11 : Addr} {od_11 an_11 : Option Addr} {sl_11 : Array (Option Value)} {oc_11 kV_11 dc_11 pm_11 cd_11 ct_11 : Value}
    {f_12 : Addr} {od_12 an_12 : Option Addr} {sl_12 : Array (Option Value)} {oc_12 kV_12 dc_12 pm_12 cd_12 ct_12 : Value}
    {f_13 : Addr} {od_13 an_13 : Option Addr} {sl_13 : Array (Option Value)} {oc_13 kV_13 dc_13 pm_13 cd_13 ct_13 : Value}
    {f_14 : Addr} {od_14 an_14 : Option Addr} {sl_14 : Array (Option Value)} {oc_14 kV_14 dc_14 pm_14 cd_14 ct_14 : Value}
    {f_15 : Addr} {od_15 an_15 : Option Addr} {sl_15 : Array (Option Value)} {oc_15 kV_15 dc_15 pm_15 cd_15 ct_15 : Value}
    {f_16 : Addr} {od_16 an_16 : Option Addr} {sl_16 : Array (Option Value)} {oc_16 kV_16 dc_16 pm_16 cd_16 ct_16 : Value}
    {f_17 : Addr} {od_17 an_17 : Option Addr} {sl_17 : Array (Option Value)} {oc_17 kV_17 dc_17 pm_17 cd_17 ct_17 : Value}
    {f_18 : Addr} {od_18 an_18 : Option Addr} {sl_18 : Array (Option Value)} {oc_18 kV_18 dc_18 pm_18 cd_18 ct_18 : Value}
    {f_19 : Addr} {od_19 an_19 : Option Addr} {sl_19 : Array (Option Value)} {oc_19 kV_19 dc_19 pm_19 cd_19 ct_19 : Value}
    {f_20 : Addr} {od_20 an_20 : Option Addr} {sl_20 : Array (Option Value)} {oc_20 kV_20 dc_20 pm_20 cd_20 ct_20 : Value}
    {f_21 : Addr} {od_21 an_21 : Option Addr} {sl_21 : Array (Option Value)} {oc_21 kV_21 dc_21 pm_21 cd_21 ct_21 : Value}
    {f_22 : Addr} {od_22 an_22 : Option Addr} {sl_22 : Array (Option Value)} {oc_22 kV_22 dc_22 pm_22 cd_22 ct_22 : Value}
    {f_23 : Addr} {od_23 an_23 : Option Addr} {sl_23 : Array (Option Value)} {oc_23 kV_23 dc_23 pm_23 cd_23 ct_23 : Value}
    {f_24 : Addr} {od_24 an_24 : Option Addr} {sl_24 : Array (Option Value)} {oc_24 kV_24 dc_24 pm_24 cd_24 ct_24 : Value}
    {f_25 : Addr} {od_25 an_25 : Option Addr} {sl_25 : Array (Option Value)} {oc_25 kV_25 dc_25 pm_25 cd_25 ct_25 : Value}
    {f_26 : Addr} {od_26 an_26 : Option Addr} {sl_26 : Array (Option Value)} {oc_26 kV_26 dc_26 pm_26 cd_26 ct_26 : Value}
    {f_27 : Addr} {od_27 an_27 : Option Addr} {sl_27 : Array (Option Value)} {oc_27 kV_27 dc_27 pm_27 cd_27 ct_27 : Value}
    {f_28 : Addr} {od_28 an_28 : Option Addr} {sl_28 : Array (Option Value)} {oc_28 kV_28 dc_28 pm_28 cd_28 ct_28 : Value}
    {f_29 : Addr} {od_29 an_29 : Option Addr} {sl_29 : Array (Option Value)} {oc_29 kV_29 dc_29 pm_29 cd_29 ct_29 : Value}
    {f_30 : Addr} {od_30 an_30 : Option Addr} {sl_30 : Array (Option Value)} {oc_30 kV_30 dc_30 pm_30 cd_30 ct_30 : Value}
    {f_31 : Addr} {od_31 an_31 : Option Addr} {sl_31 : Array (Option Value)} {oc_31 kV_31 dc_31 pm_31 cd_31 ct_31 : Value}
    {f_32 : Addr} {od_32 an_32 : Option Addr} {sl_32 : Array (Option Value)} {oc_32 kV_32 dc_32 pm_32 cd_32 ct_32 : Value}
    {cd_FrameError : ClassData}
    {cd_NoRoom : ClassData}
    {f_33 : Addr} {od_33 an_33 : Option Addr} {sl_33 : Array (Option Value)} {oc_33 kV_33 dc_33 pm_33 cd_33 ct_33 : Value}
    (a_NoRow : PySem.W.nsIn K mainGlobals "NoRow" = some (some (.ref C_NoRow)))
    (a_Busy : PySem.W.nsIn K mainGlobals "Busy" = some (some (.ref C_Busy)))
    (a_NoRight : PySem.W.nsIn K mainGlobals "NoRight" = some (some (.ref C_NoRight)))
    (a_NotMapped : PySem.W.nsIn K mainGlobals "NotMapped" = some (some (.ref C_NotMapped)))
    (a_Taken : PySem.W.nsIn K mainGlobals "Taken" = some (some (.ref C_Taken)))
    (a_OutOfBank : PySem.W.nsIn K mainGlobals "OutOfBank" = some (some (.ref C_OutOfBank)))
    (a_NoBank : PySem.W.nsIn K mainGlobals "NoBank" = some (some (.ref C_NoBank)))
    (a_NoTask : PySem.W.nsIn K mainGlobals "NoTask" = some (some (.ref C_NoTask)))
    (a_BadRights : PySem.W.nsIn K mainGlobals "BadRights" = some (some (.ref C_BadRights)))
    (a_OutOfRoom : PySem.W.nsIn K mainGlobals "OutOfRoom" = some (some (.ref C_OutOfRoom)))
    (a_NoShape : PySem.W.nsIn K mainGlobals "NoShape" = some (some (.ref C_NoShape)))
    (a_NoRoom : PySem.W.nsIn K mainGlobals "NoRoom" = some (some (.ref C_NoRoom)))
    (a_FrameError : PySem.W.nsIn K mainGlobals "FrameError" = some (some (.ref C_FrameError)))
    (a_Sheets : PySem.W.nsIn K mainGlobals "Sheets" = some (some (.ref C_Sheets)))
    (a_Spots : PySem.W.nsIn K mainGlobals "Spots" = some (some (.ref C_Spots)))
    (a_Sheet : PySem.W.nsIn K mainGlobals "Sheet" = some (some (.ref C_Sheet)))
    (zb_ValueError : PySem.W.nsIn K mainGlobals "ValueError" = some none)
    (zb_bool : PySem.W.nsIn K mainGlobals "bool" = some none)
    (zb_enumerate : PySem.W.nsIn K mainGlobals "enumerate" = some none)
    (zb_int : PySem.W.nsIn K mainGlobals "int" = some none)
    (zb_isinstance : PySem.W.nsIn K mainGlobals "isinstance" = some none)
    (zb_len : PySem.W.nsIn K mainGlobals "len" = some none)
    (zb_list : PySem.W.nsIn K mainGlobals "list" = some none)
    (zb_max : PySem.W.nsIn K mainGlobals "max" = some none)
    (zb_range : PySem.W.nsIn K mainGlobals "range" = some none)
    (zb_sorted : PySem.W.nsIn K mainGlobals "sorted" = some none)
    (zb_str : PySem.W.nsIn K mainGlobals "str" = some none)
    (zb_tuple : PySem.W.nsIn K mainGlobals "tuple" = some none)
    (a_0_ : PySem.W.nsIn K mainGlobals "swept" = some (some (.ref f_0)))
    (l_0_ : K.lookup f_0 = some ⟨oc_0, od_0, .func (PySem.W.fnOf "swept" "swept" (defArgs s_swept) (defBody s_swept) (defScope s_swept) .none kV_0 dc_0 pm_0 an_0 cd_0 ct_0), sl_0⟩)
    (c_0_ : PySem.W.codeIn K cd_0 "swept" = true)
    (k_0_ : PySem.W.keepIn K (.ref f_0) = true)
    (a_1_ : PySem.W.nsIn K mainGlobals "_law_cell" = some (some (.ref f_1)))
    (l_1_ : K.lookup f_1 = some ⟨oc_1, od_1, .func (PySem.W.fnOf "_law_cell" "_law_cell" (defArgs s_l_cell) (defBody s_l_cell) (defScope s_l_cell) .none kV_1 dc_1 pm_1 an_1 cd_1 ct_1), sl_1⟩)
    (c_1_ : PySem.W.codeIn K cd_1 "_law_cell" = true)
    (k_1_ : PySem.W.keepIn K (.ref f_1) = true)
    (a_2_ : PySem.W.nsIn K mainGlobals "_law_like" = some (some (.ref f_2)))
    (l_2_ : K.lookup f_2 = some ⟨oc_2, od_2, .func (PySem.W.fnOf "_law_like" "_law_like" (defArgs s_l_like) (defBody s_l_like) (defScope s_l_like) .none kV_2 dc_2 pm_2 an_2 cd_2 ct_2), sl_2⟩)
    (c_2_ : PySem.W.codeIn K cd_2 "_law_like" = true)
    (k_2_ : PySem.W.keepIn K (.ref f_2) = true)
    (a_3_ : PySem.W.nsIn K mainGlobals "_law_refused" = some (some (.ref f_3)))
    (l_3_ : K.lookup f_3 = some ⟨oc_3, od_3, .func (PySem.W.fnOf "_law_refused" "_law_refused" (defArgs s_l_refused) (defBody s_l_refused) (defScope s_l_refused) .none kV_3 dc_3 pm_3 an_3 cd_3 ct_3), sl_3⟩)
    (c_3_ : PySem.W.codeIn K cd_3 "_law_refused" = true)
    (k_3_ : PySem.W.keepIn K (.ref f_3) = true)
    (a_4_ : PySem.W.nsIn K mainGlobals "_law_alone" = some (some (.ref f_4)))
    (l_4_ : K.lookup f_4 = some ⟨oc_4, od_4, .func (PySem.W.fnOf "_law_alone" "_law_alone" (defArgs s_l_alone) (defBody s_l_alone) (defScope s_l_alone) .none kV_4 dc_4 pm_4 an_4 cd_4 ct_4), sl_4⟩)
    (c_4_ : PySem.W.codeIn K cd_4 "_law_alone" = true)
    (k_4_ : PySem.W.keepIn K (.ref f_4) = true)
    (a_5_ : PySem.W.nsIn K mainGlobals "_law_state" = some (some (.ref f_5)))
    (l_5_ : K.lookup f_5 = some ⟨oc_5, od_5, .func (PySem.W.fnOf "_law_state" "_law_state" (defArgs s_l_state) (defBody s_l_state) (defScope s_l_state) .none kV_5 dc_5 pm_5 an_5 cd_5 ct_5), sl_5⟩)
    (c_5_ : PySem.W.codeIn K cd_5 "_law_state" = true)
    (k_5_ : PySem.W.keepIn K (.ref f_5) = true)
    (a_6_ : PySem.W.nsIn K mainGlobals "_law_too_many" = some (some (.ref f_6)))
    (l_6_ : K.lookup f_6 = some ⟨oc_6, od_6, .func (PySem.W.fnOf "_law_too_many" "_law_too_many" (defArgs s_l_too_many) (defBody s_l_too_many) (defScope s_l_too_many) .none kV_6 dc_6 pm_6 an_6 cd_6 ct_6), sl_6⟩)
    (c_6_ : PySem.W.codeIn K cd_6 "_law_too_many" = true)
    (k_6_ : PySem.W.keepIn K (.ref f_6) = true)
    (a_7_ : PySem.W.nsIn K mainGlobals "_law_changed" = some (some (.ref f_7)))
    (l_7_ : K.lookup f_7 = some ⟨oc_7, od_7, .func (PySem.W.fnOf "_law_changed" "_law_changed" (defArgs s_l_changed) (defBody s_l_changed) (defScope s_l_changed) .none kV_7 dc_7 pm_7 an_7 cd_7 ct_7), sl_7⟩)
    (c_7_ : PySem.W.codeIn K cd_7 "_law_changed" = true)
    (k_7_ : PySem.W.keepIn K (.ref f_7) = true)
    (pg_Sheet : PySem.W.plainGet K C_Sheet Str.empty = true)
    (hd_Sheet : PySem.W.hasDictIn K C_Sheet = true)
    (po_Sheet : PySem.W.plainOver K C_Sheet = true)
    (sa_Sheet : PySem.W.findIn K (.ref C_Sheet) "__setattr__" = some (some (.builtin "object.__setattr__")))
    (zn_Sheet_boxes : PySem.W.findIn K (.ref C_Sheet) "boxes" = some none)
    (zn_Sheet_holders : PySem.W.findIn K (.ref C_Sheet) "holders" = some none)
    (mk_Sheet : PySem.W.makesIn K C_Sheet = true)
    (kc_Sheet : PySem.W.keepIn K (.ref C_Sheet) = true)
    (a_8_ : PySem.W.findIn K (.ref C_Sheet) "__init__" = some (some (.ref f_8)))
    (i_8_ : PySem.W.isFn K (.ref f_8) = true)
    (l_8_ : K.lookup f_8 = some ⟨oc_8, od_8, .func (PySem.W.fnOf "__init__" "Sheet.__init__" (defArgs s_Sheet_init) (defBody s_Sheet_init) (defScope s_Sheet_init) .none kV_8 dc_8 pm_8 an_8 cd_8 ct_8), sl_8⟩)
    (c_8_ : PySem.W.codeIn K cd_8 "Sheet.__init__" = true)
    (k_8_ : PySem.W.keepIn K (.ref f_8) = true)
    (a_9_ : PySem.W.findIn K (.ref C_Sheet) "told_holders" = some (some (.ref f_9)))
    (i_9_ : PySem.W.isFn K (.ref f_9) = true)
    (l_9_ : K.lookup f_9 = some ⟨oc_9, od_9, .func (PySem.W.fnOf "told_holders" "Sheet.told_holders" (defArgs s_Sheet_told_holders) (defBody s_Sheet_told_holders) (defScope s_Sheet_told_holders) .none kV_9 dc_9 pm_9 an_9 cd_9 ct_9), sl_9⟩)
    (c_9_ : PySem.W.codeIn K cd_9 "Sheet.told_holders" = true)
    (k_9_ : PySem.W.keepIn K (.ref f_9) = true)
    (pg_Spots : PySem.W.plainGet K C_Spots Str.empty = true)
    (hd_Spots : PySem.W.hasDictIn K C_Spots = true)
    (po_Spots : PySem.W.plainOver K C_Spots = true)
    (sa_Spots : PySem.W.findIn K (.ref C_Spots) "__setattr__" = some (some (.builtin "object.__setattr__")))
    (zn_Spots_lying : PySem.W.findIn K (.ref C_Spots) "lying" = some none)
    (zn_Spots_twins : PySem.W.findIn K (.ref C_Spots) "twins" = some none)
    (mk_Spots : PySem.W.makesIn K C_Spots = true)
    (kc_Spots : PySem.W.keepIn K (.ref C_Spots) = true)
    (a_10_ : PySem.W.findIn K (.ref C_Spots) "__init__" = some (some (.ref f_10)))
    (i_10_ : PySem.W.isFn K (.ref f_10) = true)
    (l_10_ : K.lookup f_10 = some ⟨oc_10, od_10, .func (PySem.W.fnOf "__init__" "Spots.__init__" (defArgs s_Spots_init) (defBody s_Spots_init) (defScope s_Spots_init) .none kV_10 dc_10 pm_10 an_10 cd_10 ct_10), sl_10⟩)
    (c_10_ : PySem.W.codeIn K cd_10 "Spots.__init__" = true)
    (k_10_ : PySem.W.keepIn K (.ref f_10) = true)
    (a_11_ : PySem.W.findIn K (.ref C_Spots) "first_empty" = some (some (.ref f_11)))
    (i_11_ : PySem.W.isFn K (.ref f_11) = true)
    (l_11_ : K.lookup f_11 = some ⟨oc_11, od_11, .func (PySem.W.fnOf "first_empty" "Spots.first_empty" (defArgs s_Spots_first_empty) (defBody s_Spots_first_empty) (defScope s_Spots_first_empty) .none kV_11 dc_11 pm_11 an_11 cd_11 ct_11), sl_11⟩)
    (c_11_ : PySem.W.codeIn K cd_11 "Spots.first_empty" = true)
    (k_11_ : PySem.W.keepIn K (.ref f_11) = true)
    (a_12_ : PySem.W.findIn K (.ref C_Spots) "first_twin" = some (some (.ref f_12)))
    (i_12_ : PySem.W.isFn K (.ref f_12) = true)
    (l_12_ : K.lookup f_12 = some ⟨oc_12, od_12, .func (PySem.W.fnOf "first_twin" "Spots.first_twin" (defArgs s_Spots_first_twin) (defBody s_Spots_first_twin) (defScope s_Spots_first_twin) .none kV_12 dc_12 pm_12 an_12 cd_12 ct_12), sl_12⟩)
    (c_12_ : PySem.W.codeIn K cd_12 "Spots.first_twin" = true)
    (k_12_ : PySem.W.keepIn K (.ref f_12) = true)
    (a_13_ : PySem.W.findIn K (.ref C_Spots) "live_count" = some (some (.ref f_13)))
    (i_13_ : PySem.W.isFn K (.ref f_13) = true)
    (l_13_ : K.lookup f_13 = some ⟨oc_13, od_13, .func (PySem.W.fnOf "live_count" "Spots.live_count" (defArgs s_Spots_live_count) (defBody s_Spots_live_count) (defScope s_Spots_live_count) .none kV_13 dc_13 pm_13 an_13 cd_13 ct_13), sl_13⟩)
    (c_13_ : PySem.W.codeIn K cd_13 "Spots.live_count" = true)
    (k_13_ : PySem.W.keepIn K (.ref f_13) = true)
    (pg_Sheets : PySem.W.plainGet K C_Sheets Str.empty = true)
    (hd_Sheets : PySem.W.hasDictIn K C_Sheets = true)
    (po_Sheets : PySem.W.plainOver K C_Sheets = true)
    (sa_Sheets : PySem.W.findIn K (.ref C_Sheets) "__setattr__" = some (some (.builtin "object.__setattr__")))
    (zn_Sheets_size : PySem.W.findIn K (.ref C_Sheets) "size" = some none)
    (zn_Sheets_frames : PySem.W.findIn K (.ref C_Sheets) "frames" = some none)
    (zn_Sheets_slots : PySem.W.findIn K (.ref C_Sheets) "slots" = some none)
    (zn_Sheets_hand : PySem.W.findIn K (.ref C_Sheets) "hand" = some none)
    (zn_Sheets_gone_out : PySem.W.findIn K (.ref C_Sheets) "gone_out" = some none)
    (zn_Sheets_gone_astray : PySem.W.findIn K (.ref C_Sheets) "gone_astray" = some none)
    (zn_Sheets_come_back : PySem.W.findIn K (.ref C_Sheets) "come_back" = some none)
    (mk_Sheets : PySem.W.makesIn K C_Sheets = true)
    (kc_Sheets : PySem.W.keepIn K (.ref C_Sheets) = true)
    (a_14_ : PySem.W.findIn K (.ref C_Sheets) "__init__" = some (some (.ref f_14)))
    (i_14_ : PySem.W.isFn K (.ref f_14) = true)
    (l_14_ : K.lookup f_14 = some ⟨oc_14, od_14, .func (PySem.W.fnOf "__init__" "Sheets.__init__" (defArgs s_Sheets_init) (defBody s_Sheets_init) (defScope s_Sheets_init) .none kV_14 dc_14 pm_14 an_14 cd_14 ct_14), sl_14⟩)
    (c_14_ : PySem.W.codeIn K cd_14 "Sheets.__init__" = true)
    (k_14_ : PySem.W.keepIn K (.ref f_14) = true)
    (a_15_ : PySem.W.findIn K (.ref C_Sheets) "fresh" = some (some (.ref f_15)))
    (i_15_ : PySem.W.isFn K (.ref f_15) = true)
    (l_15_ : K.lookup f_15 = some ⟨oc_15, od_15, .func (PySem.W.fnOf "fresh" "Sheets.fresh" (defArgs s_Sheets_fresh) (defBody s_Sheets_fresh) (defScope s_Sheets_fresh) .none kV_15 dc_15 pm_15 an_15 cd_15 ct_15), sl_15⟩)
    (c_15_ : PySem.W.codeIn K cd_15 "Sheets.fresh" = true)
    (k_15_ : PySem.W.keepIn K (.ref f_15) = true)
    (a_16_ : PySem.W.findIn K (.ref C_Sheets) "back" = some (some (.ref f_16)))
    (i_16_ : PySem.W.isFn K (.ref f_16) = true)
    (l_16_ : K.lookup f_16 = some ⟨oc_16, od_16, .func (PySem.W.fnOf "back" "Sheets.back" (defArgs s_Sheets_back) (defBody s_Sheets_back) (defScope s_Sheets_back) .none kV_16 dc_16 pm_16 an_16 cd_16 ct_16), sl_16⟩)
    (c_16_ : PySem.W.codeIn K cd_16 "Sheets.back" = true)
    (k_16_ : PySem.W.keepIn K (.ref f_16) = true)
    (a_17_ : PySem.W.findIn K (.ref C_Sheets) "let_go" = some (some (.ref f_17)))
    (i_17_ : PySem.W.isFn K (.ref f_17) = true)
    (l_17_ : K.lookup f_17 = some ⟨oc_17, od_17, .func (PySem.W.fnOf "let_go" "Sheets.let_go" (defArgs s_Sheets_let_go) (defBody s_Sheets_let_go) (defScope s_Sheets_let_go) .none kV_17 dc_17 pm_17 an_17 cd_17 ct_17), sl_17⟩)
    (c_17_ : PySem.W.codeIn K cd_17 "Sheets.let_go" = true)
    (k_17_ : PySem.W.keepIn K (.ref f_17) = true)
    (a_18_ : PySem.W.findIn K (.ref C_Sheets) "holders_of" = some (some (.ref f_18)))
    (i_18_ : PySem.W.isFn K (.ref f_18) = true)
    (l_18_ : K.lookup f_18 = some ⟨oc_18, od_18, .func (PySem.W.fnOf "holders_of" "Sheets.holders_of" (defArgs s_Sheets_holders_of) (defBody s_Sheets_holders_of) (defScope s_Sheets_holders_of) .none kV_18 dc_18 pm_18 an_18 cd_18 ct_18), sl_18⟩)
    (c_18_ : PySem.W.codeIn K cd_18 "Sheets.holders_of" = true)
    (k_18_ : PySem.W.keepIn K (.ref f_18) = true)
    (a_19_ : PySem.W.findIn K (.ref C_Sheets) "sheet_at" = some (some (.ref f_19)))
    (i_19_ : PySem.W.isFn K (.ref f_19) = true)
    (l_19_ : K.lookup f_19 = some ⟨oc_19, od_19, .func (PySem.W.fnOf "sheet_at" "Sheets.sheet_at" (defArgs s_Sheets_sheet_at) (defBody s_Sheets_sheet_at) (defScope s_Sheets_sheet_at) .none kV_19 dc_19 pm_19 an_19 cd_19 ct_19), sl_19⟩)
    (c_19_ : PySem.W.codeIn K cd_19 "Sheets.sheet_at" = true)
    (k_19_ : PySem.W.keepIn K (.ref f_19) = true)
    (a_20_ : PySem.W.findIn K (.ref C_Sheets) "live_sheets" = some (some (.ref f_20)))
    (i_20_ : PySem.W.isFn K (.ref f_20) = true)
    (l_20_ : K.lookup f_20 = some ⟨oc_20, od_20, .func (PySem.W.fnOf "live_sheets" "Sheets.live_sheets" (defArgs s_Sheets_live_sheets) (defBody s_Sheets_live_sheets) (defScope s_Sheets_live_sheets) .none kV_20 dc_20 pm_20 an_20 cd_20 ct_20), sl_20⟩)
    (c_20_ : PySem.W.codeIn K cd_20 "Sheets.live_sheets" = true)
    (k_20_ : PySem.W.keepIn K (.ref f_20) = true)
    (a_21_ : PySem.W.findIn K (.ref C_Sheets) "is_full" = some (some (.ref f_21)))
    (i_21_ : PySem.W.isFn K (.ref f_21) = true)
    (l_21_ : K.lookup f_21 = some ⟨oc_21, od_21, .func (PySem.W.fnOf "is_full" "Sheets.is_full" (defArgs s_Sheets_is_full) (defBody s_Sheets_is_full) (defScope s_Sheets_is_full) .none kV_21 dc_21 pm_21 an_21 cd_21 ct_21), sl_21⟩)
    (c_21_ : PySem.W.codeIn K cd_21 "Sheets.is_full" = true)
    (k_21_ : PySem.W.keepIn K (.ref f_21) = true)
    (a_22_ : PySem.W.findIn K (.ref C_Sheets) "hand_at" = some (some (.ref f_22)))
    (i_22_ : PySem.W.isFn K (.ref f_22) = true)
    (l_22_ : K.lookup f_22 = some ⟨oc_22, od_22, .func (PySem.W.fnOf "hand_at" "Sheets.hand_at" (defArgs s_Sheets_hand_at) (defBody s_Sheets_hand_at) (defScope s_Sheets_hand_at) .none kV_22 dc_22 pm_22 an_22 cd_22 ct_22), sl_22⟩)
    (c_22_ : PySem.W.codeIn K cd_22 "Sheets.hand_at" = true)
    (k_22_ : PySem.W.keepIn K (.ref f_22) = true)
    (a_23_ : PySem.W.findIn K (.ref C_Sheets) "told_frames" = some (some (.ref f_23)))
    (i_23_ : PySem.W.isFn K (.ref f_23) = true)
    (l_23_ : K.lookup f_23 = some ⟨oc_23, od_23, .func (PySem.W.fnOf "told_frames" "Sheets.told_frames" (defArgs s_Sheets_told_frames) (defBody s_Sheets_told_frames) (defScope s_Sheets_told_frames) .none kV_23 dc_23 pm_23 an_23 cd_23 ct_23), sl_23⟩)
    (c_23_ : PySem.W.codeIn K cd_23 "Sheets.told_frames" = true)
    (k_23_ : PySem.W.keepIn K (.ref f_23) = true)
    (a_24_ : PySem.W.findIn K (.ref C_Sheets) "told_slots" = some (some (.ref f_24)))
    (i_24_ : PySem.W.isFn K (.ref f_24) = true)
    (l_24_ : K.lookup f_24 = some ⟨oc_24, od_24, .func (PySem.W.fnOf "told_slots" "Sheets.told_slots" (defArgs s_Sheets_told_slots) (defBody s_Sheets_told_slots) (defScope s_Sheets_told_slots) .none kV_24 dc_24 pm_24 an_24 cd_24 ct_24), sl_24⟩)
    (c_24_ : PySem.W.codeIn K cd_24 "Sheets.told_slots" = true)
    (k_24_ : PySem.W.keepIn K (.ref f_24) = true)
    (a_25_ : PySem.W.findIn K (.ref C_Sheets) "moved" = some (some (.ref f_25)))
    (i_25_ : PySem.W.isFn K (.ref f_25) = true)
    (l_25_ : K.lookup f_25 = some ⟨oc_25, od_25, .func (PySem.W.fnOf "moved" "Sheets.moved" (defArgs s_Sheets_moved) (defBody s_Sheets_moved) (defScope s_Sheets_moved) .none kV_25 dc_25 pm_25 an_25 cd_25 ct_25), sl_25⟩)
    (c_25_ : PySem.W.codeIn K cd_25 "Sheets.moved" = true)
    (k_25_ : PySem.W.keepIn K (.ref f_25) = true)
    (a_26_ : PySem.W.findIn K (.ref C_Sheets) "lying_at" = some (some (.ref f_26)))
    (i_26_ : PySem.W.isFn K (.ref f_26) = true)
    (l_26_ : K.lookup f_26 = some ⟨oc_26, od_26, .func (PySem.W.fnOf "lying_at" "Sheets.lying_at" (defArgs s_Sheets_lying_at) (defBody s_Sheets_lying_at) (defScope s_Sheets_lying_at) .none kV_26 dc_26 pm_26 an_26 cd_26 ct_26), sl_26⟩)
    (c_26_ : PySem.W.codeIn K cd_26 "Sheets.lying_at" = true)
    (k_26_ : PySem.W.keepIn K (.ref f_26) = true)
    (a_27_ : PySem.W.findIn K (.ref C_Sheets) "told_slot" = some (some (.ref f_27)))
    (i_27_ : PySem.W.isFn K (.ref f_27) = true)
    (l_27_ : K.lookup f_27 = some ⟨oc_27, od_27, .func (PySem.W.fnOf "told_slot" "Sheets.told_slot" (defArgs s_Sheets_told_slot) (defBody s_Sheets_told_slot) (defScope s_Sheets_told_slot) .none kV_27 dc_27 pm_27 an_27 cd_27 ct_27), sl_27⟩)
    (c_27_ : PySem.W.codeIn K cd_27 "Sheets.told_slot" = true)
    (k_27_ : PySem.W.keepIn K (.ref f_27) = true)
    (a_28_ : PySem.W.findIn K (.ref C_Sheets) "make_empty" = some (some (.ref f_28)))
    (i_28_ : PySem.W.isFn K (.ref f_28) = true)
    (l_28_ : K.lookup f_28 = some ⟨oc_28, od_28, .func (PySem.W.fnOf "make_empty" "Sheets.make_empty" (defArgs s_Sheets_make_empty) (defBody s_Sheets_make_empty) (defScope s_Sheets_make_empty) .none kV_28 dc_28 pm_28 an_28 cd_28 ct_28), sl_28⟩)
    (c_28_ : PySem.W.codeIn K cd_28 "Sheets.make_empty" = true)
    (k_28_ : PySem.W.keepIn K (.ref f_28) = true)
    (a_29_ : PySem.W.findIn K (.ref C_Sheets) "lose_twin" = some (some (.ref f_29)))
    (i_29_ : PySem.W.isFn K (.ref f_29) = true)
    (l_29_ : K.lookup f_29 = some ⟨oc_29, od_29, .func (PySem.W.fnOf "lose_twin" "Sheets.lose_twin" (defArgs s_Sheets_lose_twin) (defBody s_Sheets_lose_twin) (defScope s_Sheets_lose_twin) .none kV_29 dc_29 pm_29 an_29 cd_29 ct_29), sl_29⟩)
    (c_29_ : PySem.W.codeIn K cd_29 "Sheets.lose_twin" = true)
    (k_29_ : PySem.W.keepIn K (.ref f_29) = true)
    (a_30_ : PySem.W.findIn K (.ref C_Sheets) "frame_for" = some (some (.ref f_30)))
    (i_30_ : PySem.W.isFn K (.ref f_30) = true)
    (l_30_ : K.lookup f_30 = some ⟨oc_30, od_30, .func (PySem.W.fnOf "frame_for" "Sheets.frame_for" (defArgs s_Sheets_frame_for) (defBody s_Sheets_frame_for) (defScope s_Sheets_frame_for) .none kV_30 dc_30 pm_30 an_30 cd_30 ct_30), sl_30⟩)
    (c_30_ : PySem.W.codeIn K cd_30 "Sheets.frame_for" = true)
    (k_30_ : PySem.W.keepIn K (.ref f_30) = true)
    (a_31_ : PySem.W.findIn K (.ref C_Sheets) "put_out" = some (some (.ref f_31)))
    (i_31_ : PySem.W.isFn K (.ref f_31) = true)
    (l_31_ : K.lookup f_31 = some ⟨oc_31, od_31, .func (PySem.W.fnOf "put_out" "Sheets.put_out" (defArgs s_Sheets_put_out) (defBody s_Sheets_put_out) (defScope s_Sheets_put_out) .none kV_31 dc_31 pm_31 an_31 cd_31 ct_31), sl_31⟩)
    (c_31_ : PySem.W.codeIn K cd_31 "Sheets.put_out" = true)
    (k_31_ : PySem.W.keepIn K (.ref f_31) = true)
    (a_32_ : PySem.W.findIn K (.ref C_Sheets) "slot_for" = some (some (.ref f_32)))
    (i_32_ : PySem.W.isFn K (.ref f_32) = true)
    (l_32_ : K.lookup f_32 = some ⟨oc_32, od_32, .func (PySem.W.fnOf "slot_for" "Sheets.slot_for" (defArgs s_Sheets_slot_for) (defBody s_Sheets_slot_for) (defScope s_Sheets_slot_for) .none kV_32 dc_32 pm_32 an_32 cd_32 ct_32), sl_32⟩)
    (c_32_ : PySem.W.codeIn K cd_32 "Sheets.slot_for" = true)
    (k_32_ : PySem.W.keepIn K (.ref f_32) = true)
    (zt_FrameError : PySem.W.typeIn K (.ref C_FrameError) = some (.type "type"))
    (zl_FrameError : PySem.W.clsIn K C_FrameError = some cd_FrameError)
    (zm_FrameError : PySem.W.mroIn K C_FrameError (.type "BaseException") = some true)
    (zt_NoRoom : PySem.W.typeIn K (.ref C_NoRoom) = some (.type "type"))
    (zl_NoRoom : PySem.W.clsIn K C_NoRoom = some cd_NoRoom)
    (zm_NoRoom : PySem.W.mroIn K C_NoRoom (.type "BaseException") = some true)
    (ze_NoRoom : PySem.W.excIn K C_NoRoom mroVE "ValueError.__new__" = true)
    (xg_NoRoom : PySem.W.findIn K (.ref C_NoRoom) "__getattribute__" = some (some (.builtin "BaseException.__getattribute__")))
    (xq_NoRoom : PySem.W.findIn K (.ref C_NoRoom) "__getattr__" = some none)
    (xb_NoRoom : PySem.W.mroIn K C_NoRoom (.type "BaseException") = some true)
    (xh_NoRoom : PySem.W.hasDictIn K C_NoRoom = true)
    (xa_NoRoom : PySem.W.findIn K (.ref C_NoRoom) "__class__" = some (some (.builtin "object.__class__")))
    (xn_NoRoom : PySem.W.specialIn K (.builtin "object.__class__") "__get__" = some (some (.builtin "getset_descriptor.__get__")))
    (xt_NoRoom : PySem.W.takesIn K (.builtin "object.__class__") = some true)
    (xm_NoRoom : PySem.W.mroIn K C_NoRoom (.type "object") = some true)
    (zs_NoRoom_FrameError : PySem.W.mroIn K C_NoRoom (.ref C_FrameError) = some true)
    (zs_NoRoom_NoRoom : PySem.W.mroIn K C_NoRoom (.ref C_NoRoom) = some true)
    (zk_NoRoom_NoRoom : PySem.W.kitOne K (.ref C_NoRoom) (.ref C_NoRoom) = some true)
    (zk_NoRoom_ValueError : PySem.W.kitOne K (.ref C_NoRoom) (.type "ValueError") = some true)
    (zk_NoRoom_NoShape : PySem.W.kitOne K (.ref C_NoRoom) (.ref C_NoShape) = some false)
    (zk_NoRoom_OutOfRoom : PySem.W.kitOne K (.ref C_NoRoom) (.ref C_OutOfRoom) = some false)
    (zk_NoRoom_BadRights : PySem.W.kitOne K (.ref C_NoRoom) (.ref C_BadRights) = some false)
    (zk_NoRoom_NoTask : PySem.W.kitOne K (.ref C_NoRoom) (.ref C_NoTask) = some false)
    (zk_NoRoom_NoBank : PySem.W.kitOne K (.ref C_NoRoom) (.ref C_NoBank) = some false)
    (zk_NoRoom_OutOfBank : PySem.W.kitOne K (.ref C_NoRoom) (.ref C_OutOfBank) = some false)
    (zk_NoRoom_Taken : PySem.W.kitOne K (.ref C_NoRoom) (.ref C_Taken) = some false)
    (zk_NoRoom_NotMapped : PySem.W.kitOne K (.ref C_NoRoom) (.ref C_NotMapped) = some false)
    (zk_NoRoom_NoRight : PySem.W.kitOne K (.ref C_NoRoom) (.ref C_NoRight) = some false)
    (zk_NoRoom_Busy : PySem.W.kitOne K (.ref C_NoRoom) (.ref C_Busy) = some false)
    (zk_NoRoom_NoRow : PySem.W.kitOne K (.ref C_NoRoom) (.ref C_NoRow) = some false)
    (a_33_ : PySem.W.nsIn K mainGlobals "law" = some (some (.ref f_33)))
    (l_33_ : K.lookup f_33 = some ⟨oc_33, od_33, .func (PySem.W.fnOf "law" "law" (defArgs s_law) (defBody s_law) (defScope s_law) .none kV_33 dc_33 pm_33 an_33 cd_33 ct_33), sl_33⟩)
    (c_33_ : PySem.W.codeIn K cd_33 "law" = true)
    (k_33_ : PySem.W.keepIn K (.ref f_33) = true)
    : ∃ A : Adr, Txt K mg A := ⟨⟨C_Sheet, C_Spots, C_Sheets, C_FrameError, C_NoRoom, C_NoShape, C_OutOfRoom, C_BadRights, C_NoTask, C_NoBank, C_OutOfBank, C_Taken, C_NotMapped, C_NoRight, C_Busy, C_NoRow⟩, {
      b_ValueError := PySem.W.mg_none_of X G zb_ValueError
      b_bool := PySem.W.mg_none_of X G zb_bool
      b_enumerate := PySem.W.mg_none_of X G zb_enumerate
      b_int := PySem.W.mg_none_of X G zb_int
      b_isinstance := PySem.W.mg_none_of X G zb_isinstance
      b_len := PySem.W.mg_none_of X G zb_len
      b_list := PySem.W.mg_none_of X G zb_list
      b_max := PySem.W.mg_none_of X G zb_max
      b_range := PySem.W.mg_none_of X G zb_range
      b_sorted := PySem.W.mg_none_of X G zb_sorted
      b_str := PySem.W.mg_none_of X G zb_str
      b_tuple := PySem.W.mg_none_of X G zb_tuple
      r_swept := ⟨_, _, _, PySem.W.mg_of X G a_0_, fun_mk (st := s_swept) l_0_ c_0_ k_0_, (fun_mk (st := s_swept) l_0_ c_0_ k_0_).binds (ps := ["marks", "hand"]) fun _ _ _ _ _ _ => el2 (fun _ _ => rfl), .nil⟩
      r_l_cell := ⟨_, _, _, PySem.W.mg_of X G a_1_, fun_mk (st := s_l_cell) l_1_ c_1_ k_1_, (fun_mk (st := s_l_cell) l_1_ c_1_ k_1_).binds (ps := ["_law_script", "_law_k"]) fun _ _ _ _ _ _ => el2 (fun _ _ => rfl), .nil⟩
      r_l_like := ⟨_, _, _, PySem.W.mg_of X G a_2_, fun_mk (st := s_l_like) l_2_ c_2_ k_2_, (fun_mk (st := s_l_like) l_2_ c_2_ k_2_).binds (ps := ["_law_found", "_law_due"]) fun _ _ _ _ _ _ => el2 (fun _ _ => rfl), .nil⟩
      r_l_refused := ⟨_, _, _, PySem.W.mg_of X G a_3_, fun_mk (st := s_l_refused) l_3_ c_3_ k_3_, (fun_mk (st := s_l_refused) l_3_ c_3_ k_3_).binds (ps := ["_law_sheets", "_law_sheet", "_law_holder", "_law_marks"]) fun _ _ _ _ _ _ => el4 (fun _ _ _ _ => rfl), .nil⟩
      r_l_alone := ⟨_, _, _, PySem.W.mg_of X G a_4_, fun_mk (st := s_l_alone) l_4_ c_4_ k_4_, (fun_mk (st := s_l_alone) l_4_ c_4_ k_4_).binds (ps := ["_law_sheets", "_law_sheet", "_law_holder", "_law_marks"]) fun _ _ _ _ _ _ => el4 (fun _ _ _ _ => rfl), .nil⟩
      r_l_state := ⟨_, _, _, PySem.W.mg_of X G a_5_, fun_mk (st := s_l_state) l_5_ c_5_ k_5_, (fun_mk (st := s_l_state) l_5_ c_5_ k_5_).binds (ps := ["_law_sheets"]) fun _ _ _ _ _ _ => el1 (fun _ => rfl), .nil⟩
      r_l_too_many := ⟨_, _, _, PySem.W.mg_of X G a_6_, fun_mk (st := s_l_too_many) l_6_ c_6_ k_6_, (fun_mk (st := s_l_too_many) l_6_ c_6_ k_6_).binds (ps := ["_law_sheets", "_law_cell_here", "_law_number", "_law_marks", "_law_many"]) fun _ _ _ _ _ _ => el5 (fun _ _ _ _ _ => rfl), .nil⟩
      r_l_changed := ⟨_, _, _, PySem.W.mg_of X G a_7_, fun_mk (st := s_l_changed) l_7_ c_7_ k_7_, (fun_mk (st := s_l_changed) l_7_ c_7_ k_7_).binds (ps := ["_law_sheets", "_law_frames", "_law_slots", "_law_number", "_law_value", "_law_holder", "_law_marks"]) fun _ _ _ _ _ _ => el7 (fun _ _ _ _ _ _ _ => rfl), .nil⟩
      cl_Sheet := ⟨pg_Sheet, hd_Sheet, po_Sheet, sa_Sheet⟩
      na_Sheet_boxes := zn_Sheet_boxes
      na_Sheet_holders := zn_Sheet_holders
      r_Sheet_init := ⟨_, _, _, PySem.W.mg_of X G a_Sheet, ⟨mk_Sheet, a_8_, i_8_, kc_Sheet⟩, fun_mk (st := s_Sheet_init) l_8_ c_8_ k_8_, (fun_mk (st := s_Sheet_init) l_8_ c_8_ k_8_).binds (ps := ["self", "boxes", "holder"]) fun _ _ _ _ _ _ => el3 (fun _ _ _ => rfl), .nil⟩
      r_Sheet_told_holders := ⟨_, _, _, ⟨a_9_, i_9_, k_9_⟩, fun_mk (st := s_Sheet_told_holders) l_9_ c_9_ k_9_, (fun_mk (st := s_Sheet_told_holders) l_9_ c_9_ k_9_).binds (ps := ["self"]) fun _ _ _ _ _ _ => el1 (fun _ => rfl), .nil⟩
      cl_Spots := ⟨pg_Spots, hd_Spots, po_Spots, sa_Spots⟩
      na_Spots_lying := zn_Spots_lying
      na_Spots_twins := zn_Spots_twins
      r_Spots_init := ⟨_, _, _, PySem.W.mg_of X G a_Spots, ⟨mk_Spots, a_10_, i_10_, kc_Spots⟩, fun_mk (st := s_Spots_init) l_10_ c_10_ k_10_, (fun_mk (st := s_Spots_init) l_10_ c_10_ k_10_).binds (ps := ["self", "many"]) fun _ _ _ _ _ _ => el2 (fun _ _ => rfl), .nil⟩
      r_Spots_first_empty := ⟨_, _, _, ⟨a_11_, i_11_, k_11_⟩, fun_mk (st := s_Spots_first_empty) l_11_ c_11_ k_11_, (fun_mk (st := s_Spots_first_empty) l_11_ c_11_ k_11_).binds (ps := ["self"]) fun _ _ _ _ _ _ => el1 (fun _ => rfl), .nil⟩
      r_Spots_first_twin := ⟨_, _, _, ⟨a_12_, i_12_, k_12_⟩, fun_mk (st := s_Spots_first_twin) l_12_ c_12_ k_12_, (fun_mk (st := s_Spots_first_twin) l_12_ c_12_ k_12_).binds (ps := ["self"]) fun _ _ _ _ _ _ => el1 (fun _ => rfl), .nil⟩
      r_Spots_live_count := ⟨_, _, _, ⟨a_13_, i_13_, k_13_⟩, fun_mk (st := s_Spots_live_count) l_13_ c_13_ k_13_, (fun_mk (st := s_Spots_live_count) l_13_ c_13_ k_13_).binds (ps := ["self"]) fun _ _ _ _ _ _ => el1 (fun _ => rfl), .nil⟩
      cl_Sheets := ⟨pg_Sheets, hd_Sheets, po_Sheets, sa_Sheets⟩
      na_Sheets_size := zn_Sheets_size
      na_Sheets_frames := zn_Sheets_frames
      na_Sheets_slots := zn_Sheets_slots
      na_Sheets_hand := zn_Sheets_hand
      na_Sheets_gone_out := zn_Sheets_gone_out
      na_Sheets_gone_astray := zn_Sheets_gone_astray
      na_Sheets_come_back := zn_Sheets_come_back
      r_Sheets_init := ⟨_, _, _, PySem.W.mg_of X G a_Sheets, ⟨mk_Sheets, a_14_, i_14_, kc_Sheets⟩, fun_mk (st := s_Sheets_init) l_14_ c_14_ k_14_, (fun_mk (st := s_Sheets_init) l_14_ c_14_ k_14_).binds (ps := ["self", "frames", "slots", "size"]) fun _ _ _ _ _ _ => el4 (fun _ _ _ _ => rfl), .nil⟩
      r_Sheets_fresh := ⟨_, _, _, ⟨a_15_, i_15_, k_15_⟩, fun_mk (st := s_Sheets_fresh) l_15_ c_15_ k_15_, (fun_mk (st := s_Sheets_fresh) l_15_ c_15_ k_15_).binds (ps := ["self", "sheet", "holder", "marks"]) fun _ _ _ _ _ _ => el4 (fun _ _ _ _ => rfl), .nil⟩
      r_Sheets_back := ⟨_, _, _, ⟨a_16_, i_16_, k_16_⟩, fun_mk (st := s_Sheets_back) l_16_ c_16_ k_16_, (fun_mk (st := s_Sheets_back) l_16_ c_16_ k_16_).binds (ps := ["self", "slot", "marks"]) fun _ _ _ _ _ _ => el3 (fun _ _ _ => rfl), .nil⟩
      r_Sheets_let_go := ⟨_, _, _, ⟨a_17_, i_17_, k_17_⟩, fun_mk (st := s_Sheets_let_go) l_17_ c_17_ k_17_, (fun_mk (st := s_Sheets_let_go) l_17_ c_17_ k_17_).binds (ps := ["self", "spot", "holder"]) fun _ _ _ _ _ _ => el3 (fun _ _ _ => rfl), .nil⟩
      r_Sheets_holders_of := ⟨_, _, _, ⟨a_18_, i_18_, k_18_⟩, fun_mk (st := s_Sheets_holders_of) l_18_ c_18_ k_18_, (fun_mk (st := s_Sheets_holders_of) l_18_ c_18_ k_18_).binds (ps := ["self", "spot"]) fun _ _ _ _ _ _ => el2 (fun _ _ => rfl), .nil⟩
      r_Sheets_sheet_at := ⟨_, _, _, ⟨a_19_, i_19_, k_19_⟩, fun_mk (st := s_Sheets_sheet_at) l_19_ c_19_ k_19_, (fun_mk (st := s_Sheets_sheet_at) l_19_ c_19_ k_19_).binds (ps := ["self", "spot"]) fun _ _ _ _ _ _ => el2 (fun _ _ => rfl), .nil⟩
      r_Sheets_live_sheets := ⟨_, _, _, ⟨a_20_, i_20_, k_20_⟩, fun_mk (st := s_Sheets_live_sheets) l_20_ c_20_ k_20_, (fun_mk (st := s_Sheets_live_sheets) l_20_ c_20_ k_20_).binds (ps := ["self"]) fun _ _ _ _ _ _ => el1 (fun _ => rfl), .nil⟩
      r_Sheets_is_full := ⟨_, _, _, ⟨a_21_, i_21_, k_21_⟩, fun_mk (st := s_Sheets_is_full) l_21_ c_21_ k_21_, (fun_mk (st := s_Sheets_is_full) l_21_ c_21_ k_21_).binds (ps := ["self"]) fun _ _ _ _ _ _ => el1 (fun _ => rfl), .nil⟩
      r_Sheets_hand_at := ⟨_, _, _, ⟨a_22_, i_22_, k_22_⟩, fun_mk (st := s_Sheets_hand_at) l_22_ c_22_ k_22_, (fun_mk (st := s_Sheets_hand_at) l_22_ c_22_ k_22_).binds (ps := ["self"]) fun _ _ _ _ _ _ => el1 (fun _ => rfl), .nil⟩
      r_Sheets_told_frames := ⟨_, _, _, ⟨a_23_, i_23_, k_23_⟩, fun_mk (st := s_Sheets_told_frames) l_23_ c_23_ k_23_, (fun_mk (st := s_Sheets_told_frames) l_23_ c_23_ k_23_).binds (ps := ["self"]) fun _ _ _ _ _ _ => el1 (fun _ => rfl), .nil⟩
      r_Sheets_told_slots := ⟨_, _, _, ⟨a_24_, i_24_, k_24_⟩, fun_mk (st := s_Sheets_told_slots) l_24_ c_24_ k_24_, (fun_mk (st := s_Sheets_told_slots) l_24_ c_24_ k_24_).binds (ps := ["self"]) fun _ _ _ _ _ _ => el1 (fun _ => rfl), .nil⟩
      r_Sheets_moved := ⟨_, _, _, ⟨a_25_, i_25_, k_25_⟩, fun_mk (st := s_Sheets_moved) l_25_ c_25_ k_25_, (fun_mk (st := s_Sheets_moved) l_25_ c_25_ k_25_).binds (ps := ["self"]) fun _ _ _ _ _ _ => el1 (fun _ => rfl), .nil⟩
      r_Sheets_lying_at := ⟨_, _, _, ⟨a_26_, i_26_, k_26_⟩, fun_mk (st := s_Sheets_lying_at) l_26_ c_26_ k_26_, (fun_mk (st := s_Sheets_lying_at) l_26_ c_26_ k_26_).binds (ps := ["self", "spot"]) fun _ _ _ _ _ _ => el2 (fun _ _ => rfl), .nil⟩
      r_Sheets_told_slot := ⟨_, _, _, ⟨a_27_, i_27_, k_27_⟩, fun_mk (st := s_Sheets_told_slot) l_27_ c_27_ k_27_, (fun_mk (st := s_Sheets_told_slot) l_27_ c_27_ k_27_).binds (ps := ["self", "slot"]) fun _ _ _ _ _ _ => el2 (fun _ _ => rfl), .nil⟩
      r_Sheets_make_empty := ⟨_, _, _, ⟨a_28_, i_28_, k_28_⟩, fun_mk (st := s_Sheets_make_empty) l_28_ c_28_ k_28_, (fun_mk (st := s_Sheets_make_empty) l_28_ c_28_ k_28_).binds (ps := ["self", "spot"]) fun _ _ _ _ _ _ => el2 (fun _ _ => rfl), .nil⟩
      r_Sheets_lose_twin := ⟨_, _, _, ⟨a_29_, i_29_, k_29_⟩, fun_mk (st := s_Sheets_lose_twin) l_29_ c_29_ k_29_, (fun_mk (st := s_Sheets_lose_twin) l_29_ c_29_ k_29_).binds (ps := ["self", "frame"]) fun _ _ _ _ _ _ => el2 (fun _ _ => rfl), .nil⟩
      r_Sheets_frame_for := ⟨_, _, _, ⟨a_30_, i_30_, k_30_⟩, fun_mk (st := s_Sheets_frame_for) l_30_ c_30_ k_30_, (fun_mk (st := s_Sheets_frame_for) l_30_ c_30_ k_30_).binds (ps := ["self", "coming_from", "marks"]) fun _ _ _ _ _ _ => el3 (fun _ _ _ => rfl), .nil⟩
      r_Sheets_put_out := ⟨_, _, _, ⟨a_31_, i_31_, k_31_⟩, fun_mk (st := s_Sheets_put_out) l_31_ c_31_ k_31_, (fun_mk (st := s_Sheets_put_out) l_31_ c_31_ k_31_).binds (ps := ["self", "frame", "coming_from"]) fun _ _ _ _ _ _ => el3 (fun _ _ _ => rfl), .nil⟩
      r_Sheets_slot_for := ⟨_, _, _, ⟨a_32_, i_32_, k_32_⟩, fun_mk (st := s_Sheets_slot_for) l_32_ c_32_ k_32_, (fun_mk (st := s_Sheets_slot_for) l_32_ c_32_ k_32_).binds (ps := ["self", "frame", "coming_from"]) fun _ _ _ _ _ _ => el3 (fun _ _ _ => rfl), .nil⟩
      m_FrameError := ⟨_, PySem.W.mg_of X G a_FrameError, rfl⟩
      h_FrameError := ⟨PySem.W.mg_of X G a_FrameError, zt_FrameError, ⟨_, zl_FrameError⟩, zm_FrameError⟩
      m_NoRoom := ⟨_, PySem.W.mg_of X G a_NoRoom, rfl⟩
      h_NoRoom := ⟨PySem.W.mg_of X G a_NoRoom, zt_NoRoom, ⟨_, zl_NoRoom⟩, zm_NoRoom⟩
      x_NoRoom := ⟨PySem.W.mg_of X G a_NoRoom, ze_NoRoom⟩
      xi_NoRoom := ⟨xg_NoRoom, xq_NoRoom, xb_NoRoom, xh_NoRoom, xa_NoRoom, xn_NoRoom, xt_NoRoom, xm_NoRoom⟩
      m_NoShape := ⟨_, PySem.W.mg_of X G a_NoShape, rfl⟩
      m_OutOfRoom := ⟨_, PySem.W.mg_of X G a_OutOfRoom, rfl⟩
      m_BadRights := ⟨_, PySem.W.mg_of X G a_BadRights, rfl⟩
      m_NoTask := ⟨_, PySem.W.mg_of X G a_NoTask, rfl⟩
      m_NoBank := ⟨_, PySem.W.mg_of X G a_NoBank, rfl⟩
      m_OutOfBank := ⟨_, PySem.W.mg_of X G a_OutOfBank, rfl⟩
      m_Taken := ⟨_, PySem.W.mg_of X G a_Taken, rfl⟩
      m_NotMapped := ⟨_, PySem.W.mg_of X G a_NotMapped, rfl⟩
      m_NoRight := ⟨_, PySem.W.mg_of X G a_NoRight, rfl⟩
      m_Busy := ⟨_, PySem.W.mg_of X G a_Busy, rfl⟩
      m_NoRow := ⟨_, PySem.W.mg_of X G a_NoRow, rfl⟩
      sub_NoRoom_FrameError := zs_NoRoom_FrameError
      sub_NoRoom_NoRoom := zs_NoRoom_NoRoom
      kit_NoRoom_NoRoom := zk_NoRoom_NoRoom
      kit_NoRoom_ValueError := zk_NoRoom_ValueError
      kit_NoRoom_NoShape := zk_NoRoom_NoShape
      kit_NoRoom_OutOfRoom := zk_NoRoom_OutOfRoom
      kit_NoRoom_BadRights := zk_NoRoom_BadRights
      kit_NoRoom_NoTask := zk_NoRoom_NoTask
      kit_NoRoom_NoBank := zk_NoRoom_NoBank
      kit_NoRoom_OutOfBank := zk_NoRoom_OutOfBank
      kit_NoRoom_Taken := zk_NoRoom_Taken
      kit_NoRoom_NotMapped := zk_NoRoom_NotMapped
      kit_NoRoom_NoRight := zk_NoRoom_NoRight
      kit_NoRoom_Busy := zk_NoRoom_Busy
      kit_NoRoom_NoRow := zk_NoRoom_NoRow
      r_law := ⟨_, _, PySem.W.mg_of X G a_33_, fun_mk (st := s_law) l_33_ c_33_ k_33_, fun _ _ => .of_eq rfl⟩
    }⟩

section
variable {P : Program} {w : World} {K : PySem.W.Frag} {mg : Str → Option Value} {base : Heap} {A : Adr}
theorem same_put {H H' : Hp} {t : Addr} {o : HO} (s : Same H H') (h : H t = none) : Same H (upd H' t o) := fun b u e => by
  rw [upd_ne (ne_of_none e h)]; exact s b u e

theorem same_none {H H' : Hp} {p : Addr} (s : Same H H') (h : H' p = none) : H p = none := by
  cases e : H p with
  | none => rfl
  | some o => rw [s p o e] at h; cases h

def sp_cell (K : PySem.W.Frag) (a : Addr) (ns : List Int) : Sp := fun vs H Q _ => ∃ (k : Int), vs = [.ref a, .int k] ∧ SqL K H a (ns.map V.int) ∧ 0 ≤ k ∧ Q (.int (ns.getD k.toNat 0)) H
theorem h_cell (T : Txt K mg A) (a : Addr) (ns : List Int) : Have P w K mg base "_law_cell" 1 ["_law_script", "_law_k"] [] (sp_cell K a ns) := by
  refine T.r_l_cell.have sc_l_cell (fun vs H Q E z => ?_) ?_
  · obtain ⟨k, rfl, _⟩ := z; rfl
  · intro f cdv A' outer s H vs Q E hr z
    obtain ⟨k, rfl, hs, hk, q⟩ := z
    refine ⟨_, (pss_cons (ps_if (pt_cmpR op_lt (pvM 1) (pe_callB call_len rfl T.b_len PySem.boot_len (pa_cons (pvM 0) pa_nil)) (nomark _)) (pss_one (ps_ret (pe_ix ix_list (pvM 0) (pvM 1) (fun _ _ => rfl)))) pss_nil)
      (pss_one (ps_ret pe_int))), ?_⟩
    walk_at "wp"
    refine ⟨ns.length, .inl ⟨_, hs, by simp⟩, ?_⟩
    by_cases c : k < (ns.length : Int)
    · rw [if_pos c]
      refine ⟨_, hs, .int (ns.getD k.toNat 0), ?_, q⟩
      have hlt : k.toNat < ns.length := by omega
      have e : atI (ns.map V.int) ((k.toNat : Nat) : Int) = some (.int (ns.getD k.toNat 0)) := atI_nat (by simp [hlt])
      rw [show ((k.toNat : Nat) : Int) = k by omega] at e
      exact e
    · rw [if_neg c]
      have hge : ns.length ≤ k.toNat := by omega
      rw [show ns.getD k.toNat 0 = 0 by simp [List.getD, hge]] at q
      exact q

def lfV : V → Bool
  | .non => true
  | .bl _ => true
  | .int _ => true
  | .str _ => true
  | _ => false
mutual
def Lks (H : Hp) : Dv → V → Prop
  | .leaf v, x => x = v ∧ lfV v = true
  | .seq t ds, x => ∃ a xs, x = .ref a ∧ H a = some (if t = true then .tup xs else .lst xs) ∧ ds.length < 16777216 ∧ LksL H ds xs
def LksL (H : Hp) : List Dv → List V → Prop
  | [], xs => xs = []
  | d :: ds, xs => ∃ x r, xs = x :: r ∧ Lks H d x ∧ LksL H ds r
end
theorem LksL.len {H : Hp} : ∀ {ds : List Dv} {xs : List V}, LksL H ds xs → xs.length = ds.length
  | [], xs, h => by unfold LksL at h; subst h; rfl
  | d :: ds, xs, h => by
    unfold LksL at h
    obtain ⟨x, r, rfl, _, h⟩ := h
    simp [h.len]
theorem LksL.at {H : Hp} : ∀ {ds : List Dv} {xs : List V} {i : Nat} {d : Dv}, LksL H ds xs → ds[i]? = some d → ∃ x, xs[i]? = some x ∧ Lks H d x
  | [], _, _, _, _, h => by simp at h
  | d :: ds, xs, 0, e, h, hi => by
    unfold LksL at h
    obtain ⟨x, r, rfl, hx, _⟩ := h
    simp at hi
    subst hi
    exact ⟨x, rfl, hx⟩
  | d :: ds, xs, i + 1, e, h, hi => by
    unfold LksL at h
    obtain ⟨x, r, rfl, _, h⟩ := h
    simp at hi
    obtain ⟨y, hy, hl⟩ := h.at hi
    exact ⟨y, by simpa using hy, hl⟩
theorem deepL_at : ∀ {ds : List Dv} {i : Nat} {d : Dv}, ds[i]? = some d → deep d ≤ deepL ds
  | [], _, _, h => by simp at h
  | d :: ds, 0, e, h => by
    simp at h
    subst h
    rw [deepL]; exact Nat.le_max_left ..
  | d :: ds, i + 1, e, h => by
    simp at h
    rw [deepL]; exact Nat.le_trans (deepL_at h) (Nat.le_max_right ..)
mutual
theorem Lks.same {H H' : Hp} : ∀ {d : Dv} {x : V}, Lks H d x → Same H H' → Lks H' d x
  | .leaf v, x, h, _ => by unfold Lks at h ⊢; exact h
  | .seq t ds, x, h, s => by
    unfold Lks at h ⊢
    obtain ⟨a, xs, e, ha, hz, hl⟩ := h
    exact ⟨a, xs, e, s _ _ ha, hz, hl.same s⟩
theorem LksL.same {H H' : Hp} : ∀ {ds : List Dv} {xs : List V}, LksL H ds xs → Same H H' → LksL H' ds xs
  | [], xs, h, _ => by unfold LksL at h ⊢; exact h
  | d :: ds, xs, h, s => by
    unfold LksL at h ⊢
    obtain ⟨x, r, e, hx, hl⟩ := h
    exact ⟨x, r, e, hx.same s, hl.same s⟩
end
def sp_like : Nat → Sp
  | 0 => fun _ _ _ _ => False
  | n + 1 => fun vs H Q _ => ∃ (x y : V) (d : Dv), vs = [x, y] ∧ Lks H d x ∧ Lks H d y ∧ deep d ≤ n ∧ ∀ H', Same H H' → Q (.bl true) H'
theorem ty_no {H : Hp} {a : Addr} {o : HO} {n : String} (h : H a = some o) (e : (kdO (some o) == n || (kdO (some o) == "bool" && n == "int")) = false) : isTy n H (.ref a) = false := by
  unfold isTy
  rw [show kd H (.ref a) = kdO (H a) from rfl, h]; exact e
theorem h_like (T : Txt K mg A) : ∀ n, Have P w K mg base "_law_like" (n + 1) ["_law_found", "_law_due"] [] (sp_like n) := by
  intro n
  induction n with
  | zero => exact T.r_l_like.have sc_l_like (fun vs H Q E z => z.elim) (fun _ _ _ _ _ _ _ _ _ _ z => z.elim)
  | succ n ih =>
    have H_l_like := ih
    refine T.r_l_like.have sc_l_like (fun vs H Q E z => ?_) ?_
    · obtain ⟨x, y, d, rfl, _⟩ := z; rfl
    · intro f cdv A' outer s H vs Q E hr z
      obtain ⟨x, y, d, rfl, hx, hy, hd, q⟩ := z
      refine ⟨_, (pss_cons (ps_if (pt_cmpR op_isN (pvM 1) pe_non (nomark _)) (pss_one (ps_ret (pe_cmpR op_isN (pvM 0) pe_non (nomark _)))) pss_nil)
      (pss_cons (ps_if (pt_val (pe_callB call_isi rfl T.b_isinstance PyProof.Rows.boot_isinstance (pa_cons (pvM 1) (pa_cons (pe_bltnE (n := "bool") rfl T.b_bool PyProof.Rows.boot_bool) pa_nil)))) (pss_one (ps_ret (pe_and (pe_callB call_isi rfl T.b_isinstance PyProof.Rows.boot_isinstance (pa_cons (pvM 0) (pa_cons (pe_bltnE (n := "bool") rfl T.b_bool PyProof.Rows.boot_bool) pa_nil))) (pe_one (pe_cmpR op_eq (pvM 0) (pvM 1) (nomark _)))))) pss_nil)
      (pss_cons (ps_if (pt_val (pe_callB call_isi rfl T.b_isinstance PyProof.Rows.boot_isinstance (pa_cons (pvM 1) (pa_cons (pe_bltnE (n := "int") rfl T.b_int PyProof.Rows.boot_int) pa_nil)))) (pss_one (ps_ret (pe_and (pe_callB call_isi rfl T.b_isinstance PyProof.Rows.boot_isinstance (pa_cons (pvM 0) (pa_cons (pe_bltnE (n := "int") rfl T.b_int PyProof.Rows.boot_int) pa_nil))) (pe_and (pe_not (pe_callB call_isi rfl T.b_isinstance PyProof.Rows.boot_isinstance (pa_cons (pvM 0) (pa_cons (pe_bltnE (n := "bool") rfl T.b_bool PyProof.Rows.boot_bool) pa_nil)))) (pe_one (pe_cmpR op_eq (pvM 0) (pvM 1) (nomark _))))))) pss_nil)
      (pss_cons (ps_if (pt_val (pe_callB call_isi rfl T.b_isinstance PyProof.Rows.boot_isinstance (pa_cons (pvM 1) (pa_cons (pe_bltnE (n := "str") rfl T.b_str PyProof.Rows.boot_str) pa_nil)))) (pss_one (ps_ret (pe_and (pe_callB call_isi rfl T.b_isinstance PyProof.Rows.boot_isinstance (pa_cons (pvM 0) (pa_cons (pe_bltnE (n := "str") rfl T.b_str PyProof.Rows.boot_str) pa_nil))) (pe_one (pe_cmpR op_eq (pvM 0) (pvM 1) (nomark _)))))) pss_nil)
      (pss_cut (ps_if (PW.pt (pw_and (pt_val (pe_callB call_isi rfl T.b_isinstance PyProof.Rows.boot_isinstance (pa_cons (pvM 1) (pa_cons (pe_bltnE (n := "list") rfl T.b_list PyProof.Rows.boot_list) pa_nil)))) (pw_and1 (pt_not (pt_val (pe_callB call_isi rfl T.b_isinstance PyProof.Rows.boot_isinstance (pa_cons (pvM 0) (pa_cons (pe_bltnE (n := "list") rfl T.b_list PyProof.Rows.boot_list) pa_nil)))))))) (pss_one (ps_ret pe_bl)) pss_nil)
      (pss_cut (ps_if (PW.pt (pw_and (pt_val (pe_callB call_isi rfl T.b_isinstance PyProof.Rows.boot_isinstance (pa_cons (pvM 1) (pa_cons (pe_bltnE (n := "tuple") rfl T.b_tuple PyProof.Rows.boot_tuple) pa_nil)))) (pw_and1 (pt_not (pt_val (pe_callB call_isi rfl T.b_isinstance PyProof.Rows.boot_isinstance (pa_cons (pvM 0) (pa_cons (pe_bltnE (n := "tuple") rfl T.b_tuple PyProof.Rows.boot_tuple) pa_nil)))))))) (pss_one (ps_ret pe_bl)) pss_nil)
      (pss_cons (ps_if (pt_cmpR op_ne (pe_callB call_len rfl T.b_len PySem.boot_len (pa_cons (pvM 0) pa_nil)) (pe_callB call_len rfl T.b_len PySem.boot_len (pa_cons (pvM 1) pa_nil)) (nomark _)) (pss_one (ps_ret pe_bl)) pss_nil)
      (pss_cons (ps_forE PassesOwn.leaving rfl (pi_range1 rfl T.b_range (pa_cons (pe_callB call_len rfl T.b_len PySem.boot_len (pa_cons (pvM 1) pa_nil)) pa_nil)) (pg_name (i := 2) sc_l_like.nd rfl (Or.inl rfl)) (pss_one (ps_if (pt_not (pt_val (pe_callE H_l_like (hr.mono (by omega)) xw_def (pa_cons (pe_ix ix_two (pvM 0) (pvM 2) (fun _ _ => rfl)) (pa_cons (pe_ix ix_two (pvM 1) (pvM 2) (fun _ _ => rfl)) pa_nil))))) (pss_one (ps_ret pe_bl)) pss_nil)))
      (pss_one (ps_ret pe_bl)))))))))), ?_⟩
      cases d with
      | leaf v =>
        unfold Lks at hx hy
        obtain ⟨ex, hv⟩ := hx
        obtain ⟨ey, _⟩ := hy
        subst ex
        subst ey
        cases y with
        | non =>
          walk_at "wp"
          exact q _ same_refl
        | bl b =>
          walk_at "wp"
          rw [if_neg (fun z => nomatch z)]
          exact ⟨by decide, iteT ⟨by decide, iteT (q _ same_refl)⟩⟩
        | int i =>
          walk_at "wp"
          rw [if_neg (fun z => nomatch z)]
          exact ⟨by decide, iteF ⟨by decide, iteT ⟨by decide, iteT ⟨by decide, iteT (q _ same_refl)⟩⟩⟩⟩
        | str t =>
          walk_at "wp"
          rw [if_neg (fun z => nomatch z)]
          exact ⟨by decide, iteF ⟨by decide, iteF ⟨by decide, iteT ⟨by decide, iteT (q _ same_refl)⟩⟩⟩⟩
        | _ => cases hv
      | seq t ds =>
        unfold Lks at hx hy
        obtain ⟨a, xs, rfl, ha, hzl, hxs⟩ := hx
        obtain ⟨b, ys, rfl, hb, _, hys⟩ := hy
        have hlx := hxs.len
        have hly := hys.len
        have hdl : deepL ds + 1 ≤ n := by rw [deep] at hd; exact hd
        have step : ∀ (i : Nat) (H' : Hp) (Q' : VK) (E' : XK), i < ds.length → Same H H' → (∀ H'', Same H H'' → Q' (.bl true) H'') → ∃ x y, xs[i]? = some x ∧ ys[i]? = some y ∧ sp_like n [x, y] H' Q' E' := fun i H' Q' E' hi s1 hq => by
          obtain ⟨x, hx1, hx2⟩ := hxs.at (List.getElem?_eq_getElem hi)
          obtain ⟨y, hy1, hy2⟩ := hys.at (List.getElem?_eq_getElem hi)
          refine ⟨x, y, hx1, hy1, ?_⟩
          cases n with
          | zero => omega
          | succ n => exact ⟨x, y, ds[i], rfl, hx2.same s1, hy2.same s1, by have := deepL_at (List.getElem?_eq_getElem hi); omega, fun H'' s2 => hq _ (s1.trans s2)⟩
        walk_at "wp"
        rw [if_neg (fun z => nomatch z)]
        cases t with
        | false =>
          have ha : H a = some (.lst xs) := ha
          have hb : H b = some (.lst ys) := hb
          rw [ty_no hb rfl, ty_no hb rfl, ty_no hb rfl]
          refine ⟨by decide, kn_lst hb, iteF ⟨by decide, kn_lst hb, iteF ⟨by decide, kn_lst hb, iteF ⟨fun σ H' => σ = [some (.ref a), some (.ref b), none] ∧ H' = H, ?_, fun σ' H' => ?_⟩⟩⟩⟩
          · walk_at "wp"
            rw [isTy_lst hb, isTy_lst ha]
            exact ⟨by decide, kn_lst hb, iteT ⟨by decide, kn_lst ha, iteF trivial⟩⟩
          rintro ⟨rfl, rfl⟩
          refine ⟨fun σ H'' => σ = [some (.ref a), some (.ref b), none] ∧ H'' = H', ?_, fun σ' H'' => ?_⟩
          · walk_at "wp"
            rw [ty_no hb rfl]
            exact ⟨by decide, kn_lst hb, iteF (iteF trivial)⟩
          rintro ⟨rfl, rfl⟩
          walk_at "wp"
          refine ⟨_, .inl ⟨_, SqL.of ha, rfl⟩, _, .inl ⟨_, SqL.of hb, rfl⟩, ?_⟩
          rw [decide_eq_true (by omega)]
          refine iteF ⟨_, .inl ⟨_, SqL.of hb, rfl⟩, by omega, by omega, ?_⟩
          refine loop_range (fun i σ H1 => ∃ v2, σ = [some (.ref a), some (.ref b), v2] ∧ Same H'' H1) ⟨_, rfl, same_refl⟩ (fun i σ H1 hi => ?_) (fun σ H1 => ?_)
          · rintro ⟨v2, rfl, s1⟩
            walk_at "wp"
            obtain ⟨x, y, hx1, hy1, hsp⟩ := step i H1 (fun x H2 => ∃ c, x = V.bl c ∧ if (!c) = true then Q (V.bl false) H2 else Same H'' H2) (fun c x H' => E c none H') (by omega) s1 (fun H'' s2 => ⟨true, rfl, iteF s2⟩)
            exact .inl ⟨_, SqL.of (s1 _ _ ha), x, by rw [Int.zero_add]; exact atI_nat hx1, .inl ⟨_, SqL.of (s1 _ _ hb), y, by rw [Int.zero_add]; exact atI_nat hy1, hsp⟩⟩
          · rintro ⟨v2, rfl, s1⟩
            walk_at "wp"
            exact q _ s1
        | true =>
          have ha : H a = some (.tup xs) := ha
          have hb : H b = some (.tup ys) := hb
          rw [ty_no hb rfl, ty_no hb rfl, ty_no hb rfl]
          refine ⟨by decide, kn_tup hb, iteF ⟨by decide, kn_tup hb, iteF ⟨by decide, kn_tup hb, iteF ⟨fun σ H' => σ = [some (.ref a), some (.ref b), none] ∧ H' = H, ?_, fun σ' H' => ?_⟩⟩⟩⟩
          · walk_at "wp"
            rw [ty_no hb rfl]
            exact ⟨by decide, kn_tup hb, iteF (iteF trivial)⟩
          rintro ⟨rfl, rfl⟩
          refine ⟨fun σ H'' => σ = [some (.ref a), some (.ref b), none] ∧ H'' = H', ?_, fun σ' H'' => ?_⟩
          · walk_at "wp"
            rw [isTy_tup hb, isTy_tup ha]
            exact ⟨by decide, kn_tup hb, iteT ⟨by decide, kn_tup ha, iteF trivial⟩⟩
          rintro ⟨rfl, rfl⟩
          walk_at "wp"
          refine ⟨_, .inr ⟨_, SqT.of ha, rfl⟩, _, .inr ⟨_, SqT.of hb, rfl⟩, ?_⟩
          rw [decide_eq_true (by omega)]
          refine iteF ⟨_, .inr ⟨_, SqT.of hb, rfl⟩, by omega, by omega, ?_⟩
          refine loop_range (fun i σ H1 => ∃ v2, σ = [some (.ref a), some (.ref b), v2] ∧ Same H'' H1) ⟨_, rfl, same_refl⟩ (fun i σ H1 hi => ?_) (fun σ H1 => ?_)
          · rintro ⟨v2, rfl, s1⟩
            walk_at "wp"
            obtain ⟨x, y, hx1, hy1, hsp⟩ := step i H1 (fun x H2 => ∃ c, x = V.bl c ∧ if (!c) = true then Q (V.bl false) H2 else Same H'' H2) (fun c x H' => E c none H') (by omega) s1 (fun H'' s2 => ⟨true, rfl, iteF s2⟩)
            exact .inr ⟨_, SqT.of (s1 _ _ ha), x, by rw [Int.zero_add]; exact atI_nat hx1, .inr ⟨_, SqT.of (s1 _ _ hb), y, by rw [Int.zero_add]; exact atI_nat hy1, hsp⟩⟩
          · rintro ⟨v2, rfl, s1⟩
            walk_at "wp"
            exact q _ s1

def rg (n : Nat) (h : Int) (j : Nat) : List Int := (List.range j).map fun (i : Nat) => (h + (i : Int)) % (n : Int)
theorem rg_len {n j : Nat} {h : Int} : (rg n h j).length = j := by unfold rg; rw [List.length_map, List.length_range]
theorem rg_succ {n j : Nat} {h : Int} : rg n h (j + 1) = rg n h j ++ [(h + j) % (n : Int)] := by unfold rg; rw [List.range_succ, List.map_append]; rfl
def sp_sw (K : PySem.W.Frag) : Sp := fun vs H Q _ => ∃ (m : Addr) (h : Int) (bs : List Bool), vs = [.ref m, .int h] ∧ SqL K H m (bs.map V.bl) ∧ 0 ≤ h ∧ h < bs.length ∧ bs.length ≤ 1000 ∧
  ∀ (t u : Addr) (j : Nat) H', Same H H' → H t = none → H u = none → j ≤ bs.length → (∀ i < j, bs.getD ((h + i) % (bs.length : Int)).toNat false = true) → (j = bs.length ∨ bs.getD ((h + j) % (bs.length : Int)).toNat false = false) →
    H' t = some (.tup [.int ((h + j) % (bs.length : Int)), .ref u]) → H' u = some (.lst ((rg bs.length h j).map V.int)) → Q (.ref t) H'
theorem h_sw (T : Txt K mg A) : Have P w K mg base "swept" 1 ["marks", "hand"] [] (sp_sw K) := by
  refine T.r_swept.have sc_swept (fun vs H Q E z => ?_) ?_
  · obtain ⟨m, h, bs, rfl, _⟩ := z; rfl
  · intro f cdv A' outer s H vs Q E hr z
    obtain ⟨m, h, bs, rfl, hm, h0, h1, h2, q⟩ := z
    refine ⟨_, (pss_cons (ps_set (i := 2) sc_swept.nd rfl (Or.inl rfl) (pe_lst pa_nil))
      (pss_cons (ps_set (i := 3) sc_swept.nd rfl (Or.inl rfl) (pvM 1))
      (pss_cons (ps_whileE PassesOwn.leaving (PW.pt (pw_and (pt_cmpR op_lt (pe_callB call_len rfl T.b_len PySem.boot_len (pa_cons (pvM 2) pa_nil)) (pe_callB call_len rfl T.b_len PySem.boot_len (pa_cons (pvM 0) pa_nil)) (nomark _)) (pw_and1 (pt_val (pe_ix ix_list (pvM 0) (pvM 3) (fun _ _ => rfl)))))) (pss_cons (ps_expr (pe_bm PySem.F.plainAttrs_list PySem.F.slot_list_append PySem.F.type_list_append mt_append (pvM 2) (pa_cons (pvM 3) pa_nil)))
      (pss_one (ps_set (i := 3) sc_swept.nd rfl (Or.inl rfl) (pe_op op_mod (pe_op op_add (pvM 3) pe_int) (pe_callB call_len rfl T.b_len PySem.boot_len (pa_cons (pvM 0) pa_nil)))))))
      (pss_one (ps_ret (pe_tup (pa_cons (pvM 3) (pa_cons (pvM 2) pa_nil)))))))), ?_⟩
    walk_at "wp"
    intro u hu
    refine loop_while (fun mm σ H' => ∃ j : Nat, mm = bs.length - j ∧ j ≤ bs.length ∧ σ = [some (.ref m), some (.int h), some (.ref u), some (.int ((h + j) % (bs.length : Int)))] ∧ Same H H' ∧ H' u = some (.lst ((rg bs.length h j).map V.int)) ∧ (∀ i < j, bs.getD ((h + i) % (bs.length : Int)).toNat false = true)) bs.length ⟨0, rfl, Nat.zero_le _, ?_, same_upd same_refl hu, upd_same, fun i hi => absurd hi (Nat.not_lt_zero _)⟩ (fun mm σ H' => ?_)
    · rw [show (h + ((0 : Nat) : Int)) % (bs.length : Int) = h by rw [Int.emod_eq_of_lt] <;> omega]
    · rintro ⟨j, rfl, hj, rfl, sm, hu', hall⟩
      walk_at "wp"
      refine ⟨j, .inl ⟨_, SqL.of hu', by rw [List.length_map, rg_len]⟩, bs.length, .inl ⟨_, sm.seq hm, by simp⟩, ?_⟩
      have hpos : (0 : Int) < bs.length := by omega
      have hp0 := Int.emod_nonneg (h + j) (show (bs.length : Int) ≠ 0 by omega)
      have hp1 := Int.emod_lt_of_pos (h + j) hpos
      have hat : atI (bs.map V.bl) ((h + j) % (bs.length : Int)) = some (.bl (bs.getD ((h + j) % (bs.length : Int)).toNat false)) := by
        generalize (h + j) % (bs.length : Int) = p at *
        have e := atI_nat (xs := bs.map V.bl) (j := p.toNat) (v := .bl (bs.getD p.toNat false)) (by
          have : p.toNat < bs.length := by omega
          simp [this])
        rw [show ((p.toNat : Nat) : Int) = p by omega] at e
        exact e
      by_cases c : (j : Int) < bs.length
      · rw [if_pos c]
        refine ⟨_, sm.seq hm, _, hat, _, rfl, ?_⟩
        cases hb : bs.getD ((h + j) % (bs.length : Int)).toNat false with
        | true =>
          refine iteT (turnW ?_)
          walk_at "wp"
          refine ⟨.inl ⟨rfl, _, SqL.of hu'⟩, _, hu', by rw [List.length_map, rg_len]; omega, bs.length, .inl ⟨_, (same_put sm hu).seq hm, by simp⟩, hpos, bs.length - (j + 1), by omega, j + 1, rfl, by omega, ?_, same_put sm hu, ?_, fun i hi => ?_⟩
          · rw [Int.emod_add_emod]
            congr 1
            omega
          · rw [rg_succ, List.map_append]; rfl
          · rcases (by omega : i < j ∨ i = j) with hi | rfl
            · exact hall i hi
            · exact hb
        | false =>
          refine iteF fun t ht => ?_
          exact q t u j _ (same_upd sm ht) (same_none sm ht) hu hj hall (.inr hb) upd_same (by rw [upd_ne (ne_of_none hu' ht)]; exact hu')
      · rw [if_neg c]
        refine iteF fun t ht => ?_
        exact q t u j _ (same_upd sm ht) (same_none sm ht) hu hj hall (.inl (by omega)) upd_same (by rw [upd_ne (ne_of_none hu' ht)]; exact hu')

theorem prd_get {α β : Type} {F : α → β → Prop} : ∀ {xs : List α} {ys : List β} {i : Nat} {x : α}, Paired F xs ys → xs[i]? = some x → ∃ y, ys[i]? = some y ∧ F x y
  | _, _, _, _, .nil, e => by simp at e
  | _, _, 0, _, .cons r _, e => by simp at e; subst e; exact ⟨_, rfl, r⟩
  | _, _, i + 1, x, .cons _ t, e => by
    obtain ⟨u, h1, h2⟩ := prd_get (i := i) (x := x) t (by simpa using e)
    exact ⟨u, by simpa using h1, h2⟩
theorem prd_get2 {α β : Type} {F : α → β → Prop} : ∀ {xs : List α} {ys : List β} {i : Nat} {y : β}, Paired F xs ys → ys[i]? = some y → ∃ x, xs[i]? = some x ∧ F x y
  | _, _, _, _, .nil, e => by simp at e
  | _, _, 0, _, .cons r _, e => by simp at e; subst e; exact ⟨_, rfl, r⟩
  | _, _, i + 1, y, .cons _ t, e => by
    obtain ⟨u, h1, h2⟩ := prd_get2 (i := i) (y := y) t (by simpa using e)
    exact ⟨u, by simpa using h1, h2⟩
theorem prd_set {α β : Type} {F : α → β → Prop} {x : α} {y : β} (hxy : F x y) : ∀ {xs : List α} {ys : List β} (i : Nat), Paired F xs ys → Paired F (xs.set i x) (ys.set i y)
  | _, _, _, .nil => .nil
  | _, _, 0, .cons _ t => .cons hxy t
  | _, _, i + 1, .cons r t => .cons r (prd_set hxy i t)
structure Sh where
  b : List Int
  ks : List (List Key)
  sh : Addr
  bx : Addr
  hd : Addr
def Kp (ex : List Addr) (H H' : Hp) : Prop := ∀ c o, H c = some o → c ∉ ex → H' c = some o
def shF (bx hd : Addr) : List (Str × V) := putF "holders" (.ref hd) (putF "boxes" (.ref bx) [])
theorem shF_boxes {bx hd : Addr} : (shF bx hd).lookup ("boxes" : Str) = some (.ref bx) := by rfl
theorem shF_holders {bx hd : Addr} : (shF bx hd).lookup ("holders" : Str) = some (.ref hd) := by rfl
theorem shF_no {bx hd : Addr} {m : Str} (h : ¬ m ∈ (["boxes", "holders"] : List Str)) : (shF bx hd).lookup m = none := by
  simp only [List.mem_cons, List.not_mem_nil, or_false, not_or] at h
  unfold shF
  simp only [lookup_putF, h.1, h.2, if_false]
  rfl
def spF (ly tw : Addr) : List (Str × V) := putF "twins" (.ref tw) (putF "lying" (.ref ly) [])
theorem spF_lying {ly tw : Addr} : (spF ly tw).lookup ("lying" : Str) = some (.ref ly) := by rfl
theorem spF_twins {ly tw : Addr} : (spF ly tw).lookup ("twins" : Str) = some (.ref tw) := by rfl
theorem spF_no {ly tw : Addr} {m : Str} (h : ¬ m ∈ (["lying", "twins"] : List Str)) : (spF ly tw).lookup m = none := by
  simp only [List.mem_cons, List.not_mem_nil, or_false, not_or] at h
  unfold spF
  simp only [lookup_putF, h.1, h.2, if_false]
  rfl

structure St where
  fr : List (Option Sh)
  sr : List (Option Sh)
  h : Nat
  go : Int
  ga : Int
  cb : Int
def ssF (n : Int) (fp sq : Addr) (s : St) : List (Str × V) := putF "come_back" (.int s.cb) (putF "gone_astray" (.int s.ga) (putF "gone_out" (.int s.go) (putF "hand" (.int s.h) (putF "slots" (.ref sq) (putF "frames" (.ref fp) (putF "size" (.int n) []))))))
section
variable {n : Int} {fp sq : Addr} {s : St}
theorem ssF_frames : (ssF n fp sq s).lookup ("frames" : Str) = some (.ref fp) := by rfl
theorem ssF_slots : (ssF n fp sq s).lookup ("slots" : Str) = some (.ref sq) := by rfl
theorem ssF_hand : (ssF n fp sq s).lookup ("hand" : Str) = some (.int s.h) := by rfl
theorem ssF_out : (ssF n fp sq s).lookup ("gone_out" : Str) = some (.int s.go) := by rfl
theorem ssF_astray : (ssF n fp sq s).lookup ("gone_astray" : Str) = some (.int s.ga) := by rfl
theorem ssF_back : (ssF n fp sq s).lookup ("come_back" : Str) = some (.int s.cb) := by rfl
theorem ssF_no {m : Str} (h : ¬ m ∈ (["size", "frames", "slots", "hand", "gone_out", "gone_astray", "come_back"] : List Str)) : (ssF n fp sq s).lookup m = none := by
  simp only [List.mem_cons, List.not_mem_nil, or_false, not_or] at h
  obtain ⟨a1, a2, a3, a4, a5, a6, a7⟩ := h
  unfold ssF
  simp only [lookup_putF, a1, a2, a3, a4, a5, a6, a7, if_false]
  rfl
theorem ssF_ph {h : Nat} : putF "hand" (.int (h : Int)) (ssF n fp sq s) = ssF n fp sq { s with h := h } := by rfl
theorem ssF_po {x : Int} : putF "gone_out" (.int x) (ssF n fp sq s) = ssF n fp sq { s with go := x } := by rfl
theorem ssF_pa {x : Int} : putF "gone_astray" (.int x) (ssF n fp sq s) = ssF n fp sq { s with ga := x } := by rfl
theorem ssF_pc {x : Int} : putF "come_back" (.int x) (ssF n fp sq s) = ssF n fp sq { s with cb := x } := by rfl
end
def ksD (ks : List (List Key)) : List (List Key × V) := ks.map fun k => (k, V.bl true)
def ShAt (C : Addr) (H : Hp) (v : V) : Option Sh → Prop
  | none => v = .non
  | some r => v = .ref r.sh ∧ (∃ dx, H r.sh = some (.ins C dx (shF r.bx r.hd))) ∧ H r.bx = some (.lst (r.b.map V.int)) ∧ H r.hd = some (.dT (ksD r.ks))
abbrev LyAt (C : Addr) (H : Hp) : List V → List (Option Sh) → Prop := Paired (ShAt C H)
theorem ShAt.same {C : Addr} {H H' : Hp} (s : Same H H') {v : V} : ∀ {r : Option Sh}, ShAt C H v r → ShAt C H' v r
  | none, h => h
  | some _, ⟨e, ⟨dx, h1⟩, h2, h3⟩ => ⟨e, ⟨dx, s _ _ h1⟩, s _ _ h2, s _ _ h3⟩
theorem LyAt.same {C : Addr} {H H' : Hp} (s : Same H H') {vs : List V} {rs : List (Option Sh)} (h : LyAt C H vs rs) : LyAt C H' vs rs := Paired.mapP h fun _ _ q => q.same s
def SpAt (C S : Addr) (H : Hp) (p ly tw : Addr) (rows : List (Option Sh)) : Prop := ∃ dx vs, H p = some (.ins C dx (spF ly tw)) ∧ H ly = some (.lst vs) ∧ LyAt S H vs rows ∧ H tw = some (.lst (List.replicate rows.length V.non))
theorem SpAt.same {C S : Addr} {H H' : Hp} {p ly tw : Addr} {rows : List (Option Sh)} (h : SpAt C S H p ly tw rows) (s : Same H H') : SpAt C S H' p ly tw rows := let ⟨dx, vs, h1, h2, h3, h4⟩ := h; ⟨dx, vs, s _ _ h1, s _ _ h2, h3.same s, s _ _ h4⟩

structure Ss where
  p : Addr
  fp : Addr
  ly : Addr
  tw : Addr
  sq : Addr
  ls : Addr
  ts : Addr
  n : Int
def Ss.four (z : Ss) : List Addr := [z.ly, z.tw, z.ls, z.ts]
def Ks (z : Ss) (H H' : Hp) : Prop := ∀ c o, H c = some o → c ≠ z.p → c ∉ [z.ly, z.ls] → H' c = some o
theorem Ks.trans {z : Ss} {H H1 H2 : Hp} (a : Ks z H H1) (b : Ks z H1 H2) : Ks z H H2 := fun c o h h1 h2 => b c o (a c o h h1 h2) h1 h2
theorem Ks.of {z : Ss} {H H' : Hp} (s : Same H H') : Ks z H H' := fun c o h _ _ => s c o h
def Kd (z : Ss) (H H' : Hp) : Prop := ∀ c o, H c = some o → c ≠ z.p → c ∉ [z.ly, z.ls] → (∀ kvs, o ≠ .dT kvs) → H' c = some o
theorem Kd.trans {z : Ss} {H H1 H2 : Hp} (a : Kd z H H1) (b : Kd z H1 H2) : Kd z H H2 := fun c o h h1 h2 h3 => b c o (a c o h h1 h2 h3) h1 h2 h3
theorem Ks.kd {z : Ss} {H H' : Hp} (s : Ks z H H') : Kd z H H' := fun c o h h1 h2 _ => s c o h h1 h2
theorem Kd.of {z : Ss} {H H' : Hp} (s : Same H H') : Kd z H H' := fun c o h _ _ _ => s c o h
def hds (rows : List (Option Sh)) : List Addr := rows.filterMap fun r => r.map Sh.hd
structure SsAt (C P S : Addr) (H : Hp) (z : Ss) (s : St) : Prop where
  me : ∃ dx, H z.p = some (.ins C dx (ssF z.n z.fp z.sq s))
  fr : SpAt P S H z.fp z.ly z.tw s.fr
  sl : SpAt P S H z.sq z.ls z.ts s.sr
  n4 : z.four.Nodup
  bx : ∀ r, some r ∈ s.fr ∨ some r ∈ s.sr → r.bx ∉ z.four
  len : s.fr.length ≤ 64 ∧ s.sr.length ≤ 64
  hh : s.h < s.fr.length
theorem SsAt.same {C P S : Addr} {H H' : Hp} {z : Ss} {s : St} (h : SsAt C P S H z s) (e : Same H H') : SsAt C P S H' z s :=
  ⟨let ⟨dx, q⟩ := h.me; ⟨dx, e _ _ q⟩, h.fr.same e, h.sl.same e, h.n4, h.bx, h.len, h.hh⟩
theorem SsAt.fours {C P S : Addr} {H : Hp} {z : Ss} {s : St} (h : SsAt C P S H z s) : ∀ c ∈ z.four, ∃ us, H c = some (.lst us) := fun c hc => by
  obtain ⟨_, _, _, f2, _, f4⟩ := id h.fr
  obtain ⟨_, _, _, g2, _, g4⟩ := id h.sl
  unfold Ss.four at hc
  simp only [List.mem_cons, List.not_mem_nil, or_false] at hc
  rcases hc with rfl | rfl | rfl | rfl
  · exact ⟨_, f2⟩
  · exact ⟨_, f4⟩
  · exact ⟨_, g2⟩
  · exact ⟨_, g4⟩
theorem SsAt.nf {C P S : Addr} {H : Hp} {z : Ss} {s : St} (h : SsAt C P S H z s) {e : Addr} (he : H e = none) : e ∉ z.four := fun z9 => by obtain ⟨us, h⟩ := h.fours _ z9; rw [he] at h; cases h
theorem four_two {z : Ss} {c : Addr} (h : c ∉ z.four) : c ∉ [z.ly, z.ls] := fun z9 => h (by
  unfold Ss.four
  simp only [List.mem_cons, List.not_mem_nil, or_false] at z9 ⊢
  rcases z9 with h | h
  · exact .inl h
  · exact .inr (.inr (.inl h)))
def Ap (s : St) : Prop := (hds (s.fr ++ s.sr)).Nodup
def St.rw (s : St) (f : Bool) : List (Option Sh) := if f = true then s.fr else s.sr
def St.put (s : St) (f : Bool) (j : Nat) (r : Option Sh) : St := if f = true then { s with fr := s.fr.set j r } else { s with sr := s.sr.set j r }
def Ss.la (z : Ss) (f : Bool) : Addr := if f = true then z.ly else z.ls
def nmS (f : Bool) : Str := if f = true then Str.ofString "frame" else Str.ofString "slot"
theorem la_in {z : Ss} {f : Bool} : z.la f ∈ [z.ly, z.ls] := by cases f <;> simp [Ss.la]
theorem la_four {z : Ss} {f : Bool} : z.la f ∈ z.four := by cases f <;> simp [Ss.la, Ss.four]
theorem sh_upd {S a : Addr} {H : Hp} {us : List V} {o : HO} (hl : H a = some (.lst us)) {v : V} : ∀ {r : Option Sh}, ShAt S H v r → (∀ q, r = some q → q.bx ≠ a) → ShAt S (upd H a o) v r
  | none, h, _ => h
  | some r, ⟨e, ⟨dx, h1⟩, h2, h3⟩, hb => ⟨e, ⟨dx, by rw [upd_ne (ne_of h1 hl (fun z => nomatch z))]; exact h1⟩, by rw [upd_ne (hb r rfl)]; exact h2, by rw [upd_ne (ne_of h3 hl (fun z => nomatch z))]; exact h3⟩
theorem ly_upd {S a : Addr} {H : Hp} {us : List V} {o : HO} (hl : H a = some (.lst us)) {vs : List V} {rows : List (Option Sh)} (h : LyAt S H vs rows) (hb : ∀ r, some r ∈ rows → r.bx ≠ a) : LyAt S (upd H a o) vs rows := by
  induction h with
  | nil => exact .nil
  | @cons x y _ _ h t ih => exact .cons (sh_upd hl h fun q e => hb q (by rw [e]; exact List.mem_cons_self ..)) (ih fun r hr => hb r (List.mem_cons_of_mem _ hr))
theorem mem_put {s : St} {f : Bool} {j : Nat} {r : Option Sh} {q : Sh} (h : some q ∈ (s.put f j r).fr ∨ some q ∈ (s.put f j r).sr) : some q = r ∨ some q ∈ s.fr ∨ some q ∈ s.sr := by
  cases f with
  | true =>
    rcases h with h | h
    · rcases List.mem_or_eq_of_mem_set (show some q ∈ s.fr.set j r from h) with h | h
      · exact .inr (.inl h)
      · exact .inl h
    · exact .inr (.inr h)
  | false =>
    rcases h with h | h
    · exact .inr (.inl h)
    · rcases List.mem_or_eq_of_mem_set (show some q ∈ s.sr.set j r from h) with h | h
      · exact .inr (.inr h)
      · exact .inl h
theorem SsAt.set {C P S : Addr} {H : Hp} {z : Ss} {s : St} {f : Bool} {vs : List V} {v : V} {r : Option Sh} {j : Nat} (h : SsAt C P S H z s) (hl : H (z.la f) = some (.lst vs)) (hv : ShAt S H v r) (hb : ∀ q, r = some q → q.bx ∉ z.four) : SsAt C P S (upd H (z.la f) (.lst (vs.set j v))) z (s.put f j r) := by
  obtain ⟨dx, h1⟩ := h.me
  obtain ⟨dx1, vs1, f1, f2, f3, f4⟩ := id h.fr
  obtain ⟨dx2, vs2, g1, g2, g3, g4⟩ := id h.sl
  have n4 := h.n4
  unfold Ss.four at n4
  simp only [List.nodup_cons, List.mem_cons, List.not_mem_nil, or_false, not_or, not_false_eq_true, List.nodup_nil, and_true] at n4
  obtain ⟨⟨n1, n2, n3⟩, ⟨n5, n6⟩, n7⟩ := n4
  have bx : ∀ q, some q ∈ s.fr ∨ some q ∈ s.sr → q.bx ≠ z.la f := fun q hq e => h.bx q hq (by rw [e]; exact la_four)
  have hv2 : ShAt S (upd H (z.la f) (.lst (vs.set j v))) v r := sh_upd hl hv fun q e z9 => hb q e (by rw [z9]; exact la_four)
  have ni : ∀ {c D dx fs}, H c = some (.ins D dx fs) → upd H (z.la f) (.lst (vs.set j v)) c = some (.ins D dx fs) := fun hc => by rw [upd_ne (ne_of hc hl (fun z => nomatch z))]; exact hc
  have nl : ∀ {c o}, H c = some o → c ≠ z.la f → upd H (z.la f) (.lst (vs.set j v)) c = some o := fun hc hn => by rw [upd_ne hn]; exact hc
  have bx2 : ∀ q, some q ∈ (s.put f j r).fr ∨ some q ∈ (s.put f j r).sr → q.bx ∉ z.four := fun q hq => (mem_put hq).elim (fun e => hb q e.symm) (h.bx q)
  cases f with
  | true =>
    have e9 : vs = vs1 := by rw [show z.la true = z.ly from rfl, f2] at hl; cases hl; rfl
    subst e9
    have f4 := nl f4 (Ne.symm n1)
    rw [← List.length_set (as := s.fr) (i := j) (a := r)] at f4
    have len := h.len
    have hh := h.hh
    rw [← List.length_set (as := s.fr) (i := j) (a := r)] at len hh
    exact ⟨⟨dx, ni h1⟩, ⟨dx1, vs.set j v, ni f1, upd_same, prd_set hv2 j (ly_upd hl f3 fun q hq => bx q (.inl hq)), f4⟩, ⟨dx2, vs2, ni g1, nl g2 (Ne.symm n2), ly_upd hl g3 fun q hq => bx q (.inr hq), nl g4 (Ne.symm n3)⟩, h.n4, bx2, len, hh⟩
  | false =>
    have e9 : vs = vs2 := by rw [show z.la false = z.ls from rfl, g2] at hl; cases hl; rfl
    subst e9
    have g4 := nl g4 (Ne.symm n7)
    rw [← List.length_set (as := s.sr) (i := j) (a := r)] at g4
    have len := h.len
    rw [← List.length_set (as := s.sr) (i := j) (a := r)] at len
    exact ⟨⟨dx, ni h1⟩, ⟨dx1, vs1, ni f1, nl f2 n2, ly_upd hl f3 fun q hq => bx q (.inl hq), nl f4 n5⟩, ⟨dx2, vs.set j v, ni g1, upd_same, prd_set hv2 j (ly_upd hl g3 fun q hq => bx q (.inr hq)), g4⟩, h.n4, bx2, len, h.hh⟩
theorem SsAt.num {C P S : Addr} {H : Hp} {z : Ss} {s s' : St} {dx : Addr} (h : SsAt C P S H z s) (e : H z.p = some (.ins C dx (ssF z.n z.fp z.sq s))) (e1 : s'.fr = s.fr) (e2 : s'.sr = s.sr) (e3 : s'.h < s.fr.length) : SsAt C P S (upd H z.p (.ins C dx (ssF z.n z.fp z.sq s'))) z s' := by
  obtain ⟨dx1, vs1, f1, f2, f3, f4⟩ := id h.fr
  obtain ⟨dx2, vs2, g1, g2, g3, g4⟩ := id h.sl
  have ho : ∀ {c o}, H c = some o → (∀ D d fs, o = .ins D d fs → fs.lookup ("hand" : Str) = none) → upd H z.p (.ins C dx (ssF z.n z.fp z.sq s')) c = some o := fun {c o} hc hn => by
    rw [upd_ne (fun e9 => ?_)]
    · exact hc
    · rw [e9, e] at hc
      have := hn _ _ _ (Option.some.inj hc).symm
      rw [ssF_hand] at this
      cases this
  have nl : ∀ {us D d fs}, HO.lst us = .ins D d fs → fs.lookup ("hand" : Str) = none := fun z => nomatch z
  have sp : ∀ {a b D d fs} {Q d2 : Addr}, HO.ins Q d2 (spF a b) = .ins D d fs → fs.lookup ("hand" : Str) = none := fun z => by cases z; exact spF_no (by decide +kernel)
  have sh : ∀ {v : V} {r : Option Sh}, ShAt S H v r → ShAt S (upd H z.p (.ins C dx (ssF z.n z.fp z.sq s'))) v r := fun {v r} hv => by
    cases r with
    | none => exact hv
    | some r =>
      obtain ⟨a, ⟨d, h1⟩, h2, h3⟩ := hv
      exact ⟨a, ⟨d, ho h1 fun _ _ _ z => by cases z; exact shF_no (by decide +kernel)⟩, ho h2 fun _ _ _ z => nl z, ho h3 fun _ _ _ z => nomatch z⟩
  exact ⟨⟨dx, upd_same⟩, ⟨dx1, vs1, ho f1 fun _ _ _ z => sp z, ho f2 fun _ _ _ z => nl z, by rw [e1]; exact Paired.mapP f3 fun _ _ q => sh q, by rw [e1]; exact ho f4 fun _ _ _ z => nl z⟩, ⟨dx2, vs2, ho g1 fun _ _ _ z => sp z, ho g2 fun _ _ _ z => nl z, by rw [e2]; exact Paired.mapP g3 fun _ _ q => sh q, by rw [e2]; exact ho g4 fun _ _ _ z => nl z⟩, h.n4, by rw [e1, e2]; exact h.bx, by rw [e1, e2]; exact h.len, by rw [e1]; exact e3⟩

def sp_shi (C : Addr) : Sp := fun vs H Q _ => ∃ (s dx l h : Addr) (bs : List Int) (k : List Key), vs = [.ref s, .ref l, .ref h] ∧ H s = some (.ins C dx []) ∧ H l = some (.lst (bs.map V.int)) ∧ H h = some (.tup (k.map kV)) ∧
  ∀ bx hd H', H bx = none → H hd = none → Kp [s] H H' → H' s = some (.ins C dx (shF bx hd)) → H' bx = some (.lst (bs.map V.int)) → H' hd = some (.dT [(k, .bl true)]) → Q .non H'
theorem h_shi (T : Txt K mg A) : HaveI P w K mg base "Sheet" A.C_Sheet 1 ["self", "boxes", "holder"] [] (sp_shi A.C_Sheet) := by
  refine T.r_Sheet_init.have sc_Sheet_init (fun vs H Q E z => ?_) ?_
  · obtain ⟨s, dx, l, h, bs, k, rfl, _⟩ := z; rfl
  · intro f cdv A' outer s H vs Q E hr z
    obtain ⟨s, dx, l, h, bs, k, rfl, hs, hl, hh, q⟩ := z
    refine ⟨_, (pss_cons (ps_fld (pvM 0) (pe_callTy call_list_of rfl T.b_list PyProof.Rows.boot_list (pa_cons (pvM 1) pa_nil)) rfl)
      (pss_one (ps_fld (pvM 0) (pe_dispT (hu_of hr) (pvM 2) pe_bl) rfl))), ?_⟩
    unfold tDispT
    walk_at "wp"
    refine ⟨_, .inl (SqL.of hl), fun bx hbx => ?_⟩
    have b1 := same_upd (o := .lst (bs.map V.int)) (same_refl (H := H)) hbx
    have nsb : s ≠ bx := ne_of_none hs hbx
    refine ⟨A.C_Sheet, dx, [], b1 _ _ hs, T.cl_Sheet, T.na_Sheet_boxes, by decide, fun hd hhd => ?_⟩
    have nhs : hd ≠ s := fun z => by rw [z, upd_same] at hhd; cases hhd
    have nhb : hd ≠ bx := fun z => by rw [z, upd_ne nsb.symm, upd_same] at hhd; cases hhd
    have hhd0 : H hd = none := by rw [upd_ne nhs] at hhd; exact same_none b1 hhd
    have nhh : h ≠ hd := ne_of_none hh hhd0
    have nhs2 : h ≠ s := ne_of hh hs (fun z => nomatch z)
    refine ⟨k, by rw [upd_ne nhh, upd_ne nhs2]; exact b1 _ _ hh, A.C_Sheet, dx, putF "boxes" (.ref bx) [], by rw [upd_ne nhs.symm, upd_same], T.cl_Sheet, T.na_Sheet_holders, by show 1 < 1000; decide, ?_⟩
    refine q bx hd _ hbx hhd0 (fun c o hc hx => ?_) upd_same ?_ ?_
    · have ncs : c ≠ s := fun z => hx (by simp [z])
      rw [upd_ne ncs, upd_ne (ne_of_none hc hhd0), upd_ne ncs]; exact b1 _ _ hc
    · rw [upd_ne nsb.symm, upd_ne nhb.symm, upd_ne nsb.symm, upd_same]
    · rw [upd_ne nhs, upd_same]

def srt (ks : List (List Key)) : List (List Key) := ks
def TdK (H : Hp) (l : Addr) (ks : List (List Key)) : Prop := ∃ us, H l = some (.lst us) ∧ Paired (fun v k => ∃ a, v = V.ref a ∧ H a = some (.tup (k.map kV))) us ks
theorem TdK.same {H H' : Hp} {l : Addr} {ks : List (List Key)} (h : TdK H l ks) (s : Same H H') : TdK H' l ks := let ⟨us, h1, h2⟩ := h; ⟨us, s _ _ h1, Paired.mapP h2 fun _ _ ⟨a, e, q⟩ => ⟨a, e, s _ _ q⟩⟩
def Okh (r : Sh) : Prop := ∃ k, r.ks = [k]
def sp_told (C : Addr) : Sp := fun vs H Q _ => ∃ (v : V) (r : Sh), vs = [v] ∧ ShAt C H v (some r) ∧ Okh r ∧ ∀ l H', H l = none → Same H H' → TdK H' l (srt r.ks) → Q (.ref l) H'
theorem h_told (T : Txt K mg A) : HaveM P w K mg base A.C_Sheet "told_holders" 1 ["self"] [] (sp_told A.C_Sheet) := by
  refine T.r_Sheet_told_holders.have sc_Sheet_told_holders (fun vs H Q E z => ?_) ?_
  · obtain ⟨v, r, rfl, _⟩ := z; rfl
  · intro f cdv A' outer s H vs Q E hr z
    obtain ⟨v, r, rfl, ⟨rfl, ⟨dx, h1⟩, h2, h3⟩, ⟨k, hk⟩, q⟩ := z
    rw [hk] at h3 q
    refine ⟨_, (pss_one (ps_ret (pe_callB (call_sortedT1 rfl) rfl T.b_sorted PyProof.Rows.boot_sorted (pa_cons (pe_fld (pvM 0) rfl) pa_nil)))), ?_⟩
    walk_at "wp"
    simp only [h1]
    walk_at "wp"
    exact ⟨T.cl_Sheet, T.na_Sheet_holders, _, shF_holders, r.hd, rfl, k, .bl true, h3, fun l a hl ha => q l _ hl (same_upd same_refl hl) ⟨_, upd_same, .cons ⟨a, rfl, (same_upd same_refl hl) _ _ ha⟩ .nil⟩⟩
def sp_spi (C : Addr) : Sp := fun vs H Q _ => ∃ (s dx : Addr) (n : Nat), vs = [.ref s, .int n] ∧ H s = some (.ins C dx []) ∧ n ≤ 64 ∧
  ∀ ly tw H', H ly = none → H tw = none → ly ≠ tw → Kp [s] H H' → H' s = some (.ins C dx (spF ly tw)) → H' ly = some (.lst (List.replicate n V.non)) → H' tw = some (.lst (List.replicate n V.non)) → Q .non H'
theorem h_spi (T : Txt K mg A) : HaveI P w K mg base "Spots" A.C_Spots 1 ["self", "many"] [] (sp_spi A.C_Spots) := by
  refine T.r_Spots_init.have sc_Spots_init (fun vs H Q E z => ?_) ?_
  · obtain ⟨s, dx, n, rfl, _⟩ := z; rfl
  · intro f cdv A' outer s H vs Q E hr z
    obtain ⟨s, dx, n, rfl, hs, hn, q⟩ := z
    refine ⟨_, (pss_cons (ps_fld (pvM 0) (pe_op op_rep (pe_lst (pa_cons pe_non pa_nil)) (pvM 1)) rfl)
      (pss_one (ps_fld (pvM 0) (pe_op op_rep (pe_lst (pa_cons pe_non pa_nil)) (pvM 1)) rfl))), ?_⟩
    unfold rRep
    walk_at "wp"
    have e : ∀ k : Nat, (List.replicate k [V.non]).flatten = List.replicate k V.non := fun k => by
      induction k with
      | zero => rfl
      | succ k ih => rw [List.replicate_succ, List.flatten_cons, ih]; rfl
    intro l1 hl1
    have b1 := same_upd (o := .lst [V.non]) (same_refl (H := H)) hl1
    refine ⟨[.non], rfl, by omega, by omega, by show 1 * n ≤ 16777216; omega, fun ly hly => ?_⟩
    rw [Int.toNat_natCast, e]
    have hly0 := same_none b1 hly
    have b2 := same_upd (o := .lst (List.replicate n V.non)) b1 hly
    have nsl : s ≠ ly := ne_of_none hs hly0
    refine ⟨A.C_Spots, dx, [], b2 _ _ hs, T.cl_Spots, T.na_Spots_lying, by decide, fun l2 hl2 => ?_⟩
    have k3 : ∀ c o, H c = some o → c ≠ s → upd (upd (upd H l1 (.lst [V.non])) ly (.lst (List.replicate n V.non))) s (.ins A.C_Spots dx (putF "lying" (.ref ly) [])) c = some o := fun c o hc hn => by rw [upd_ne hn]; exact b2 _ _ hc
    have hs3 : upd (upd (upd H l1 (.lst [V.non])) ly (.lst (List.replicate n V.non))) s (.ins A.C_Spots dx (putF "lying" (.ref ly) [])) s = some (.ins A.C_Spots dx (putF "lying" (.ref ly) [])) := upd_same
    have hly3 : upd (upd (upd H l1 (.lst [V.non])) ly (.lst (List.replicate n V.non))) s (.ins A.C_Spots dx (putF "lying" (.ref ly) [])) ly = some (.lst (List.replicate n V.non)) := by rw [upd_ne nsl.symm, upd_same]
    have n3 : ∀ c, upd (upd (upd H l1 (.lst [V.non])) ly (.lst (List.replicate n V.non))) s (.ins A.C_Spots dx (putF "lying" (.ref ly) [])) c = none → H c = none ∧ c ≠ s := fun c hc => by
      have ncs : c ≠ s := fun z => by rw [z, upd_same] at hc; cases hc
      rw [upd_ne ncs] at hc
      exact ⟨same_none b2 hc, ncs⟩
    generalize upd (upd (upd H l1 (.lst [V.non])) ly (.lst (List.replicate n V.non))) s (.ins A.C_Spots dx (putF "lying" (.ref ly) [])) = H3 at *
    have c4 := same_upd (o := .lst [V.non]) (same_refl (H := H3)) hl2
    refine ⟨[.non], rfl, by omega, by omega, by show 1 * n ≤ 16777216; omega, fun tw htw => ?_⟩
    rw [e]
    have c5 := same_upd (o := .lst (List.replicate n V.non)) c4 htw
    have htw3 := same_none c4 htw
    refine ⟨A.C_Spots, dx, putF "lying" (.ref ly) [], c5 _ _ hs3, T.cl_Spots, T.na_Spots_twins, by show 1 < 1000; decide, ?_⟩
    have nts := (n3 tw htw3).2
    refine q ly tw _ hly0 (n3 tw htw3).1 (ne_of_none hly3 htw3) (fun c o hc hx => ?_) upd_same (by rw [upd_ne nsl.symm]; exact c5 _ _ hly3) (by rw [upd_ne nts, upd_same])
    have ncs : c ≠ s := fun z => hx (by simp [z])
    rw [upd_ne ncs]
    exact c5 _ _ (k3 c o hc ncs)
def fe (rows : List (Option Sh)) : V := match rows.findIdx? Option.isNone with
  | none => .non
  | some j => .int (j : Int)
def sp_fe (C S : Addr) : Sp := fun vs H Q _ => ∃ (p ly tw : Addr) (rows : List (Option Sh)), vs = [.ref p] ∧ SpAt C S H p ly tw rows ∧ ∀ H', Same H H' → Q (fe rows) H'
theorem h_fe (T : Txt K mg A) : HaveM P w K mg base A.C_Spots "first_empty" 1 ["self"] [] (sp_fe A.C_Spots A.C_Sheet) := by
  refine T.r_Spots_first_empty.have sc_Spots_first_empty (fun vs H Q E z => ?_) ?_
  · obtain ⟨p, ly, tw, rows, rfl, _⟩ := z; rfl
  · intro f cdv A' outer s H vs Q E hr z
    obtain ⟨p, ly, tw, rows, rfl, ⟨dx, us, h1, h2, h3, h4⟩, q⟩ := z
    refine ⟨_, (pss_cons (ps_forE PassesOwn.leaving rfl (pi_enum rfl T.b_enumerate (pa_cons (pe_fld (pvM 0) rfl) pa_nil)) (pg_tup (n := 2) rfl (pgs_cons (pg_name (i := 1) sc_Spots_first_empty.nd rfl (Or.inl rfl)) (pgs_cons (pg_name (i := 2) sc_Spots_first_empty.nd rfl (Or.inl rfl)) pgs_nil))) (pss_one (ps_if (PW.pt (pw_and (pt_cmpR op_isN (pvM 2) pe_non (nomark _)) (pw_and1 (pt_cmpR op_isN (pe_ix ix_list (pe_fld (pvM 0) rfl) (pvM 1) (fun _ _ => rfl)) pe_non (nomark _))))) (pss_one (ps_ret (pvM 1))) pss_nil)))
      (pss_one (ps_ret pe_non))), ?_⟩
    walk_at "wp"
    simp only [h1]
    walk_at "wp"
    have hul := Paired.length h3
    refine ⟨T.cl_Spots, T.na_Spots_lying, _, spF_lying, ly, rfl, ⟨_, SqL.of h2⟩, loop_enum (xs := us) (fun i σ H' => ∃ v1 v2, σ = [some (.ref p), v1, v2] ∧ Same H H' ∧ ∀ (j : Nat) y, j < i → rows[j]? = some y → y.isNone = false) ⟨_, _, rfl, same_refl, fun j r h => absurd h (Nat.not_lt_zero _)⟩ (fun i σ H' _ ⟨_, _, _, e, _⟩ => SqL.of (e _ _ h2)) (fun i x tt σ H' hi => ?_) (fun σ H1 => ?_)⟩
    · rintro ⟨v1, v2, rfl, s1, hno⟩ ht
      obtain ⟨y, hy1, hy2⟩ := prd_get h3 hi
      have b1 := same_upd (o := .tup [V.int i, x]) s1 ht
      have hil : i < rows.length := (List.getElem?_eq_some_iff.mp hy1).1
      cases y with
      | none =>
        obtain rfl : x = .non := hy2
        walk_at "wp"
        refine ⟨_, SqT.of upd_same, rfl, _, _, rfl, _, _, rfl, rfl, ?_⟩
        rw [if_pos rfl]
        refine ⟨A.C_Spots, dx, _, b1 _ _ h1, T.cl_Spots, T.na_Spots_twins, _, spF_twins, tw, rfl, _, _, rfl, SqL.of (b1 _ _ h4), .non, atI_nat (by rw [List.getElem?_replicate, if_pos hil]), ?_⟩
        rw [if_pos rfl]
        have e : fe rows = .int (i : Int) := by
          have e : rows.findIdx? Option.isNone = some i := List.findIdx?_eq_some_iff_getElem.mpr ⟨hil, by rw [(List.getElem?_eq_some_iff.mp hy1).2]; rfl, fun j hj => by
            rw [hno j _ hj (List.getElem?_eq_getElem (by omega))]
            decide⟩
          unfold fe
          rw [e]
        have hq := q _ b1
        rw [e] at hq
        exact hq
      | some r =>
        obtain ⟨rfl, _⟩ := hy2
        walk_at "wp"
        refine ⟨_, SqT.of upd_same, rfl, _, _, rfl, _, _, rfl, rfl, ?_⟩
        rw [if_neg (fun z => nomatch z)]
        refine iteF ⟨b1, fun j y hj hy => ?_⟩
        rcases (by omega : j < i ∨ j = i) with h | rfl
        · exact hno j y h hy
        · rw [hy1] at hy
          cases hy
          rfl
    rintro ⟨v1, v2, rfl, s1, hno⟩
    walk_at "wp"
    have e : fe rows = .non := by
      have e : rows.findIdx? Option.isNone = none := List.findIdx?_eq_none_iff.mpr fun y hy => by
        obtain ⟨j, hj⟩ := List.mem_iff_getElem?.mp hy
        exact hno j y (by rw [hul]; exact (List.getElem?_eq_some_iff.mp hj).1) hj
      unfold fe
      rw [e]
    rw [← e]
    exact q _ s1
def cnt (rows : List (Option Sh)) : Nat := (rows.filter Option.isSome).length
def sp_lc (C S : Addr) : Sp := fun vs H Q _ => ∃ (p ly tw : Addr) (rows : List (Option Sh)), vs = [.ref p] ∧ SpAt C S H p ly tw rows ∧ rows.length ≤ 64 ∧ ∀ H', Same H H' → Q (.int (cnt rows : Nat)) H'
theorem h_lc (T : Txt K mg A) : HaveM P w K mg base A.C_Spots "live_count" 1 ["self"] [] (sp_lc A.C_Spots A.C_Sheet) := by
  refine T.r_Spots_live_count.have sc_Spots_live_count (fun vs H Q E z => ?_) ?_
  · obtain ⟨p, ly, tw, rows, rfl, _⟩ := z; rfl
  · intro f cdv A' outer s H vs Q E hr z
    obtain ⟨p, ly, tw, rows, rfl, ⟨dx, us, h1, h2, h3, h4⟩, hlen, q⟩ := z
    refine ⟨_, (pss_one (ps_ret (pe_callB call_len rfl T.b_len PySem.boot_len (pa_cons (pe_comp rfl (pi_list (pe_fld (pvM 0) rfl)) (x := "sheet") (fs := []) (ix := []) rfl rfl (fun _ _ _ _ _ _ => (pg_name (i := 0) (show (["sheet"] : List Str).Nodup by decide +kernel) rfl (Or.inl rfl))) (fun _ _ _ _ _ _ => (pf_one (pt_cmpR op_notN (pvM 0) pe_non (nomark _)))) (fun _ _ _ _ _ _ => (pvM 0))) pa_nil)))), ?_⟩
    walk_at "wp"
    simp only [h1]
    walk_at "wp"
    have hul := Paired.length h3
    refine ⟨T.cl_Spots, T.na_Spots_lying, _, spF_lying, ly, rfl, ⟨_, SqL.of h2⟩, fun D hD => comp_list (xs := us) (fun i ys σ H' => ∃ v, σ = [v] ∧ Same H H' ∧ H' D = some (.lst ys) ∧ ys.length = cnt (rows.take i)) ⟨_, rfl, same_upd same_refl hD, upd_same, rfl⟩ (fun i ys σ H' _ ⟨_, _, s2, _⟩ => SqL.of (s2 _ _ h2)) (fun i v ys σ H' hi => ?_) (fun ys σ H' => ?_)⟩
    · rintro ⟨v0, rfl, s1, hD1, hy⟩
      obtain ⟨y, hy1, hy2⟩ := prd_get h3 hi
      have htk : rows.take (i + 1) = rows.take i ++ [y] := by rw [List.take_add_one, hy1]; rfl
      have hc : cnt (rows.take (i + 1)) = cnt (rows.take i) + (if y.isSome = true then 1 else 0) := by
        unfold cnt
        rw [htk, List.filter_append, List.length_append]
        cases y <;> rfl
      have hle : cnt (rows.take i) ≤ 64 := by
        unfold cnt
        exact Nat.le_trans (List.length_filter_le _ _) (by rw [List.length_take]; omega)
      have hz := PySem.sizeLine_eq
      cases y with
      | none =>
        obtain rfl : v = .non := hy2
        walk_at "wp"
        exact iteF ⟨s1, hD1, by rw [hc]; exact hy⟩
      | some r =>
        obtain ⟨rfl, _⟩ := hy2
        walk_at "wp"
        exact iteT ⟨hD1, by omega, same_put s1 hD, by rw [List.length_append, hc, hy]; rfl⟩
    · rintro ⟨v0, rfl, s1, hD1, hy⟩
      rw [hul, List.take_length] at hy
      refine ⟨_, .inl ⟨_, SqL.of hD1, rfl⟩, ?_⟩
      rw [hy]
      exact q _ s1

def sp_ft (C S : Addr) : Sp := fun vs H Q _ => ∃ (p ly tw : Addr) (rows : List (Option Sh)), vs = [.ref p] ∧ SpAt C S H p ly tw rows ∧ ∀ H', Same H H' → Q .non H'
theorem h_ft (T : Txt K mg A) : HaveM P w K mg base A.C_Spots "first_twin" 1 ["self"] [] (sp_ft A.C_Spots A.C_Sheet) := by
  refine T.r_Spots_first_twin.have sc_Spots_first_twin (fun vs H Q E z => ?_) ?_
  · obtain ⟨p, ly, tw, rows, rfl, _⟩ := z; rfl
  · intro f cdv A' outer s H vs Q E hr z
    obtain ⟨p, ly, tw, rows, rfl, ⟨dx, us, h1, h2, h3, h4⟩, q⟩ := z
    refine ⟨_, (pss_cons (ps_forE PassesOwn.leaving rfl (pi_list (pe_fld (pvM 0) rfl)) (pg_name (i := 1) sc_Spots_first_twin.nd rfl (Or.inl rfl)) (pss_one (ps_if (pt_cmpR op_notN (pvM 1) pe_non (nomark _)) (pss_one (ps_ret (pvM 1))) pss_nil)))
      (pss_one (ps_ret pe_non))), ?_⟩
    walk_at "wp"
    simp only [h1]
    walk_at "wp"
    refine ⟨T.cl_Spots, T.na_Spots_twins, _, spF_twins, tw, rfl, ⟨_, SqL.of h4⟩, loop_list (xs := List.replicate rows.length V.non) (fun i σ H' => ∃ v1, σ = [some (.ref p), v1] ∧ Same H H') ⟨_, rfl, same_refl⟩ (fun i σ H' _ ⟨_, _, e⟩ => SqL.of (e _ _ h4)) (fun i x σ H' hi => ?_) (fun σ H1 => ?_)⟩
    · rintro ⟨v1, rfl, s1⟩
      have : x = .non := List.eq_of_mem_replicate (List.mem_of_getElem? hi)
      subst this
      walk_at "wp"
      exact iteF s1
    · rintro ⟨v1, rfl, s1⟩
      walk_at "wp"
      exact q _ s1

theorem fe_cnt {rows : List (Option Sh)} {j : Nat} (h : rows.findIdx? Option.isNone = some j) : cnt rows < rows.length := by
  obtain ⟨hj, h1, _⟩ := List.findIdx?_eq_some_iff_getElem.mp h
  unfold cnt
  refine Nat.lt_of_le_of_ne (List.length_filter_le _ _) fun e => ?_
  have := List.filter_eq_self.mp (List.Sublist.eq_of_length (List.filter_sublist ..) e) _ (List.getElem_mem hj)
  cases e2 : rows[j] with
  | none => rw [e2] at this; cases this
  | some r => rw [e2] at h1; cases h1
theorem hds_mem {rows : List (Option Sh)} {a : Addr} : a ∈ hds rows ↔ ∃ r, some r ∈ rows ∧ r.hd = a := by
  unfold hds
  rw [List.mem_filterMap]
  refine ⟨fun ⟨x, hx, e⟩ => ?_, fun ⟨r, hr, e⟩ => ⟨some r, hr, by rw [← e]; rfl⟩⟩
  cases x with
  | none => cases e
  | some r => exact ⟨r, hx, Option.some.inj e⟩
theorem prd_app {α β : Type} {F : α → β → Prop} {xs : List α} {ys : List β} {x : α} {y : β} (h : Paired F xs ys) (hx : F x y) : Paired F (xs ++ [x]) (ys ++ [y]) := by
  induction h with
  | nil => exact .cons hx .nil
  | cons r t ih => exact .cons r ih
theorem ixn {n j : Nat} (h : j < n) : ixN n (j : Int) = some j := by
  unfold ixN
  rw [if_pos (by omega), if_pos (by omega)]; rfl

theorem fe_some {rows : List (Option Sh)} {j : Nat} (h : rows.findIdx? Option.isNone = some j) : rows[j]? = some none := by
  obtain ⟨hj, h1, _⟩ := List.findIdx?_eq_some_iff_getElem.mp h
  rw [List.getElem?_eq_getElem hj]
  cases e : rows[j] with
  | none => rfl
  | some r => rw [e] at h1; cases h1
theorem fe_none {rows : List (Option Sh)} (h : rows.findIdx? Option.isNone = none) {j : Nat} (hj : j < rows.length) : ∃ r, rows[j]? = some (some r) := by
  have := List.findIdx?_eq_none_iff.mp h _ (List.getElem_mem hj)
  rw [List.getElem?_eq_getElem hj]
  cases e : rows[j] with
  | none => rw [e] at this; cases this
  | some r => exact ⟨r, rfl⟩
theorem cnt_all {rows : List (Option Sh)} (h : rows.findIdx? Option.isNone = none) : cnt rows = rows.length := by
  unfold cnt
  rw [List.filter_eq_self.mpr fun o ho => by
    have := List.findIdx?_eq_none_iff.mp h o ho
    cases o with
    | none => cases this
    | some r => rfl]
theorem cnt_le {rows : List (Option Sh)} : cnt rows ≤ rows.length := List.length_filter_le _ _
def live (s : St) : Nat := cnt s.fr + cnt s.sr
def room (s : St) : Nat := s.fr.length + s.sr.length
def sp_ssi (C P S : Addr) : Sp := fun vs H Q _ => ∃ (s dx : Addr) (n m : Nat) (z : Int), vs = [.ref s, .int n, .int m, .int z] ∧ H s = some (.ins C dx []) ∧ 1 ≤ n ∧ n ≤ 64 ∧ m ≤ 64 ∧
  ∀ H' y, SsAt C P S H' y ⟨List.replicate n none, List.replicate m none, 0, 0, 0, 0⟩ → y.p = s → (∀ c ∈ y.four, H c = none) → Kp [s] H H' → Q .non H'
theorem h_ssi (T : Txt K mg A) : HaveI P w K mg base "Sheets" A.C_Sheets 3 ["self", "frames", "slots", "size"] [] (sp_ssi A.C_Sheets A.C_Spots A.C_Sheet) := by
  have H_Spots_init := h_spi (P := P) (w := w) (base := base) T
  refine T.r_Sheets_init.have sc_Sheets_init (fun vs H Q E z => ?_) ?_
  · obtain ⟨s, dx, n, m, z, rfl, _⟩ := z; rfl
  · intro f cdv A' outer s H vs Q E hr z
    obtain ⟨s, dx, n, m, z, rfl, hs, hn0, hn, hm, q⟩ := z
    refine ⟨_, (pss_cons (ps_fld (pvM 0) (pvM 3) rfl)
      (pss_cut (ps_fld (pvM 0) (pe_makeE H_Spots_init (hr.mono (by decide)) xw_def (pa_cons (pvM 1) pa_nil)) rfl)
      (pss_cons (ps_fld (pvM 0) (pe_makeE H_Spots_init (hr.mono (by decide)) xw_def (pa_cons (pvM 2) pa_nil)) rfl)
      (pss_cons (ps_fld (pvM 0) pe_int rfl)
      (pss_cons (ps_fld (pvM 0) pe_int rfl)
      (pss_cons (ps_fld (pvM 0) pe_int rfl)
      (pss_one (ps_fld (pvM 0) pe_int rfl)))))))), ?_⟩
    unfold sp_spi
    walk_at "wp"
    refine ⟨A.C_Sheets, dx, [], hs, T.cl_Sheets, T.na_Sheets_size, by decide, ?_⟩
    have hs1 : upd H s (.ins A.C_Sheets dx (putF "size" (.int z) [])) s = some (.ins A.C_Sheets dx (putF "size" (.int z) [])) := upd_same
    have k1 : ∀ c o, H c = some o → c ≠ s → upd H s (.ins A.C_Sheets dx (putF "size" (.int z) [])) c = some o := fun c o hc hn => by rw [upd_ne hn]; exact hc
    have n1 : ∀ c, upd H s (.ins A.C_Sheets dx (putF "size" (.int z) [])) c = none → H c = none ∧ c ≠ s := fun c hc => by
      have ncs : c ≠ s := fun z => by rw [z, upd_same] at hc; cases hc
      rw [upd_ne ncs] at hc
      exact ⟨hc, ncs⟩
    generalize upd H s (.ins A.C_Sheets dx (putF "size" (.int z) [])) = H1 at *
    refine ⟨fun σ H' => ∃ fp fdx ly tw H2, σ = [some (.ref s), some (.int (n : Int)), some (.int (m : Int)), some (.int z)] ∧ H1 fp = none ∧ H1 ly = none ∧ H1 tw = none ∧ ly ≠ tw ∧ Same H1 H2 ∧ H2 fp = some (.ins A.C_Spots fdx (spF ly tw)) ∧ H2 ly = some (.lst (List.replicate n V.non)) ∧ H2 tw = some (.lst (List.replicate n V.non)) ∧ H' = upd H2 s (.ins A.C_Sheets dx (putF "frames" (.ref fp) (putF "size" (.int z) []))), ?_, fun σ' H' => ?_⟩
    · walk_at "wp"
      intro fp fdx hfp hfdx hne
      refine ⟨fdx, n, rfl, rfl, hn, fun ly tw H2 hly htw hlt kp2 a1 a2 a3 => ?_⟩
      have sm := same_make (o := .ins A.C_Spots fdx []) hfp hfdx hne
      have s12 : Same H1 H2 := fun c o hc => kp2 c o (sm c o hc) (fun z => ne_of_none hc hfp (List.mem_singleton.mp z))
      exact ⟨A.C_Sheets, dx, _, s12 _ _ hs1, T.cl_Sheets, T.na_Sheets_frames, by show 1 < 1000; decide, fp, hfp, fdx, ly, same_none sm hly, tw, same_none sm htw, hlt, H2, s12, a1, a2, a3, rfl⟩
    rintro ⟨fp, fdx, ly, tw, H2, rfl, hfp, hly1, htw1, hlt, s12, a1, a2, a3, rfl⟩
    walk_at "wp"
    have k3 : ∀ c o, H2 c = some o → c ≠ s → upd H2 s (.ins A.C_Sheets dx (putF "frames" (.ref fp) (putF "size" (.int z) []))) c = some o := fun c o hc hn => by rw [upd_ne hn]; exact hc
    have hs3 : upd H2 s (.ins A.C_Sheets dx (putF "frames" (.ref fp) (putF "size" (.int z) []))) s = some (.ins A.C_Sheets dx (putF "frames" (.ref fp) (putF "size" (.int z) []))) := upd_same
    have n3 : ∀ c, upd H2 s (.ins A.C_Sheets dx (putF "frames" (.ref fp) (putF "size" (.int z) []))) c = none → H2 c = none := fun c hc => by
      have ncs : c ≠ s := fun z => by rw [z, upd_same] at hc; cases hc
      rw [upd_ne ncs] at hc
      exact hc
    generalize upd H2 s (.ins A.C_Sheets dx (putF "frames" (.ref fp) (putF "size" (.int z) []))) = H3 at *
    intro sq sdx hsq hsdx hne2
    refine ⟨sdx, m, rfl, rfl, hm, fun ls ts H4 hls hts hlt2 kp4 c1 c2 c3 => ?_⟩
    have sm2 := same_make (o := .ins A.C_Spots sdx []) hsq hsdx hne2
    have s34 : Same H3 H4 := fun c o hc => kp4 c o (sm2 c o hc) (fun z => ne_of_none hc hsq (List.mem_singleton.mp z))
    refine ⟨A.C_Sheets, dx, _, s34 _ _ hs3, T.cl_Sheets, T.na_Sheets_slots, by show 2 < 1000; decide, T.cl_Sheets, T.na_Sheets_hand, by show 3 < 1000; decide, T.cl_Sheets, T.na_Sheets_gone_out, by show 4 < 1000; decide, T.cl_Sheets, T.na_Sheets_gone_astray, by show 5 < 1000; decide, T.cl_Sheets, T.na_Sheets_come_back, by show 6 < 1000; decide, ?_⟩
    have nfs := (n1 fp hfp).2
    have nls := (n1 ly hly1).2
    have nts := (n1 tw htw1).2
    have g1 := s34 _ _ (k3 _ _ a1 nfs)
    have g2 := s34 _ _ (k3 _ _ a2 nls)
    have g3 := s34 _ _ (k3 _ _ a3 nts)
    have hls3 := same_none sm2 hls
    have hts3 := same_none sm2 hts
    have nls2 : ls ≠ s := fun z => by rw [z, hs3] at hls3; cases hls3
    have nts2 : ts ≠ s := fun z => by rw [z, hs3] at hts3; cases hts3
    have nsq : sq ≠ s := fun z => by rw [z, hs3] at hsq; cases hsq
    have e1 : ∀ (kk : Nat) (HH : Hp), LyAt A.C_Sheet HH (List.replicate kk V.non) (List.replicate kk none) := fun kk HH => by
      induction kk with
      | zero => exact .nil
      | succ k ih => exact .cons rfl ih
    have hls2 := n3 ls hls3
    have hts2 := n3 ts hts3
    have nlsl := ne_of_none (k3 _ _ a2 nls) hls3
    have nlst := ne_of_none (k3 _ _ a2 nls) hts3
    have ntsl := ne_of_none (k3 _ _ a3 nts) hls3
    have ntst := ne_of_none (k3 _ _ a3 nts) hts3
    refine q _ ⟨s, fp, ly, tw, sq, ls, ts, z⟩ ⟨⟨dx, upd_same⟩, ⟨fdx, _, by rw [upd_ne nfs]; exact g1, by rw [upd_ne nls]; exact g2, e1 n _, by rw [upd_ne nts, List.length_replicate]; exact g3⟩, ⟨sdx, _, by rw [upd_ne nsq]; exact c1, by rw [upd_ne nls2]; exact c2, e1 m _, by rw [upd_ne nts2, List.length_replicate]; exact c3⟩, ?_, fun r hr => hr.elim (fun h => absurd (List.eq_of_mem_replicate h) (fun z => nomatch z)) (fun h => absurd (List.eq_of_mem_replicate h) (fun z => nomatch z)), by show (List.replicate n none).length ≤ 64 ∧ (List.replicate m none).length ≤ 64; rw [List.length_replicate, List.length_replicate]; exact ⟨hn, hm⟩, by show 0 < (List.replicate n none).length; rw [List.length_replicate]; exact hn0⟩ rfl (fun c hc => ?_) (fun c o hc hx => ?_)
    · show [ly, tw, ls, ts].Nodup
      simp only [List.nodup_cons, List.mem_cons, List.not_mem_nil, or_false, not_or, not_false_eq_true, List.nodup_nil, and_true]
      exact ⟨⟨hlt, nlsl, nlst⟩, ⟨ntsl, ntst⟩, hlt2⟩
    · have hc : c ∈ [ly, tw, ls, ts] := hc
      simp only [List.mem_cons, List.not_mem_nil, or_false] at hc
      rcases hc with rfl | rfl | rfl | rfl
      · exact (n1 _ hly1).1
      · exact (n1 _ htw1).1
      · exact (n1 _ (same_none s12 hls2)).1
      · exact (n1 _ (same_none s12 hts2)).1
    · have ncs : c ≠ s := fun z => hx (by simp [z])
      rw [upd_ne ncs]
      exact s34 _ _ (k3 _ _ (s12 _ _ (k1 c o hc ncs)) ncs)

def sp_live (C P S : Addr) : Sp := fun vs H Q _ => ∃ (z : Ss) (s : St), vs = [.ref z.p] ∧ SsAt C P S H z s ∧ ∀ H', Same H H' → Q (.int (live s : Nat)) H'
theorem h_live (T : Txt K mg A) : HaveM P w K mg base A.C_Sheets "live_sheets" 2 ["self"] [] (sp_live A.C_Sheets A.C_Spots A.C_Sheet) := by
  have H_Spots_live_count := h_lc (P := P) (w := w) (base := base) T
  refine T.r_Sheets_live_sheets.have sc_Sheets_live_sheets (fun vs H Q E z => ?_) ?_
  · obtain ⟨z, s, rfl, _⟩ := z; rfl
  · intro f cdv A' outer s H vs Q E hr z
    obtain ⟨z, s, rfl, hS, q⟩ := z
    obtain ⟨dx, h1⟩ := hS.me
    refine ⟨_, (pss_one (ps_ret (pe_op op_add (pe_methE0 (pe_fld (pvM 0) rfl) T.cl_Spots H_Spots_live_count (hr.mono (by decide)) xw_def) (pe_methE0 (pe_fld (pvM 0) rfl) T.cl_Spots H_Spots_live_count (hr.mono (by decide)) xw_def)))), ?_⟩
    unfold sp_lc
    walk_at "wp"
    simp only [h1]
    walk_at "wp"
    obtain ⟨dx1, vs1, f1, _⟩ := id hS.fr
    refine ⟨T.cl_Sheets, T.na_Sheets_frames, _, ssF_frames, z.fp, rfl, dx1, _, f1, spF_no (by decide +kernel), z.fp, rfl, z.ly, z.tw, s.fr, hS.fr, hS.len.1, fun H1 s1 => ?_⟩
    obtain ⟨dx2, vs2, f2, _⟩ := id hS.sl
    refine ⟨_, dx, _, s1 _ _ h1, T.cl_Sheets, T.na_Sheets_slots, _, ssF_slots, z.sq, rfl, dx2, _, s1 _ _ f2, spF_no (by decide +kernel), z.sq, rfl, z.ls, z.ts, s.sr, hS.sl.same s1, hS.len.2, fun H2 s2 => ?_⟩
    exact q _ (s1.trans s2)
def sp_full (C P S : Addr) : Sp := fun vs H Q _ => ∃ (z : Ss) (s : St), vs = [.ref z.p] ∧ SsAt C P S H z s ∧ ∀ H', Same H H' → Q (.bl (decide ((live s : Int) ≥ (s.fr.length : Int) + (s.sr.length : Int)))) H'
theorem h_full (T : Txt K mg A) : HaveM P w K mg base A.C_Sheets "is_full" 3 ["self"] [] (sp_full A.C_Sheets A.C_Spots A.C_Sheet) := by
  have H_Sheets_live_sheets := h_live (P := P) (w := w) (base := base) T
  refine T.r_Sheets_is_full.have sc_Sheets_is_full (fun vs H Q E z => ?_) ?_
  · obtain ⟨z, s, rfl, _⟩ := z; rfl
  · intro f cdv A' outer s H vs Q E hr z
    obtain ⟨z, s, rfl, hS, q⟩ := z
    obtain ⟨dx, h1⟩ := hS.me
    refine ⟨_, (pss_one (ps_ret (pe_cmpR op_ge (pe_methE0 (pvM 0) T.cl_Sheets H_Sheets_live_sheets (hr.mono (by decide)) xw_def) (pe_op op_add (pe_callB call_len rfl T.b_len PySem.boot_len (pa_cons (pe_fld (pe_fld (pvM 0) rfl) rfl) pa_nil)) (pe_callB call_len rfl T.b_len PySem.boot_len (pa_cons (pe_fld (pe_fld (pvM 0) rfl) rfl) pa_nil))) (nomark _)))), ?_⟩
    unfold sp_live
    walk_at "wp"
    simp only [h1]
    walk_at "wp"
    obtain ⟨dx1, vs1, f1, f2, f3, f4⟩ := id hS.fr
    obtain ⟨dx2, vs2, g1, g2, g3, g4⟩ := id hS.sl
    have l1 := Paired.length f3
    have l2 := Paired.length g3
    refine ⟨ssF_no (by decide +kernel), z, rfl, s, hS, fun H1 s1 => ⟨_, dx, _, s1 _ _ h1, T.cl_Sheets, T.na_Sheets_frames, _, ssF_frames, z.fp, rfl, _, dx1, _, s1 _ _ f1, T.cl_Spots, T.na_Spots_lying, _, spF_lying, _, .inl ⟨_, SqL.of (s1 _ _ f2), rfl⟩, _, dx, _, s1 _ _ h1, T.cl_Sheets, T.na_Sheets_slots, _, ssF_slots, z.sq, rfl, _, dx2, _, s1 _ _ g1, T.cl_Spots, T.na_Spots_lying, _, spF_lying, _, .inl ⟨_, SqL.of (s1 _ _ g2), rfl⟩, ?_⟩⟩
    rw [l1, l2]
    exact q _ s1
def sp_hand (C P S : Addr) : Sp := fun vs H Q _ => ∃ (z : Ss) (s : St), vs = [.ref z.p] ∧ SsAt C P S H z s ∧ Q (.int s.h) H
theorem h_hand (T : Txt K mg A) : HaveM P w K mg base A.C_Sheets "hand_at" 1 ["self"] [] (sp_hand A.C_Sheets A.C_Spots A.C_Sheet) := by
  refine T.r_Sheets_hand_at.have sc_Sheets_hand_at (fun vs H Q E z => ?_) ?_
  · obtain ⟨z, s, rfl, _⟩ := z; rfl
  · intro f cdv A' outer s H vs Q E hr z
    obtain ⟨z, s, rfl, hS, q⟩ := z
    obtain ⟨dx, h1⟩ := hS.me
    refine ⟨_, (pss_one (ps_ret (pe_fld (pvM 0) rfl))), ?_⟩
    walk_at "wp"
    simp only [h1]
    walk_at "wp"
    exact ⟨T.cl_Sheets, T.na_Sheets_hand, _, ssF_hand, q⟩
def sp_moved (C P S : Addr) : Sp := fun vs H Q _ => ∃ (z : Ss) (s : St), vs = [.ref z.p] ∧ SsAt C P S H z s ∧ ∀ t, H t = none → Q (.ref t) (upd H t (.tup [.int s.go, .int s.ga, .int s.cb]))
theorem h_moved (T : Txt K mg A) : HaveM P w K mg base A.C_Sheets "moved" 1 ["self"] [] (sp_moved A.C_Sheets A.C_Spots A.C_Sheet) := by
  refine T.r_Sheets_moved.have sc_Sheets_moved (fun vs H Q E z => ?_) ?_
  · obtain ⟨z, s, rfl, _⟩ := z; rfl
  · intro f cdv A' outer s H vs Q E hr z
    obtain ⟨z, s, rfl, hS, q⟩ := z
    obtain ⟨dx, h1⟩ := hS.me
    refine ⟨_, (pss_one (ps_ret (pe_tup (pa_cons (pe_fld (pvM 0) rfl) (pa_cons (pe_fld (pvM 0) rfl) (pa_cons (pe_fld (pvM 0) rfl) pa_nil)))))), ?_⟩
    walk_at "wp"
    simp only [h1]
    walk_at "wp"
    exact ⟨T.cl_Sheets, T.na_Sheets_gone_out, _, ssF_out, T.cl_Sheets, T.na_Sheets_gone_astray, _, ssF_astray, T.cl_Sheets, T.na_Sheets_come_back, _, ssF_back, q⟩

theorem ifn {p q : Prop} {b : Bool} (h : b = false) (x : q) : if b = true then p else q := by rw [h]; exact x
theorem ifp {p q : Prop} {b : Bool} (h : b = true) (x : p) : if b = true then p else q := by rw [h]; exact x
theorem new_at {H : Hp} {p : Addr} {o : HO} (h : H p = none) : Same H (upd H p o) ∧ upd H p o p = some o := ⟨same_upd same_refl h, upd_same⟩
theorem hds_app {a b : List (Option Sh)} : hds (a ++ b) = hds a ++ hds b := by unfold hds; rw [List.filterMap_append]
theorem hds_fill : ∀ {rows : List (Option Sh)} {j : Nat} {r : Sh}, rows[j]? = some none → (hds (rows.set j (some r))).Perm (r.hd :: hds rows) := by
  intro rows
  induction rows with
  | nil => intro j r h; simp at h
  | cons x l ih =>
    intro j r h
    cases j with
    | zero =>
      simp at h
      subst h
      exact List.Perm.refl _
    | succ j =>
      have := ih (j := j) (r := r) (by simpa using h)
      cases x with
      | none => exact this
      | some y => exact (List.Perm.cons y.hd this).trans (List.Perm.swap ..)
theorem hds_take {rows : List (Option Sh)} {j : Nat} {q : Sh} (h : rows[j]? = some (some q)) : (hds rows).Perm (q.hd :: hds (rows.set j none)) := by
  obtain ⟨h1, h2⟩ := List.getElem?_eq_some_iff.mp h
  have := hds_fill (rows := rows.set j none) (j := j) (r := q) (by rw [List.getElem?_set_self h1])
  rw [List.set_set, ← h2, List.set_getElem_self] at this
  exact this
theorem cnt_hds : ∀ {rows : List (Option Sh)}, cnt rows = (hds rows).length
  | [] => rfl
  | none :: l => cnt_hds (rows := l)
  | some x :: l => by
    have := cnt_hds (rows := l)
    unfold cnt at *
    show (some x :: l.filter Option.isSome).length = (x.hd :: hds l).length
    rw [List.length_cons, List.length_cons, this]
theorem sh_num {C S : Addr} {G : Hp} {z : Ss} {s s' : St} {dx : Addr} (e : G z.p = some (.ins C dx (ssF z.n z.fp z.sq s))) {v : V} {r : Option Sh} (hv : ShAt S G v r) : ShAt S (upd G z.p (.ins C dx (ssF z.n z.fp z.sq s'))) v r := by
  have ho : ∀ {c o}, G c = some o → (∀ D d fs, o = .ins D d fs → fs.lookup ("hand" : Str) = none) → upd G z.p (.ins C dx (ssF z.n z.fp z.sq s')) c = some o := fun {c o} hc hn => by
    rw [upd_ne (fun e9 => ?_)]
    · exact hc
    · rw [e9, e] at hc
      have := hn _ _ _ (Option.some.inj hc).symm
      rw [ssF_hand] at this
      cases this
  cases r with
  | none => exact hv
  | some r =>
    obtain ⟨a, ⟨d, h1⟩, h2, h3⟩ := hv
    exact ⟨a, ⟨d, ho h1 fun _ _ _ z => by cases z; exact shF_no (by decide +kernel)⟩, ho h2 fun _ _ _ z => (nomatch z), ho h3 fun _ _ _ z => nomatch z⟩
theorem ks_num {z : Ss} {H G : Hp} {o : HO} (k : Ks z H G) : Ks z H (upd G z.p o) := fun c o' h h1 h2 => by rw [upd_ne h1]; exact k c o' h h1 h2
theorem ks_la {z : Ss} {H G : Hp} {f : Bool} {o : HO} (k : Ks z H G) : Ks z H (upd G (z.la f) o) := fun c o' h h1 h2 => by rw [upd_ne (fun e => h2 (by rw [e]; exact la_in))]; exact k c o' h h1 h2
def Swp (ms : List Bool) (h i : Nat) (ps : List Int) : Prop := ∃ j : Nat, j ≤ ms.length ∧ (∀ t < j, ms.getD (((h : Int) + t) % (ms.length : Int)).toNat false = true) ∧ (j = ms.length ∨ ms.getD (((h : Int) + j) % (ms.length : Int)).toNat false = false) ∧ (i : Int) = ((h : Int) + j) % (ms.length : Int) ∧ ps = rg ms.length h j
def sfV (s : St) (v : V) : V := match s.sr.findIdx? Option.isNone with
  | some j => .int (j : Int)
  | none => v
def sp_sf (C P S : Addr) : Sp := fun vs H Q _ => ∃ (z : Ss) (s : St) (i : Nat) (v : V), vs = [.ref z.p, .int i, v] ∧ SsAt C P S H z s ∧ i < s.fr.length ∧ ∀ H', Same H H' → Q (sfV s v) H'
theorem h_sf (T : Txt K mg A) : HaveM P w K mg base A.C_Sheets "slot_for" 2 ["self", "frame", "coming_from"] [] (sp_sf A.C_Sheets A.C_Spots A.C_Sheet) := by
  have H_Spots_first_empty := h_fe (P := P) (w := w) (base := base) T
  have H_Spots_first_twin := h_ft (P := P) (w := w) (base := base) T
  refine T.r_Sheets_slot_for.have sc_Sheets_slot_for (fun vs H Q E z => ?_) ?_
  · obtain ⟨z, s, i, v, rfl, _⟩ := z; rfl
  · intro f cdv A' outer s H vs Q E hr z
    obtain ⟨z, s, i, v, rfl, hS, hi, q⟩ := z
    obtain ⟨dx, h1⟩ := hS.me
    obtain ⟨dx1, vs1, f1, f2, f3, f4⟩ := id hS.fr
    obtain ⟨dx2, vs2, g1, g2, g3, g4⟩ := id hS.sl
    refine ⟨_, (pss_cons (ps_if (pt_cmpR op_notN (pe_ix ix_list (pe_fld (pe_fld (pvM 0) rfl) rfl) (pvM 1) (fun _ _ => rfl)) pe_non (nomark _)) (pss_one (ps_ret (pe_ix ix_list (pe_fld (pe_fld (pvM 0) rfl) rfl) (pvM 1) (fun _ _ => rfl)))) pss_nil)
      (pss_cons (ps_set (i := 3) sc_Sheets_slot_for.nd rfl (Or.inl rfl) (pe_methE0 (pe_fld (pvM 0) rfl) T.cl_Spots H_Spots_first_empty (hr.mono (by decide)) xw_def))
      (pss_cons (ps_if (pt_cmpR op_notN (pvM 3) pe_non (nomark _)) (pss_one (ps_ret (pvM 3))) pss_nil)
      (pss_cons (ps_set (i := 4) sc_Sheets_slot_for.nd rfl (Or.inl rfl) (pe_methE0 (pe_fld (pvM 0) rfl) T.cl_Spots H_Spots_first_twin (hr.mono (by decide)) xw_def))
      (pss_one (ps_ret (pe_ifExp (pt_cmpR op_isN (pvM 4) pe_non (nomark _)) (pvM 2) (pvM 4)))))))), ?_⟩
    walk_at "wp"
    simp only [h1]
    walk_at "wp"
    refine ⟨T.cl_Sheets, T.na_Sheets_frames, _, ssF_frames, z.fp, rfl, _, dx1, _, f1, T.cl_Spots, T.na_Spots_twins, _, spF_twins, z.tw, rfl, _, SqL.of f4, .non, atI_nat (by rw [List.getElem?_replicate, if_pos hi]), ?_⟩
    rw [decide_eq_true (rfl : V.non = V.non)]
    refine iteF ⟨T.cl_Sheets, T.na_Sheets_slots, _, ssF_slots, z.sq, rfl, dx2, _, g1, spF_no (by decide +kernel), z.sq, z.ls, z.ts, s.sr, rfl, hS.sl, fun H1 s1 => ?_⟩
    unfold sfV at q
    unfold fe
    cases e9 : s.sr.findIdx? Option.isNone with
    | some j =>
      rw [e9] at q
      rw [decide_eq_false (fun z => nomatch z)]
      exact iteT (q H1 s1)
    | none =>
      rw [e9] at q
      rw [decide_eq_true (rfl : V.non = V.non)]
      refine iteF ⟨_, dx, _, s1 _ _ h1, T.cl_Sheets, T.na_Sheets_frames, _, ssF_frames, z.fp, rfl, dx1, _, s1 _ _ f1, spF_no (by decide +kernel), z.fp, z.ly, z.tw, s.fr, rfl, hS.fr.same s1, fun H2 s2 => ?_⟩
      show if V.non = V.non then _ else _
      rw [if_pos rfl]
      exact q H2 (s1.trans s2)
def sp_out (C P S : Addr) : Sp := fun vs H Q _ => ∃ (z : Ss) (s : St) (i j : Nat) (v : V) (r : Sh), vs = [.ref z.p, .int i, v] ∧ SsAt C P S H z s ∧ s.fr[i]? = some (some r) ∧ Okh r ∧ j < s.sr.length ∧ sfV s v = .int j ∧
  ∀ H' t l, SsAt C P S H' z ⟨s.fr.set i none, s.sr.set j (some r), s.h, s.go + 1, s.ga + 1, s.cb⟩ → H' t = some (.tup [.int j, .ref l]) → TdK H' l (srt r.ks) → l ∉ z.four → Ks z H H' → Q (.ref t) H'
def sp_lose (C P S : Addr) : Sp := fun vs H Q _ => ∃ (z : Ss) (s : St) (j : Nat), vs = [.ref z.p, .int j] ∧ SsAt C P S H z s ∧ j < s.fr.length ∧ Q .non H
theorem h_lose (T : Txt K mg A) : HaveM P w K mg base A.C_Sheets "lose_twin" 1 ["self", "frame"] [] (sp_lose A.C_Sheets A.C_Spots A.C_Sheet) := by
  refine T.r_Sheets_lose_twin.have sc_Sheets_lose_twin (fun vs H Q E z => ?_) ?_
  · obtain ⟨z, s, j, rfl, _⟩ := z; rfl
  · intro f cdv A' outer s H vs Q E hr z
    obtain ⟨z, s, j, rfl, hS, hj, q⟩ := z
    obtain ⟨dx, h1⟩ := hS.me
    obtain ⟨dx1, vs1, f1, f2, f3, f4⟩ := id hS.fr
    refine ⟨_, (pss_cons (ps_set (i := 2) sc_Sheets_lose_twin.nd rfl (Or.inl rfl) (pe_ix ix_list (pe_fld (pe_fld (pvM 0) rfl) rfl) (pvM 1) (fun _ _ => rfl)))
      (pss_one (ps_if (pt_cmpR op_notN (pvM 2) pe_non (nomark _)) (pss_cons (ps_asg pe_non (pg_sub (pe_fld (pe_fld (pvM 0) rfl) rfl) (pvM 1) set_list))
      (pss_one (ps_asg pe_non (pg_sub (pe_fld (pe_fld (pvM 0) rfl) rfl) (pvM 2) set_list)))) pss_nil))), ?_⟩
    walk_at "wp"
    simp only [h1]
    walk_at "wp"
    exact ⟨T.cl_Sheets, T.na_Sheets_frames, _, ssF_frames, z.fp, rfl, _, dx1, _, f1, T.cl_Spots, T.na_Spots_twins, _, spF_twins, z.tw, rfl, _, SqL.of f4, .non, atI_nat (by rw [List.getElem?_replicate, if_pos hj]), by rw [decide_eq_true rfl]; exact iteF q⟩
theorem h_out (T : Txt K mg A) : HaveM P w K mg base A.C_Sheets "put_out" 3 ["self", "frame", "coming_from"] [] (sp_out A.C_Sheets A.C_Spots A.C_Sheet) := by
  have H_Sheets_slot_for := h_sf (P := P) (w := w) (base := base) T
  have H_Sheets_lose_twin := h_lose (P := P) (w := w) (base := base) T
  have H_Sheet_told_holders := h_told (P := P) (w := w) (base := base) T
  refine T.r_Sheets_put_out.have sc_Sheets_put_out (fun vs H Q E z => ?_) ?_
  · obtain ⟨z, s, i, j, v, r, rfl, _⟩ := z; rfl
  · intro f cdv A' outer s H vs Q E hr z
    obtain ⟨z, s, i, j, v, r, rfl, hS, hri, hok, hj, hsf, q⟩ := z
    obtain ⟨dx, h1⟩ := hS.me
    obtain ⟨dx1, vs1, f1, f2, f3, f4⟩ := id hS.fr
    obtain ⟨v1, hv1, rfl, ⟨dxr, g1⟩, g2, g3⟩ := prd_get2 f3 hri
    have hil := (List.getElem?_eq_some_iff.mp hri).1
    refine ⟨_, (pss_cons (ps_set (i := 3) sc_Sheets_put_out.nd rfl (Or.inl rfl) (pe_ix ix_list (pe_fld (pe_fld (pvM 0) rfl) rfl) (pvM 1) (fun _ _ => rfl)))
      (pss_cut (ps_set (i := 4) sc_Sheets_put_out.nd rfl (Or.inl rfl) (pe_methE (pvM 0) T.cl_Sheets H_Sheets_slot_for (hr.mono (by decide)) xw_def (pa_cons (pvM 1) (pa_cons (pvM 2) pa_nil))))
      (pss_cut (ps_fld (pvM 0) (pe_op op_add (pe_fld (pvM 0) rfl) pe_int) rfl)
      (pss_cut (ps_if (pt_cmpR op_ne (pvM 4) (pe_ix ix_list (pe_fld (pe_fld (pvM 0) rfl) rfl) (pvM 1) (fun _ _ => rfl)) (nomark _)) (pss_one (ps_fld (pvM 0) (pe_op op_add (pe_fld (pvM 0) rfl) pe_int) rfl)) pss_nil)
      (pss_cut (ps_if (pt_cmpR op_notN (pe_ix ix_list (pe_fld (pe_fld (pvM 0) rfl) rfl) (pvM 4) (fun _ _ => rfl)) pe_non (nomark _)) (pss_one (ps_expr (pe_methE (pvM 0) T.cl_Sheets H_Sheets_lose_twin (hr.mono (by decide)) xw_def (pa_cons (pe_ix ix_list (pe_fld (pe_fld (pvM 0) rfl) rfl) (pvM 4) (fun _ _ => rfl)) pa_nil)))) pss_nil)
      (pss_cut (ps_asg (pvM 3) (pg_sub (pe_fld (pe_fld (pvM 0) rfl) rfl) (pvM 4) set_list))
      (pss_cut (ps_asg pe_non (pg_sub (pe_fld (pe_fld (pvM 0) rfl) rfl) (pvM 1) set_list))
      (pss_one (ps_ret (pe_tup (pa_cons (pvM 4) (pa_cons (pe_methE0 (pvM 3) T.cl_Sheet H_Sheet_told_holders (hr.mono (by decide)) xw_def) pa_nil)))))))))))), ?_⟩
    walk_at "wp"
    simp only [h1]
    walk_at "wp"
    refine ⟨T.cl_Sheets, T.na_Sheets_frames, _, ssF_frames, z.fp, rfl, _, dx1, _, f1, T.cl_Spots, T.na_Spots_lying, _, spF_lying, z.ly, rfl, _, SqL.of f2, _, atI_nat hv1, ?_⟩
    refine ⟨fun σ G => σ = [some (.ref z.p), some (.int i), some v, some (.ref r.sh), some (.int j)] ∧ Same H G, ?_, fun σ1 G1 => ?_⟩
    · walk_at "wp"
      exact ⟨dx, _, h1, ssF_no (by decide +kernel), z, s, i, v, rfl, hS, hil, fun H' s1 => ⟨hsf, s1⟩⟩
    rintro ⟨rfl, s1⟩
    have hS1 := hS.same s1
    have sh1 : ShAt A.C_Sheet G1 (.ref r.sh) (some r) := ShAt.same s1 ⟨rfl, ⟨dxr, g1⟩, g2, g3⟩
    have k1 : Ks z H G1 := Ks.of s1
    clear s1
    refine ⟨fun σ G => σ = [some (.ref z.p), some (.int i), some v, some (.ref r.sh), some (.int j)] ∧ SsAt A.C_Sheets A.C_Spots A.C_Sheet G z { s with go := s.go + 1 } ∧ Ks z H G ∧ ShAt A.C_Sheet G (.ref r.sh) (some r), ?_, fun σ2 G2 => ?_⟩
    · obtain ⟨dx9, h9⟩ := hS1.me
      walk_at "wp"
      refine ⟨_, dx9, _, h9, T.cl_Sheets, T.na_Sheets_gone_out, _, ssF_out, s.go, rfl, _, dx9, _, h9, T.cl_Sheets, T.na_Sheets_gone_out, by show 7 < 1000; decide, ?_⟩
      rw [ssF_po]
      exact ⟨hS1.num h9 rfl rfl hS1.hh, ks_num k1, sh_num h9 sh1⟩
    rintro ⟨rfl, hS2, k2, sh2⟩
    clear hS1 sh1 k1
    refine ⟨fun σ G => σ = [some (.ref z.p), some (.int i), some v, some (.ref r.sh), some (.int j)] ∧ SsAt A.C_Sheets A.C_Spots A.C_Sheet G z { s with go := s.go + 1, ga := s.ga + 1 } ∧ Ks z H G ∧ ShAt A.C_Sheet G (.ref r.sh) (some r), ?_, fun σ3 G3 => ?_⟩
    · obtain ⟨dx9, h9⟩ := hS2.me
      obtain ⟨dx8, vs8, e1, e2, e3, e4⟩ := id hS2.fr
      walk_at "wp"
      refine ⟨_, dx9, _, h9, T.cl_Sheets, T.na_Sheets_frames, _, ssF_frames, z.fp, rfl, _, dx8, _, e1, T.cl_Spots, T.na_Spots_twins, _, spF_twins, z.tw, rfl, _, SqL.of e4, .non, atI_nat (by rw [List.getElem?_replicate, if_pos hil]), rfl, ?_⟩
      refine ifp rfl ⟨_, dx9, _, h9, T.cl_Sheets, T.na_Sheets_gone_astray, _, ssF_astray, s.ga, rfl, _, dx9, _, h9, T.cl_Sheets, T.na_Sheets_gone_astray, by show 7 < 1000; decide, ?_⟩
      rw [ssF_pa]
      exact ⟨hS2.num h9 rfl rfl hS2.hh, ks_num k2, sh_num h9 sh2⟩
    rintro ⟨rfl, hS3, k3, sh3⟩
    clear hS2 sh2 k2
    refine ⟨fun σ G => σ = [some (.ref z.p), some (.int i), some v, some (.ref r.sh), some (.int j)] ∧ G = G3, ?_, fun σ4 G4 => ?_⟩
    · obtain ⟨dx9, h9⟩ := hS3.me
      obtain ⟨dx8, vs8, e1, e2, e3, e4⟩ := id hS3.sl
      walk_at "wp"
      refine ⟨_, dx9, _, h9, T.cl_Sheets, T.na_Sheets_slots, _, ssF_slots, z.sq, rfl, _, dx8, _, e1, T.cl_Spots, T.na_Spots_twins, _, spF_twins, z.ts, rfl, _, SqL.of e4, .non, atI_nat (by rw [List.getElem?_replicate, if_pos hj]), ?_⟩
      rw [decide_eq_true (rfl : V.non = V.non)]
      exact iteF trivial
    rintro ⟨rfl, rfl⟩
    refine ⟨fun σ G => σ = [some (.ref z.p), some (.int i), some v, some (.ref r.sh), some (.int j)] ∧ SsAt A.C_Sheets A.C_Spots A.C_Sheet G z { s with sr := s.sr.set j (some r), go := s.go + 1, ga := s.ga + 1 } ∧ Ks z H G ∧ ShAt A.C_Sheet G (.ref r.sh) (some r), ?_, fun σ5 G5 => ?_⟩
    · obtain ⟨dx9, h9⟩ := hS3.me
      obtain ⟨dx8, vs8, e1, e2, e3, e4⟩ := id hS3.sl
      have hbr : r.bx ∉ z.four := hS.bx r (.inl (List.mem_of_getElem? hri))
      have l8 := Paired.length e3
      walk_at "wp"
      refine ⟨_, dx9, _, h9, T.cl_Sheets, T.na_Sheets_slots, _, ssF_slots, z.sq, rfl, _, dx8, _, e1, T.cl_Spots, T.na_Spots_lying, _, spF_lying, z.ls, rfl, vs8, e2, j, ixn (by rw [l8]; exact hj), ?_⟩
      exact ⟨hS3.set (f := false) (j := j) (r := some r) e2 sh3 (fun q e => by cases e; exact hbr), ks_la (f := false) k3, sh_upd e2 sh3 fun q e z9 => by cases e; exact hbr (by rw [z9]; exact la_four (f := false))⟩
    rintro ⟨rfl, hS5, k5, sh5⟩
    clear hS3 sh3 k3
    refine ⟨fun σ G => σ = [some (.ref z.p), some (.int i), some v, some (.ref r.sh), some (.int j)] ∧ SsAt A.C_Sheets A.C_Spots A.C_Sheet G z ⟨s.fr.set i none, s.sr.set j (some r), s.h, s.go + 1, s.ga + 1, s.cb⟩ ∧ Ks z H G ∧ ShAt A.C_Sheet G (.ref r.sh) (some r), ?_, fun σ6 G6 => ?_⟩
    · obtain ⟨dx9, h9⟩ := hS5.me
      obtain ⟨dx8, vs8, e1, e2, e3, e4⟩ := id hS5.fr
      have hbr : r.bx ∉ z.four := hS.bx r (.inl (List.mem_of_getElem? hri))
      have l8 := Paired.length e3
      walk_at "wp"
      refine ⟨_, dx9, _, h9, T.cl_Sheets, T.na_Sheets_frames, _, ssF_frames, z.fp, rfl, _, dx8, _, e1, T.cl_Spots, T.na_Spots_lying, _, spF_lying, z.ly, rfl, vs8, e2, i, ixn (by rw [l8]; exact hil), ?_⟩
      exact ⟨hS5.set (f := true) (j := i) (r := none) e2 rfl (fun q e => nomatch e), ks_la (f := true) k5, sh_upd e2 sh5 fun q e z9 => by cases e; exact hbr (by rw [z9]; exact la_four (f := true))⟩
    rintro ⟨rfl, hS6, k6, sh6⟩
    obtain ⟨_, ⟨dx9, h9⟩, _⟩ := id sh6
    walk_at "wp"
    refine ⟨dx9, _, h9, shF_no (by decide +kernel), _, r, rfl, sh6, hok, fun l G7 hl s7 htd t ht => ?_⟩
    have s8 : Same G7 (upd G7 t (.tup [V.int (j : Int), V.ref l])) := same_upd same_refl ht
    exact q _ t l ((hS6.same s7).same s8) upd_same (htd.same s8) (hS6.nf hl) ((k6.trans (Ks.of s7)).trans (Ks.of s8))

def OutAt (F : List Addr) (H : Hp) (v : V) : Option (Nat × Sh) → Prop
  | none => v = .non
  | some (j, q) => ∃ o l, v = .ref o ∧ H o = some (.tup [.int (j : Int), .ref l]) ∧ TdK H l (srt q.ks) ∧ l ∉ F
theorem OutAt.keep {F : List Addr} {H H' : Hp} {v : V} (k : ∀ c us, H c = some (.tup us) ∨ (H c = some (.lst us) ∧ c ∉ F) → H' c = H c) : ∀ {o : Option (Nat × Sh)}, OutAt F H v o → OutAt F H' v o
  | none, h => h
  | some (_, _), ⟨o, l, e, h1, ⟨us, h2, h3⟩, h4⟩ => ⟨o, l, e, (k _ _ (.inl h1)).trans h1, ⟨us, (k _ _ (.inr ⟨h2, h4⟩)).trans h2, Paired.mapP h3 fun _ _ ⟨a, e, q⟩ => ⟨a, e, (k _ _ (.inl q)).trans q⟩⟩, h4⟩
theorem OutAt.same {F : List Addr} {H H' : Hp} {v : V} {o : Option (Nat × Sh)} (h : OutAt F H v o) (s : Same H H') : OutAt F H' v o := h.keep fun c us hc => by
  rcases hc with hc | hc
  · rw [hc]; exact s _ _ hc
  · rw [hc.1]; exact s _ _ hc.1
def Ffr (s : St) (v : V) (ms : List Bool) (s1 : St) (i : Nat) (ps : List Int) (out : Option (Nat × Sh)) : Prop :=
  (s.fr.findIdx? Option.isNone = some i ∧ s1 = s ∧ ps = [] ∧ out = none) ∨
  (s.fr.findIdx? Option.isNone = none ∧ ∃ (q : Sh) (j : Nat), Swp ms s.h i ps ∧ s.fr[i]? = some (some q) ∧ sfV s v = .int j ∧ j < s.sr.length ∧ s1 = ⟨s.fr.set i none, s.sr.set j (some q), (i + 1) % s.fr.length, s.go + 1, s.ga + 1, s.cb⟩ ∧ out = some (j, q))
def sp_ff (C P S : Addr) : Sp := fun vs H Q _ => ∃ (z : Ss) (s : St) (v : V) (m : Addr) (ms : List Bool), vs = [.ref z.p, v, .ref m] ∧ SsAt C P S H z s ∧ H m = some (.lst (ms.map V.bl)) ∧ ms.length = s.fr.length ∧
  (s.fr.findIdx? Option.isNone = none → (∃ j : Nat, sfV s v = .int j ∧ j < s.sr.length) ∧ ∀ r, some r ∈ s.fr → Okh r) ∧
  ∀ H' s1 i ps out t e v3, Ffr s v ms s1 i ps out → SsAt C P S H' z s1 → H' t = some (.tup [.int (i : Int), .ref e, v3]) → H' e = some (.lst (ps.map V.int)) → OutAt z.four H' v3 out → e ∉ z.four → Ks z H H' → Q (.ref t) H'
theorem h_ff (T : Txt K mg A) : HaveM P w K mg base A.C_Sheets "frame_for" 4 ["self", "coming_from", "marks"] [] (sp_ff A.C_Sheets A.C_Spots A.C_Sheet) := by
  have H_Spots_first_empty := h_fe (P := P) (w := w) (base := base) T
  have H_swept := h_sw (P := P) (w := w) (base := base) T
  have H_Sheets_put_out := h_out (P := P) (w := w) (base := base) T
  refine T.r_Sheets_frame_for.have sc_Sheets_frame_for (fun vs H Q E z => ?_) ?_
  · obtain ⟨z, s, v, m, ms, rfl, _⟩ := z; rfl
  · intro f cdv A' outer s H vs Q E hr z
    obtain ⟨z, s, v, m, ms, rfl, hS, hm, hml, hfu, q⟩ := z
    obtain ⟨dx, h1⟩ := hS.me
    obtain ⟨dx1, vs1, f1, f2, f3, f4⟩ := id hS.fr
    have four : ∀ c ∈ z.four, ∃ us, H c = some (.lst us) := fun c hc => by
      obtain ⟨_, us, _, g2, _, g4⟩ := id hS.sl
      unfold Ss.four at hc
      simp only [List.mem_cons, List.not_mem_nil, or_false] at hc
      rcases hc with rfl | rfl | rfl | rfl
      · exact ⟨_, f2⟩
      · exact ⟨_, f4⟩
      · exact ⟨_, g2⟩
      · exact ⟨_, g4⟩
    have nf : ∀ {e : Addr}, H e = none → e ∉ z.four := fun he z9 => by obtain ⟨us, h⟩ := four _ z9; rw [he] at h; cases h
    refine ⟨_, (pss_cons (ps_set (i := 3) sc_Sheets_frame_for.nd rfl (Or.inl rfl) (pe_methE0 (pe_fld (pvM 0) rfl) T.cl_Spots H_Spots_first_empty (hr.mono (by decide)) xw_def))
      (pss_cons (ps_if (pt_cmpR op_notN (pvM 3) pe_non (nomark _)) (pss_one (ps_ret (pe_tup (pa_cons (pvM 3) (pa_cons (pe_lst pa_nil) (pa_cons pe_non pa_nil)))))) pss_nil)
      (pss_cut (ps_set (i := 4) sc_Sheets_frame_for.nd rfl (Or.inl rfl) (pe_callE H_swept (hr.mono (by decide)) xw_def (pa_cons (pvM 2) (pa_cons (pe_fld (pvM 0) rfl) pa_nil))))
      (pss_cut (ps_fld (pvM 0) (pe_op op_mod (pe_op op_add (pe_ix ix_tup (pvM 4) pe_int (fun _ _ => rfl)) pe_int) (pe_callB call_len rfl T.b_len PySem.boot_len (pa_cons (pe_fld (pe_fld (pvM 0) rfl) rfl) pa_nil))) rfl)
      (pss_one (ps_ret (pe_tup (pa_cons (pe_ix ix_tup (pvM 4) pe_int (fun _ _ => rfl)) (pa_cons (pe_ix ix_tup (pvM 4) pe_int (fun _ _ => rfl)) (pa_cons (pe_methE (pvM 0) T.cl_Sheets H_Sheets_put_out (hr.mono (by decide)) xw_def (pa_cons (pe_ix ix_tup (pvM 4) pe_int (fun _ _ => rfl)) (pa_cons (pvM 1) pa_nil))) pa_nil)))))))))), ?_⟩
    unfold sp_fe
    walk_at "wp"
    simp only [h1]
    walk_at "wp"
    refine ⟨T.cl_Sheets, T.na_Sheets_frames, _, ssF_frames, z.fp, rfl, dx1, _, f1, spF_no (by decide +kernel), z.fp, rfl, z.ly, z.tw, s.fr, hS.fr, fun H1 s1 => ?_⟩
    unfold fe
    cases e9 : s.fr.findIdx? Option.isNone with
    | some i =>
      rw [decide_eq_false (fun z => nomatch z)]
      refine iteT fun e1 he1 t1 ht1 => ?_
      have b1 := same_upd (o := .lst []) (same_refl (H := H1)) he1
      have b2 := same_upd (o := .tup [V.int (i : Int), V.ref e1, V.non]) (same_refl (H := upd H1 e1 (.lst []))) ht1
      exact q _ s i [] none t1 e1 .non (.inl ⟨e9, rfl, rfl, rfl⟩) (((hS.same s1).same b1).same b2) upd_same (b2 _ _ upd_same) rfl (nf (same_none s1 he1)) (Ks.of ((s1.trans b1).trans b2))
    | none =>
      rw [decide_eq_true (rfl : V.non = V.non)]
      obtain ⟨⟨j, hsf, hj⟩, hok⟩ := hfu e9
      have hS1 := hS.same s1
      refine iteF ⟨fun σ G => ∃ i t e ps, σ = [some (.ref z.p), some v, some (.ref m), some .non, some (.ref t)] ∧ Same H1 G ∧ Swp ms s.h i ps ∧ i < s.fr.length ∧ G t = some (.tup [.int (i : Int), .ref e]) ∧ G e = some (.lst (ps.map V.int)) ∧ H1 e = none, ?_, fun σ2 G2 => ?_⟩
      · obtain ⟨dx9, h9⟩ := hS1.me
        walk_at "wp"
        have hh := hS.hh
        have hl64 := hS.len.1
        refine ⟨_, dx9, _, h9, T.cl_Sheets, T.na_Sheets_hand, _, ssF_hand, m, s.h, ms, rfl, SqL.of (s1 _ _ hm), by omega, by omega, by omega, fun t u k H' s9 ht hu hk ha hb ht' hu' => ?_⟩
        have hp : (0 : Int) < (ms.length : Int) := by omega
        have h0 := Int.emod_nonneg ((s.h : Int) + (k : Int)) (Int.ne_of_gt hp)
        have h2 := Int.emod_lt_of_pos ((s.h : Int) + (k : Int)) hp
        refine ⟨(((s.h : Int) + (k : Int)) % (ms.length : Int)).toNat, t, rfl, s9, u, rg ms.length s.h k, ⟨k, hk, ha, hb, by omega, rfl⟩, by omega, ?_, hu', hu⟩
        rw [show (((((s.h : Int) + (k : Int)) % (ms.length : Int)).toNat : Nat) : Int) = ((s.h : Int) + (k : Int)) % (ms.length : Int) by omega]
        exact ht'
      rintro ⟨i, t, e, ps, rfl, s2, hsw, hil, ht2, he2, he0⟩
      have hS2 := hS1.same s2
      refine ⟨fun σ G => σ = [some (.ref z.p), some v, some (.ref m), some .non, some (.ref t)] ∧ SsAt A.C_Sheets A.C_Spots A.C_Sheet G z { s with h := (i + 1) % s.fr.length } ∧ Ks z H G ∧ G t = some (.tup [.int (i : Int), .ref e]) ∧ G e = some (.lst (ps.map V.int)), ?_, fun σ3 G3 => ?_⟩
      · obtain ⟨dx9, h9⟩ := hS2.me
        obtain ⟨dx8, vs8, e1, e2, e3, e4⟩ := id hS2.fr
        have l8 := Paired.length e3
        have hmod : ((i : Int) + 1) % (vs8.length : Int) = (((i + 1) % s.fr.length : Nat) : Int) := by rw [l8, Int.natCast_emod, Int.natCast_add]; rfl
        walk_at "wp"
        refine ⟨_, SqT.of ht2, .int i, atI_nat (j := 0) rfl, (i : Int), rfl, _, dx9, _, h9, T.cl_Sheets, T.na_Sheets_frames, _, ssF_frames, z.fp, rfl, _, dx8, _, e1, T.cl_Spots, T.na_Spots_lying, _, spF_lying, vs8.length, .inl ⟨_, SqL.of e2, rfl⟩, by omega, _, dx9, _, h9, T.cl_Sheets, T.na_Sheets_hand, by show 7 < 1000; decide, ?_⟩
        rw [hmod, ssF_ph]
        refine ⟨hS2.num h9 rfl rfl (Nat.mod_lt _ (by omega)), ks_num (Ks.of (s1.trans s2)), ?_, ?_⟩
        · rw [upd_ne (ne_of ht2 h9 (fun z => nomatch z))]; exact ht2
        · rw [upd_ne (ne_of he2 h9 (fun z => nomatch z))]; exact he2
      rintro ⟨rfl, hS3, k3, ht3, he3⟩
      obtain ⟨dx9, h9⟩ := hS3.me
      have hh := hS.hh
      obtain ⟨r, hr⟩ := fe_none e9 hil
      walk_at "wp"
      refine ⟨_, SqT.of ht3, .int i, atI_nat (j := 0) rfl, _, SqT.of ht3, .ref e, atI_nat (j := 1) rfl, dx9, _, h9, ssF_no (by decide +kernel), _, SqT.of ht3, .int i, atI_nat (j := 0) rfl, z, _, i, j, v, r, rfl, hS3, hr, hok r (List.mem_of_getElem? hr), hj, hsf, fun G4 o l hS4 ho htd hlf k4 t4 ht4 => ?_⟩
      have hep : e ≠ z.p := fun z9 => by rw [z9, s1 _ _ h1] at he0; cases he0
      have hef := nf (same_none s1 he0)
      have he4 := k4 _ _ he3 hep (fun z9 => hef (by unfold Ss.four; simp only [List.mem_cons, List.not_mem_nil, or_false] at z9 ⊢; rcases z9 with h | h; exact .inl h; exact .inr (.inr (.inl h))))
      have s5 : Same G4 (upd G4 t4 (.tup [V.int (i : Int), V.ref e, V.ref o])) := same_upd same_refl ht4
      exact q _ _ i ps (some (j, r)) t4 e (.ref o) (.inr ⟨e9, r, j, hsw, hr, hsf, hj, rfl, rfl⟩) (hS4.same s5) upd_same (s5 _ _ he4) ⟨o, l, rfl, s5 _ _ ho, htd.same s5, hlf⟩ hef ((k3.trans k4).trans (Ks.of s5))

def hdS (s : St) : List Addr := hds (s.fr ++ s.sr)
theorem live_hd {s : St} : live s = (hdS s).length := by unfold live hdS; rw [hds_app, List.length_append, cnt_hds, cnt_hds]
theorem SsAt.hd {C P S : Addr} {H : Hp} {z : Ss} {s : St} (h : SsAt C P S H z s) : ∀ a ∈ hdS s, ∃ kvs, H a = some (.dT kvs) := fun a ha => by
  obtain ⟨r, hr, rfl⟩ := hds_mem.mp ha
  obtain ⟨_, _, _, _, f3, _⟩ := h.fr
  obtain ⟨_, _, _, _, g3, _⟩ := h.sl
  rcases List.mem_append.mp hr with hr | hr
  · obtain ⟨i, hi⟩ := List.mem_iff_getElem?.mp hr
    obtain ⟨_, _, _, _, _, e⟩ := prd_get2 f3 hi
    exact ⟨_, e⟩
  · obtain ⟨i, hi⟩ := List.mem_iff_getElem?.mp hr
    obtain ⟨_, _, _, _, _, e⟩ := prd_get2 g3 hi
    exact ⟨_, e⟩
theorem not_full {s : St} (h : live s < room s) (e : s.fr.findIdx? Option.isNone = none) : ∃ j : Nat, s.sr.findIdx? Option.isNone = some j := by
  cases e9 : s.sr.findIdx? Option.isNone with
  | some j => exact ⟨j, rfl⟩
  | none =>
    unfold live room at h
    rw [cnt_all e, cnt_all e9] at h
    omega
theorem sf_some {s : St} {v : V} {j : Nat} (h : s.sr.findIdx? Option.isNone = some j) : sfV s v = .int j := by unfold sfV; rw [h]
theorem sf_none {s : St} {v : V} (h : s.sr.findIdx? Option.isNone = none) : sfV s v = v := by unfold sfV; rw [h]
theorem Ffr.facts {s s1 : St} {ms : List Bool} {i : Nat} {ps : List Int} {out : Option (Nat × Sh)} (h : Ffr s .non ms s1 i ps out) : s1.fr[i]? = some none ∧ (hdS s1).Perm (hdS s) ∧ s1.fr.length = s.fr.length ∧ s1.sr.length = s.sr.length ∧ (∀ r, some r ∈ s1.fr ∨ some r ∈ s1.sr → some r ∈ s.fr ∨ some r ∈ s.sr) := by
  rcases h with ⟨h1, rfl, _, _⟩ | ⟨h1, q, j, hsw, hq, hsf, hj, rfl, _⟩
  · exact ⟨fe_some h1, List.Perm.refl _, rfl, rfl, fun r h => h⟩
  · have hji : s.sr.findIdx? Option.isNone = some j := by
      cases e9 : s.sr.findIdx? Option.isNone with
      | some j' =>
        rw [sf_some e9] at hsf
        have : (j' : Int) = j := V.int.inj hsf
        rw [show j' = j by omega]
      | none => rw [sf_none e9] at hsf; cases hsf
    refine ⟨List.getElem?_set_self (List.getElem?_eq_some_iff.mp hq).1, ?_, List.length_set, List.length_set, fun r hr => ?_⟩
    · unfold hdS
      rw [hds_app, hds_app]
      refine ((List.Perm.refl _).append (hds_fill (fe_some hji))).trans ?_
      exact List.perm_middle.trans ((hds_take hq).symm.append_right _)
    · rcases hr with hr | hr
      · rcases List.mem_or_eq_of_mem_set (show some r ∈ s.fr.set i none from hr) with h | h
        · exact .inl h
        · cases h
      · rcases List.mem_or_eq_of_mem_set (show some r ∈ s.sr.set j (some q) from hr) with h | h
        · exact .inr h
        · cases h; exact .inl (List.mem_of_getElem? hq)
def sp_fresh (C P S O : Addr) : Sp := fun vs H Q E => ∃ (z : Ss) (s : St) (l h m : Addr) (bs : List Int) (k : List Key) (ms : List Bool), vs = [.ref z.p, .ref l, .ref h, .ref m] ∧ SsAt C P S H z s ∧ Ap s ∧ H l = some (.lst (bs.map V.int)) ∧ l ∉ z.four ∧ H h = some (.tup (k.map kV)) ∧ H m = some (.lst (ms.map V.bl)) ∧ ms.length = s.fr.length ∧ (∀ r, some r ∈ s.fr → Okh r) ∧
  if live s < room s then ∀ H' s1 i ps out t e v3 r, Ffr s .non ms s1 i ps out → SsAt C P S H' z { s1 with fr := s1.fr.set i (some r) } → Ap { s1 with fr := s1.fr.set i (some r) } → r.b = bs → r.ks = [k] → H' t = some (.tup [.int (i : Int), .ref e, v3]) → H' e = some (.lst (ps.map V.int)) → OutAt z.four H' v3 out → e ∉ z.four → Ks z H H' → Q (.ref t) H'
  else ∀ H', Same H H' → E (.ref O) none H'
theorem h_fresh (T : Txt K mg A) : HaveM P w K mg base A.C_Sheets "fresh" 5 ["self", "sheet", "holder", "marks"] [] (sp_fresh A.C_Sheets A.C_Spots A.C_Sheet A.C_NoRoom) := by
  have H_Sheets_is_full := h_full (P := P) (w := w) (base := base) T
  have H_Sheets_frame_for := h_ff (P := P) (w := w) (base := base) T
  have H_Sheet_init := h_shi (P := P) (w := w) (base := base) T
  refine T.r_Sheets_fresh.have sc_Sheets_fresh (fun vs H Q E z => ?_) ?_
  · obtain ⟨z, s, l, h, m, bs, k, ms, rfl, _⟩ := z; rfl
  · intro f cdv A' outer s H vs Q E hr z
    obtain ⟨z, s, l, h, m, bs, k, ms, rfl, hS, hA, hl, hlf, hh, hm, hml, hok, q⟩ := z
    obtain ⟨dx, h1⟩ := hS.me
    refine ⟨_, (pss_cons (ps_if (pt_val (pe_methE0 (pvM 0) T.cl_Sheets H_Sheets_is_full (hr.mono (by decide)) xw_def)) (pss_one (ps_raise xr_def rfl T.x_NoRoom (pa_cons pe_str pa_nil))) pss_nil)
      (pss_cut (ps_set (i := 4) sc_Sheets_fresh.nd rfl (Or.inl rfl) (pe_methE (pvM 0) T.cl_Sheets H_Sheets_frame_for (hr.mono (by decide)) xw_def (pa_cons pe_non (pa_cons (pvM 3) pa_nil))))
      (pss_cons (ps_asg (pe_makeE H_Sheet_init (hr.mono (by decide)) xw_def (pa_cons (pvM 1) (pa_cons (pvM 2) pa_nil))) (pg_sub (pe_fld (pe_fld (pvM 0) rfl) rfl) (pe_ix ix_tup (pvM 4) pe_int (fun _ _ => rfl)) set_list))
      (pss_one (ps_ret (pvM 4)))))), ?_⟩
    unfold sp_full sp_shi
    walk_at "wp"
    simp only [h1]
    walk_at "wp"
    refine ⟨ssF_no (by decide +kernel), z, rfl, s, hS, fun H1 s1 => ?_⟩
    by_cases c : live s < room s
    · rw [if_pos c] at q
      rw [if_neg (by unfold room at c; omega)]
      have hS1 := hS.same s1
      refine ⟨fun σ G => ∃ s2 i ps out t e v3, σ = [some (.ref z.p), some (.ref l), some (.ref h), some (.ref m), some (.ref t)] ∧ Ffr s .non ms s2 i ps out ∧ SsAt A.C_Sheets A.C_Spots A.C_Sheet G z s2 ∧ G t = some (.tup [.int (i : Int), .ref e, v3]) ∧ G e = some (.lst (ps.map V.int)) ∧ OutAt z.four G v3 out ∧ e ∉ z.four ∧ Ks z H G, ?_, fun σ2 G2 => ?_⟩
      · walk_at "wp"
        refine ⟨dx, _, s1 _ _ h1, ssF_no (by decide +kernel), z, s, .non, m, ms, rfl, hS1, s1 _ _ hm, hml, fun e9 => ⟨?_, hok⟩, fun H' s2 i ps out t e v3 a1 a2 a3 a4 a5 a6 a7 => ?_⟩
        · obtain ⟨j, hj⟩ := not_full c e9
          exact ⟨j, sf_some hj, (List.getElem?_eq_some_iff.mp (fe_some hj)).1⟩
        · exact ⟨s2, i, ps, out, t, rfl, a1, a2, e, v3, a3, a4, a5, a6, (Ks.of s1).trans a7⟩
      rintro ⟨s2, i, ps, out, t, e, v3, rfl, a1, hS2, a3, a4, a5, a6, k2⟩
      obtain ⟨fi, fp, fl1, fl2, fm⟩ := a1.facts
      have hp2 : ∀ {c : Addr} {o : HO}, H c = some o → (∀ D d fs, o ≠ .ins D d fs) → c ≠ z.p := fun hc hn z9 => by rw [z9, h1] at hc; exact hn _ _ _ (Option.some.inj hc).symm
      have hl2 := k2 _ _ hl (hp2 hl (fun _ _ _ z => nomatch z)) (four_two hlf)
      have nlt : ∀ {c : Addr} {us : List V}, H c = some (.tup us) → c ∉ z.four := fun hc z9 => by obtain ⟨ws, h9⟩ := hS.fours _ z9; rw [hc] at h9; cases h9
      have hh2 := k2 _ _ hh (hp2 hh (fun _ _ _ z => nomatch z)) (four_two (nlt hh))
      walk_at "wp"
      intro sh sdx hsh hsdx hne
      have sm := same_make (o := .ins A.C_Sheet sdx []) hsh hsdx hne
      refine ⟨bs, sm _ _ hl2, k, sm _ _ hh2, fun bx hd G3 hbx hhd kp3 b1 b2 b3 => ?_⟩
      have s23 : Same G2 G3 := fun c o hc => kp3 c o (sm c o hc) (fun z => ne_of_none hc hsh (List.mem_singleton.mp z))
      have hS3 := hS2.same s23
      obtain ⟨dx9, h9⟩ := hS3.me
      obtain ⟨dx1, vs1, f1, f2, f3, f4⟩ := id hS3.fr
      have hvl := Paired.length f3
      have hil := (List.getElem?_eq_some_iff.mp fi).1
      have hbx2 := same_none sm hbx
      have hhd2 := same_none sm hhd
      have hbf := hS2.nf hbx2
      refine ⟨_, dx9, _, h9, T.cl_Sheets, T.na_Sheets_frames, _, ssF_frames, z.fp, rfl, _, dx1, _, f1, T.cl_Spots, T.na_Spots_lying, _, spF_lying, _, SqT.of (s23 _ _ a3), .int i, atI_nat (j := 0) rfl, z.ly, rfl, vs1, i, rfl, f2, i, ixn (by rw [hvl]; exact hil), ?_⟩
      have keep : ∀ {c : Addr} {o : HO}, G3 c = some o → c ∉ z.four → upd G3 z.ly (.lst (vs1.set i (.ref sh))) c = some o := fun hc hn => by rw [upd_ne (fun z9 => hn (by rw [z9]; exact la_four (f := true)))]; exact hc
      have nlt3 : ∀ {c : Addr} {us : List V}, G3 c = some (.tup us) → c ∉ z.four := fun hc z9 => by obtain ⟨ws, h9⟩ := hS3.fours _ z9; rw [hc] at h9; cases h9
      refine q _ s2 i ps out t e v3 ⟨bs, [k], sh, bx, hd⟩ a1 (hS3.set (f := true) (j := i) (r := some ⟨bs, [k], sh, bx, hd⟩) f2 ⟨rfl, ⟨sdx, b1⟩, b2, b3⟩ (fun q e => by cases e; exact hbf)) ?_ rfl rfl (keep (s23 _ _ a3) (nlt3 (s23 _ _ a3))) (keep (s23 _ _ a4) a6) ((a5.same s23).keep fun c us hc => ?_) a6 (ks_la (f := true) (k2.trans (Ks.of s23)))
      · have nin : hd ∉ hdS s2 := fun z9 => by obtain ⟨kvs, h8⟩ := hS2.hd _ z9; rw [hhd2] at h8; cases h8
        have : (hdS s2).Nodup := fp.nodup_iff.mpr hA
        unfold Ap
        show (hds (s2.fr.set i (some ⟨bs, [k], sh, bx, hd⟩) ++ s2.sr)).Nodup
        rw [hds_app]
        refine ((hds_fill (r := ⟨bs, [k], sh, bx, hd⟩) fi).append_right _).nodup_iff.mpr ?_
        have e8 : hdS s2 = hds s2.fr ++ hds s2.sr := hds_app
        rw [e8] at nin this
        exact List.nodup_cons.mpr ⟨nin, this⟩
      · rcases hc with hc | hc
        · rw [hc]; exact keep hc (nlt3 hc)
        · rw [hc.1]; exact keep hc.1 hc.2
    · rw [if_neg c] at q
      rw [if_pos (by unfold room at c; omega)]
      exact q H1 s1

theorem sh_ks {S : Addr} {H H' : Hp} {z : Ss} {s : St} {C dx : Addr} (e : H z.p = some (.ins C dx (ssF z.n z.fp z.sq s))) (k : Ks z H H') {v : V} {r : Sh} (hb : r.bx ∉ z.four) (n2 : ∀ c ∈ [z.ly, z.ls], ∃ us, H c = some (.lst us)) (h : ShAt S H v (some r)) : ShAt S H' v (some r) := by
  obtain ⟨a, ⟨d, h1⟩, h2, h3⟩ := h
  have np : ∀ {c : Addr} {o : HO}, H c = some o → (∀ D d fs, o = .ins D d fs → fs.lookup ("hand" : Str) = none) → c ≠ z.p := fun {c o} hc hn e9 => by
    rw [e9, e] at hc
    have := hn _ _ _ (Option.some.inj hc).symm
    rw [ssF_hand] at this
    cases this
  have nl : ∀ {c : Addr} {o : HO}, H c = some o → (∀ us, o ≠ .lst us) → c ∉ [z.ly, z.ls] := fun hc hn z9 => by obtain ⟨us, h9⟩ := n2 _ z9; rw [h9] at hc; exact hn _ (Option.some.inj hc).symm
  exact ⟨a, ⟨d, k _ _ h1 (np h1 fun _ _ _ z => by cases z; exact shF_no (by decide +kernel)) (nl h1 fun _ z => nomatch z)⟩, k _ _ h2 (np h2 fun _ _ _ z => nomatch z) (four_two hb), k _ _ h3 (np h3 fun _ _ _ z => nomatch z) (nl h3 fun _ z => nomatch z)⟩
theorem hds_swap {fr sr : List (Option Sh)} {i j : Nat} {q c : Sh} (hq : fr[i]? = some (some q)) (hc : sr[j]? = some (some c)) : (hds (fr.set i (some c) ++ sr.set j (some q))).Perm (hds (fr ++ sr)) := by
  rw [hds_app, hds_app]
  have a1 := hds_fill (rows := fr.set i none) (j := i) (r := c) (List.getElem?_set_self (List.getElem?_eq_some_iff.mp hq).1)
  have a2 := hds_fill (rows := sr.set j none) (j := j) (r := q) (List.getElem?_set_self (List.getElem?_eq_some_iff.mp hc).1)
  rw [List.set_set] at a1 a2
  refine (a1.append a2).trans (List.Perm.trans ?_ ((hds_take hq).append (hds_take hc)).symm)
  exact (List.Perm.cons _ List.perm_middle).trans ((List.Perm.swap ..).trans (List.Perm.cons _ List.perm_middle.symm))
def sp_back (C P S : Addr) : Sp := fun vs H Q _ => ∃ (z : Ss) (s : St) (j : Nat) (m : Addr) (ms : List Bool) (c : Sh), vs = [.ref z.p, .int j, .ref m] ∧ SsAt C P S H z s ∧ Ap s ∧ H m = some (.lst (ms.map V.bl)) ∧ ms.length = s.fr.length ∧ (∀ r, some r ∈ s.fr → Okh r) ∧ s.fr.findIdx? Option.isNone = none ∧ s.sr.findIdx? Option.isNone = none ∧ s.sr[j]? = some (some c) ∧
  ∀ H' i q ps t, Swp ms s.h i ps → s.fr[i]? = some (some q) → SsAt C P S H' z ⟨s.fr.set i (some c), s.sr.set j (some q), (i + 1) % s.fr.length, s.go + 1, s.ga + 1, s.cb + 1⟩ → Ap ⟨s.fr.set i (some c), s.sr.set j (some q), (i + 1) % s.fr.length, s.go + 1, s.ga + 1, s.cb + 1⟩ → Ks z H H' → Q (.ref t) H'
theorem h_back (T : Txt K mg A) : HaveM P w K mg base A.C_Sheets "back" 5 ["self", "slot", "marks"] [] (sp_back A.C_Sheets A.C_Spots A.C_Sheet) := by
  have H_Sheets_frame_for := h_ff (P := P) (w := w) (base := base) T
  refine T.r_Sheets_back.have sc_Sheets_back (fun vs H Q E z => ?_) ?_
  · obtain ⟨z, s, j, m, ms, c, rfl, _⟩ := z; rfl
  · intro f cdv A' outer s H vs Q E hr z
    obtain ⟨z, s, j, m, ms, c, rfl, hS, hA, hm, hml, hok, e1, e2, hc, q⟩ := z
    obtain ⟨dx, h1⟩ := hS.me
    obtain ⟨dx2, vs2, g1, g2, g3, g4⟩ := id hS.sl
    obtain ⟨v, hv1, hv2⟩ := prd_get2 g3 hc
    obtain ⟨rfl, _⟩ := id hv2
    have hjl := (List.getElem?_eq_some_iff.mp hc).1
    have hbc := hS.bx c (.inr (List.mem_of_getElem? hc))
    refine ⟨_, (pss_cons (ps_set (i := 3) sc_Sheets_back.nd rfl (Or.inl rfl) (pe_ix ix_list (pe_fld (pe_fld (pvM 0) rfl) rfl) (pvM 1) (fun _ _ => rfl)))
      (pss_cut (ps_set (i := 4) sc_Sheets_back.nd rfl (Or.inl rfl) (pe_methE (pvM 0) T.cl_Sheets H_Sheets_frame_for (hr.mono (by decide)) xw_def (pa_cons (pvM 1) (pa_cons (pvM 2) pa_nil))))
      (pss_cut (ps_asg (pvM 3) (pg_sub (pe_fld (pe_fld (pvM 0) rfl) rfl) (pe_ix ix_tup (pvM 4) pe_int (fun _ _ => rfl)) set_list))
      (pss_cut (ps_if (PW.pt (pw_or (pt_cmpR op_isN (pe_ix ix_tup (pvM 4) pe_int (fun _ _ => rfl)) pe_non (nomark _)) (pw_or1 (pt_cmpR op_ne (pe_ix ix_tup (pe_ix ix_tup (pvM 4) pe_int (fun _ _ => rfl)) pe_int (fun _ _ => rfl)) (pvM 1) (nomark _))))) (pss_cons (ps_asg pe_non (pg_sub (pe_fld (pe_fld (pvM 0) rfl) rfl) (pvM 1) set_list))
      (pss_cons (ps_asg (pe_ix ix_tup (pvM 4) pe_int (fun _ _ => rfl)) (pg_sub (pe_fld (pe_fld (pvM 0) rfl) rfl) (pvM 1) set_list))
      (pss_one (ps_asg (pvM 1) (pg_sub (pe_fld (pe_fld (pvM 0) rfl) rfl) (pe_ix ix_tup (pvM 4) pe_int (fun _ _ => rfl)) set_list))))) pss_nil)
      (pss_cons (ps_fld (pvM 0) (pe_op op_add (pe_fld (pvM 0) rfl) pe_int) rfl)
      (pss_one (ps_ret (pvM 4)))))))), ?_⟩
    walk_at "wp"
    simp only [h1]
    walk_at "wp"
    refine ⟨T.cl_Sheets, T.na_Sheets_slots, _, ssF_slots, z.sq, rfl, _, dx2, _, g1, T.cl_Spots, T.na_Spots_lying, _, spF_lying, z.ls, rfl, _, SqL.of g2, _, atI_nat hv1, ?_⟩
    refine ⟨fun σ G => ∃ i r ps t e o, σ = [some (.ref z.p), some (.int j), some (.ref m), some (.ref c.sh), some (.ref t)] ∧ Swp ms s.h i ps ∧ s.fr[i]? = some (some r) ∧ SsAt A.C_Sheets A.C_Spots A.C_Sheet G z ⟨s.fr.set i none, s.sr.set j (some r), (i + 1) % s.fr.length, s.go + 1, s.ga + 1, s.cb⟩ ∧ G t = some (.tup [.int (i : Int), .ref e, .ref o]) ∧ (∃ l, G o = some (.tup [.int (j : Int), .ref l])) ∧ Ks z H G, ?_, fun σ2 G2 => ?_⟩
    · walk_at "wp"
      refine ⟨dx, _, h1, ssF_no (by decide +kernel), z, s, .int j, m, ms, rfl, hS, hm, hml, fun _ => ⟨⟨j, sf_none e2, hjl⟩, hok⟩, fun H' s1 i ps out t e v3 a1 a2 a3 a4 a5 a6 a7 => ?_⟩
      rcases a1 with ⟨b1, _⟩ | ⟨_, r, j', b1, b2, b3, b4, rfl, rfl⟩
      · rw [e1] at b1; cases b1
      · rw [sf_none e2] at b3
        have : (j : Int) = j' := V.int.inj b3
        obtain rfl : j = j' := by omega
        obtain ⟨o, l, rfl, d1, _⟩ := a5
        exact ⟨i, r, ps, t, rfl, b1, b2, a2, e, o, a3, ⟨l, d1⟩, a7⟩
    rintro ⟨i, r, ps, t, e, o, rfl, hsw, hri, hS2, ht2, ⟨l, ho2⟩, k2⟩
    have hil := (List.getElem?_eq_some_iff.mp hri).1
    have two : ∀ c ∈ [z.ly, z.ls], ∃ us, H c = some (.lst us) := fun c hc => hS.fours c (by
      unfold Ss.four
      simp only [List.mem_cons, List.not_mem_nil, or_false] at hc ⊢
      rcases hc with h | h
      · exact .inl h
      · exact .inr (.inr (.inl h)))
    have sh2 := sh_ks h1 k2 hbc two hv2
    refine ⟨fun σ G => σ = [some (.ref z.p), some (.int j), some (.ref m), some (.ref c.sh), some (.ref t)] ∧ SsAt A.C_Sheets A.C_Spots A.C_Sheet G z ⟨s.fr.set i (some c), s.sr.set j (some r), (i + 1) % s.fr.length, s.go + 1, s.ga + 1, s.cb⟩ ∧ G t = some (.tup [.int (i : Int), .ref e, .ref o]) ∧ G o = some (.tup [.int (j : Int), .ref l]) ∧ Ks z H G, ?_, fun σ3 G3 => ?_⟩
    · obtain ⟨dx9, h9⟩ := hS2.me
      obtain ⟨dx8, vs8, e1, e2, e3, e4⟩ := id hS2.fr
      have l8 := Paired.length e3
      rw [List.length_set] at l8
      walk_at "wp"
      refine ⟨_, dx9, _, h9, T.cl_Sheets, T.na_Sheets_frames, _, ssF_frames, z.fp, rfl, _, dx8, _, e1, T.cl_Spots, T.na_Spots_lying, _, spF_lying, _, SqT.of ht2, .int i, atI_nat (j := 0) rfl, z.ly, rfl, vs8, i, rfl, e2, i, ixn (by rw [l8]; exact hil), ?_⟩
      have hS3 := hS2.set (f := true) (j := i) (r := some c) e2 sh2 (fun q e => by cases e; exact hbc)
      rw [show (St.put ⟨s.fr.set i none, s.sr.set j (some r), (i + 1) % s.fr.length, s.go + 1, s.ga + 1, s.cb⟩ true i (some c)) = ⟨s.fr.set i (some c), s.sr.set j (some r), (i + 1) % s.fr.length, s.go + 1, s.ga + 1, s.cb⟩ by show St.mk ((s.fr.set i none).set i (some c)) _ _ _ _ _ = _; rw [List.set_set]] at hS3
      exact ⟨hS3, by rw [upd_ne (ne_of ht2 e2 (fun z => nomatch z))]; exact ht2, by rw [upd_ne (ne_of ho2 e2 (fun z => nomatch z))]; exact ho2, ks_la (f := true) k2⟩
    rintro ⟨rfl, hS3, ht3, ho3, k3⟩
    refine ⟨fun σ G => σ = [some (.ref z.p), some (.int j), some (.ref m), some (.ref c.sh), some (.ref t)] ∧ G = G3, ?_, fun σ4 G4 => ?_⟩
    · walk_at "wp"
      refine ⟨_, SqT.of ht3, .ref o, atI_nat (j := 2) rfl, ?_⟩
      rw [if_neg (fun z => nomatch z)]
      refine ⟨_, SqT.of ht3, .ref o, atI_nat (j := 2) rfl, o, rfl, _, SqT.of ho3, .int j, atI_nat (j := 0) rfl, rfl, ?_⟩
      exact ifn (by simp) trivial
    rintro ⟨rfl, rfl⟩
    obtain ⟨dx9, h9⟩ := hS3.me
    walk_at "wp"
    refine ⟨_, dx9, _, h9, T.cl_Sheets, T.na_Sheets_come_back, _, ssF_back, s.cb, rfl, _, dx9, _, h9, T.cl_Sheets, T.na_Sheets_come_back, by show 7 < 1000; decide, ?_⟩
    rw [ssF_pc]
    refine q _ i r ps t hsw hri (hS3.num h9 rfl rfl hS3.hh) ?_ (ks_num k3)
    exact (hds_swap hri hc).nodup_iff.mpr hA

theorem hds_clr : ∀ {rows : List (Option Sh)} {j : Nat}, (hds (rows.set j none)).Sublist (hds rows)
  | [], _ => List.Sublist.refl _
  | x :: l, 0 => by
    cases x with
    | none => exact List.Sublist.refl _
    | some y => exact List.Sublist.cons _ (List.Sublist.refl _)
  | x :: l, j + 1 => by
    cases x with
    | none => exact hds_clr (rows := l) (j := j)
    | some y => exact List.Sublist.cons₂ _ (hds_clr (rows := l) (j := j))
theorem hds_ne : ∀ {rows : List (Option Sh)} {i j : Nat} {r r' : Sh}, (hds rows).Nodup → rows[j]? = some (some r) → rows[i]? = some (some r') → i ≠ j → r'.hd ≠ r.hd
  | [], _, _, _, _, _, h, _, _ => by simp at h
  | x :: l, 0, 0, _, _, _, _, _, h => absurd rfl h
  | x :: l, 0, j + 1, r, r', nd, h1, h2, _ => by
    simp at h1 h2
    subst h2
    have nd : (r'.hd :: hds l).Nodup := nd
    exact fun e => (List.nodup_cons.mp nd).1 (hds_mem.mpr ⟨r, List.mem_of_getElem? h1, e.symm⟩)
  | x :: l, i + 1, 0, r, r', nd, h1, h2, _ => by
    simp at h1 h2
    subst h1
    have nd : (r.hd :: hds l).Nodup := nd
    exact fun e => (List.nodup_cons.mp nd).1 (hds_mem.mpr ⟨r', List.mem_of_getElem? h2, e⟩)
  | x :: l, i + 1, j + 1, r, r', nd, h1, h2, hn => by
    have nd : (hds l).Nodup := by
      cases x with
      | none => exact nd
      | some y => exact (List.nodup_cons.mp (show (y.hd :: hds l).Nodup from nd)).2
    exact hds_ne nd (by simpa using h1) (by simpa using h2) (by omega)

def sp_la (C P S : Addr) : Sp := fun vs H Q _ => ∃ (z : Ss) (s : St) (t : Addr) (f : Bool) (j : Nat) (r : Option Sh), vs = [.ref z.p, .ref t] ∧ SsAt C P S H z s ∧ H t = some (.tup [.str (nmS f), .int j]) ∧ (s.rw f)[j]? = some r ∧ ∀ v, ShAt S H v r → Q v H
theorem h_la (T : Txt K mg A) : HaveM P w K mg base A.C_Sheets "lying_at" 1 ["self", "spot"] [] (sp_la A.C_Sheets A.C_Spots A.C_Sheet) := by
  refine T.r_Sheets_lying_at.have sc_Sheets_lying_at (fun vs H Q E z => ?_) ?_
  · obtain ⟨z, s, t, f, j, r, rfl, _⟩ := z; rfl
  · intro f cdv A' outer s H vs Q E hr z
    obtain ⟨z, s, t, f, j, r, rfl, hS, ht, hrj, q⟩ := z
    obtain ⟨dx, h1⟩ := hS.me
    refine ⟨_, (pss_cons (ps_set (i := 2) sc_Sheets_lying_at.nd rfl (Or.inl rfl) (pe_ifExp (pt_cmpR op_eq (pe_ix ix_tup (pvM 1) pe_int (fun _ _ => rfl)) pe_str (nomark _)) (pe_fld (pvM 0) rfl) (pe_fld (pvM 0) rfl)))
      (pss_one (ps_ret (pe_ix ix_list (pe_fld (pvM 2) rfl) (pe_ix ix_tup (pvM 1) pe_int (fun _ _ => rfl)) (fun _ _ => rfl))))), ?_⟩
    walk_at "wp"
    simp only [h1]
    walk_at "wp"
    obtain ⟨dx1, vs1, f1, f2, f3, f4⟩ := id hS.fr
    obtain ⟨dx2, vs2, g1, g2, g3, g4⟩ := id hS.sl
    refine ⟨_, SqT.of ht, _, rfl, rfl, ?_⟩
    cases f with
    | true =>
      rw [if_pos (show V.str (nmS true) = V.str (Str.ofString "frame") from rfl)]
      obtain ⟨v, hv1, hv2⟩ := prd_get2 f3 hrj
      exact ⟨T.cl_Sheets, T.na_Sheets_frames, _, ssF_frames, z.fp, rfl, _, dx1, _, f1, T.cl_Spots, T.na_Spots_lying, _, spF_lying, _, SqT.of ht, _, rfl, z.ly, rfl, _, j, rfl, SqL.of f2, v, atI_nat hv1, q v hv2⟩
    | false =>
      rw [if_neg (by decide +kernel)]
      obtain ⟨v, hv1, hv2⟩ := prd_get2 g3 hrj
      exact ⟨T.cl_Sheets, T.na_Sheets_slots, _, ssF_slots, z.sq, rfl, _, dx2, _, g1, T.cl_Spots, T.na_Spots_lying, _, spF_lying, _, SqT.of ht, _, rfl, z.ls, rfl, _, j, rfl, SqL.of g2, v, atI_nat hv1, q v hv2⟩
def sp_me (C P S : Addr) : Sp := fun vs H Q _ => ∃ (z : Ss) (s : St) (t : Addr) (f : Bool) (j : Nat), vs = [.ref z.p, .ref t] ∧ SsAt C P S H z s ∧ H t = some (.tup [.str (nmS f), .int j]) ∧ j < (s.rw f).length ∧ ∀ H', SsAt C P S H' z (s.put f j none) → Ks z H H' → Q .non H'
theorem h_me (T : Txt K mg A) : HaveM P w K mg base A.C_Sheets "make_empty" 2 ["self", "spot"] [] (sp_me A.C_Sheets A.C_Spots A.C_Sheet) := by
  have H_Sheets_lose_twin := h_lose (P := P) (w := w) (base := base) T
  refine T.r_Sheets_make_empty.have sc_Sheets_make_empty (fun vs H Q E z => ?_) ?_
  · obtain ⟨z, s, t, f, j, rfl, _⟩ := z; rfl
  · intro f cdv A' outer s H vs Q E hr z
    obtain ⟨z, s, t, f, j, rfl, hS, ht, hj, q⟩ := z
    obtain ⟨dx, h1⟩ := hS.me
    refine ⟨_, (pss_one (ps_if (pt_cmpR op_eq (pe_ix ix_tup (pvM 1) pe_int (fun _ _ => rfl)) pe_str (nomark _)) (pss_cons (ps_asg pe_non (pg_sub (pe_fld (pe_fld (pvM 0) rfl) rfl) (pe_ix ix_tup (pvM 1) pe_int (fun _ _ => rfl)) set_list))
      (pss_one (ps_expr (pe_methE (pvM 0) T.cl_Sheets H_Sheets_lose_twin (hr.mono (by decide)) xw_def (pa_cons (pe_ix ix_tup (pvM 1) pe_int (fun _ _ => rfl)) pa_nil))))) (pss_one (ps_asg pe_non (pg_sub (pe_fld (pe_fld (pvM 0) rfl) rfl) (pe_ix ix_tup (pvM 1) pe_int (fun _ _ => rfl)) set_list))))), ?_⟩
    walk_at "wp"
    simp only [h1]
    walk_at "wp"
    obtain ⟨dx1, vs1, f1, f2, f3, f4⟩ := id hS.fr
    obtain ⟨dx2, vs2, g1, g2, g3, g4⟩ := id hS.sl
    have l1 := Paired.length f3
    have l2 := Paired.length g3
    refine ⟨_, SqT.of ht, _, rfl, rfl, ?_⟩
    cases f with
    | true =>
      rw [if_pos (show V.str (nmS true) = V.str (Str.ofString "frame") from rfl)]
      have hj : j < s.fr.length := hj
      have hS2 := hS.set (f := true) (j := j) (r := none) f2 rfl (fun q e => nomatch e)
      obtain ⟨dx9, h9⟩ := hS2.me
      have ht2 : upd H z.ly (.lst (vs1.set j .non)) t = some (.tup [.str (nmS true), .int (j : Int)]) := by rw [upd_ne (ne_of ht f2 (fun z => nomatch z))]; exact ht
      refine ⟨T.cl_Sheets, T.na_Sheets_frames, _, ssF_frames, z.fp, rfl, _, dx1, _, f1, T.cl_Spots, T.na_Spots_lying, _, spF_lying, _, SqT.of ht, _, rfl, z.ly, rfl, vs1, j, rfl, f2, j, ixn (by rw [l1]; exact hj), dx9, _, h9, ssF_no (by decide +kernel), _, SqT.of ht2, _, rfl, z, _, j, rfl, hS2, by show j < (s.fr.set j none).length; rw [List.length_set]; exact hj, q _ hS2 (ks_la (f := true) (Ks.of same_refl))⟩
    | false =>
      rw [if_neg (by decide +kernel)]
      have hj : j < s.sr.length := hj
      have hS2 := hS.set (f := false) (j := j) (r := none) g2 rfl (fun q e => nomatch e)
      exact ⟨T.cl_Sheets, T.na_Sheets_slots, _, ssF_slots, z.sq, rfl, _, dx2, _, g1, T.cl_Spots, T.na_Spots_lying, _, spF_lying, _, SqT.of ht, _, rfl, z.ls, rfl, vs2, j, rfl, g2, j, ixn (by rw [l2]; exact hj), q _ hS2 (ks_la (f := false) (Ks.of same_refl))⟩
theorem ly_hd {S hd : Addr} {H : Hp} {kvs : List (List Key × V)} {o : HO} (hl : H hd = some (.dT kvs)) {vs : List V} {rows : List (Option Sh)} (h : LyAt S H vs rows) (hb : ∀ r, some r ∈ rows → r.hd ≠ hd) : LyAt S (upd H hd o) vs rows := by
  induction h with
  | nil => exact .nil
  | @cons x y _ _ h t ih =>
    refine .cons ?_ (ih fun r hr => hb r (List.mem_cons_of_mem _ hr))
    cases y with
    | none => exact h
    | some r =>
      obtain ⟨e, ⟨dx, h1⟩, h2, h3⟩ := h
      exact ⟨e, ⟨dx, by rw [upd_ne (ne_of h1 hl (fun z => nomatch z))]; exact h1⟩, by rw [upd_ne (ne_of h2 hl (fun z => nomatch z))]; exact h2, by rw [upd_ne (hb r (List.mem_cons_self ..))]; exact h3⟩
theorem ly_ks {S : Addr} {H : Hp} {r : Sh} {kvs : List (List Key × V)} {ks : List (List Key)} (hl : H r.hd = some (.dT kvs)) {vs : List V} {rows : List (Option Sh)} (h : LyAt S H vs rows) : ∀ {j : Nat}, rows[j]? = some (some r) → (∀ (i : Nat) q, i ≠ j → rows[i]? = some (some q) → q.hd ≠ r.hd) → LyAt S (upd H r.hd (.dT (ksD ks))) vs (rows.set j (some { r with ks := ks })) := by
  induction h with
  | nil => intro j h _; simp at h
  | @cons x y xs ys h t ih =>
    intro j hj hb
    cases j with
    | zero =>
      simp at hj
      subst hj
      obtain ⟨e, ⟨dx, h1⟩, h2, h3⟩ := h
      refine .cons ⟨e, ⟨dx, by rw [upd_ne (ne_of h1 hl (fun z => nomatch z))]; exact h1⟩, by rw [upd_ne (ne_of h2 hl (fun z => nomatch z))]; exact h2, upd_same⟩ (ly_hd hl t fun q hq => ?_)
      obtain ⟨i, hi⟩ := List.mem_iff_getElem?.mp hq
      exact hb (i + 1) q (by omega) (by simpa using hi)
    | succ j =>
      refine .cons ?_ (ih (by simpa using hj) fun i q hi hq => hb (i + 1) q (by omega) (by simpa using hq))
      cases y with
      | none => exact h
      | some r9 =>
        obtain ⟨e, ⟨dx, h1⟩, h2, h3⟩ := h
        exact ⟨e, ⟨dx, by rw [upd_ne (ne_of h1 hl (fun z => nomatch z))]; exact h1⟩, by rw [upd_ne (ne_of h2 hl (fun z => nomatch z))]; exact h2, by rw [upd_ne (hb 0 r9 (by omega) rfl)]; exact h3⟩
theorem hds_ks : ∀ {rows : List (Option Sh)} {j : Nat} {r r' : Sh}, rows[j]? = some (some r) → r'.hd = r.hd → hds (rows.set j (some r')) = hds rows
  | [], _, _, _, h, _ => by simp at h
  | x :: l, 0, r, r', h, e => by
    simp at h
    subst h
    show r'.hd :: hds l = r.hd :: hds l
    rw [e]
  | x :: l, j + 1, r, r', h, e => by
    have := hds_ks (rows := l) (j := j) (by simpa using h) e
    cases x with
    | none => exact this
    | some y => exact congrArg (y.hd :: ·) this
theorem ap_ks {s : St} {f : Bool} {j : Nat} {r r' : Sh} (h : Ap s) (hr : (s.rw f)[j]? = some (some r)) (e : r'.hd = r.hd) : Ap (s.put f j (some r')) := by
  unfold Ap at *
  cases f with
  | true => show (hds (s.fr.set j (some r') ++ s.sr)).Nodup; rw [hds_app, hds_ks (rows := s.fr) hr e, ← hds_app]; exact h
  | false => show (hds (s.fr ++ s.sr.set j (some r'))).Nodup; rw [hds_app, hds_ks (rows := s.sr) hr e, ← hds_app]; exact h
theorem ap_none {s : St} {f : Bool} {j : Nat} (h : Ap s) : Ap (s.put f j none) := by
  unfold Ap at *
  rw [hds_app] at h
  cases f with
  | true => show (hds (s.fr.set j none ++ s.sr)).Nodup; rw [hds_app]; exact h.sublist (List.Sublist.append_right hds_clr _)
  | false => show (hds (s.fr ++ s.sr.set j none)).Nodup; rw [hds_app]; exact h.sublist (List.Sublist.append_left hds_clr _)
theorem SsAt.ks {C P S : Addr} {H : Hp} {z : Ss} {s : St} {f : Bool} {j : Nat} {r : Sh} {ks : List (List Key)} (h : SsAt C P S H z s) (hA : Ap s) (hr : (s.rw f)[j]? = some (some r)) (hl : H r.hd = some (.dT (ksD r.ks))) : SsAt C P S (upd H r.hd (.dT (ksD ks))) z (s.put f j (some { r with ks := ks })) := by
  obtain ⟨dx, h1⟩ := h.me
  obtain ⟨dx1, vs1, f1, f2, f3, f4⟩ := id h.fr
  obtain ⟨dx2, vs2, g1, g2, g3, g4⟩ := id h.sl
  have np : ∀ {c o}, H c = some o → (∀ us, o ≠ .dT us) → upd H r.hd (.dT (ksD ks)) c = some o := fun {c o} hc ho => by rw [upd_ne (fun z => by rw [z, hl] at hc; exact ho _ (Option.some.inj hc).symm)]; exact hc
  have bx2 : ∀ q, some q ∈ (s.put f j (some { r with ks := ks })).fr ∨ some q ∈ (s.put f j (some { r with ks := ks })).sr → q.bx ∉ z.four := fun q hq => (mem_put hq).elim (fun e => by
    cases e
    refine h.bx r ?_
    cases f with
    | true => exact .inl (List.mem_of_getElem? hr)
    | false => exact .inr (List.mem_of_getElem? hr)) (h.bx q)
  unfold Ap at hA
  rw [hds_app] at hA
  obtain ⟨m1, m2, m3⟩ := List.nodup_append.mp hA
  cases f with
  | true =>
    have hr : s.fr[j]? = some (some r) := hr
    have f4 := np f4 (fun _ z => nomatch z)
    have len := h.len
    have hh := h.hh
    rw [← List.length_set (as := s.fr) (i := j) (a := some { r with ks := ks })] at f4 len hh
    exact ⟨⟨dx, np h1 (fun _ z => nomatch z)⟩, ⟨dx1, vs1, np f1 (fun _ z => nomatch z), np f2 (fun _ z => nomatch z), ly_ks hl f3 hr (fun i q hi hq => hds_ne m1 hr hq hi), f4⟩, ⟨dx2, vs2, np g1 (fun _ z => nomatch z), np g2 (fun _ z => nomatch z), ly_hd hl g3 (fun q hq e => m3 r.hd (hds_mem.mpr ⟨r, List.mem_of_getElem? hr, rfl⟩) q.hd (hds_mem.mpr ⟨q, hq, rfl⟩) e.symm), np g4 (fun _ z => nomatch z)⟩, h.n4, bx2, len, hh⟩
  | false =>
    have hr : s.sr[j]? = some (some r) := hr
    have g4 := np g4 (fun _ z => nomatch z)
    have len := h.len
    rw [← List.length_set (as := s.sr) (i := j) (a := some { r with ks := ks })] at g4 len
    exact ⟨⟨dx, np h1 (fun _ z => nomatch z)⟩, ⟨dx1, vs1, np f1 (fun _ z => nomatch z), np f2 (fun _ z => nomatch z), ly_hd hl f3 (fun q hq e => m3 q.hd (hds_mem.mpr ⟨q, hq, rfl⟩) r.hd (hds_mem.mpr ⟨r, List.mem_of_getElem? hr, rfl⟩) e), np f4 (fun _ z => nomatch z)⟩, ⟨dx2, vs2, np g1 (fun _ z => nomatch z), np g2 (fun _ z => nomatch z), ly_ks hl g3 hr (fun i q hi hq => hds_ne m2 hr hq hi), g4⟩, h.n4, bx2, len, h.hh⟩
theorem put_put {s : St} {f : Bool} {j : Nat} {a b : Option Sh} : (s.put f j a).put f j b = s.put f j b := by
  cases f with
  | true => show St.mk ((s.fr.set j a).set j b) s.sr s.h s.go s.ga s.cb = St.mk (s.fr.set j b) s.sr s.h s.go s.ga s.cb; rw [List.set_set]
  | false => show St.mk s.fr ((s.sr.set j a).set j b) s.h s.go s.ga s.cb = St.mk s.fr (s.sr.set j b) s.h s.go s.ga s.cb; rw [List.set_set]
theorem rw_put {s : St} {f : Bool} {j : Nat} {a : Option Sh} : ((s.put f j a).rw f).length = (s.rw f).length := by
  cases f with
  | true => exact List.length_set
  | false => exact List.length_set
def offK (ks : List (List Key)) (k : List Key) : List (List Key) := ks.filter fun x => decide (x ≠ k)
theorem drop_ks {ks : List (List Key)} {k : List Key} : dropK (ksD ks) k = ksD (offK ks k) := by
  unfold dropK ksD offK
  rw [List.filter_map]
  rfl
theorem val_ks {ks : List (List Key)} {k : List Key} (h : k ∈ ks) : valV (ksD ks) k = some (.bl true) := by
  induction ks with
  | nil => cases h
  | cons x r ih =>
    show valV ((x, V.bl true) :: ksD r) k = _
    by_cases c : x = k
    · exact valV_pos c
    · rw [valV_neg c]
      rcases List.mem_cons.mp h with e | e
      · exact absurd e.symm c
      · exact ih e
def gone (s : St) (f : Bool) (j : Nat) (r : Sh) (k : List Key) : St := if offK r.ks k = [] then s.put f j none else s.put f j (some { r with ks := offK r.ks k })
def sp_lg (C P S : Addr) : Sp := fun vs H Q _ => ∃ (z : Ss) (s : St) (t h : Addr) (f : Bool) (j : Nat) (r : Sh) (k : List Key), vs = [.ref z.p, .ref t, .ref h] ∧ SsAt C P S H z s ∧ Ap s ∧ H t = some (.tup [.str (nmS f), .int j]) ∧ (s.rw f)[j]? = some (some r) ∧ H h = some (.tup (k.map kV)) ∧ k ∈ r.ks ∧
  ∀ H', SsAt C P S H' z (gone s f j r k) → Ap (gone s f j r k) → Kd z H H' → Q .non H'
theorem h_lg (T : Txt K mg A) : HaveM P w K mg base A.C_Sheets "let_go" 3 ["self", "spot", "holder"] [] (sp_lg A.C_Sheets A.C_Spots A.C_Sheet) := by
  have H_Sheets_lying_at := h_la (P := P) (w := w) (base := base) T
  have H_Sheets_make_empty := h_me (P := P) (w := w) (base := base) T
  refine T.r_Sheets_let_go.have sc_Sheets_let_go (fun vs H Q E z => ?_) ?_
  · obtain ⟨z, s, t, h, f, j, r, k, rfl, _⟩ := z; rfl
  · intro f cdv A' outer s H vs Q E hr z
    obtain ⟨z, s, t, h, f, j, r, k, rfl, hS, hA, ht, hrj, hh, hk, q⟩ := z
    obtain ⟨dx, h1⟩ := hS.me
    refine ⟨_, (pss_cons (ps_set (i := 3) sc_Sheets_let_go.nd rfl (Or.inl rfl) (pe_methE (pvM 0) T.cl_Sheets H_Sheets_lying_at (hr.mono (by decide)) xw_def (pa_cons (pvM 1) pa_nil)))
      (pss_cons (ps_expr (pe_dpopT (hu_of hr) (pe_fld (pvM 3) rfl) (pvM 2) ⟨rfl, rfl, rfl, rfl⟩))
      (pss_one (ps_if (pt_cmpR op_eq (pe_callB call_lenDT rfl T.b_len PySem.boot_len (pa_cons (pe_fld (pvM 3) rfl) pa_nil)) pe_int (nomark _)) (pss_one (ps_expr (pe_methE (pvM 0) T.cl_Sheets H_Sheets_make_empty (hr.mono (by decide)) xw_def (pa_cons (pvM 1) pa_nil)))) pss_nil)))), ?_⟩
    unfold sp_la tDPopT
    walk_at "wp"
    simp only [h1]
    walk_at "wp"
    refine ⟨ssF_no (by decide +kernel), z, rfl, s, hS, f, j, ht, _, hrj, fun v hv => ?_⟩
    obtain ⟨rfl, ⟨dx2, g1⟩, g2, g3⟩ := hv
    have hS2 := hS.ks (ks := offK r.ks k) hA hrj g3
    have np : ∀ {c o}, H c = some o → (∀ us, o ≠ .dT us) → upd H r.hd (.dT (ksD (offK r.ks k))) c = some o := fun {c o} hc ho => by rw [upd_ne (fun z => by rw [z, g3] at hc; exact ho _ (Option.some.inj hc).symm)]; exact hc
    have k2 : Kd z H (upd H r.hd (.dT (ksD (offK r.ks k)))) := fun c o hc _ _ hn => np hc hn
    refine ⟨r.sh, rfl, _, dx2, _, g1, T.cl_Sheet, T.na_Sheet_holders, _, shF_holders, r.hd, rfl, .inr ⟨_, .inl g3⟩, _, g3, k, hh, .bl true, val_ks hk, ?_⟩
    rw [drop_ks]
    refine ⟨r.sh, rfl, _, dx2, _, np g1 (fun _ z => nomatch z), T.cl_Sheet, T.na_Sheet_holders, _, shF_holders, r.hd, rfl, _, upd_same, ?_⟩
    have hA2 := ap_ks (r' := { r with ks := offK r.ks k }) hA hrj rfl
    have ht2 := np ht (fun _ z => nomatch z)
    have hjl := (List.getElem?_eq_some_iff.mp hrj).1
    unfold gone at q
    by_cases c : offK r.ks k = []
    · rw [if_pos c] at q
      rw [c] at hS2 ht2 hA2 k2 ⊢
      rw [if_pos (show (((ksD []).length : Nat) : Int) = 0 from rfl)]
      obtain ⟨dx9, h9⟩ := hS2.me
      refine ⟨dx9, _, h9, ssF_no (by decide +kernel), z, _, t, f, j, rfl, hS2, ht2, by rw [rw_put]; exact hjl, fun H' hS3 k3 => ?_⟩
      rw [put_put] at hS3
      exact q H' hS3 (ap_none hA) (k2.trans k3.kd)
    · rw [if_neg c] at q
      have hl0 : (ksD (offK r.ks k)).length = (offK r.ks k).length := by unfold ksD; rw [List.length_map]
      have := List.length_pos_iff.mpr c
      rw [if_neg (by omega)]
      exact q _ hS2 hA2 k2

def sp_sat (C P S : Addr) : Sp := fun vs H Q _ => ∃ (z : Ss) (s : St) (t : Addr) (f : Bool) (j : Nat) (r : Option Sh), vs = [.ref z.p, .ref t] ∧ SsAt C P S H z s ∧ H t = some (.tup [.str (nmS f), .int j]) ∧ (s.rw f)[j]? = some r ∧ (r = none → Q .non H) ∧ ∀ q, r = some q → ∀ l, H l = none → Q (.ref l) (upd H l (.lst (q.b.map V.int)))
theorem h_sat (T : Txt K mg A) : HaveM P w K mg base A.C_Sheets "sheet_at" 2 ["self", "spot"] [] (sp_sat A.C_Sheets A.C_Spots A.C_Sheet) := by
  have H_Sheets_lying_at := h_la (P := P) (w := w) (base := base) T
  refine T.r_Sheets_sheet_at.have sc_Sheets_sheet_at (fun vs H Q E z => ?_) ?_
  · obtain ⟨z, s, t, f, j, r, rfl, _⟩ := z; rfl
  · intro f cdv A' outer s H vs Q E hr z
    obtain ⟨z, s, t, f, j, r, rfl, hS, ht, hrj, q1, q2⟩ := z
    obtain ⟨dx, h1⟩ := hS.me
    refine ⟨_, (pss_cons (ps_set (i := 2) sc_Sheets_sheet_at.nd rfl (Or.inl rfl) (pe_methE (pvM 0) T.cl_Sheets H_Sheets_lying_at (hr.mono (by decide)) xw_def (pa_cons (pvM 1) pa_nil)))
      (pss_one (ps_ret (pe_ifExp (pt_cmpR op_isN (pvM 2) pe_non (nomark _)) pe_non (pe_callTy call_list_of rfl T.b_list PyProof.Rows.boot_list (pa_cons (pe_fld (pvM 2) rfl) pa_nil)))))), ?_⟩
    unfold sp_la
    walk_at "wp"
    simp only [h1]
    walk_at "wp"
    refine ⟨ssF_no (by decide +kernel), z, rfl, s, hS, f, j, ht, _, hrj, fun v hv => ?_⟩
    cases r with
    | none =>
      obtain rfl : v = .non := hv
      rw [if_pos rfl]
      exact q1 rfl
    | some r =>
      obtain ⟨rfl, ⟨dx2, g1⟩, g2, g3⟩ := hv
      rw [if_neg (fun z => nomatch z)]
      exact ⟨r.sh, rfl, _, dx2, _, g1, T.cl_Sheet, T.na_Sheet_boxes, _, shF_boxes, r.bx, rfl, _, .inl (SqL.of g2), q2 r rfl⟩
def sp_ho (C P S : Addr) : Sp := fun vs H Q _ => ∃ (z : Ss) (s : St) (t : Addr) (f : Bool) (j : Nat) (r : Option Sh), vs = [.ref z.p, .ref t] ∧ SsAt C P S H z s ∧ H t = some (.tup [.str (nmS f), .int j]) ∧ (s.rw f)[j]? = some r ∧ (∀ q, r = some q → Okh q) ∧ ∀ l H', H l = none → Same H H' → TdK H' l (match r with | none => [] | some q => srt q.ks) → Q (.ref l) H'
theorem h_ho (T : Txt K mg A) : HaveM P w K mg base A.C_Sheets "holders_of" 2 ["self", "spot"] [] (sp_ho A.C_Sheets A.C_Spots A.C_Sheet) := by
  have H_Sheets_lying_at := h_la (P := P) (w := w) (base := base) T
  have H_Sheet_told_holders := h_told (P := P) (w := w) (base := base) T
  refine T.r_Sheets_holders_of.have sc_Sheets_holders_of (fun vs H Q E z => ?_) ?_
  · obtain ⟨z, s, t, f, j, r, rfl, _⟩ := z; rfl
  · intro f cdv A' outer s H vs Q E hr z
    obtain ⟨z, s, t, f, j, r, rfl, hS, ht, hrj, hok, q⟩ := z
    obtain ⟨dx, h1⟩ := hS.me
    refine ⟨_, (pss_cons (ps_set (i := 2) sc_Sheets_holders_of.nd rfl (Or.inl rfl) (pe_methE (pvM 0) T.cl_Sheets H_Sheets_lying_at (hr.mono (by decide)) xw_def (pa_cons (pvM 1) pa_nil)))
      (pss_one (ps_ret (pe_ifExp (pt_cmpR op_isN (pvM 2) pe_non (nomark _)) (pe_lst pa_nil) (pe_methE0 (pvM 2) T.cl_Sheet H_Sheet_told_holders (hr.mono (by decide)) xw_def))))), ?_⟩
    unfold sp_la sp_told
    walk_at "wp"
    simp only [h1]
    walk_at "wp"
    refine ⟨ssF_no (by decide +kernel), z, rfl, s, hS, f, j, ht, _, hrj, fun v hv => ?_⟩
    cases r with
    | none =>
      obtain rfl : v = .non := hv
      rw [if_pos rfl]
      exact fun l hl => q l _ hl (same_upd same_refl hl) ⟨[], upd_same, .nil⟩
    | some r =>
      obtain ⟨rfl, ⟨dx2, g1⟩, g2, g3⟩ := id hv
      rw [if_neg (fun z => nomatch z)]
      exact ⟨r.sh, rfl, dx2, _, g1, shF_no (by decide +kernel), r, hv, hok r rfl, q⟩
def RwT (H : Hp) (xs : List Addr) (v : V) : Option Sh → Prop
  | none => v = .non
  | some r => ∃ t bl hl, v = .ref t ∧ H t = some (.tup [.ref bl, .ref hl, .non]) ∧ H bl = some (.lst (r.b.map V.int)) ∧ TdK H hl (srt r.ks) ∧ bl ∉ xs ∧ hl ∉ xs
theorem RwT.keep {H H' : Hp} {xs : List Addr} (hx : ∀ x ∈ xs, ∃ us, H x = some (.lst us)) (k : ∀ c o, H c = some o → c ∉ xs → (∀ kvs, o ≠ .dT kvs) → H' c = some o) {v : V} : ∀ {r : Option Sh}, RwT H xs v r → RwT H' xs v r
  | none, h => h
  | some _, ⟨t, bl, hl, e, h1, h2, ⟨us, h3, h4⟩, n1, n2⟩ => by
    have nt : ∀ {c us}, H c = some (.tup us) → c ∉ xs := fun {c us} hc z => by
      obtain ⟨vs, e⟩ := hx c z
      rw [hc] at e; cases e
    exact ⟨t, bl, hl, e, k _ _ h1 (nt h1) (fun _ z => nomatch z), k _ _ h2 n1 (fun _ z => nomatch z), ⟨us, k _ _ h3 n2 (fun _ z => nomatch z), Paired.mapP h4 fun _ _ ⟨a, e, q⟩ => ⟨a, e, k _ _ q (nt q) (fun _ z => nomatch z)⟩⟩, n1, n2⟩
def dvK (k : List Key) : Dv := .seq true (k.map fun x => .leaf (kV x))
def dvT (ks : List (List Key)) : Dv := .seq false (ks.map dvK)
def dvB (bs : List Int) : Dv := .seq false (bs.map fun x => .leaf (.int x))
def dvS : Option Sh → Dv
  | none => .leaf .non
  | some r => .seq true [dvB r.b, dvT (srt r.ks), .leaf .non]
theorem lks_ints {H : Hp} : ∀ {bs : List Int}, LksL H (bs.map fun x => .leaf (.int x)) (bs.map V.int)
  | [] => by unfold LksL; rfl
  | b :: bs => by
    rw [List.map_cons, List.map_cons]
    unfold LksL
    exact ⟨_, _, rfl, by unfold Lks; exact ⟨rfl, rfl⟩, lks_ints⟩
theorem lks_keys {H : Hp} : ∀ {k : List Key}, LksL H (k.map fun x => .leaf (kV x)) (k.map kV)
  | [] => by unfold LksL; rfl
  | b :: bs => by
    rw [List.map_cons, List.map_cons]
    unfold LksL
    exact ⟨_, _, rfl, by unfold Lks; exact ⟨rfl, by cases b <;> rfl⟩, lks_keys⟩

theorem lks_tdk {H : Hp} {l : Addr} {ks : List (List Key)} (h : TdK H l ks) (hl : ks.length ≤ 64) (hk : ∀ k ∈ ks, k.length ≤ 64) : Lks H (dvT ks) (.ref l) := by
  obtain ⟨us, h1, h2⟩ := h
  unfold dvT Lks
  refine ⟨l, us, rfl, h1, by rw [List.length_map]; omega, ?_⟩
  clear h1 hl
  induction h2 with
  | nil => rw [List.map_nil]; unfold LksL; rfl
  | @cons v k _ _ a t ih =>
    rw [List.map_cons]
    unfold LksL
    obtain ⟨b, rfl, hb⟩ := a
    refine ⟨_, _, rfl, ?_, ih fun k hk' => hk k (List.mem_cons_of_mem _ hk')⟩
    unfold dvK Lks
    exact ⟨b, _, rfl, hb, by rw [List.length_map]; have := hk k (List.mem_cons_self ..); omega, lks_keys⟩
theorem lks_b {H : Hp} {l : Addr} {bs : List Int} (h : H l = some (.lst (bs.map V.int))) (hl : bs.length ≤ 64) : Lks H (dvB bs) (.ref l) := by
  unfold dvB Lks
  exact ⟨l, _, rfl, h, by rw [List.length_map]; omega, lks_ints⟩
def Okm (r : Sh) : Prop := r.b.length ≤ 64 ∧ (srt r.ks).length ≤ 64 ∧ ∀ k ∈ srt r.ks, k.length ≤ 64
theorem RwT.lks {H : Hp} {xs : List Addr} {v : V} : ∀ {r : Option Sh}, RwT H xs v r → (∀ s, r = some s → Okm s) → Lks H (dvS r) v
  | none, h, _ => by unfold dvS Lks; exact ⟨h, rfl⟩
  | some s, ⟨t, bl, hl, e, h1, h2, h3, n1, n2⟩, hb => by
    obtain ⟨b1, b2, b3⟩ := hb s rfl
    unfold dvS Lks
    refine ⟨t, _, e, h1, by show (3 : Nat) < 16777216; decide, ?_⟩
    unfold LksL
    refine ⟨_, _, rfl, lks_b h2 b1, ?_⟩
    unfold LksL
    refine ⟨_, _, rfl, lks_tdk h3 b2 b3, ?_⟩
    unfold LksL
    exact ⟨_, _, rfl, by unfold Lks; exact ⟨rfl, rfl⟩, by unfold LksL; rfl⟩
theorem rws_lks {H : Hp} {xs : List Addr} {vs : List V} {rows : List (Option Sh)} (h : Paired (RwT H xs) vs rows) (ok : ∀ r, some r ∈ rows → Okm r) : LksL H (rows.map dvS) vs := by
  induction h with
  | nil => rw [List.map_nil]; unfold LksL; rfl
  | cons r t ih =>
    rw [List.map_cons]
    unfold LksL
    exact ⟨_, _, rfl, r.lks (fun s e => ok s (by rw [e]; exact List.mem_cons_self ..)), ih fun r hr => ok r (List.mem_cons_of_mem _ hr)⟩
def okS (rows : List (Option Sh)) : Prop := ∀ r, some r ∈ rows → Okh r ∧ Okm r
def sp_tf (C P S : Addr) : Sp := fun vs H Q _ => ∃ (z : Ss) (s : St), vs = [.ref z.p] ∧ SsAt C P S H z s ∧ okS s.fr ∧ ∀ H' l, Same H H' → H l = none → Lks H' (.seq false (s.fr.map dvS)) (.ref l) → Q (.ref l) H'
theorem h_tf (T : Txt K mg A) : HaveM P w K mg base A.C_Sheets "told_frames" 2 ["self"] [] (sp_tf A.C_Sheets A.C_Spots A.C_Sheet) := by
  have H_Sheet_told_holders := h_told (P := P) (w := w) (base := base) T
  refine T.r_Sheets_told_frames.have sc_Sheets_told_frames (fun vs H Q E z => ?_) ?_
  · obtain ⟨z, s, rfl, _⟩ := z; rfl
  · intro f cdv A' outer s H vs Q E hr z
    obtain ⟨z, s, rfl, hS, ok, q⟩ := z
    obtain ⟨dx, h1⟩ := hS.me
    obtain ⟨dx1, us, f1, f2, f3, f4⟩ := id hS.fr
    have hul := Paired.length f3
    refine ⟨_, (pss_cons (ps_set (i := 1) sc_Sheets_told_frames.nd rfl (Or.inl rfl) (pe_lst pa_nil))
      (pss_cons (ps_forE PassesOwn.leaving rfl (pi_enum rfl T.b_enumerate (pa_cons (pe_fld (pe_fld (pvM 0) rfl) rfl) pa_nil)) (pg_tup (n := 2) rfl (pgs_cons (pg_name (i := 2) sc_Sheets_told_frames.nd rfl (Or.inl rfl)) (pgs_cons (pg_name (i := 3) sc_Sheets_told_frames.nd rfl (Or.inl rfl)) pgs_nil))) (pss_one (ps_if (pt_cmpR op_isN (pvM 3) pe_non (nomark _)) (pss_one (ps_expr (pe_bm PySem.F.plainAttrs_list PySem.F.slot_list_append PySem.F.type_list_append mt_append (pvM 1) (pa_cons pe_non pa_nil)))) (pss_one (ps_expr (pe_bm PySem.F.plainAttrs_list PySem.F.slot_list_append PySem.F.type_list_append mt_append (pvM 1) (pa_cons (pe_tup (pa_cons (pe_callTy call_list_of rfl T.b_list PyProof.Rows.boot_list (pa_cons (pe_fld (pvM 3) rfl) pa_nil)) (pa_cons (pe_methE0 (pvM 3) T.cl_Sheet H_Sheet_told_holders (hr.mono (by decide)) xw_def) (pa_cons (pe_ix ix_list (pe_fld (pe_fld (pvM 0) rfl) rfl) (pvM 2) (fun _ _ => rfl)) pa_nil)))) pa_nil)))))))
      (pss_one (ps_ret (pvM 1))))), ?_⟩
    unfold sp_told
    walk_at "wp"
    intro tl htl
    have b1 := same_upd (o := .lst []) (same_refl (H := H)) htl
    refine ⟨_, dx, _, b1 _ _ h1, T.cl_Sheets, T.na_Sheets_frames, _, ssF_frames, z.fp, rfl, _, dx1, _, b1 _ _ f1, T.cl_Spots, T.na_Spots_lying, _, spF_lying, z.ly, rfl, ⟨_, SqL.of (b1 _ _ f2)⟩, loop_enum (xs := us) (fun i σ H' => ∃ ys v2 v3, σ = [some (.ref z.p), some (.ref tl), v2, v3] ∧ Same H H' ∧ H' tl = some (.lst ys) ∧ Paired (RwT H' [tl]) ys (s.fr.take i)) ⟨[], _, _, rfl, b1, upd_same, .nil⟩ (fun i σ H' _ ⟨_, _, _, _, e, _⟩ => SqL.of (e _ _ f2)) (fun i x tt σ H' hi => ?_) (fun σ H1 => ?_)⟩
    · rintro ⟨ys, v2, v3, rfl, s1, hy, hP⟩ htt
      obtain ⟨y, hy1, hy2⟩ := prd_get f3 hi
      have b2 := same_upd (o := .tup [V.int i, x]) (same_refl (H := H')) htt
      have htt' : upd H' tt (.tup [V.int i, x]) tt = some (.tup [V.int i, x]) := upd_same
      have htk : s.fr.take (i + 1) = s.fr.take i ++ [y] := by rw [List.take_add_one, hy1]; rfl
      walk_at "wp"
      generalize upd H' tt (.tup [V.int i, x]) = H2 at *
      refine ⟨_, SqT.of htt', rfl, _, _, rfl, _, _, rfl, rfl, ?_⟩
      have hyl := Paired.length hP
      rw [List.length_take] at hyl
      have hl64 := hS.len.1
      have s2 := s1.trans b2
      have hy2' := b2 _ _ hy
      have hk : ∀ {H3 H4 : Hp} {ws : List V}, Same H2 H3 → H4 = upd H3 tl (.lst ws) → Paired (RwT H4 [tl]) ys (s.fr.take i) := fun {H3 H4 ws} s3 e => Paired.mapP hP fun _ _ q => q.keep (xs := [tl]) (fun x hx => ⟨ys, by rw [List.mem_singleton.mp hx]; exact hy⟩) (fun c o hc hn _ => by rw [e, upd_ne (fun z => hn (by simp [z]))]; exact s3 _ _ (b2 _ _ hc))
      cases y with
      | none =>
        obtain rfl : x = .non := hy2
        rw [if_pos rfl]
        refine ⟨.inl ⟨rfl, _, SqL.of hy2'⟩, ys, hy2', by omega, same_put s2 htl, _, rfl, ?_⟩
        rw [htk]
        exact prd_app (hk same_refl rfl) rfl
      | some r =>
        obtain ⟨rfl, ⟨dxr, g1⟩, g2, g3⟩ := id hy2
        rw [if_neg (fun z => nomatch z)]
        refine ⟨.inl ⟨rfl, _, SqL.of hy2'⟩, r.sh, rfl, _, dxr, _, s2 _ _ g1, T.cl_Sheet, T.na_Sheet_boxes, _, shF_boxes, r.bx, rfl, _, .inl (SqL.of (s2 _ _ g2)), fun bl hbl => ?_⟩
        have b3 := same_upd (o := .lst (r.b.map V.int)) (same_refl (H := H2)) hbl
        have hbl3 : upd H2 bl (.lst (r.b.map V.int)) bl = some (.lst (r.b.map V.int)) := upd_same
        generalize upd H2 bl (.lst (r.b.map V.int)) = H3 at *
        have s3 := s2.trans b3
        refine ⟨r.sh, rfl, dxr, _, s3 _ _ g1, shF_no (by decide +kernel), r, ShAt.same s3 hy2, (ok r (List.mem_of_getElem? hy1)).1, fun hl H4 hhl s4 a1 => ?_⟩
        have s5 := s3.trans s4
        have hbl4 := s4 _ _ hbl3
        have hil : i < s.fr.length := (List.getElem?_eq_some_iff.mp hy1).1
        refine ⟨_, dx, _, s5 _ _ h1, T.cl_Sheets, T.na_Sheets_frames, _, ssF_frames, z.fp, rfl, _, dx1, _, s5 _ _ f1, T.cl_Spots, T.na_Spots_twins, _, spF_twins, z.tw, rfl, _, _, rfl, SqL.of (s5 _ _ f4), .non, atI_nat (by rw [List.getElem?_replicate, if_pos hil]), fun np hnp => ?_⟩
        have b5 := same_upd (o := .tup [V.ref bl, V.ref hl, V.non]) (same_refl (H := H4)) hnp
        have s24 : Same H2 H4 := b3.trans s4
        have htl5 := b5 _ _ (s24 _ _ hy2')
        refine ⟨ys, htl5, by omega, same_put (s5.trans b5) htl, _, rfl, ?_⟩
        rw [htk]
        have nb : bl ≠ tl := (ne_of_none hy2' hbl).symm
        have nh : hl ≠ tl := (ne_of_none (b3 _ _ hy2') hhl).symm
        have nn : np ≠ tl := (ne_of_none (s24 _ _ hy2') hnp).symm
        exact prd_app (hk (s24.trans b5) rfl) ⟨np, bl, hl, rfl, by rw [upd_ne nn, upd_same], by rw [upd_ne nb]; exact b5 _ _ hbl4, (let ⟨us9, a2, a3⟩ := a1; ⟨us9, by rw [upd_ne nh]; exact b5 _ _ a2, Paired.mapP a3 fun _ _ ⟨a9, e9, q9⟩ => ⟨a9, e9, by rw [upd_ne (ne_of q9 (s24 _ _ hy2') (fun z => nomatch z))]; exact b5 _ _ q9⟩⟩), by simpa using nb, by simpa using nh⟩
    rintro ⟨ys, v2, v3, rfl, s1, hy, hP⟩
    walk_at "wp"
    rw [hul, List.take_length] at hP
    refine q _ tl s1 htl ?_
    unfold Lks
    exact ⟨tl, ys, rfl, hy, by rw [List.length_map]; have := hS.len.1; omega, rws_lks hP fun r hr => (ok r hr).2⟩

def sp_ts (C P S : Addr) : Sp := fun vs H Q _ => ∃ (z : Ss) (s : St) (j : Nat) (r : Option Sh), vs = [.ref z.p, .int j] ∧ SsAt C P S H z s ∧ s.sr[j]? = some r ∧ (∀ q, r = some q → Okh q) ∧ ∀ v H', Same H H' → (∀ xs : List Addr, (∀ x ∈ xs, H x ≠ none) → RwT H' xs v r) → Q v H'
theorem h_ts (T : Txt K mg A) : HaveM P w K mg base A.C_Sheets "told_slot" 3 ["self", "slot"] [] (sp_ts A.C_Sheets A.C_Spots A.C_Sheet) := by
  have H_Sheet_told_holders := h_told (P := P) (w := w) (base := base) T
  have H_Sheets_sheet_at := h_sat (P := P) (w := w) (base := base) T
  refine T.r_Sheets_told_slot.have sc_Sheets_told_slot (fun vs H Q E z => ?_) ?_
  · obtain ⟨z, s, j, r, rfl, _⟩ := z; rfl
  · intro f cdv A' outer s H vs Q E hr z
    obtain ⟨z, s, j, r, rfl, hS, hrj, hok, q⟩ := z
    obtain ⟨dx, h1⟩ := hS.me
    obtain ⟨dx1, us, f1, f2, f3, f4⟩ := id hS.sl
    obtain ⟨v, hv1, hv2⟩ := prd_get2 f3 hrj
    have hj := (List.getElem?_eq_some_iff.mp hrj).1
    refine ⟨_, (pss_cons (ps_set (i := 2) sc_Sheets_told_slot.nd rfl (Or.inl rfl) (pe_ix ix_list (pe_fld (pe_fld (pvM 0) rfl) rfl) (pvM 1) (fun _ _ => rfl)))
      (pss_cut (ps_set (i := 3) sc_Sheets_told_slot.nd rfl (Or.inl rfl) (pe_ix ix_list (pe_fld (pe_fld (pvM 0) rfl) rfl) (pvM 1) (fun _ _ => rfl)))
      (pss_cons (ps_if (pt_cmpR op_notN (pvM 2) pe_non (nomark _)) (pss_one (ps_ret (pe_tup (pa_cons (pe_callTy call_list_of rfl T.b_list PyProof.Rows.boot_list (pa_cons (pe_fld (pvM 2) rfl) pa_nil)) (pa_cons (pe_methE0 (pvM 2) T.cl_Sheet H_Sheet_told_holders (hr.mono (by decide)) xw_def) (pa_cons pe_non pa_nil)))))) pss_nil)
      (pss_cons (ps_if (pt_cmpR op_notN (pvM 3) pe_non (nomark _)) (pss_one (ps_ret (pe_tup (pa_cons (pe_methE (pvM 0) T.cl_Sheets H_Sheets_sheet_at (hr.mono (by decide)) xw_def (pa_cons (pe_tup (pa_cons pe_str (pa_cons (pvM 3) pa_nil))) pa_nil)) (pa_cons (pe_lst pa_nil) (pa_cons (pvM 3) pa_nil)))))) pss_nil)
      (pss_one (ps_ret pe_non)))))), ?_⟩
    walk_at "wp"
    simp only [h1]
    walk_at "wp"
    refine ⟨T.cl_Sheets, T.na_Sheets_slots, _, ssF_slots, z.sq, rfl, _, dx1, _, f1, T.cl_Spots, T.na_Spots_lying, _, spF_lying, z.ls, rfl, us, SqL.of f2, v, atI_nat hv1, ?_⟩
    refine ⟨fun σ H' => σ = [some (.ref z.p), some (.int (j : Int)), some v, some .non] ∧ H' = H, ?_, fun σ' H' => ?_⟩
    · walk_at "wp"
      simp only [h1]
      walk_at "wp"
      exact ⟨T.cl_Sheets, T.na_Sheets_slots, _, ssF_slots, z.sq, rfl, _, dx1, _, f1, T.cl_Spots, T.na_Spots_twins, _, spF_twins, z.ts, rfl, _, SqL.of f4, .non, atI_nat (by rw [List.getElem?_replicate, if_pos hj]), rfl⟩
    rintro ⟨rfl, rfl⟩
    cases r with
    | none =>
      obtain rfl : v = .non := hv2
      walk_at "wp"
      exact iteF (iteF (q _ _ same_refl fun _ _ => rfl))
    | some r =>
      obtain ⟨rfl, ⟨dxr, g1⟩, g2, g3⟩ := id hv2
      unfold sp_told
      walk_at "wp"
      refine iteT ⟨_, dxr, _, g1, T.cl_Sheet, T.na_Sheet_boxes, _, shF_boxes, r.bx, rfl, _, .inl (SqL.of g2), fun bl hbl => ?_⟩
      obtain ⟨s1, k1⟩ := new_at (o := .lst (r.b.map V.int)) hbl
      generalize upd H' bl _ = H1 at *
      refine ⟨dxr, _, s1 _ _ g1, shF_no (by decide +kernel), r, ShAt.same s1 hv2, hok r rfl, fun hl H2 hhl s2 htd t ht => ?_⟩
      have s3 : Same H2 (upd H2 t (.tup [V.ref bl, V.ref hl, V.non])) := same_upd same_refl ht
      exact q _ _ (s1.trans (s2.trans s3)) fun xs hx => ⟨t, bl, hl, rfl, upd_same, s3 _ _ (s2 _ _ k1), htd.same s3, fun z => hx _ z hbl, fun z => hx _ z (same_none s1 hhl)⟩
def sp_tss (C P S : Addr) : Sp := fun vs H Q _ => ∃ (z : Ss) (s : St), vs = [.ref z.p] ∧ SsAt C P S H z s ∧ okS s.sr ∧ ∀ H' l, Same H H' → H l = none → Lks H' (.seq false (s.sr.map dvS)) (.ref l) → Q (.ref l) H'
theorem h_tss (T : Txt K mg A) : HaveM P w K mg base A.C_Sheets "told_slots" 4 ["self"] [] (sp_tss A.C_Sheets A.C_Spots A.C_Sheet) := by
  have H_Sheets_told_slot := h_ts (P := P) (w := w) (base := base) T
  refine T.r_Sheets_told_slots.have sc_Sheets_told_slots (fun vs H Q E z => ?_) ?_
  · obtain ⟨z, s, rfl, _⟩ := z; rfl
  · intro f cdv A' outer s H vs Q E hr z
    obtain ⟨z, s, rfl, hS, ok, q⟩ := z
    obtain ⟨dx, h1⟩ := hS.me
    obtain ⟨dx1, us, f1, f2, f3, f4⟩ := id hS.sl
    refine ⟨_, (pss_one (ps_ret (pe_comp rfl (pi_range1 rfl T.b_range (pa_cons (pe_callB call_len rfl T.b_len PySem.boot_len (pa_cons (pe_fld (pe_fld (pvM 0) rfl) rfl) pa_nil)) pa_nil)) (x := "slot") (fs := ["self"]) (ix := [0]) rfl rfl (fun _ _ _ _ _ _ => (pg_name (i := 0) (show (["slot", "self"] : List Str).Nodup by decide +kernel) rfl (Or.inl rfl))) (fun _ _ _ _ _ _ => pf_nil) (fun _ _ _ _ _ _ => (pe_methE (pvM 1) T.cl_Sheets H_Sheets_told_slot (hr.mono (by decide)) xw_no (pa_cons (pvM 0) pa_nil)))))), ?_⟩
    unfold sp_ts
    walk_at "wp"
    simp only [h1]
    walk_at "wp"
    have hul := Paired.length f3
    have hm := hS.len.2
    have hz := PySem.sizeLine_eq
    refine ⟨T.cl_Sheets, T.na_Sheets_slots, _, ssF_slots, z.sq, rfl, _, dx1, _, f1, T.cl_Spots, T.na_Spots_lying, _, spF_lying, _, .inl ⟨_, SqL.of f2, rfl⟩, by omega, by omega, fun D hD => ?_⟩
    refine comp_range (fun i ys σ H' => ∃ v, σ = [v, some (.ref z.p)] ∧ Same H H' ∧ H' D = some (.lst ys) ∧ Paired (RwT H' [D]) ys (s.sr.take i)) ⟨_, rfl, same_upd same_refl hD, upd_same, .nil⟩ (fun i ys σ H' hi => ?_) (fun ys σ H5 => ?_)
    · rintro ⟨v, rfl, s1, hD1, hP⟩
      have hil : i < s.sr.length := by omega
      have hrow : s.sr[i]? = some s.sr[i] := List.getElem?_eq_getElem hil
      have htk : s.sr.take (i + 1) = s.sr.take i ++ [s.sr[i]] := by rw [List.take_add_one, hrow]; rfl
      have hyl := Paired.length hP
      rw [List.length_take] at hyl
      generalize s.sr[i] = r at *
      walk_at "wp"
      refine ⟨dx, _, s1 _ _ h1, ssF_no (by decide +kernel), z, rfl, s, i, by omega, hS.same s1, r, hrow, (fun q e => (ok q (by rw [← e]; exact List.mem_of_getElem? hrow)).1), fun v H2 s2 hw => ?_⟩
      have hD2 := s2 _ _ hD1
      refine ⟨hD2, by omega, same_put (s1.trans s2) hD, ?_⟩
      rw [htk]
      have w2 := hw [D] (fun x hx => by rw [List.mem_singleton.mp hx, hD1]; exact fun z => nomatch z)
      have kp : ∀ {u : V} {r : Option Sh}, RwT H2 [D] u r → RwT (upd H2 D (.lst (ys ++ [v]))) [D] u r := fun h => h.keep (xs := [D]) (fun x hx => ⟨ys, by rw [List.mem_singleton.mp hx]; exact hD2⟩) (fun c o hc hn _ => by rw [upd_ne (fun z => hn (by simp [z]))]; exact hc)
      exact prd_app (Paired.mapP hP fun _ _ h => kp (h.keep (xs := [D]) (fun x hx => ⟨ys, by rw [List.mem_singleton.mp hx]; exact hD1⟩) (fun c o hc _ _ => s2 _ _ hc))) (kp w2)
    · rintro ⟨v, rfl, s1, hD1, hP⟩
      rw [hul, Int.toNat_natCast, List.take_length] at hP
      refine q _ D s1 hD ?_
      unfold Lks
      exact ⟨D, ys, rfl, hD1, by rw [List.length_map]; omega, rws_lks hP fun r hr => (ok r hr).2⟩

structure Fl (C P S : Addr) (H : Hp) (z : Ss) (s : St) : Prop where
  ss : SsAt C P S H z s
  ap : Ap s
  of : okS s.fr
  os : okS s.sr
theorem Fl.same {C P S : Addr} {H H' : Hp} {z : Ss} {s : St} (h : Fl C P S H z s) (e : Same H H') : Fl C P S H' z s := ⟨h.ss.same e, h.ap, h.of, h.os⟩
def sp_rf (C P S : Addr) : Sp := fun vs H Q _ => ∃ (z : Ss) (s : St) (l h m : Addr) (bs : List Int) (k : List Key) (ms : List Bool), vs = [.ref z.p, .ref l, .ref h, .ref m] ∧ Fl C P S H z s ∧ H l = some (.lst (bs.map V.int)) ∧ l ∉ z.four ∧ H h = some (.tup (k.map kV)) ∧ H m = some (.lst (ms.map V.bl)) ∧ ms.length = s.fr.length ∧ live s = room s ∧ ∀ H', Same H H' → Q (.bl true) H'
theorem h_rf (T : Txt K mg A) : Have P w K mg base "_law_refused" 6 ["_law_sheets", "_law_sheet", "_law_holder", "_law_marks"] [] (sp_rf A.C_Sheets A.C_Spots A.C_Sheet) := by
  have H_Sheets_fresh := h_fresh (P := P) (w := w) (base := base) T
  refine T.r_l_refused.have sc_l_refused (fun vs H Q E z => ?_) ?_
  · obtain ⟨z, s, l, h, m, bs, k, ms, rfl, _⟩ := z; rfl
  · intro f cdv A' outer s H vs Q E hr z
    obtain ⟨z, s, l, h, m, bs, k, ms, rfl, hF, hl, hlf, hh, hm, hml, hfull, q⟩ := z
    obtain ⟨dx, h1⟩ := hF.ss.me
    refine ⟨_, (pss_cons (ps_set (i := 4) sc_l_refused.nd rfl (Or.inl rfl) pe_bl)
      (pss_cons (ps_try_n T.h_NoRoom (fun _ _ _ po1 xw1 => (pss_one (ps_expr (pe_methE (pvM 0) T.cl_Sheets H_Sheets_fresh (hr.mono (by decide)) xw1 (pa_cons (pvM 1) (pa_cons (pvM 2) (pa_cons (pvM 3) pa_nil))))))) pss_nil (fun _ => (pss_one (ps_set (i := 4) sc_l_refused.nd rfl (Or.inl rfl) pe_bl))))
      (pss_one (ps_ret (pvM 4))))), ?_⟩
    walk_at "wp"
    refine ⟨dx, _, h1, ssF_no (by decide +kernel), z, s, l, h, m, bs, k, ms, rfl, hF.ss, hF.ap, hl, hlf, hh, hm, hml, fun r hr => (hF.of r hr).1, ?_⟩
    rw [if_neg (by omega)]
    exact fun H1 s1 => ⟨A.C_NoRoom, rfl, T.sub_NoRoom_NoRoom, q H1 s1⟩
theorem h_al (T : Txt K mg A) : Have P w K mg base "_law_alone" 6 ["_law_sheets", "_law_sheet", "_law_holder", "_law_marks"] [] (sp_rf A.C_Sheets A.C_Spots A.C_Sheet) := by
  have H_Sheets_fresh := h_fresh (P := P) (w := w) (base := base) T
  refine T.r_l_alone.have sc_l_alone (fun vs H Q E z => ?_) ?_
  · obtain ⟨z, s, l, h, m, bs, k, ms, rfl, _⟩ := z; rfl
  · intro f cdv A' outer s H vs Q E hr z
    obtain ⟨z, s, l, h, m, bs, k, ms, rfl, hF, hl, hlf, hh, hm, hml, hfull, q⟩ := z
    obtain ⟨dx, h1⟩ := hF.ss.me
    refine ⟨_, (pss_cons (ps_try_as (i := 4) sc_l_alone.nd rfl rfl T.h_FrameError (fun _ _ _ po1 xw1 => (pss_one (ps_expr (pe_methE (pvM 0) T.cl_Sheets H_Sheets_fresh (hr.mono (by decide)) xw1 (pa_cons (pvM 1) (pa_cons (pvM 2) (pa_cons (pvM 3) pa_nil))))))) pss_nil (fun _ => (pss_cons (ps_if (pt_val (pe_callB call_isxT rfl T.b_isinstance PyProof.Rows.boot_isinstance (pa_cons (pvM 4) (pa_cons (pe_tup (@pa_cons _ _ _ _ _ (pe_globE rfl T.m_NoShape) (@pa_cons _ _ _ _ _ (pe_globE rfl T.m_OutOfRoom) (@pa_cons _ _ _ _ _ (pe_globE rfl T.m_BadRights) (@pa_cons _ _ _ _ _ (pe_globE rfl T.m_NoTask) (@pa_cons _ _ _ _ _ (pe_globE rfl T.m_NoBank) (@pa_cons _ _ _ _ _ (pe_globE rfl T.m_OutOfBank) pa_nil rfl) rfl) rfl) rfl) rfl) rfl)) pa_nil)))) (pss_one (ps_ret pe_bl)) pss_nil)
      (pss_cons (ps_if (pt_val (pe_callB call_isxT rfl T.b_isinstance PyProof.Rows.boot_isinstance (pa_cons (pvM 4) (pa_cons (pe_tup (@pa_cons _ _ _ _ _ (pe_globE rfl T.m_Taken) (@pa_cons _ _ _ _ _ (pe_globE rfl T.m_NotMapped) (@pa_cons _ _ _ _ _ (pe_globE rfl T.m_NoRight) (@pa_cons _ _ _ _ _ (pe_globE rfl T.m_Busy) (@pa_cons _ _ _ _ _ (pe_globE rfl T.m_NoRow) pa_nil rfl) rfl) rfl) rfl) rfl)) pa_nil)))) (pss_one (ps_ret pe_bl)) pss_nil)
      (pss_one (ps_ret (pe_and (pe_callB call_isxC rfl T.b_isinstance PyProof.Rows.boot_isinstance (pa_cons (pvM 4) (pa_cons (pe_globE rfl T.m_NoRoom) pa_nil))) (pe_one (pe_callB call_isxC rfl T.b_isinstance PyProof.Rows.boot_isinstance (pa_cons (pvM 4) (pa_cons (pe_bltnE (n := "ValueError") rfl T.b_ValueError (by decide +kernel)) pa_nil)))))))))))
      (pss_one (ps_ret pe_bl))), ?_⟩
    walk_at "wp"
    refine ⟨dx, _, h1, ssF_no (by decide +kernel), z, s, l, h, m, bs, k, ms, rfl, hF.ss, hF.ap, hl, hlf, hh, hm, hml, fun r hr => (hF.of r hr).1, ?_⟩
    rw [if_neg (by omega)]
    intro H1 s0
    refine ⟨A.C_NoRoom, rfl, T.sub_NoRoom_FrameError, fun ea hea p1 h1 => ?_⟩
    obtain ⟨s1, g1⟩ := new_at (o := excO ea A.C_NoRoom) hea
    generalize upd H1 ea _ = H2 at *
    obtain ⟨s2, g2⟩ := new_at (o := .tup [V.ref A.C_NoShape, V.ref A.C_OutOfRoom, V.ref A.C_BadRights, V.ref A.C_NoTask, V.ref A.C_NoBank, V.ref A.C_OutOfBank]) h1
    generalize upd H2 p1 _ = H3 at *
    refine ⟨_, A.C_NoRoom, s2 _ _ g1, T.xi_NoRoom, rfl, fun v hv => ?_, false, ?_, ?_⟩
    · simp only [List.mem_cons, List.not_mem_nil, or_false] at hv
      rcases hv with rfl | rfl | rfl | rfl | rfl | rfl <;> exact .inl ⟨_, rfl⟩
    · simp only [List.map_cons, List.map_nil, clsV_ref, PySem.W.kitAny, T.kit_NoRoom_NoShape, T.kit_NoRoom_OutOfRoom, T.kit_NoRoom_BadRights, T.kit_NoRoom_NoTask, T.kit_NoRoom_NoBank, T.kit_NoRoom_OutOfBank]
    refine iteF fun p2 h2 => ?_
    obtain ⟨s3, g3⟩ := new_at (o := .tup [V.ref A.C_Taken, V.ref A.C_NotMapped, V.ref A.C_NoRight, V.ref A.C_Busy, V.ref A.C_NoRow]) h2
    generalize upd H3 p2 _ = H4 at *
    refine ⟨_, A.C_NoRoom, s3 _ _ (s2 _ _ g1), T.xi_NoRoom, rfl, fun v hv => ?_, false, ?_, ?_⟩
    · simp only [List.mem_cons, List.not_mem_nil, or_false] at hv
      rcases hv with rfl | rfl | rfl | rfl | rfl <;> exact .inl ⟨_, rfl⟩
    · simp only [List.map_cons, List.map_nil, clsV_ref, PySem.W.kitAny, T.kit_NoRoom_Taken, T.kit_NoRoom_NotMapped, T.kit_NoRoom_NoRight, T.kit_NoRoom_Busy, T.kit_NoRoom_NoRow]
    refine iteF ?_
    exact ⟨A.C_NoRoom, s3 _ _ (s2 _ _ g1), T.xi_NoRoom, true, T.kit_NoRoom_NoRoom, iteT ⟨A.C_NoRoom, s3 _ _ (s2 _ _ g1), T.xi_NoRoom, true, T.kit_NoRoom_ValueError, q _ (s0.trans ((s1.trans s2).trans s3))⟩⟩
def dvM (s : St) : Dv := .seq true [.leaf (.int s.go), .leaf (.int s.ga), .leaf (.int s.cb)]
def dvSt (s : St) : Dv := .seq true [.seq false (s.fr.map dvS), .seq false (s.sr.map dvS), .leaf (.int (s.h : Int)), dvM s, .leaf (.int ((live s : Nat) : Int))]
def sp_st (C P S : Addr) : Sp := fun vs H Q _ => ∃ (z : Ss) (s : St), vs = [.ref z.p] ∧ Fl C P S H z s ∧ ∀ t us H', Same H H' → H' t = some (.tup us) → us[4]? = some (.int ((live s : Nat) : Int)) → Lks H' (dvSt s) (.ref t) → Q (.ref t) H'
theorem h_st (T : Txt K mg A) : Have P w K mg base "_law_state" 5 ["_law_sheets"] [] (sp_st A.C_Sheets A.C_Spots A.C_Sheet) := by
  have H_Sheets_told_frames := h_tf (P := P) (w := w) (base := base) T
  have H_Sheets_told_slots := h_tss (P := P) (w := w) (base := base) T
  have H_Sheets_hand_at := h_hand (P := P) (w := w) (base := base) T
  have H_Sheets_moved := h_moved (P := P) (w := w) (base := base) T
  have H_Sheets_live_sheets := h_live (P := P) (w := w) (base := base) T
  refine T.r_l_state.have sc_l_state (fun vs H Q E z => ?_) ?_
  · obtain ⟨z, s, rfl, _⟩ := z; rfl
  · intro f cdv A' outer s H vs Q E hr z
    obtain ⟨z, s, rfl, hF, q⟩ := z
    obtain ⟨dx, h1⟩ := hF.ss.me
    refine ⟨_, (pss_one (ps_ret (pe_tup (@pa_cons _ _ _ _ _ (pe_methE0 (pvM 0) T.cl_Sheets H_Sheets_told_frames (hr.mono (by decide)) xw_def) (@pa_cons _ _ _ _ _ (pe_methE0 (pvM 0) T.cl_Sheets H_Sheets_told_slots (hr.mono (by decide)) xw_def) (@pa_cons _ _ _ _ _ (pe_methE0 (pvM 0) T.cl_Sheets H_Sheets_hand_at (hr.mono (by decide)) xw_def) (@pa_cons _ _ _ _ _ (pe_methE0 (pvM 0) T.cl_Sheets H_Sheets_moved (hr.mono (by decide)) xw_def) (@pa_cons _ _ _ _ _ (pe_methE0 (pvM 0) T.cl_Sheets H_Sheets_live_sheets (hr.mono (by decide)) xw_def) pa_nil rfl) rfl) rfl) rfl) rfl)))), ?_⟩
    walk_at "wp"
    refine ⟨dx, _, h1, ssF_no (by decide +kernel), z, s, rfl, hF.ss, hF.of, fun H1 l1 s1 hl1 k1 => ?_⟩
    walk_at "wp"
    have hF1 := hF.same s1
    refine ⟨dx, _, s1 _ _ h1, ssF_no (by decide +kernel), z, s, rfl, hF1.ss, hF1.os, fun H2 l2 s2 hl2 k2 => ?_⟩
    have hF2 := hF1.same s2
    have s12 := s1.trans s2
    refine ⟨dx, _, s12 _ _ h1, ssF_no (by decide +kernel), z, s, rfl, hF2.ss, dx, _, s12 _ _ h1, ssF_no (by decide +kernel), z, s, rfl, hF2.ss, fun t3 ht3 => ?_⟩
    obtain ⟨s3, g3⟩ := new_at (o := .tup [V.int s.go, V.int s.ga, V.int s.cb]) ht3
    show (fun x H1 => _) (V.ref t3) (upd H2 t3 (.tup [V.int s.go, V.int s.ga, V.int s.cb]))
    generalize upd H2 t3 _ = H3 at *
    have s13 := s12.trans s3
    refine ⟨dx, _, s13 _ _ h1, ssF_no (by decide +kernel), z, s, rfl, hF2.ss.same s3, fun H4 s4 t5 ht5 => ?_⟩
    have s5 : Same H4 (upd H4 t5 (.tup [V.ref l1, V.ref l2, V.int (s.h : Int), V.ref t3, V.int ((live s : Nat) : Int)])) := same_upd same_refl ht5
    refine q t5 _ _ (s13.trans (s4.trans s5)) upd_same rfl ?_
    unfold dvSt Lks
    refine ⟨t5, _, rfl, upd_same, by show 5 < 16777216; decide, ?_⟩
    unfold LksL
    refine ⟨_, _, rfl, k1.same (s2.trans (s3.trans (s4.trans s5))), ?_⟩
    unfold LksL
    refine ⟨_, _, rfl, k2.same (s3.trans (s4.trans s5)), ?_⟩
    unfold LksL
    refine ⟨_, _, rfl, by unfold Lks; exact ⟨rfl, rfl⟩, ?_⟩
    unfold LksL
    refine ⟨_, _, rfl, ?_, ?_⟩
    · unfold dvM Lks
      refine ⟨t3, _, rfl, (s4.trans s5) _ _ g3, by show 3 < 16777216; decide, ?_⟩
      unfold LksL
      refine ⟨_, _, rfl, by unfold Lks; exact ⟨rfl, rfl⟩, ?_⟩
      unfold LksL
      refine ⟨_, _, rfl, by unfold Lks; exact ⟨rfl, rfl⟩, ?_⟩
      unfold LksL
      exact ⟨_, _, rfl, by unfold Lks; exact ⟨rfl, rfl⟩, by unfold LksL; rfl⟩
    · unfold LksL
      exact ⟨_, _, rfl, by unfold Lks; exact ⟨rfl, rfl⟩, by unfold LksL; rfl⟩

theorem deepl_le : ∀ {ds : List Dv} {n : Nat}, (∀ d ∈ ds, deep d ≤ n) → deepL ds ≤ n
  | [], _, _ => by rw [deepL]; omega
  | d :: ds, n, h => by
    have := deepl_le (ds := ds) (n := n) fun x hx => h x (List.mem_cons_of_mem _ hx)
    have := h d (List.mem_cons_self ..)
    rw [deepL]
    omega
theorem deep_leaves {α : Type} {f : α → V} {xs : List α} {b : Bool} : deep (.seq b (xs.map fun x => .leaf (f x))) ≤ 1 := by
  have := deepl_le (ds := xs.map fun x => Dv.leaf (f x)) (n := 0) (fun d hd => by
    obtain ⟨x, _, rfl⟩ := List.mem_map.mp hd
    rw [deep]; omega)
  rw [deep]
  omega
theorem deep_T {ks : List (List Key)} : deep (dvT ks) ≤ 2 := by
  have := deepl_le (ds := ks.map dvK) (n := 1) (fun d hd => by
    obtain ⟨k, _, rfl⟩ := List.mem_map.mp hd
    exact deep_leaves)
  unfold dvT
  rw [deep]
  omega
theorem deep_S {r : Option Sh} : deep (dvS r) ≤ 3 := by
  cases r with
  | none => unfold dvS; rw [deep]; omega
  | some r =>
    have h1 : deep (dvB r.b) ≤ 1 := deep_leaves
    have h2 := deep_T (ks := srt r.ks)
    unfold dvS
    rw [deep, deepL, deepL, deepL, deepL, deep]
    omega
theorem deep_R {rows : List (Option Sh)} : deep (.seq false (rows.map dvS)) ≤ 4 := by
  have := deepl_le (ds := rows.map dvS) (n := 3) (fun d hd => by
    obtain ⟨k, _, rfl⟩ := List.mem_map.mp hd
    exact deep_S)
  rw [deep]
  omega
theorem deep_St {s : St} : deep (dvSt s) ≤ 5 := by
  have h1 := deep_R (rows := s.fr)
  have h2 := deep_R (rows := s.sr)
  have h3 : deep (dvM s) ≤ 1 := by unfold dvM; simp [deep, deepL]
  unfold dvSt
  rw [deep, deepL, deepL, deepL, deepL, deepL, deepL, deep, deep]
  omega
def sp_tm (C P S : Addr) : Sp := fun vs H Q _ => ∃ (z : Ss) (s : St) (m : Addr) (ms : List Bool) (c nb : Int), vs = [.ref z.p, .int c, .int nb, .ref m, .int ((room s : Nat) : Int)] ∧ Fl C P S H z s ∧ live s = room s ∧ H m = some (.lst (ms.map V.bl)) ∧ ms.length = s.fr.length ∧ ∀ H', Same H H' → Q (.bl true) H'
theorem h_tm (T : Txt K mg A) : Have P w K mg base "_law_too_many" 9 ["_law_sheets", "_law_cell_here", "_law_number", "_law_marks", "_law_many"] [] (sp_tm A.C_Sheets A.C_Spots A.C_Sheet) := by
  have H_l_state := h_st (P := P) (w := w) (base := base) T
  have H_l_like := h_like (P := P) (w := w) (base := base) T 6
  have H_l_refused := h_rf (P := P) (w := w) (base := base) T
  have H_l_alone := h_al (P := P) (w := w) (base := base) T
  refine T.r_l_too_many.have sc_l_too_many (fun vs H Q E z => ?_) ?_
  · obtain ⟨z, s, m, ms, c, nb, rfl, _⟩ := z; rfl
  · intro f cdv A' outer s H vs Q E hr z
    obtain ⟨z, s, m, ms, c, nb, rfl, hF, hfull, hm, hml, q⟩ := z
    refine ⟨_, (pss_cut (ps_set (i := 5) sc_l_too_many.nd rfl (Or.inl rfl) (pe_callE H_l_state (hr.mono (by decide)) xw_def (pa_cons (pvM 0) pa_nil)))
      (pss_cut (ps_if (pt_not (pt_val (pe_callE H_l_like (hr.mono (by decide)) xw_def (pa_cons (pe_ix ix_tup (pvM 5) pe_int (fun _ _ => rfl)) (pa_cons (pvM 4) pa_nil))))) (pss_one (ps_ret pe_bl)) pss_nil)
      (pss_cut (ps_if (pt_not (pt_val (pe_callE H_l_refused (hr.mono (by decide)) xw_def (pa_cons (pvM 0) (pa_cons (pe_lst (pa_cons (pe_op op_mod (pvM 1) (pe_op op_pow pe_int pe_int)) pa_nil)) (pa_cons (pe_tup (pa_cons pe_str (pa_cons (pvM 2) (pa_cons pe_int pa_nil)))) (pa_cons (pvM 3) pa_nil))))))) (pss_one (ps_ret pe_bl)) pss_nil)
      (pss_cut (ps_if (pt_not (pt_val (pe_callE H_l_alone (hr.mono (by decide)) xw_def (pa_cons (pvM 0) (pa_cons (pe_lst (pa_cons pe_int pa_nil)) (pa_cons (pe_tup (pa_cons pe_str (pa_cons pe_int (pa_cons (pvM 2) pa_nil)))) (pa_cons (pvM 3) pa_nil))))))) (pss_one (ps_ret pe_bl)) pss_nil)
      (pss_one (ps_ret (pe_callE H_l_like (hr.mono (by decide)) xw_def (pa_cons (pe_callE H_l_state (hr.mono (by decide)) xw_def (pa_cons (pvM 0) pa_nil)) (pa_cons (pvM 5) pa_nil))))))))), ?_⟩
    refine ⟨fun σ G => ∃ t us, σ = [some (.ref z.p), some (.int c), some (.int nb), some (.ref m), some (.int ((room s : Nat) : Int)), some (.ref t)] ∧ Same H G ∧ G t = some (.tup us) ∧ us[4]? = some (.int ((live s : Nat) : Int)) ∧ Lks G (dvSt s) (.ref t), ?_, fun σ1 G1 => ?_⟩
    · walk_at "wp"
      exact ⟨z, s, rfl, hF, fun t us H' s1 h1 h2 h3 => ⟨t, rfl, s1, us, h1, h2, h3⟩⟩
    rintro ⟨t, us, rfl, s1, h1, h2, h3⟩
    refine ⟨fun σ G => σ = [some (.ref z.p), some (.int c), some (.int nb), some (.ref m), some (.int ((room s : Nat) : Int)), some (.ref t)] ∧ Same G1 G, ?_, fun σ2 G2 => ?_⟩
    · walk_at "wp"
      refine ⟨_, SqT.of h1, .int ((live s : Nat) : Int), atI_nat (j := 4) h2, _, _, .leaf (.int ((room s : Nat) : Int)), rfl, by rw [hfull]; unfold Lks; exact ⟨rfl, rfl⟩, by unfold Lks; exact ⟨rfl, rfl⟩, by rw [deep]; exact Nat.zero_le _, fun G2 s2 => ⟨true, rfl, iteF s2⟩⟩
    rintro ⟨rfl, s2⟩
    have s02 := s1.trans s2
    refine ⟨fun σ G => σ = [some (.ref z.p), some (.int c), some (.int nb), some (.ref m), some (.int ((room s : Nat) : Int)), some (.ref t)] ∧ Same G2 G, ?_, fun σ3 G3 => ?_⟩
    · have hF2 := hF.same s02
      walk_at "wp"
      intro l hl h hh
      obtain ⟨a1, b1⟩ := new_at (o := .lst [V.int (c % 1000000000000000000000000000000)]) hl
      generalize upd G2 l _ = J1 at *
      obtain ⟨a2, b2⟩ := new_at (o := .tup [V.str (Str.ofString "more"), V.int nb, V.int 0]) hh
      generalize upd J1 h _ = J2 at *
      exact ⟨z, s, l, h, m, [(c % 1000000000000000000000000000000)], [Sum.inr (Str.ofString "more"), Sum.inl nb, Sum.inl 0], ms, rfl, (hF2.same a1).same a2, a2 _ _ b1, hF2.ss.nf hl, b2, a2 _ _ (a1 _ _ (s02 _ _ hm)), hml, hfull, fun H' s9 => ⟨true, rfl, iteF (a1.trans (a2.trans s9))⟩⟩
    rintro ⟨rfl, s3⟩
    have s03 := s02.trans s3
    refine ⟨fun σ G => σ = [some (.ref z.p), some (.int c), some (.int nb), some (.ref m), some (.int ((room s : Nat) : Int)), some (.ref t)] ∧ Same G3 G, ?_, fun σ4 G4 => ?_⟩
    · have hF3 := hF.same s03
      walk_at "wp"
      intro l hl h hh
      obtain ⟨a1, b1⟩ := new_at (o := .lst [V.int 0]) hl
      generalize upd G3 l _ = J1 at *
      obtain ⟨a2, b2⟩ := new_at (o := .tup [V.str (Str.ofString "more"), V.int 0, V.int nb]) hh
      generalize upd J1 h _ = J2 at *
      exact ⟨z, s, l, h, m, [0], [Sum.inr (Str.ofString "more"), Sum.inl 0, Sum.inl nb], ms, rfl, (hF3.same a1).same a2, a2 _ _ b1, hF3.ss.nf hl, b2, a2 _ _ (a1 _ _ (s03 _ _ hm)), hml, hfull, fun H' s9 => ⟨true, rfl, iteF (a1.trans (a2.trans s9))⟩⟩
    rintro ⟨rfl, s4⟩
    have s04 := s03.trans s4
    walk_at "wp"
    refine ⟨z, s, rfl, hF.same s04, fun t2 us2 G5 s5 k1 k2 k3 => ?_⟩
    exact ⟨_, _, _, rfl, k3, h3.same (s2.trans (s3.trans (s4.trans s5))), Nat.le_trans deep_St (by decide), fun G6 s6 => q G6 (s04.trans (s5.trans s6))⟩
theorem cnt_none {m : Nat} : cnt (List.replicate m none) = 0 := by
  unfold cnt
  rw [List.filter_replicate_of_neg (by decide)]; rfl
theorem cnt_full {rows : List (Option Sh)} (h : cnt rows = rows.length) : rows.findIdx? Option.isNone = none := by
  cases e : rows.findIdx? Option.isNone with
  | none => rfl
  | some j => have := fe_cnt e; omega
theorem full_rows {s : St} (h : live s = room s) : s.fr.findIdx? Option.isNone = none ∧ s.sr.findIdx? Option.isNone = none := by
  have h1 := cnt_le (rows := s.fr)
  have h2 := cnt_le (rows := s.sr)
  unfold live room at h
  exact ⟨cnt_full (by omega), cnt_full (by omega)⟩
theorem full_rw {s : St} (h : live s = room s) {f : Bool} {j : Nat} (hj : j < (s.rw f).length) : ∃ r, (s.rw f)[j]? = some (some r) := by
  cases f with
  | true => exact fe_none (full_rows h).1 hj
  | false => exact fe_none (full_rows h).2 hj
theorem live_none {s : St} {f : Bool} {j : Nat} {r : Sh} (h : (s.rw f)[j]? = some (some r)) : live (s.put f j none) + 1 = live s := by
  rw [live_hd, live_hd]
  unfold hdS
  cases f with
  | true =>
    show (hds (s.fr.set j none ++ s.sr)).length + 1 = _
    rw [hds_app, hds_app, List.length_append, List.length_append, (hds_take (rows := s.fr) h).length_eq, List.length_cons]
    omega
  | false =>
    show (hds (s.fr ++ s.sr.set j none)).length + 1 = _
    rw [hds_app, hds_app, List.length_append, List.length_append, (hds_take (rows := s.sr) h).length_eq, List.length_cons]
    omega
theorem Fl.ok {C P S : Addr} {H : Hp} {z : Ss} {s : St} (h : Fl C P S H z s) {f : Bool} {j : Nat} {r : Sh} (hr : (s.rw f)[j]? = some (some r)) : Okh r ∧ Okm r := by
  cases f with
  | true => exact h.of r (List.mem_of_getElem? hr)
  | false => exact h.os r (List.mem_of_getElem? hr)
theorem fresh_fl {C P S : Addr} {H H' : Hp} {z : Ss} {s s6 : St} {ms : List Bool} {i : Nat} {ps : List Int} {out : Option (Nat × Sh)} {r5 : Sh} {bs : List Int} {k : List Key} (hF : Fl C P S H z s) (b1 : Ffr s .non ms s6 i ps out) (b2 : SsAt C P S H' z { s6 with fr := s6.fr.set i (some r5) }) (b3 : Ap { s6 with fr := s6.fr.set i (some r5) }) (b4 : r5.b = bs) (b5 : r5.ks = [k]) (hb : bs.length ≤ 64) (hk : k.length ≤ 64) :
    ∃ s7, Fl C P S H' z s7 ∧ s7.fr.length = s.fr.length ∧ s7.sr.length = s.sr.length ∧ live s7 = live s + 1 := by
  obtain ⟨fi, fp, fl1, fl2, fm⟩ := b1.facts
  have okr : Okh r5 ∧ Okm r5 := ⟨⟨k, b5⟩, by
    unfold Okm
    rw [show srt r5.ks = r5.ks from rfl, b4, b5]
    exact ⟨hb, by show 1 ≤ 64; decide, fun k9 h9 => by rw [List.mem_singleton.mp h9]; exact hk⟩⟩
  have okm : ∀ q, some q ∈ s6.fr ∨ some q ∈ s6.sr → Okh q ∧ Okm q := fun q hq => (fm q hq).elim (hF.of q) (hF.os q)
  refine ⟨{ s6 with fr := s6.fr.set i (some r5) }, ⟨b2, b3, fun q hq => ?_, fun q hq => okm q (.inr hq)⟩, by show (s6.fr.set i (some r5)).length = _; rw [List.length_set, fl1], fl2, ?_⟩
  · rcases List.mem_or_eq_of_mem_set (show some q ∈ s6.fr.set i (some r5) from hq) with e | e
    · exact okm q (.inl e)
    · cases e; exact okr
  · have e2 : live s6 = live s := by rw [live_hd, live_hd]; exact fp.length_eq
    rw [← e2, live_hd, live_hd]
    unfold hdS
    show (hds (s6.fr.set i (some r5) ++ s6.sr)).length = _
    rw [hds_app, hds_app, List.length_append, List.length_append, (hds_fill fi).length_eq, List.length_cons]
    omega
def Fnd (C P S : Addr) (H G : Hp) (z : Ss) (s : St) (x : Int) (k : List Key) (t5 : Addr) : Prop := ∃ (i : Nat) (e5 v5 : V) (s5 : St) (r5 : Sh), G t5 = some (.tup [.int (i : Int), e5, v5]) ∧ Fl C P S G z s5 ∧ s5.fr[i]? = some (some r5) ∧ r5.b = [x] ∧ r5.ks = [k] ∧ live s5 = room s5 ∧ s5.fr.length = s.fr.length ∧ s5.sr.length = s.sr.length ∧ Kd z H G
def sp_ch (C P S : Addr) : Sp := fun vs H Q _ => ∃ (z : Ss) (s : St) (h m : Addr) (k : List Key) (ms : List Bool) (nb x : Int), vs = [.ref z.p, .int ((s.fr.length : Nat) : Int), .int ((s.sr.length : Nat) : Int), .int nb, .int x, .ref h, .ref m] ∧ Fl C P S H z s ∧ live s = room s ∧ H h = some (.tup (k.map kV)) ∧ k.length ≤ 64 ∧ H m = some (.lst (ms.map V.bl)) ∧ m ∉ z.four ∧ ms.length = s.fr.length ∧
  ∀ H' s', Fl C P S H' z s' → live s' = room s' → s'.fr.length = s.fr.length → s'.sr.length = s.sr.length → Kd z H H' → Q (.bl true) H'
theorem h_ch (T : Txt K mg A) : Have P w K mg base "_law_changed" 8 ["_law_sheets", "_law_frames", "_law_slots", "_law_number", "_law_value", "_law_holder", "_law_marks"] [] (sp_ch A.C_Sheets A.C_Spots A.C_Sheet) := by
  have H_l_like := h_like (P := P) (w := w) (base := base) T 4
  have H_Sheets_holders_of := h_ho (P := P) (w := w) (base := base) T
  have H_Sheets_let_go := h_lg (P := P) (w := w) (base := base) T
  have H_Sheets_sheet_at := h_sat (P := P) (w := w) (base := base) T
  have H_Sheets_live_sheets := h_live (P := P) (w := w) (base := base) T
  have H_Sheets_fresh := h_fresh (P := P) (w := w) (base := base) T
  have H_Sheets_told_frames := h_tf (P := P) (w := w) (base := base) T
  refine T.r_l_changed.have sc_l_changed (fun vs H Q E z => ?_) ?_
  · obtain ⟨z, s, h, m, k, ms, nb, x, rfl, _⟩ := z; rfl
  · intro f cdv A' outer s H vs Q E hr z
    obtain ⟨z, s, h, m, k, ms, nb, x, rfl, hF, hfull, hh, hk64, hm, hmf, hml, q⟩ := z
    have hpos := hF.ss.hh
    refine ⟨_, (pss_cons (ps_set (i := 7) sc_l_changed.nd rfl (Or.inl rfl) (pe_tup (pa_cons pe_str (pa_cons (pe_op op_mod (pvM 3) (pvM 1)) pa_nil))))
      (pss_cut (ps_if (PW.pt (pw_and (pt_cmpR op_gt (pvM 2) pe_int (nomark _)) (pw_and1 (pt_cmpR op_eq (pe_op op_mod (pe_op op_fdiv (pvM 3) pe_int) pe_int) pe_int (nomark _))))) (pss_one (ps_set (i := 7) sc_l_changed.nd rfl (Or.inl rfl) (pe_tup (pa_cons pe_str (pa_cons (pe_op op_mod (pvM 3) (pvM 2)) pa_nil))))) pss_nil)
      (pss_cut (ps_if (pt_cmpR op_ne (pe_callB call_len rfl T.b_len PySem.boot_len (pa_cons (pe_methE (pvM 0) T.cl_Sheets H_Sheets_holders_of (hr.mono (by decide)) xw_def (pa_cons (pvM 7) pa_nil)) pa_nil)) pe_int (nomark _)) (pss_one (ps_ret pe_bl)) pss_nil)
      (pss_cut (ps_expr (pe_methE (pvM 0) T.cl_Sheets H_Sheets_let_go (hr.mono (by decide)) xw_def (pa_cons (pvM 7) (pa_cons (pe_ix ix_list (pe_methE (pvM 0) T.cl_Sheets H_Sheets_holders_of (hr.mono (by decide)) xw_def (pa_cons (pvM 7) pa_nil)) pe_int (fun _ _ => rfl)) pa_nil))))
      (pss_cut (ps_if (PW.pt (pw_or (pt_cmpR op_notN (pe_methE (pvM 0) T.cl_Sheets H_Sheets_sheet_at (hr.mono (by decide)) xw_def (pa_cons (pvM 7) pa_nil)) pe_non (nomark _)) (pw_or1 (pt_not (pt_val (pe_callE H_l_like (hr.mono (by decide)) xw_def (pa_cons (pe_methE0 (pvM 0) T.cl_Sheets H_Sheets_live_sheets (hr.mono (by decide)) xw_def) (pa_cons (pe_op op_sub (pe_op op_add (pvM 1) (pvM 2)) pe_int) pa_nil)))))))) (pss_one (ps_ret pe_bl)) pss_nil)
      (pss_cut (ps_set (i := 8) sc_l_changed.nd rfl (Or.inl rfl) (pe_methE (pvM 0) T.cl_Sheets H_Sheets_fresh (hr.mono (by decide)) xw_def (pa_cons (pe_lst (pa_cons (pvM 4) pa_nil)) (pa_cons (pvM 5) (pa_cons (pvM 6) pa_nil)))))
      (pss_cut (ps_if (PW.pt (pw_or (pt_not (pt_val (pe_callB call_isi rfl T.b_isinstance PyProof.Rows.boot_isinstance (pa_cons (pvM 8) (pa_cons (pe_bltnE (n := "tuple") rfl T.b_tuple PyProof.Rows.boot_tuple) pa_nil))))) (pw_or1 (pt_cmpR op_ne (pe_callB call_len rfl T.b_len PySem.boot_len (pa_cons (pvM 8) pa_nil)) pe_int (nomark _))))) (pss_one (ps_ret pe_bl)) pss_nil)
      (pss_one (ps_ret (pe_callE H_l_like (hr.mono (by decide)) xw_def (pa_cons (pe_ix ix_list (pe_methE0 (pvM 0) T.cl_Sheets H_Sheets_told_frames (hr.mono (by decide)) xw_def) (pe_ix ix_tup (pvM 8) pe_int (fun _ _ => rfl)) (fun _ _ => rfl)) (pa_cons (pe_tup (pa_cons (pe_lst (pa_cons (pvM 4) pa_nil)) (pa_cons (pe_lst (pa_cons (pvM 5) pa_nil)) (pa_cons pe_non pa_nil)))) pa_nil)))))))))))), ?_⟩
    walk_at "wp"
    refine ⟨by omega, fun t0 ht0 => ?_⟩
    obtain ⟨s0, g0⟩ := new_at (o := .tup [V.str (Str.ofString "frame"), V.int (nb % ((s.fr.length : Nat) : Int))]) ht0
    generalize upd H t0 _ = H0 at *
    refine ⟨fun σ G => ∃ f j t, σ = [some (.ref z.p), some (.int ((s.fr.length : Nat) : Int)), some (.int ((s.sr.length : Nat) : Int)), some (.int nb), some (.int x), some (.ref h), some (.ref m), some (.ref t), none] ∧ Same H G ∧ G t = some (.tup [.str (nmS f), .int ((j : Nat) : Int)]) ∧ j < (s.rw f).length, ?_, fun σ1 G1 => ?_⟩
    · have cst : ∀ n : Nat, 0 < n → ∃ j : Nat, nb % (n : Int) = (j : Int) ∧ j < n := fun n hn => by
        have e0 := Int.emod_nonneg nb (show (n : Int) ≠ 0 by omega)
        have e1 := Int.emod_lt_of_pos nb (show (0 : Int) < (n : Int) by omega)
        exact ⟨(nb % (n : Int)).toNat, by omega, by omega⟩
      walk_at "wp"
      refine (fun u9 => ite2 (fun h0 => ite2 (fun _ => ⟨h0, fun p hp => ?_⟩) (fun _ => u9)) (fun _ => iteF u9)) ?_
      · obtain ⟨j, e, hj⟩ := cst s.fr.length (by omega)
        rw [e] at g0
        exact ⟨s0, true, j, g0, hj⟩
      · obtain ⟨j, e, hj⟩ := cst s.sr.length (by omega)
        rw [e]
        exact ⟨s0.trans (same_upd same_refl hp), false, j, rfl, hj⟩
    rintro ⟨f, j, t, rfl, s1, ht1, hj⟩
    obtain ⟨r, hr⟩ := full_rw hfull hj
    obtain ⟨⟨k0, hk0⟩, _⟩ := hF.ok hr
    have hF1 := hF.same s1
    have hokh : ∀ q, some r = some q → Okh q := fun q e => by cases e; exact ⟨k0, hk0⟩
    clear s0 g0 ht0
    refine ⟨fun σ G => σ = [some (.ref z.p), some (.int ((s.fr.length : Nat) : Int)), some (.int ((s.sr.length : Nat) : Int)), some (.int nb), some (.int x), some (.ref h), some (.ref m), some (.ref t), none] ∧ Same G1 G, ?_, fun σ2 G2 => ?_⟩
    · obtain ⟨dx9, h9⟩ := hF1.ss.me
      walk_at "wp"
      refine ⟨dx9, _, h9, ssF_no (by decide +kernel), z, s, t, f, j, some r, rfl, hF1.ss, ht1, hr, hokh, fun l H2 hl s2 htd => ?_⟩
      have htd : TdK H2 l r.ks := htd
      rw [hk0] at htd
      obtain ⟨us, hu, hp⟩ := htd
      have hul := Paired.length hp
      refine ⟨us.length, .inl ⟨_, SqL.of hu, rfl⟩, ?_⟩
      rw [hul]
      exact ifn (by simp) s2
    rintro ⟨rfl, s2⟩
    have hF2 := hF1.same s2
    have ht2 := s2 _ _ ht1
    refine ⟨fun σ G => σ = [some (.ref z.p), some (.int ((s.fr.length : Nat) : Int)), some (.int ((s.sr.length : Nat) : Int)), some (.int nb), some (.int x), some (.ref h), some (.ref m), some (.ref t), none] ∧ SsAt A.C_Sheets A.C_Spots A.C_Sheet G z (s.put f j none) ∧ Kd z H G ∧ G t = some (.tup [.str (nmS f), .int ((j : Nat) : Int)]), ?_, fun σ3 G3 => ?_⟩
    · obtain ⟨dx9, h9⟩ := hF2.ss.me
      walk_at "wp"
      refine ⟨dx9, _, h9, ssF_no (by decide +kernel), dx9, _, h9, ssF_no (by decide +kernel), z, s, t, f, j, some r, rfl, hF2.ss, ht2, hr, hokh, fun l H2 hl s3 htd => ?_⟩
      have htd : TdK H2 l r.ks := htd
      rw [hk0] at htd
      obtain ⟨us, hu, hp⟩ := htd
      obtain ⟨v, hv, a0, rfl, ha0⟩ := prd_get2 hp (i := 0) (y := k0) rfl
      refine ⟨l, rfl, _, SqL.of hu, _, atI_nat (j := 0) hv, z, s, t, a0, f, j, r, k0, rfl, hF2.ss.same s3, hF2.ap, s3 _ _ ht2, hr, ha0, by rw [hk0]; exact List.mem_cons_self .., fun H' hS' hA' kd => ?_⟩
      have eg : gone s f j r k0 = s.put f j none := by
        unfold gone
        rw [if_pos (by rw [hk0]; unfold offK; simp)]
      rw [eg] at hS'
      have nfour : ∀ {us : List V}, H2 t = some (.tup us) → t ∉ z.four := fun hc z9 => by obtain ⟨ws, h8⟩ := (hF2.ss.same s3).fours _ z9; rw [hc] at h8; cases h8
      have htp : t ≠ z.p := fun z9 => by have := s3 _ _ ht2; rw [z9, s3 _ _ h9] at this; cases this
      exact ⟨hS', ((Kd.of (s1.trans (s2.trans s3))).trans kd), kd _ _ (s3 _ _ ht2) htp (four_two (nfour (s3 _ _ ht2))) (fun _ z => nomatch z)⟩
    rintro ⟨rfl, hS3, k3, ht3⟩
    have hlv := live_none hr
    have hrm : room (s.put f j none) = room s := by cases f <;> (unfold room; show (_ : Nat) + _ = _; simp [St.put])
    have hrow : ((s.put f j none).rw f)[j]? = some none := by
      cases f with
      | true => exact List.getElem?_set_self hj
      | false => exact List.getElem?_set_self hj
    have hfl : (s.put f j none).fr.length = s.fr.length := by cases f <;> simp [St.put]
    have hsl : (s.put f j none).sr.length = s.sr.length := by cases f <;> simp [St.put]
    have hA3 : Ap (s.put f j none) := ap_none hF.ap
    have hof3 : okS (s.put f j none).fr := fun q hq => by
      rcases mem_put (f := f) (j := j) (.inl hq) with e | e | e
      · cases e
      · exact hF.of q e
      · exact hF.os q e
    have hos3 : okS (s.put f j none).sr := fun q hq => by
      rcases mem_put (f := f) (j := j) (.inr hq) with e | e | e
      · cases e
      · exact hF.of q e
      · exact hF.os q e
    refine ⟨fun σ G => σ = [some (.ref z.p), some (.int ((s.fr.length : Nat) : Int)), some (.int ((s.sr.length : Nat) : Int)), some (.int nb), some (.int x), some (.ref h), some (.ref m), some (.ref t), none] ∧ Same G3 G, ?_, fun σ4 G4 => ?_⟩
    · obtain ⟨dx9, h9⟩ := hS3.me
      walk_at "wp"
      refine ⟨dx9, _, h9, ssF_no (by decide +kernel), z, _, t, f, j, none, rfl, hS3, ht3, hrow, fun _ => ?_, (fun q e => nomatch e)⟩
      refine ifn (by simp) ⟨dx9, _, h9, ssF_no (by decide +kernel), z, _, rfl, hS3, fun H' s4 => ?_⟩
      have e1 : ((live (s.put f j none) : Nat) : Int) = ((s.fr.length : Nat) : Int) + ((s.sr.length : Nat) : Int) - 1 := by unfold room at hfull; omega
      exact ⟨_, _, .leaf (.int (((s.fr.length : Nat) : Int) + ((s.sr.length : Nat) : Int) - 1)), rfl, by rw [e1]; unfold Lks; exact ⟨rfl, rfl⟩, by unfold Lks; exact ⟨rfl, rfl⟩, by rw [deep]; exact Nat.zero_le _, fun G2 s2 => ⟨true, rfl, iteF (s4.trans s2)⟩⟩
    rintro ⟨rfl, s4⟩
    have hS4 := hS3.same s4
    have k4 : Kd z H G4 := k3.trans (Kd.of s4)
    have nz : ∀ {c : Addr} {o : HO}, H c = some o → (∀ D d fs, o ≠ .ins D d fs) → c ≠ z.p := fun hc hn z9 => by obtain ⟨dx, h9⟩ := hF.ss.me; rw [z9, h9] at hc; exact hn _ _ _ (Option.some.inj hc).symm
    have nt : ∀ {c : Addr} {us : List V}, H c = some (.tup us) → c ∉ z.four := fun hc z9 => by obtain ⟨ws, h8⟩ := hF.ss.fours _ z9; rw [hc] at h8; cases h8
    have hh4 := k4 _ _ hh (nz hh (fun _ _ _ z => nomatch z)) (four_two (nt hh)) (fun _ z => nomatch z)
    have hm4 := k4 _ _ hm (nz hm (fun _ _ _ z => nomatch z)) (four_two hmf) (fun _ z => nomatch z)
    clear hF1 hF2 s1 s2 ht1 ht2 hS3 k3 ht3 s4
    refine ⟨fun σ G => ∃ t5, σ = [some (.ref z.p), some (.int ((s.fr.length : Nat) : Int)), some (.int ((s.sr.length : Nat) : Int)), some (.int nb), some (.int x), some (.ref h), some (.ref m), some (.ref t), some (.ref t5)] ∧ Fnd A.C_Sheets A.C_Spots A.C_Sheet H G z s x k t5, ?_, fun σ5 G5 => ?_⟩
    · obtain ⟨dx9, h9⟩ := hS4.me
      walk_at "wp"
      refine ⟨dx9, _, h9, ssF_no (by decide +kernel), fun l hl => ?_⟩
      obtain ⟨s5, g5⟩ := new_at (o := .lst [V.int x]) hl
      generalize upd G4 l _ = J at *
      refine ⟨z, _, l, h, m, [x], k, ms, rfl, hS4.same s5, hA3, g5, hS4.nf hl, s5 _ _ hh4, s5 _ _ hm4, by rw [hfl]; exact hml, fun q hq => (hof3 q hq).1, ?_⟩
      rw [if_pos (by omega)]
      intro H' s6 i ps out t5 e5 v5 r5 b1 b2 b3 b4 b5 b6 b7 b8 b9 b10
      obtain ⟨fi, fp, fl1, fl2, fm⟩ := b1.facts
      have okr : Okh r5 ∧ Okm r5 := ⟨⟨k, b5⟩, by
        unfold Okm
        rw [show srt r5.ks = r5.ks from rfl, b4, b5]
        exact ⟨by show 1 ≤ 64; decide, by show 1 ≤ 64; decide, fun k9 h9 => by rw [List.mem_singleton.mp h9]; exact hk64⟩⟩
      have okm : ∀ q, some q ∈ s6.fr ∨ some q ∈ s6.sr → Okh q ∧ Okm q := fun q hq => (fm q hq).elim (hof3 q) (hos3 q)
      have hil := (List.getElem?_eq_some_iff.mp fi).1
      refine ⟨t5, rfl, i, .ref e5, v5, { s6 with fr := s6.fr.set i (some r5) }, r5, b6, ⟨b2, b3, fun q hq => ?_, fun q hq => okm q (.inr hq)⟩, List.getElem?_set_self hil, b4, b5, ?_, by show (s6.fr.set i (some r5)).length = _; rw [List.length_set, fl1, hfl], by show s6.sr.length = _; rw [fl2, hsl], (k4.trans (Kd.of s5)).trans b10.kd⟩
      · rcases List.mem_or_eq_of_mem_set (show some q ∈ s6.fr.set i (some r5) from hq) with e | e
        · exact okm q (.inl e)
        · cases e; exact okr
      · have e1 : live { s6 with fr := s6.fr.set i (some r5) } = live s6 + 1 := by
          rw [live_hd, live_hd]
          unfold hdS
          show (hds (s6.fr.set i (some r5) ++ s6.sr)).length = _
          rw [hds_app, hds_app, List.length_append, List.length_append, (hds_fill fi).length_eq, List.length_cons]
          omega
        have e2 : live s6 = live (s.put f j none) := by rw [live_hd, live_hd]; exact fp.length_eq
        have e3 : room { s6 with fr := s6.fr.set i (some r5) } = room s := by
          unfold room
          show (s6.fr.set i (some r5)).length + s6.sr.length = _
          rw [List.length_set, fl1, fl2, hfl, hsl]
        omega
    rintro ⟨t5, rfl, i, e5, v5, s5, r5, h5, hF5, hi5, hb5, hk5, hl5, hn5, hm5, k5⟩
    refine ⟨fun σ G => σ = [some (.ref z.p), some (.int ((s.fr.length : Nat) : Int)), some (.int ((s.sr.length : Nat) : Int)), some (.int nb), some (.int x), some (.ref h), some (.ref m), some (.ref t), some (.ref t5)] ∧ G = G5, ?_, fun σ6 G6 => ?_⟩
    · walk_at "wp"
      refine ⟨by decide, kn_tup h5, ?_⟩
      rw [isTy_tup h5]
      exact iteF ⟨3, .inr ⟨_, SqT.of h5, rfl⟩, ifn (by simp) trivial⟩
    rintro ⟨rfl, rfl⟩
    obtain ⟨dx9, h9⟩ := hF5.ss.me
    have hh5 := k5 _ _ hh (nz hh (fun _ _ _ z => nomatch z)) (four_two (nt hh)) (fun _ z => nomatch z)
    walk_at "wp"
    refine ⟨dx9, _, h9, ssF_no (by decide +kernel), z, s5, rfl, hF5.ss, hF5.of, fun G7 l7 s7 hl7 hk7 => ?_⟩
    have hk7' := hk7
    unfold Lks at hk7'
    obtain ⟨l8, us, e8, hl8, _, hL⟩ := hk7'
    cases e8
    have hdv : (s5.fr.map dvS)[i]? = some (dvS (some r5)) := by rw [List.getElem?_map, hi5]; rfl
    obtain ⟨v, hv, hvL⟩ := hL.at hdv
    have s7F := hF5.same s7
    refine ⟨_, SqT.of (s7 _ _ h5), _, atI_nat (j := 0) rfl, l7, rfl, _, (i : Int), rfl, SqL.of hl8, v, atI_nat hv, fun p1 hp1 p2 hp2 p3 hp3 => ?_⟩
    obtain ⟨a1, c1⟩ := new_at (o := .lst [V.int x]) hp1
    generalize upd G7 p1 _ = J1 at *
    obtain ⟨a2, c2⟩ := new_at (o := .lst [V.ref h]) hp2
    generalize upd J1 p2 _ = J2 at *
    obtain ⟨a3, c3⟩ := new_at (o := .tup [V.ref p1, V.ref p2, V.non]) hp3
    generalize upd J2 p3 _ = J3 at *
    have s3 := a1.trans (a2.trans a3)
    refine ⟨_, _, _, rfl, hvL.same s3, ?_, Nat.le_trans deep_S (by decide), fun G8 s8 => q G8 s5 (hF5.same (s7.trans (s3.trans s8))) hl5 hn5 hm5 (k5.trans (Kd.of (s7.trans (s3.trans s8))))⟩
    have hw : RwT J3 [] (.ref p3) (some r5) := ⟨p3, p1, p2, rfl, c3, by rw [hb5]; exact (a2.trans a3) _ _ c1, by rw [show srt r5.ks = r5.ks from rfl, hk5]; exact ⟨_, a3 _ _ c2, .cons ⟨h, rfl, (s7.trans s3) _ _ hh5⟩ .nil⟩, List.not_mem_nil, List.not_mem_nil⟩
    exact hw.lks fun q e => by cases e; exact (hF5.of r5 (List.mem_of_getElem? hi5)).2
theorem cutV_nat {xs : List V} {lo hi : Nat} : cutV xs (some (lo : Int)) (some (hi : Int)) = (xs.take hi).drop lo := by
  unfold cutV
  show (xs.drop (if (lo : Int) < 0 then ((lo : Int) + (xs.length : Int)).toNat else min (lo : Int).toNat xs.length)).take ((if (hi : Int) < 0 then ((hi : Int) + (xs.length : Int)).toNat else min (hi : Int).toNat xs.length) - (if (lo : Int) < 0 then ((lo : Int) + (xs.length : Int)).toNat else min (lo : Int).toNat xs.length)) = _
  rw [if_neg (by omega), if_neg (by omega), Int.toNat_natCast, Int.toNat_natCast, List.drop_take]
  refine List.ext_getElem? fun k => ?_
  rw [List.getElem?_take, List.getElem?_take, List.getElem?_drop, List.getElem?_drop]
  by_cases h1 : k < hi - lo
  · rw [if_pos h1]
    by_cases h2 : k < min hi xs.length - min lo xs.length
    · rw [if_pos h2, Nat.min_eq_left (by omega)]
    · rw [if_neg h2, List.getElem?_eq_none_iff.mpr (by omega)]
  · rw [if_neg h1]
    by_cases h2 : k < min hi xs.length - min lo xs.length
    · rw [if_pos h2, List.getElem?_eq_none_iff.mpr (by omega)]
    · rw [if_neg h2]
def spLaw (K : PySem.W.Frag) : Sp := fun vs H Q _ => ∃ (a : Addr) (ns : List Int), vs = [.ref a] ∧ SqL K H a (ns.map V.int) ∧ ns.length ≤ 63 ∧ ∀ H', Q (.bl true) H'
theorem body_law (T : Txt K mg A) : Body P w K mg base "law" s_law ["_law_script", "_law_frames", "_law_slots", "_law_sheets", "_law_k", "_law_cell_here", "_law_marks", "_law_number", "_law_holder"] 12 (spLaw K) := by
  intro f cdv A' outer s H vs Q E hr z
  obtain ⟨a, ns, rfl, hs, hn, qq⟩ := z
  have H_l_cell := h_cell (P := P) (w := w) (base := base) T a ns
  have H_l_too_many := h_tm (P := P) (w := w) (base := base) T
  have H_l_changed := h_ch (P := P) (w := w) (base := base) T
  have H_Sheets_init := h_ssi (P := P) (w := w) (base := base) T
  have H_Sheets_fresh := h_fresh (P := P) (w := w) (base := base) T
  have H_Sheets_back := h_back (P := P) (w := w) (base := base) T
  refine ⟨_, (pss_cons (ps_set (i := 1) sc_law.nd rfl (Or.inl rfl) (pe_op op_add pe_int (pe_op op_mod (pe_callE H_l_cell (hr.mono (by decide)) xw_def (pa_cons (pvM 0) (pa_cons pe_int pa_nil))) pe_int)))
      (pss_cons (ps_set (i := 2) sc_law.nd rfl (Or.inl rfl) (pe_op op_mod (pe_callE H_l_cell (hr.mono (by decide)) xw_def (pa_cons (pvM 0) (pa_cons pe_int pa_nil))) pe_int))
      (pss_cut (ps_if (pt_cmpR op_eq (pe_op op_mod (pe_op op_fdiv (pe_callE H_l_cell (hr.mono (by decide)) xw_def (pa_cons (pvM 0) (pa_cons pe_int pa_nil))) pe_int) pe_int) pe_int (nomark _)) (pss_cons (ps_set (i := 1) sc_law.nd rfl (Or.inl rfl) (pe_op op_add pe_int (pe_op op_mod (pe_op op_fdiv (pe_callE H_l_cell (hr.mono (by decide)) xw_def (pa_cons (pvM 0) (pa_cons pe_int pa_nil))) pe_int) pe_int)))
      (pss_one (ps_set (i := 2) sc_law.nd rfl (Or.inl rfl) (pe_op op_mod (pe_op op_fdiv (pe_callE H_l_cell (hr.mono (by decide)) xw_def (pa_cons (pvM 0) (pa_cons pe_int pa_nil))) pe_int) pe_int)))) pss_nil)
      (pss_cut (ps_set (i := 3) sc_law.nd rfl (Or.inl rfl) (pe_makeE H_Sheets_init (hr.mono (by decide)) xw_def (pa_cons (pvM 1) (pa_cons (pvM 2) (pa_cons pe_int pa_nil)))))
      (pss_cut (ps_forE PassesOwn.leaving rfl (pi_range1 rfl T.b_range (pa_cons (pe_op op_add (pvM 1) (pvM 2)) pa_nil)) (pg_name (i := 4) sc_law.nd rfl (Or.inr rfl)) (pss_cut (ps_set (i := 5) sc_law.nd rfl (Or.inr rfl) (pe_callE H_l_cell (hr.mono (by decide)) xw_def (pa_cons (pvM 0) (pa_cons (pe_op op_add pe_int (pe_op op_mod (pvM 4) (pe_callB (call_max2 rfl) rfl T.b_max PyProof.Rows.boot_max (pa_cons pe_int (pa_cons (pe_op op_sub (pe_callB call_len rfl T.b_len PySem.boot_len (pa_cons (pvM 0) pa_nil)) pe_int) pa_nil))))) pa_nil))))
      (pss_cut (ps_setC (i := 6) sc_law.nd rfl rfl rfl (pi_range1 rfl T.b_range (pa_cons (pvM 1) pa_nil)) (x := "_law_j") (fs := ["_law_k", "_law_cell_here"]) (ix := [4, 5]) rfl rfl (fun _ _ _ _ _ _ => (pg_name (i := 0) (show (["_law_j", "_law_k", "_law_cell_here"] : List Str).Nodup by decide +kernel) rfl (Or.inl rfl))) (fun _ _ _ _ _ _ => pf_nil) (fun _ _ _ _ _ _ => (pe_cmpR op_eq (pe_op op_mod (pe_op op_add (pvM 2) (pe_op op_mul (pvM 0) (pvM 1))) pe_int) pe_int (nomark _))))
      (pss_one (ps_expr (pe_methE (pvM 3) T.cl_Sheets H_Sheets_fresh (hr.mono (by decide)) xw_def (pa_cons (pe_lst (pa_cons (pe_op op_mod (pvM 5) (pe_op op_pow pe_int pe_int)) pa_nil)) (pa_cons (pe_tup (pa_cons pe_str (pa_cons (pvM 4) (pa_cons (pe_op op_mod (pvM 5) pe_int) pa_nil)))) (pa_cons (pvM 6) pa_nil)))))))))
      (pss_cons (ps_forE PassesOwn.leaving rfl (pi_enum rfl T.b_enumerate (pa_cons (pe_slice sl_list (pvM 0) (po_some pe_int) (po_some pe_int)) pa_nil)) (pg_tup (n := 2) rfl (pgs_cons (pg_name (i := 4) sc_law.nd rfl (Or.inr rfl)) (pgs_cons (pg_name (i := 5) sc_law.nd rfl (Or.inr rfl)) pgs_nil))) (pss_cons (ps_set (i := 7) sc_law.nd rfl (Or.inr rfl) (pe_op op_mod (pe_op op_add (pe_op op_mul (pvM 5) pe_int) (pe_op op_mul (pvM 4) pe_int)) pe_int))
      (pss_cut (ps_setC (i := 6) sc_law.nd rfl rfl rfl (pi_range1 rfl T.b_range (pa_cons (pvM 1) pa_nil)) (x := "_law_j") (fs := ["_law_number"]) (ix := [7]) rfl rfl (fun _ _ _ _ _ _ => (pg_name (i := 0) (show (["_law_j", "_law_number"] : List Str).Nodup by decide +kernel) rfl (Or.inl rfl))) (fun _ _ _ _ _ _ => pf_nil) (fun _ _ _ _ _ _ => (pe_cmpR op_eq (pe_op op_mod (pe_op op_shr (pvM 1) (pe_op op_mod (pvM 0) pe_int)) pe_int) pe_int (nomark _))))
      (pss_cut (ps_if (pt_not (pt_val (pe_callE H_l_too_many (hr.mono (by decide)) xw_def (@pa_cons _ _ _ _ _ (pvM 3) (@pa_cons _ _ _ _ _ (pvM 5) (@pa_cons _ _ _ _ _ (pvM 7) (@pa_cons _ _ _ _ _ (pvM 6) (@pa_cons _ _ _ _ _ (pe_op op_add (pvM 1) (pvM 2)) pa_nil rfl) rfl) rfl) rfl) rfl)))) (pss_one (ps_ret pe_bl)) pss_nil)
      (pss_cut (ps_if (PW.pt (pw_and (pt_cmpR op_gt (pvM 2) pe_int (nomark _)) (pw_and1 (pt_cmpR op_eq (pe_op op_mod (pe_op op_fdiv (pvM 7) pe_int) pe_int) pe_int (nomark _))))) (pss_one (ps_expr (pe_methE (pvM 3) T.cl_Sheets H_Sheets_back (hr.mono (by decide)) xw_def (pa_cons (pe_op op_mod (pe_op op_fdiv (pvM 7) pe_int) (pvM 2)) (pa_cons (pvM 6) pa_nil))))) pss_nil)
      (pss_cut (ps_set (i := 8) sc_law.nd rfl (Or.inl rfl) (pe_tup (pa_cons pe_str (pa_cons (pvM 4) (pa_cons (pe_op op_mod (pvM 7) pe_int) pa_nil)))))
      (pss_one (ps_if (pt_not (pt_val (pe_callE H_l_changed (hr.mono (by decide)) xw_def (@pa_cons _ _ _ _ _ (pvM 3) (@pa_cons _ _ _ _ _ (pvM 1) (@pa_cons _ _ _ _ _ (pvM 2) (@pa_cons _ _ _ _ _ (pe_op op_fdiv (pvM 7) pe_int) (@pa_cons _ _ _ _ _ (pe_op op_mod (pvM 5) (pe_op op_pow pe_int pe_int)) (@pa_cons _ _ _ _ _ (pvM 8) (@pa_cons _ _ _ _ _ (pvM 6) pa_nil rfl) rfl) rfl) rfl) rfl) rfl) rfl)))) (pss_one (ps_ret pe_bl)) pss_nil))))))))
      (pss_one (ps_ret (pe_callE H_l_too_many (hr.mono (by decide)) xw_def (@pa_cons _ _ _ _ _ (pvM 3) (@pa_cons _ _ _ _ _ pe_int (@pa_cons _ _ _ _ _ pe_int (@pa_cons _ _ _ _ _ (pe_comp rfl (pi_range1 rfl T.b_range (pa_cons (pvM 1) pa_nil)) (x := "_law_j") (fs := []) (ix := []) rfl rfl (fun _ _ _ _ _ _ => (pg_name (i := 0) (show (["_law_j"] : List Str).Nodup by decide +kernel) rfl (Or.inl rfl))) (fun _ _ _ _ _ _ => pf_nil) (fun _ _ _ _ _ _ => pe_bl)) (@pa_cons _ _ _ _ _ (pe_op op_add (pvM 1) (pvM 2)) pa_nil rfl) rfl) rfl) rfl) rfl)))))))))), ?_⟩
  walk_at "wp"
  refine ⟨0, rfl, hs, by omega, _, rfl, 1, rfl, hs, by omega, _, rfl, ?_⟩
  refine ⟨fun σ G => ∃ n m : Nat, σ = [some (.ref a), some (.int (n : Int)), some (.int (m : Int)), none, none, none, none, none, none] ∧ G = H ∧ 1 ≤ n ∧ n ≤ 40 ∧ m ≤ 40, ?_, fun σ1 G1 => ?_⟩
  · have nat : ∀ x y : Int, 1 ≤ x → x ≤ 40 → 0 ≤ y → y ≤ 40 → ∃ n m : Nat, x = (n : Int) ∧ y = (m : Int) ∧ 1 ≤ n ∧ n ≤ 40 ∧ m ≤ 40 := fun x y h1 h2 h3 h4 => ⟨x.toNat, y.toNat, by omega, by omega, by omega, by omega, by omega⟩
    walk_at "wp"
    refine ⟨0, rfl, hs, by omega, _, rfl, ite2 (fun _ => ⟨0, rfl, hs, by omega, _, rfl, 0, rfl, hs, by omega, _, rfl, ?_⟩) (fun _ => ?_)⟩
    · obtain ⟨n, m, e1, e2, e3⟩ := nat (1 + ns.getD (0 : Int).toNat 0 / 16 % 40) (ns.getD (0 : Int).toNat 0 / 640 % 41) (by omega) (by omega) (by omega) (by omega)
      exact ⟨n, e1, m, e2, rfl, e3⟩
    · obtain ⟨n, m, e1, e2, e3⟩ := nat (1 + ns.getD (0 : Int).toNat 0 % 4) (ns.getD (1 : Int).toNat 0 % 5) (by omega) (by omega) (by omega) (by omega)
      exact ⟨n, e1, m, e2, rfl, e3⟩
  rintro ⟨n, m, rfl, rfl, hn1, hn2, hm2⟩
  refine ⟨fun σ G => ∃ z : Ss, σ = [some (.ref a), some (.int (n : Int)), some (.int (m : Int)), some (.ref z.p), none, none, none, none, none] ∧ Same G1 G ∧ SsAt A.C_Sheets A.C_Spots A.C_Sheet G z ⟨List.replicate n none, List.replicate m none, 0, 0, 0, 0⟩ ∧ (∀ c ∈ z.four, G1 c = none) ∧ G1 z.p = none, ?_, fun σ2 G2 => ?_⟩
  · walk_at "wp"
    intro x dx hx hdx hne
    have sm := same_make (o := .ins A.C_Sheets dx []) hx hdx hne
    refine ⟨x, dx, n, m, 1, rfl, upd_same, hn1, by omega, by omega, fun H' y hy e1 e2 kp => ⟨rfl, ?_⟩⟩
    subst e1
    exact ⟨y, rfl, fun c o h => kp c o (sm c o h) (fun z => ne_of_none h hx (List.mem_singleton.mp z)), hy, fun c hc => same_none sm (e2 c hc), hx⟩
  rintro ⟨z, rfl, s2, hS2, f2, p2⟩
  have hA2 : Ap ⟨List.replicate n none, List.replicate m none, 0, 0, 0, 0⟩ := by
    show (hds (List.replicate n none ++ List.replicate m none)).Nodup
    rw [hds_app]
    unfold hds
    rw [List.filterMap_eq_nil_iff.mpr (fun a ha => by rw [List.eq_of_mem_replicate ha]; rfl), List.filterMap_eq_nil_iff.mpr (fun a ha => by rw [List.eq_of_mem_replicate ha]; rfl)]
    exact List.nodup_nil
  have hO2 : ∀ n : Nat, okS (List.replicate n none) := fun n r hr => absurd (List.eq_of_mem_replicate hr) (fun z => nomatch z)
  have hF2 : Fl A.C_Sheets A.C_Spots A.C_Sheet G2 z ⟨List.replicate n none, List.replicate m none, 0, 0, 0, 0⟩ := ⟨hS2, hA2, hO2 n, hO2 m⟩
  have hz := PySem.sizeLine_eq
  refine ⟨fun σ G => ∃ v4 v5 v6 s, σ = [some (.ref a), some (.int (n : Int)), some (.int (m : Int)), some (.ref z.p), v4, v5, v6, none, none] ∧ Same G1 G ∧ Fl A.C_Sheets A.C_Spots A.C_Sheet G z s ∧ s.fr.length = n ∧ s.sr.length = m ∧ live s = room s, ?_, fun σ3 G3 => ?_⟩
  · walk_at "wp"
    refine ⟨by omega, by omega, loop_range (fun i σ G => ∃ v4 v5 v6 s, σ = [some (.ref a), some (.int (n : Int)), some (.int (m : Int)), some (.ref z.p), v4, v5, v6, none, none] ∧ Same G1 G ∧ Fl A.C_Sheets A.C_Spots A.C_Sheet G z s ∧ s.fr.length = n ∧ s.sr.length = m ∧ live s = i) ⟨_, _, _, _, rfl, s2, hF2, List.length_replicate, List.length_replicate, ?_⟩ (fun i σ G hi => ?_) (fun σ G => ?_)⟩
    · unfold live
      show cnt (List.replicate n none) + cnt (List.replicate m none) = 0
      rw [cnt_none, cnt_none]
    · rintro ⟨v4, v5, v6, s, rfl, s3, hF, hl1, hl2, hlv⟩
      walk_at "wp"
      refine ⟨fun σ G' => ∃ k9 c : Int, σ = [some (.ref a), some (.int (n : Int)), some (.int (m : Int)), some (.ref z.p), some (.int k9), some (.int c), v6, none, none] ∧ G' = G ∧ 0 ≤ k9 ∧ k9 ≤ 1000, ?_, fun σ4 G4 => ?_⟩
      · walk_at "wp"
        refine ⟨ns.length, .inl ⟨_, s3.seq hs, by rw [List.length_map]⟩, ?_⟩
        have hp : (0 : Int) < if (ns.length : Int) - 2 > 1 then (ns.length : Int) - 2 else 1 := by split <;> omega
        generalize (if (ns.length : Int) - 2 > 1 then (ns.length : Int) - 2 else 1) = w9 at *
        have := Int.emod_nonneg (0 + (i : Int)) (show w9 ≠ 0 by omega)
        exact ⟨hp, _, rfl, s3.seq hs, by omega, _, rfl, rfl, by omega, by omega⟩
      rintro ⟨k9, c, rfl, rfl, hk0, hk1⟩
      refine ⟨fun σ G' => ∃ (mk : Addr) (ms : List Bool), σ = [some (.ref a), some (.int (n : Int)), some (.int (m : Int)), some (.ref z.p), some (.int k9), some (.int c), some (.ref mk), none, none] ∧ Same G4 G' ∧ G' mk = some (.lst (ms.map V.bl)) ∧ ms.length = n, ?_, fun σ5 G5 => ?_⟩
      · walk_at "wp"
        refine ⟨by omega, by omega, fun D hD => ?_⟩
        refine comp_range (fun i ys σ H' => ∃ (v : Option V) (ms : List Bool), σ = [v, some (.int k9), some (.int c)] ∧ Same G4 H' ∧ H' D = some (.lst ys) ∧ ys = ms.map V.bl ∧ ms.length = i) ⟨_, [], rfl, same_upd same_refl hD, upd_same, rfl, rfl⟩ (fun i ys σ H' hi => ?_) (fun ys σ H5 => ?_)
        · rintro ⟨v, ms, rfl, s1, hD1, rfl, hml⟩
          walk_at "wp"
          exact ⟨.inr ⟨by omega, by omega⟩, hD1, by rw [List.length_map]; omega, same_put s1 hD, ms ++ [_], by rw [List.map_append]; rfl, by rw [List.length_append, hml]; rfl⟩
        · rintro ⟨v, ms, rfl, s1, hD1, rfl, hml⟩
          exact ⟨s1, ms, hD1, by omega⟩
      rintro ⟨mk, ms, rfl, s5, hmk, hml⟩
      have hF5 := hF.same s5
      obtain ⟨dx9, h9⟩ := hF5.ss.me
      walk_at "wp"
      refine ⟨dx9, _, h9, ssF_no (by decide +kernel), fun l hl h hh => ?_⟩
      obtain ⟨a1, b1⟩ := new_at (o := .lst [V.int (c % 1000000000000000000000000000000)]) hl
      generalize upd G5 l _ = J1 at *
      obtain ⟨a2, b2⟩ := new_at (o := .tup [V.str (Str.ofString "task"), V.int k9, V.int (c % 100)]) hh
      generalize upd J1 h _ = J2 at *
      have hFJ := (hF5.same a1).same a2
      have sJ : Same G1 J2 := (s3.trans s5).trans (a1.trans a2)
      refine ⟨z, s, l, h, mk, [c % 1000000000000000000000000000000], [Sum.inr (Str.ofString "task"), Sum.inl k9, Sum.inl (c % 100)], ms, rfl, hFJ.ss, hFJ.ap, a2 _ _ b1, hF5.ss.nf hl, b2, a2 _ _ (a1 _ _ hmk), by omega, fun r hr => (hFJ.of r hr).1, ?_⟩
      rw [if_pos (by unfold room; omega)]
      intro H' s6 j ps out t5 e5 v5 r5 c1 c2 c3 c4 c5 c6 c7 c8 c9 c10
      obtain ⟨s7, hF7, q1, q2, q3⟩ := fresh_fl hFJ c1 c2 c3 c4 c5 (by show 1 ≤ 64; decide) (by show 3 ≤ 64; decide)
      refine ⟨fun x o hx => c10 x o (sJ _ _ hx) (fun z9 => ?_) (four_two fun z9 => ?_), s7, hF7, by omega, by omega, by omega⟩
      · rw [z9, p2] at hx; cases hx
      · rw [f2 x z9] at hx; cases hx
    · rintro ⟨v4, v5, v6, s, rfl, s3, hF, hl1, hl2, hlv⟩
      exact ⟨v4, v5, v6, rfl, s3, s, hF, hl1, hl2, by unfold room; omega⟩
  rintro ⟨v4, v5, v6, s, rfl, s3, hF3, hl1, hl2, hlv⟩
  walk_at "wp"
  refine ⟨_, s3.seq hs, fun sl hsl => ?_⟩
  have hcut : cutV (ns.map V.int) (some 2) (some 22) = ((ns.take 22).drop 2).map V.int := by rw [show cutV (ns.map V.int) (some 2) (some 22) = ((ns.map V.int).take 22).drop 2 from cutV_nat (lo := 2) (hi := 22), ← List.map_take, ← List.map_drop]
  rw [hcut]
  generalize (ns.take 22).drop 2 = zc at *
  obtain ⟨s4, g4⟩ := new_at (o := .lst (zc.map V.int)) hsl
  have slf := hF3.ss.nf hsl
  have hF4 := hF3.same s4
  generalize upd G3 sl _ = G4 at *
  refine ⟨⟨_, SqL.of g4⟩, loop_enum (K := K) (xs := zc.map V.int) (fun i σ G => ∃ v4 v5 v6 v7 v8 s, σ = [some (.ref a), some (.int (n : Int)), some (.int (m : Int)), some (.ref z.p), v4, v5, v6, v7, v8] ∧ Fl A.C_Sheets A.C_Spots A.C_Sheet G z s ∧ s.fr.length = n ∧ s.sr.length = m ∧ live s = room s ∧ G sl = some (.lst (zc.map V.int))) ⟨_, _, _, _, _, s, rfl, hF4, hl1, hl2, hlv, g4⟩ (fun i σ G _ ⟨_, _, _, _, _, _, _, _, _, _, _, e⟩ => SqL.of e) (fun i v tt σ G hi => ?_) (fun σ G => ?_)⟩
  · rintro ⟨v4, v5, v6, v7, v8, s, rfl, hF, hl1, hl2, hlv, hsl⟩ htt
    rw [List.getElem?_map] at hi
    obtain ⟨c, hc, rfl⟩ : ∃ c, zc[i]? = some c ∧ v = V.int c := by
      cases e9 : zc[i]? with
      | none => rw [e9] at hi; cases hi
      | some c => rw [e9] at hi; exact ⟨c, rfl, (Option.some.inj hi).symm⟩
    obtain ⟨s5, g5⟩ := new_at (o := .tup [V.int (i : Int), V.int c]) htt
    walk_at "wp"
    generalize upd G tt _ = G5 at *
    have hF5 := hF.same s5
    have hsl5 := s5 _ _ hsl
    refine ⟨_, SqT.of g5, rfl, _, _, rfl, _, _, rfl, rfl, c, rfl, (i : Int), rfl, ?_⟩
    refine ⟨fun σ G' => ∃ (mk : Addr) (ms : List Bool) (nb : Int), σ = [some (.ref a), some (.int (n : Int)), some (.int (m : Int)), some (.ref z.p), some (.int (i : Int)), some (.int c), some (.ref mk), some (.int nb), v8] ∧ Same G5 G' ∧ G' mk = some (.lst (ms.map V.bl)) ∧ ms.length = n ∧ G5 mk = none, ?_, fun σ6 G6 => ?_⟩
    · walk_at "wp"
      refine ⟨by omega, by omega, fun D hD => ?_⟩
      refine comp_range (fun i9 ys σ H' => ∃ (v : Option V) (ms : List Bool), σ = [v, some (.int ((c * 16807 + (i : Int) * 48271) % 2147483647))] ∧ Same G5 H' ∧ H' D = some (.lst ys) ∧ ys = ms.map V.bl ∧ ms.length = i9) ⟨_, [], rfl, same_upd same_refl hD, upd_same, rfl, rfl⟩ (fun i9 ys σ H' hi9 => ?_) (fun ys σ H5 => ?_)
      · rintro ⟨v, ms, rfl, s1, hD1, rfl, hml⟩
        walk_at "wp"
        exact ⟨by omega, hD1, by rw [List.length_map]; omega, same_put s1 hD, ms ++ [_], by rw [List.map_append]; rfl, by rw [List.length_append, hml]; rfl⟩
      · rintro ⟨v, ms, rfl, s1, hD1, rfl, hml⟩
        exact ⟨s1, ms, hD1, by omega, hD⟩
    rintro ⟨mk, ms, nb, rfl, s6, hmk, hml, hmk0⟩
    have hF6 := hF5.same s6
    have hsl6 := s6 _ _ hsl5
    have hmf := hF5.ss.nf hmk0
    clear hF hsl hF5 hsl5 s5 g5 htt
    have hroom : ((n : Int) + (m : Int)) = ((room s : Nat) : Int) := by unfold room; omega
    refine ⟨fun σ G' => σ = [some (.ref a), some (.int (n : Int)), some (.int (m : Int)), some (.ref z.p), some (.int (i : Int)), some (.int c), some (.ref mk), some (.int nb), v8] ∧ Same G6 G', ?_, fun σ7 G7 => ?_⟩
    · walk_at "wp"
      rw [hroom]
      exact ⟨z, s, mk, ms, c, nb, rfl, hF6, hlv, hmk, by omega, fun H' s7 => ⟨true, rfl, iteF s7⟩⟩
    rintro ⟨rfl, s7⟩
    have hF7 := hF6.same s7
    have hsl7 := s7 _ _ hsl6
    have hmk7 := s7 _ _ hmk
    clear hF6 hsl6 hmk s6 s7 hmk0
    refine ⟨fun σ G' => ∃ s, σ = [some (.ref a), some (.int (n : Int)), some (.int (m : Int)), some (.ref z.p), some (.int (i : Int)), some (.int c), some (.ref mk), some (.int nb), v8] ∧ Fl A.C_Sheets A.C_Spots A.C_Sheet G' z s ∧ s.fr.length = n ∧ s.sr.length = m ∧ live s = room s ∧ G' sl = some (.lst (zc.map V.int)) ∧ G' mk = some (.lst (ms.map V.bl)), ?_, fun σ8 G8 => ?_⟩
    · walk_at "wp"
      refine (fun u9 => ite2 (fun h0 => ite2 (fun _ => ?_) (fun _ => u9)) (fun _ => iteF u9)) ⟨s, hF7, hl1, hl2, hlv, hsl7, hmk7⟩
      obtain ⟨dx9, h9⟩ := hF7.ss.me
      obtain ⟨j, hj, hjm⟩ : ∃ j : Nat, nb / 4096 % (m : Int) = (j : Int) ∧ j < m := by
        have e0 := Int.emod_nonneg (nb / 4096) (show (m : Int) ≠ 0 by omega)
        have e1 := Int.emod_lt_of_pos (nb / 4096) h0
        exact ⟨(nb / 4096 % (m : Int)).toNat, by omega, by omega⟩
      rw [hj]
      obtain ⟨r1, r2⟩ := full_rows hlv
      obtain ⟨cc, hcc⟩ := fe_none r2 (show j < s.sr.length by omega)
      refine ⟨dx9, _, h9, ssF_no (by decide +kernel), h0, z, s, j, mk, ms, cc, rfl, hF7.ss, hF7.ap, hmk7, by omega, fun r hr => (hF7.of r hr).1, r1, r2, hcc, fun H' i9 q9 ps t9 d1 d2 d3 d4 d5 => ?_⟩
      have nz : ∀ {x : Addr} {us : List V}, G7 x = some (.lst us) → x ≠ z.p := fun hx z9 => by rw [z9, h9] at hx; cases hx
      refine ⟨_, ⟨d3, d4, fun q hq => ?_, fun q hq => ?_⟩, by show (s.fr.set i9 (some cc)).length = n; rw [List.length_set]; exact hl1, by show (s.sr.set j (some q9)).length = m; rw [List.length_set]; exact hl2, ?_, d5 _ _ hsl7 (nz hsl7) (four_two slf), d5 _ _ hmk7 (nz hmk7) (four_two hmf)⟩
      · rcases List.mem_or_eq_of_mem_set (show some q ∈ s.fr.set i9 (some cc) from hq) with e | e
        · exact hF7.of q e
        · cases e; exact hF7.os _ (List.mem_of_getElem? hcc)
      · rcases List.mem_or_eq_of_mem_set (show some q ∈ s.sr.set j (some q9) from hq) with e | e
        · exact hF7.os q e
        · cases e; exact hF7.of _ (List.mem_of_getElem? d2)
      · have e1 : live (⟨s.fr.set i9 (some cc), s.sr.set j (some q9), (i9 + 1) % s.fr.length, s.go + 1, s.ga + 1, s.cb + 1⟩ : St) = live s := by rw [live_hd, live_hd]; exact (hds_swap d2 hcc).length_eq
        rw [e1, hlv]
        unfold room
        show _ = (s.fr.set i9 (some cc)).length + (s.sr.set j (some q9)).length
        rw [List.length_set, List.length_set]
    rintro ⟨s', rfl, hF8, hl18, hl28, hlv8, hsl8, hmk8⟩
    refine ⟨fun σ G' => ∃ h9, σ = [some (.ref a), some (.int (n : Int)), some (.int (m : Int)), some (.ref z.p), some (.int (i : Int)), some (.int c), some (.ref mk), some (.int nb), some (.ref h9)] ∧ Same G8 G' ∧ G' h9 = some (.tup ([Sum.inr (Str.ofString "bank"), Sum.inl (i : Int), Sum.inl (nb % 100)].map kV)), ?_, fun σ9 G9 => ?_⟩
    · walk_at "wp"
      exact fun p hp => ⟨same_upd same_refl hp, rfl⟩
    rintro ⟨h9, rfl, s9, hh9⟩
    walk_at "wp"
    have hF9 := hF8.same s9
    refine ⟨z, s', h9, mk, _, ms, nb / 128, c % 1000000000000000000000000000000, by rw [hl18, hl28], hF9, hlv8, hh9, by show 3 ≤ 64; decide, s9 _ _ hmk8, hmf, by omega, fun H' s10 hF10 w1 w2 w3 kd => ⟨true, rfl, iteF ⟨s10, hF10, by omega, by omega, w1, ?_⟩⟩⟩
    have h8 := s9 _ _ hsl8
    refine kd _ _ h8 (fun z9 => ?_) (four_two slf) (fun _ z9 => nomatch z9)
    obtain ⟨dx9, h9⟩ := hF9.ss.me
    rw [z9, h9] at h8; cases h8
  · rintro ⟨v4, v5, v6, v7, v8, s, rfl, hF, hl1, hl2, hlv, hsl⟩
    walk_at "wp"
    refine ⟨by omega, by omega, fun D hD => ?_⟩
    refine comp_range (fun i ys σ H' => ∃ (v : Option V) (ms : List Bool), σ = [v] ∧ Same G H' ∧ H' D = some (.lst ys) ∧ ys = ms.map V.bl ∧ ms.length = i) ⟨_, [], rfl, same_upd same_refl hD, upd_same, rfl, rfl⟩ (fun i ys σ H' hi => ?_) (fun ys σ H5 => ?_)
    · rintro ⟨v, ms, rfl, s1, hD1, rfl, hml⟩
      walk_at "wp"
      exact ⟨hD1, by rw [List.length_map]; omega, same_put s1 hD, ms ++ [_], by rw [List.map_append]; rfl, by rw [List.length_append, hml]; rfl⟩
    · rintro ⟨v, ms, rfl, s1, hD1, rfl, hml⟩
      have hroom : ((n : Int) + (m : Int)) = ((room s : Nat) : Int) := by unfold room; omega
      rw [hroom]
      exact ⟨z, s, D, ms, 5, 5, rfl, hF.same s1, hlv, hD1, by omega, fun H' _ => qq H'⟩

end

theorem walk {l : PySem.W.OpenLaw} {q : Program} {loose : List Str} {XP : (Str → Option Value) → Heap → Prop} {YP : World → Heap → Prop} {d : DefRec} {K : Params → PySem.W.Frag} (hn : l.most = some 63) (hdf : d.params.defaults = []) (hdn : d.name = "law")
    (hY : ∀ (w : World) (h : Heap), YP w h → (K w.params).In h)
    (F : ∀ (w : World) (mg : Str → Option Value) (h : Heap), (K w.params).In h → h.Ns mainGlobals mg → ∃ A : Adr, Txt (K w.params) mg A) :
    PySem.W.WalkO q loose XP YP l.row.toRowW d [] (fun f vs => PySem.call f vs) := by
  refine L2.walk_of (n := 63) (k := 12 + 1) (x := "_law_script") (CX := fun w => CXe l.prog w) (sp := fun w => spLaw (K w.params)) hn (by decide) hdf ⟨rfl, by decide, by decide⟩ hY ?_ (fun _ _ a ns hl _ hS => ⟨a, ns, rfl, hS, hl, fun _ => rfl⟩) fun _ _ _ _ _ ⟨_, _, _, _, _, _, _, _, _, _, z⟩ => z
  intro w mg fa h KX G hmg
  rw [hdn] at hmg
  obtain ⟨A, T⟩ := F w mg h KX G
  obtain ⟨f, fd, e, Fn, hb⟩ := T.r_law
  have e0 := hmg.symm.trans e
  cases e0
  exact ⟨fd, hb, fun base _ _ => Fn.okE sc_law (fun vs H Q E z => by obtain ⟨a, ns, rfl, _⟩ := z; rfl) (body_law (P := l.prog) (w := w) (base := base) T)⟩

section
open Hd
noncomputable def o2 (_ : Params) : Obj := ⟨.none, none, .dict ⟨[]⟩ 0, #[]⟩
noncomputable def o3 (P : Params) : Obj := dO 35 [ent P (S 6944663249689206880) 165 (.str (S 699838560520272013362597179274043844820798332517458973573337268914512493) 779), ent P (S 27127582262911072) 166 .none, ent P (S 116512114954948911152848992) 167 .none, ent P (S 455126385231797511086176) 168 (.builtin "__main__.__loader__#opaque"), ent P (S 6944661016558198880) 169 .none, ent P (S 500416834696884185539869749159288928) 170 (.ref 6), ent P (S 29827167671303893903271485536) 171 (.ref 4), ent P (S 6944663245527933024) 173 (.str (S 9700865007064396754801562313776) 172), ent P (S 455125376429887381069920) 174 .none, ent P (S 469986605152) 193 (.ref 21), ent P (S 545146499936607105348423) 213 (.ref 31), ent P (S 28835115112362063) 229 (.ref 44), ent P (S 2037243915540886812240) 245 (.ref 56), ent P (S 2148282720731175150147) 261 (.ref 68), ent P (S 119247121772623) 277 (.ref 80), ent P (S 119225645756495) 293 (.ref 92), ent P (S 2000274411557569787472) 309 (.ref 104), ent P (S 478459748949) 325 (.ref 116), ent P (S 1870502957375938719823) 341 (.ref 128), ent P (S 33048469456515151) 357 (.ref 140), ent P (S 121429199908943) 373 (.ref 152), ent P (S 2054452803) 389 (.ref 164), ent P (S 517280591951) 405 (.ref 176), ent P (S 504413714548) 417 (.ref 185), ent P (S 504229161300) 464 (.ref 216), ent P (S 500186509652) 517 (.ref 256), ent P (S 128047577983316) 778 (.ref 450), ent P (S 2018578202597599112544) 788 (.ref 461), ent P (S 1889380072283105815904) 797 (.ref 468), ent P (S 31381846404235127185299631456) 808 (.ref 475), ent P (S 483737071084356757515616) 819 (.ref 482), ent P (S 483846745014073506819424) 826 (.ref 489), ent P (S 9700307658800043374223860854112) 838 (.ref 496), ent P (S 31381789606350664195656281440) 853 (.ref 503), ent P (S 7889517) 859 (.ref 508)]
noncomputable def o15 (_ : Params) : Obj := tO []
noncomputable def o17 (_ : Params) : Obj := tO [(.str (S 108) 190)]
noncomputable def o20 (_ : Params) : Obj := cO [(.str (S 469986605152) 187), (.str (S 469986605152) 188), (.str (S 9700865007064396754801562313776) 189), (.int (1) 0), (.int (1) 0), (.int (0) 0), (.int (0) 0), (.int (3) 0), (.ref 15), (.bool true), (.int (181) 0), (.ref 16), .none, (.ref 17), (.ref 18), (.ref 19), (.int (191) 0), (.int (1) 0), (.str (S 9700865007064396754801562313776) 192)]
noncomputable def o21 (_ : Params) : Obj := ⟨(.type "function"), none, .func (PySem.W.fnOf (Str.ofString "_wall") (Str.ofString "_wall") (defArgs (top 0)) (defBody (top 0)) (defScope (top 0)) .none .none .none (.str (S 6944673128113922144) 164) none (.ref 20) .none), #[]⟩
noncomputable def o22 (_ : Params) : Obj := ⟨(.type "tuple"), none, .seq #[(.type "ValueError")] 0, #[]⟩
noncomputable def o29 (_ : Params) : Obj := ⟨(.type "tuple"), none, .seq #[] 0, #[]⟩
noncomputable def o30 (P : Params) : Obj := dO 3 [ent P (S 455125450472104437637216) 203 (.str (S 154789842426610354947036250589871895399) 194), ent P (S 500416517772168279997240570217455712) 207 (.int (5) 206), ent P (S 140854816109632365363434125429399349832812124725344) 208 (.ref 29), ent P (S 116512133262362862868258912) 210 (.ref 32), ent P (S 27127582262911072) 211 .none]
noncomputable def o31 (_ : Params) : Obj := ⟨(.type "type"), none, .cls { name := (Str.ofString "FrameError"), bases := [(.type "ValueError")], mro := [(.ref 31), (.type "ValueError"), (.type "Exception"), (.type "BaseException"), (.type "object")], ns := 30, qualname := (Str.ofString "FrameError"), hasDict := true, slotNames := [], subclasses := [(.ref 44), (.ref 56), (.ref 68), (.ref 80), (.ref 92), (.ref 104), (.ref 116), (.ref 128), (.ref 140), (.ref 152), (.ref 164), (.ref 176)], abstract := false, collection := none, hasDel := false }, #[(some (.ref 22)), none, (some (.str (S 545146499936607105348423) 196)), (some (.str (S 545146499936607105348423) 204)), (some (.builtin "ValueError.__new__")), (some (.bool true))]⟩
noncomputable def o32 (_ : Params) : Obj := ⟨(.type "getset_descriptor"), none, .fields ⟨[(.str (S 116512133262362862868258912) 209), (.ref 31), (.builtin "ExceptionGroup.__weakref__"), .none]⟩, #[]⟩
noncomputable def o35 (_ : Params) : Obj := ⟨(.type "tuple"), none, .seq #[(.ref 31)] 0, #[]⟩
noncomputable def o43 (P : Params) : Obj := dO 2 [ent P (S 455125450472104437637216) 221 (.str (S 154789842426610354947036250589871895399) 194), ent P (S 500416517772168279997240570217455712) 225 (.int (7) 224), ent P (S 140854816109632365363434125429399349832812124725344) 226 (.ref 42), ent P (S 27127582262911072) 227 .none]
noncomputable def o44 (_ : Params) : Obj := ⟨(.type "type"), none, .cls { name := (Str.ofString "NoShape"), bases := [(.ref 31)], mro := [(.ref 44), (.ref 31), (.type "ValueError"), (.type "Exception"), (.type "BaseException"), (.type "object")], ns := 43, qualname := (Str.ofString "NoShape"), hasDict := true, slotNames := [], subclasses := [], abstract := false, collection := none, hasDel := false }, #[(some (.ref 35)), none, (some (.str (S 28835115112362063) 214)), (some (.str (S 28835115112362063) 222)), (some (.builtin "ValueError.__new__")), (some (.bool true))]⟩
noncomputable def o55 (P : Params) : Obj := dO 2 [ent P (S 455125450472104437637216) 237 (.str (S 154789842426610354947036250589871895399) 194), ent P (S 500416517772168279997240570217455712) 241 (.int (9) 240), ent P (S 140854816109632365363434125429399349832812124725344) 242 (.ref 54), ent P (S 27127582262911072) 243 .none]
noncomputable def o56 (_ : Params) : Obj := ⟨(.type "type"), none, .cls { name := (Str.ofString "OutOfRoom"), bases := [(.ref 31)], mro := [(.ref 56), (.ref 31), (.type "ValueError"), (.type "Exception"), (.type "BaseException"), (.type "object")], ns := 55, qualname := (Str.ofString "OutOfRoom"), hasDict := true, slotNames := [], subclasses := [], abstract := false, collection := none, hasDel := false }, #[(some (.ref 47)), none, (some (.str (S 2037243915540886812240) 230)), (some (.str (S 2037243915540886812240) 238)), (some (.builtin "ValueError.__new__")), (some (.bool true))]⟩
noncomputable def o67 (P : Params) : Obj := dO 2 [ent P (S 455125450472104437637216) 253 (.str (S 154789842426610354947036250589871895399) 194), ent P (S 500416517772168279997240570217455712) 257 (.int (11) 256), ent P (S 140854816109632365363434125429399349832812124725344) 258 (.ref 66), ent P (S 27127582262911072) 259 .none]
noncomputable def o68 (_ : Params) : Obj := ⟨(.type "type"), none, .cls { name := (Str.ofString "BadRights"), bases := [(.ref 31)], mro := [(.ref 68), (.ref 31), (.type "ValueError"), (.type "Exception"), (.type "BaseException"), (.type "object")], ns := 67, qualname := (Str.ofString "BadRights"), hasDict := true, slotNames := [], subclasses := [], abstract := false, collection := none, hasDel := false }, #[(some (.ref 59)), none, (some (.str (S 2148282720731175150147) 246)), (some (.str (S 2148282720731175150147) 254)), (some (.builtin "ValueError.__new__")), (some (.bool true))]⟩
noncomputable def o79 (P : Params) : Obj := dO 2 [ent P (S 455125450472104437637216) 269 (.str (S 154789842426610354947036250589871895399) 194), ent P (S 500416517772168279997240570217455712) 273 (.int (13) 272), ent P (S 140854816109632365363434125429399349832812124725344) 274 (.ref 78), ent P (S 27127582262911072) 275 .none]
noncomputable def o80 (_ : Params) : Obj := ⟨(.type "type"), none, .cls { name := (Str.ofString "NoTask"), bases := [(.ref 31)], mro := [(.ref 80), (.ref 31), (.type "ValueError"), (.type "Exception"), (.type "BaseException"), (.type "object")], ns := 79, qualname := (Str.ofString "NoTask"), hasDict := true, slotNames := [], subclasses := [], abstract := false, collection := none, hasDel := false }, #[(some (.ref 71)), none, (some (.str (S 119247121772623) 262)), (some (.str (S 119247121772623) 270)), (some (.builtin "ValueError.__new__")), (some (.bool true))]⟩
noncomputable def o91 (P : Params) : Obj := dO 2 [ent P (S 455125450472104437637216) 285 (.str (S 154789842426610354947036250589871895399) 194), ent P (S 500416517772168279997240570217455712) 289 (.int (15) 288), ent P (S 140854816109632365363434125429399349832812124725344) 290 (.ref 90), ent P (S 27127582262911072) 291 .none]
noncomputable def o92 (_ : Params) : Obj := ⟨(.type "type"), none, .cls { name := (Str.ofString "NoBank"), bases := [(.ref 31)], mro := [(.ref 92), (.ref 31), (.type "ValueError"), (.type "Exception"), (.type "BaseException"), (.type "object")], ns := 91, qualname := (Str.ofString "NoBank"), hasDict := true, slotNames := [], subclasses := [], abstract := false, collection := none, hasDel := false }, #[(some (.ref 83)), none, (some (.str (S 119225645756495) 278)), (some (.str (S 119225645756495) 286)), (some (.builtin "ValueError.__new__")), (some (.bool true))]⟩
noncomputable def o103 (P : Params) : Obj := dO 2 [ent P (S 455125450472104437637216) 301 (.str (S 154789842426610354947036250589871895399) 194), ent P (S 500416517772168279997240570217455712) 305 (.int (17) 304), ent P (S 140854816109632365363434125429399349832812124725344) 306 (.ref 102), ent P (S 27127582262911072) 307 .none]
noncomputable def o104 (_ : Params) : Obj := ⟨(.type "type"), none, .cls { name := (Str.ofString "OutOfBank"), bases := [(.ref 31)], mro := [(.ref 104), (.ref 31), (.type "ValueError"), (.type "Exception"), (.type "BaseException"), (.type "object")], ns := 103, qualname := (Str.ofString "OutOfBank"), hasDict := true, slotNames := [], subclasses := [], abstract := false, collection := none, hasDel := false }, #[(some (.ref 95)), none, (some (.str (S 2000274411557569787472) 294)), (some (.str (S 2000274411557569787472) 302)), (some (.builtin "ValueError.__new__")), (some (.bool true))]⟩
noncomputable def o115 (P : Params) : Obj := dO 2 [ent P (S 455125450472104437637216) 317 (.str (S 154789842426610354947036250589871895399) 194), ent P (S 500416517772168279997240570217455712) 321 (.int (19) 320), ent P (S 140854816109632365363434125429399349832812124725344) 322 (.ref 114), ent P (S 27127582262911072) 323 .none]
noncomputable def o116 (_ : Params) : Obj := ⟨(.type "type"), none, .cls { name := (Str.ofString "Taken"), bases := [(.ref 31)], mro := [(.ref 116), (.ref 31), (.type "ValueError"), (.type "Exception"), (.type "BaseException"), (.type "object")], ns := 115, qualname := (Str.ofString "Taken"), hasDict := true, slotNames := [], subclasses := [], abstract := false, collection := none, hasDel := false }, #[(some (.ref 107)), none, (some (.str (S 478459748949) 310)), (some (.str (S 478459748949) 318)), (some (.builtin "ValueError.__new__")), (some (.bool true))]⟩
noncomputable def o127 (P : Params) : Obj := dO 2 [ent P (S 455125450472104437637216) 333 (.str (S 154789842426610354947036250589871895399) 194), ent P (S 500416517772168279997240570217455712) 337 (.int (21) 336), ent P (S 140854816109632365363434125429399349832812124725344) 338 (.ref 126), ent P (S 27127582262911072) 339 .none]
noncomputable def o128 (_ : Params) : Obj := ⟨(.type "type"), none, .cls { name := (Str.ofString "NotMapped"), bases := [(.ref 31)], mro := [(.ref 128), (.ref 31), (.type "ValueError"), (.type "Exception"), (.type "BaseException"), (.type "object")], ns := 127, qualname := (Str.ofString "NotMapped"), hasDict := true, slotNames := [], subclasses := [], abstract := false, collection := none, hasDel := false }, #[(some (.ref 119)), none, (some (.str (S 1870502957375938719823) 326)), (some (.str (S 1870502957375938719823) 334)), (some (.builtin "ValueError.__new__")), (some (.bool true))]⟩
noncomputable def o139 (P : Params) : Obj := dO 2 [ent P (S 455125450472104437637216) 349 (.str (S 154789842426610354947036250589871895399) 194), ent P (S 500416517772168279997240570217455712) 353 (.int (23) 352), ent P (S 140854816109632365363434125429399349832812124725344) 354 (.ref 138), ent P (S 27127582262911072) 355 .none]
noncomputable def o140 (_ : Params) : Obj := ⟨(.type "type"), none, .cls { name := (Str.ofString "NoRight"), bases := [(.ref 31)], mro := [(.ref 140), (.ref 31), (.type "ValueError"), (.type "Exception"), (.type "BaseException"), (.type "object")], ns := 139, qualname := (Str.ofString "NoRight"), hasDict := true, slotNames := [], subclasses := [], abstract := false, collection := none, hasDel := false }, #[(some (.ref 131)), none, (some (.str (S 33048469456515151) 342)), (some (.str (S 33048469456515151) 350)), (some (.builtin "ValueError.__new__")), (some (.bool true))]⟩
noncomputable def o151 (P : Params) : Obj := dO 2 [ent P (S 455125450472104437637216) 365 (.str (S 154789842426610354947036250589871895399) 194), ent P (S 500416517772168279997240570217455712) 369 (.int (25) 368), ent P (S 140854816109632365363434125429399349832812124725344) 370 (.ref 150), ent P (S 27127582262911072) 371 .none]
noncomputable def o152 (_ : Params) : Obj := ⟨(.type "type"), none, .cls { name := (Str.ofString "NoRoom"), bases := [(.ref 31)], mro := [(.ref 152), (.ref 31), (.type "ValueError"), (.type "Exception"), (.type "BaseException"), (.type "object")], ns := 151, qualname := (Str.ofString "NoRoom"), hasDict := true, slotNames := [], subclasses := [], abstract := false, collection := none, hasDel := false }, #[(some (.ref 143)), none, (some (.str (S 121429199908943) 358)), (some (.str (S 121429199908943) 366)), (some (.builtin "ValueError.__new__")), (some (.bool true))]⟩
noncomputable def o163 (P : Params) : Obj := dO 2 [ent P (S 455125450472104437637216) 381 (.str (S 154789842426610354947036250589871895399) 194), ent P (S 500416517772168279997240570217455712) 385 (.int (27) 384), ent P (S 140854816109632365363434125429399349832812124725344) 386 (.ref 162), ent P (S 27127582262911072) 387 .none]
noncomputable def o164 (_ : Params) : Obj := ⟨(.type "type"), none, .cls { name := (Str.ofString "Busy"), bases := [(.ref 31)], mro := [(.ref 164), (.ref 31), (.type "ValueError"), (.type "Exception"), (.type "BaseException"), (.type "object")], ns := 163, qualname := (Str.ofString "Busy"), hasDict := true, slotNames := [], subclasses := [], abstract := false, collection := none, hasDel := false }, #[(some (.ref 155)), none, (some (.str (S 2054452803) 374)), (some (.str (S 2054452803) 382)), (some (.builtin "ValueError.__new__")), (some (.bool true))]⟩
noncomputable def o175 (P : Params) : Obj := dO 2 [ent P (S 455125450472104437637216) 397 (.str (S 154789842426610354947036250589871895399) 194), ent P (S 500416517772168279997240570217455712) 401 (.int (29) 400), ent P (S 140854816109632365363434125429399349832812124725344) 402 (.ref 174), ent P (S 27127582262911072) 403 .none]
noncomputable def o176 (_ : Params) : Obj := ⟨(.type "type"), none, .cls { name := (Str.ofString "NoRow"), bases := [(.ref 31)], mro := [(.ref 176), (.ref 31), (.type "ValueError"), (.type "Exception"), (.type "BaseException"), (.type "object")], ns := 175, qualname := (Str.ofString "NoRow"), hasDict := true, slotNames := [], subclasses := [], abstract := false, collection := none, hasDel := false }, #[(some (.ref 167)), none, (some (.str (S 517280591951) 390)), (some (.str (S 517280591951) 398)), (some (.builtin "ValueError.__new__")), (some (.bool true))]⟩
noncomputable def o181 (_ : Params) : Obj := tO [(.str (S 500035707502) 411), (.str (S 1701798505) 412), (.str (S 111490714854001) 413), (.str (S 439770836337) 414)]
noncomputable def o184 (_ : Params) : Obj := cO [(.str (S 504413714548) 408), (.str (S 504413714548) 409), (.str (S 9700865007064396754801562313776) 410), (.int (32) 0), (.int (2) 0), (.int (0) 0), (.int (0) 0), (.int (3) 0), (.ref 179), (.bool true), (.int (181) 0), (.ref 180), .none, (.ref 181), (.ref 182), (.ref 183), (.int (415) 0), (.int (32) 0), (.str (S 9700865007064396754801562313776) 416)]
noncomputable def o185 (_ : Params) : Obj := ⟨(.type "function"), none, .func (PySem.W.fnOf (Str.ofString "swept") (Str.ofString "swept") (defArgs (top 16)) (defBody (top 16)) (defScope (top 16)) .none .none .none (.str (S 604424633459520194665304702243205991) 406) none (.ref 184) .none), #[]⟩
noncomputable def o195 (_ : Params) : Obj := tO [(.str (S 1735222900) 435), (.str (S 499935440995) 436), (.str (S 126883625529449) 437)]
noncomputable def o198 (_ : Params) : Obj := cO [(.str (S 6944679725401530464) 432), (.str (S 1954753563970360692704800173091156) 433), (.str (S 9700865007064396754801562313776) 434), (.int (42) 0), (.int (3) 0), (.int (0) 0), (.int (0) 0), (.int (3) 0), (.ref 193), (.bool true), (.int (181) 0), (.ref 194), .none, (.ref 195), (.ref 196), (.ref 197), (.int (438) 0), (.int (42) 0), (.str (S 9700865007064396754801562313776) 439)]
noncomputable def o199 (_ : Params) : Obj := ⟨(.type "function"), none, .func (PySem.W.fnOf (Str.ofString "__init__") (Str.ofString "Sheet.__init__") (defArgs (inClass (top 18) 0)) (defBody (inClass (top 18) 0)) (defScope (inClass (top 18) 0)) .none .none .none (.str (S 604688386180134175214183720302048103) 418) none (.ref 198) .none), #[]⟩
noncomputable def o202 (_ : Params) : Obj := tO [(.str (S 1735222900) 444)]
noncomputable def o205 (_ : Params) : Obj := cO [(.str (S 36039771160920033285907509365) 441), (.str (S 10144293748177338121204804511615218490960212) 442), (.str (S 9700865007064396754801562313776) 443), (.int (46) 0), (.int (1) 0), (.int (0) 0), (.int (0) 0), (.int (3) 0), (.ref 200), (.bool true), (.int (181) 0), (.ref 201), .none, (.ref 202), (.ref 203), (.ref 204), (.int (445) 0), (.int (46) 0), (.str (S 9700865007064396754801562313776) 446)]
noncomputable def o206 (_ : Params) : Obj := ⟨(.type "function"), none, .func (PySem.W.fnOf (Str.ofString "told_holders") (Str.ofString "Sheet.told_holders") (defArgs (inClass (top 18) 1)) (defBody (inClass (top 18) 1)) (defScope (inClass (top 18) 1)) .none .none .none (.str (S 604688386180134175214183720302048103) 418) none (.ref 205) .none), #[]⟩
noncomputable def o209 (_ : Params) : Obj := tO [(.str (S 1735222900) 451)]
noncomputable def o212 (_ : Params) : Obj := cO [(.str (S 1870501547802382857322) 448), (.str (S 526499379604921715462623747400690004) 449), (.str (S 9700865007064396754801562313776) 450), (.int (49) 0), (.int (1) 0), (.int (0) 0), (.int (0) 0), (.int (3) 0), (.ref 207), (.bool true), (.int (181) 0), (.ref 208), .none, (.ref 209), (.ref 210), (.ref 211), (.int (452) 0), (.int (49) 0), (.str (S 9700865007064396754801562313776) 453)]
noncomputable def o213 (_ : Params) : Obj := ⟨(.type "function"), none, .func (PySem.W.fnOf (Str.ofString "is_banked") (Str.ofString "Sheet.is_banked") (defArgs (inClass (top 18) 2)) (defBody (inClass (top 18) 2)) (defScope (inClass (top 18) 2)) .none .none .none (.str (S 604688386180134175214183720302048103) 418) none (.ref 212) .none), #[]⟩
noncomputable def o214 (_ : Params) : Obj := ⟨(.type "tuple"), none, .seq #[(.str (Str.ofString "boxes") 455), (.str (Str.ofString "holders") 456)] 0, #[]⟩
noncomputable def o215 (P : Params) : Obj := dO 4 [ent P (S 455125450472104437637216) 427 (.str (S 604688386180134175214183720302048103) 418), ent P (S 500416517772168279997240570217455712) 431 (.int (40) 430), ent P (S 6944679725401530464) 440 (.ref 199), ent P (S 36039771160920033285907509365) 447 (.ref 206), ent P (S 1870501547802382857322) 454 (.ref 213), ent P (S 140854816109632365363434125429399349832812124725344) 457 (.ref 214), ent P (S 6944679699547512928) 459 (.ref 217), ent P (S 116512133262362862868258912) 461 (.ref 218), ent P (S 27127582262911072) 462 .none]
noncomputable def o216 (_ : Params) : Obj := ⟨(.type "type"), none, .cls { name := (Str.ofString "Sheet"), bases := [(.type "object")], mro := [(.ref 216), (.type "object")], ns := 215, qualname := (Str.ofString "Sheet"), hasDict := true, slotNames := [], subclasses := [], abstract := false, collection := none, hasDel := false }, #[none, none, (some (.str (S 504229161300) 420)), (some (.str (S 504229161300) 428)), (some (.builtin "object.__new__")), (some (.bool true))]⟩
noncomputable def o217 (_ : Params) : Obj := ⟨(.type "getset_descriptor"), none, .fields ⟨[(.str (S 6944679699547512928) 458), (.ref 216), (.builtin "function.__dict__"), (.builtin "function.__dict__#set")]⟩, #[]⟩
noncomputable def o218 (_ : Params) : Obj := ⟨(.type "getset_descriptor"), none, .fields ⟨[(.str (S 116512133262362862868258912) 460), (.ref 216), (.builtin "ExceptionGroup.__weakref__"), .none]⟩, #[]⟩
noncomputable def o230 (_ : Params) : Obj := tO [(.str (S 1735222900) 480), (.str (S 2054120046) 481)]
noncomputable def o233 (_ : Params) : Obj := cO [(.str (S 6944679725401530464) 477), (.str (S 1954753563970360692704796130439508) 478), (.str (S 9700865007064396754801562313776) 479), (.int (53) 0), (.int (2) 0), (.int (0) 0), (.int (0) 0), (.int (3) 0), (.ref 228), (.bool true), (.int (181) 0), (.ref 229), .none, (.ref 230), (.ref 231), (.ref 232), (.int (482) 0), (.int (53) 0), (.str (S 9700865007064396754801562313776) 483)]
noncomputable def o234 (_ : Params) : Obj := ⟨(.type "function"), none, .func (PySem.W.fnOf (Str.ofString "__init__") (Str.ofString "Spots.__init__") (defArgs (inClass (top 19) 0)) (defBody (inClass (top 19) 0)) (defScope (inClass (top 19) 0)) .none .none .none (.str (S 604688386180134175214183720302048103) 418) none (.ref 233) .none), #[]⟩
noncomputable def o237 (_ : Params) : Obj := tO [(.str (S 1735222900) 488), (.str (S 439770836337) 489), (.str (S 504229161332) 490)]
noncomputable def o240 (_ : Params) : Obj := cO [(.str (S 148043559308712686361209447) 485), (.str (S 41670557408582523668509479316187165782356) 486), (.str (S 9700865007064396754801562313776) 487), (.int (57) 0), (.int (1) 0), (.int (0) 0), (.int (0) 0), (.int (3) 0), (.ref 235), (.bool true), (.int (181) 0), (.ref 236), .none, (.ref 237), (.ref 238), (.ref 239), (.int (491) 0), (.int (57) 0), (.str (S 9700865007064396754801562313776) 492)]
noncomputable def o241 (_ : Params) : Obj := ⟨(.type "function"), none, .func (PySem.W.fnOf (Str.ofString "first_empty") (Str.ofString "Spots.first_empty") (defArgs (inClass (top 19) 1)) (defBody (inClass (top 19) 1)) (defScope (inClass (top 19) 1)) .none .none .none (.str (S 604688386180134175214183720302048103) 418) none (.ref 240) .none), #[]⟩
noncomputable def o244 (_ : Params) : Obj := tO [(.str (S 1735222900) 497), (.str (S 1869248629) 498)]
noncomputable def o247 (_ : Params) : Obj := cO [(.str (S 526146714420258238851687) 494), (.str (S 148097134187830361177623957051129491796) 495), (.str (S 9700865007064396754801562313776) 496), (.int (63) 0), (.int (1) 0), (.int (0) 0), (.int (0) 0), (.int (3) 0), (.ref 242), (.bool true), (.int (181) 0), (.ref 243), .none, (.ref 244), (.ref 245), (.ref 246), (.int (499) 0), (.int (63) 0), (.str (S 9700865007064396754801562313776) 500)]
noncomputable def o248 (_ : Params) : Obj := ⟨(.type "function"), none, .func (PySem.W.fnOf (Str.ofString "first_twin") (Str.ofString "Spots.first_twin") (defArgs (inClass (top 19) 2)) (defBody (inClass (top 19) 2)) (defScope (inClass (top 19) 2)) .none .none .none (.str (S 604688386180134175214183720302048103) 418) none (.ref 247) .none), #[]⟩
noncomputable def o252 (_ : Params) : Obj := cO [(.str (S 554573001519589316061805) 502), (.str (S 156098422687084997236258294064131109204) 503), (.str (S 9700865007064396754801562313776) 504), (.int (69) 0), (.int (1) 0), (.int (0) 0), (.int (0) 0), (.int (3) 0), (.ref 249), (.bool true), (.int (181) 0), (.ref 250), .none, .none, .none, (.ref 251), (.int (505) 0), (.int (69) 0), (.str (S 9700865007064396754801562313776) 506)]
noncomputable def o253 (_ : Params) : Obj := ⟨(.type "function"), none, .func (PySem.W.fnOf (Str.ofString "live_count") (Str.ofString "Spots.live_count") (defArgs (inClass (top 19) 3)) (defBody (inClass (top 19) 3)) (defScope (inClass (top 19) 3)) .none .none .none (.str (S 604688386180134175214183720302048103) 418) none (.ref 252) .none), #[]⟩
noncomputable def o254 (_ : Params) : Obj := ⟨(.type "tuple"), none, .seq #[(.str (Str.ofString "lying") 508), (.str (Str.ofString "twins") 509)] 0, #[]⟩
noncomputable def o255 (P : Params) : Obj := dO 4 [ent P (S 455125450472104437637216) 472 (.str (S 604688386180134175214183720302048103) 418), ent P (S 500416517772168279997240570217455712) 476 (.int (51) 475), ent P (S 6944679725401530464) 484 (.ref 234), ent P (S 148043559308712686361209447) 493 (.ref 241), ent P (S 526146714420258238851687) 501 (.ref 248), ent P (S 554573001519589316061805) 507 (.ref 253), ent P (S 140854816109632365363434125429399349832812124725344) 510 (.ref 254), ent P (S 6944679699547512928) 512 (.ref 257), ent P (S 116512133262362862868258912) 514 (.ref 258), ent P (S 27127582262911072) 515 .none]
noncomputable def o256 (_ : Params) : Obj := ⟨(.type "type"), none, .cls { name := (Str.ofString "Spots"), bases := [(.type "object")], mro := [(.ref 256), (.type "object")], ns := 255, qualname := (Str.ofString "Spots"), hasDict := true, slotNames := [], subclasses := [], abstract := false, collection := none, hasDel := false }, #[none, none, (some (.str (S 500186509652) 465)), (some (.str (S 500186509652) 473)), (some (.builtin "object.__new__")), (some (.bool true))]⟩
noncomputable def o257 (_ : Params) : Obj := ⟨(.type "getset_descriptor"), none, .fields ⟨[(.str (S 6944679699547512928) 511), (.ref 256), (.builtin "function.__dict__"), (.builtin "function.__dict__#set")]⟩, #[]⟩
noncomputable def o258 (_ : Params) : Obj := ⟨(.type "getset_descriptor"), none, .fields ⟨[(.str (S 116512133262362862868258912) 513), (.ref 256), (.builtin "ExceptionGroup.__weakref__"), .none]⟩, #[]⟩
noncomputable def o270 (_ : Params) : Obj := tO [(.str (S 1735222900) 535), (.str (S 127983287432039) 536), (.str (S 500186508660) 537), (.str (S 1719364212) 538)]
noncomputable def o273 (_ : Params) : Obj := cO [(.str (S 6944679725401530464) 532), (.str (S 500416912376412337332427809224026452) 533), (.str (S 9700865007064396754801562313776) 534), (.int (74) 0), (.int (4) 0), (.int (0) 0), (.int (0) 0), (.int (3) 0), (.ref 268), (.bool true), (.int (181) 0), (.ref 269), .none, (.ref 270), (.ref 271), (.ref 272), (.int (539) 0), (.int (74) 0), (.str (S 9700865007064396754801562313776) 540)]
noncomputable def o274 (_ : Params) : Obj := ⟨(.type "function"), none, .func (PySem.W.fnOf (Str.ofString "__init__") (Str.ofString "Sheets.__init__") (defArgs (inClass (top 21) 0)) (defBody (inClass (top 21) 0)) (defScope (inClass (top 21) 0)) .none .none .none (.str (S 154800023163187350263413837515144196967) 518) none (.ref 273) .none), #[]⟩
noncomputable def o277 (_ : Params) : Obj := tO [(.str (S 1735222900) 545), (.str (S 504229161332) 546), (.str (S 126883625529449) 547), (.str (S 500035707502) 548), (.str (S 8020600) 549)]
noncomputable def o280 (_ : Params) : Obj := cO [(.str (S 452924437351) 542), (.str (S 32636645236508639938168121684) 543), (.str (S 9700865007064396754801562313776) 544), (.int (83) 0), (.int (4) 0), (.int (0) 0), (.int (0) 0), (.int (3) 0), (.ref 275), (.bool true), (.int (181) 0), (.ref 276), .none, (.ref 277), (.ref 278), (.ref 279), (.int (550) 0), (.int (83) 0), (.str (S 9700865007064396754801562313776) 551)]
noncomputable def o281 (_ : Params) : Obj := ⟨(.type "function"), none, .func (PySem.W.fnOf (Str.ofString "fresh") (Str.ofString "Sheets.fresh") (defArgs (inClass (top 21) 1)) (defBody (inClass (top 21) 1)) (defScope (inClass (top 21) 1)) .none .none .none (.str (S 154800023163187350263413837515144196967) 518) none (.ref 280) .none), #[]⟩
noncomputable def o284 (_ : Params) : Obj := tO [(.str (S 1735222900) 556), (.str (S 1970302324) 557), (.str (S 500035707502) 558), (.str (S 114827736281188) 559), (.str (S 8020600) 560)]
noncomputable def o287 (_ : Params) : Obj := cO [(.str (S 1818518115) 553), (.str (S 131038040094645320163944788) 554), (.str (S 9700865007064396754801562313776) 555), (.int (90) 0), (.int (3) 0), (.int (0) 0), (.int (0) 0), (.int (3) 0), (.ref 282), (.bool true), (.int (181) 0), (.ref 283), .none, (.ref 284), (.ref 285), (.ref 286), (.int (561) 0), (.int (90) 0), (.str (S 9700865007064396754801562313776) 562)]
noncomputable def o288 (_ : Params) : Obj := ⟨(.type "function"), none, .func (PySem.W.fnOf (Str.ofString "back") (Str.ofString "Sheets.back") (defArgs (inClass (top 21) 2)) (defBody (inClass (top 21) 2)) (defScope (inClass (top 21) 2)) .none .none .none (.str (S 154800023163187350263413837515144196967) 518) none (.ref 287) .none), #[]⟩
noncomputable def o291 (_ : Params) : Obj := tO [(.str (S 1735222900) 567), (.str (S 1970303348) 568), (.str (S 126883625529449) 569)]
noncomputable def o294 (_ : Params) : Obj := cO [(.str (S 1701671017) 564), (.str (S 122618319342451338909215060) 565), (.str (S 9700865007064396754801562313776) 566), (.int (101) 0), (.int (3) 0), (.int (0) 0), (.int (0) 0), (.int (3) 0), (.ref 289), (.bool true), (.int (181) 0), (.ref 290), .none, (.ref 291), (.ref 292), (.ref 293), (.int (570) 0), (.int (101) 0), (.str (S 9700865007064396754801562313776) 571)]
noncomputable def o295 (_ : Params) : Obj := ⟨(.type "function"), none, .func (PySem.W.fnOf (Str.ofString "hold") (Str.ofString "Sheets.hold") (defArgs (inClass (top 21) 3)) (defBody (inClass (top 21) 3)) (defScope (inClass (top 21) 3)) .none .none .none (.str (S 154800023163187350263413837515144196967) 518) none (.ref 294) .none), #[]⟩
noncomputable def o298 (_ : Params) : Obj := tO [(.str (S 1735222900) 576), (.str (S 1970303348) 577), (.str (S 126883625529449) 578), (.str (S 504229161332) 579)]
noncomputable def o301 (_ : Params) : Obj := cO [(.str (S 123593597216365) 573), (.str (S 8905857253904022728413553256788) 574), (.str (S 9700865007064396754801562313776) 575), (.int (104) 0), (.int (3) 0), (.int (0) 0), (.int (0) 0), (.int (3) 0), (.ref 296), (.bool true), (.int (181) 0), (.ref 297), .none, (.ref 298), (.ref 299), (.ref 300), (.int (580) 0), (.int (104) 0), (.str (S 9700865007064396754801562313776) 581)]
noncomputable def o302 (_ : Params) : Obj := ⟨(.type "function"), none, .func (PySem.W.fnOf (Str.ofString "let_go") (Str.ofString "Sheets.let_go") (defArgs (inClass (top 21) 4)) (defBody (inClass (top 21) 4)) (defScope (inClass (top 21) 4)) .none .none .none (.str (S 154800023163187350263413837515144196967) 518) none (.ref 301) .none), #[]⟩
noncomputable def o305 (_ : Params) : Obj := tO [(.str (S 1735222900) 586), (.str (S 1970303348) 587), (.str (S 504229161332) 588)]
noncomputable def o308 (_ : Params) : Obj := cO [(.str (S 488476733378837491839081) 583), (.str (S 35198458150785434460000437533358669850964) 584), (.str (S 9700865007064396754801562313776) 585), (.int (110) 0), (.int (2) 0), (.int (0) 0), (.int (0) 0), (.int (3) 0), (.ref 303), (.bool true), (.int (181) 0), (.ref 304), .none, (.ref 305), (.ref 306), (.ref 307), (.int (589) 0), (.int (110) 0), (.str (S 9700865007064396754801562313776) 590)]
noncomputable def o309 (_ : Params) : Obj := ⟨(.type "function"), none, .func (PySem.W.fnOf (Str.ofString "holders_of") (Str.ofString "Sheets.holders_of") (defArgs (inClass (top 21) 5)) (defBody (inClass (top 21) 5)) (defScope (inClass (top 21) 5)) .none .none .none (.str (S 154800023163187350263413837515144196967) 518) none (.ref 308) .none), #[]⟩
noncomputable def o312 (_ : Params) : Obj := tO [(.str (S 1735222900) 595), (.str (S 1970303348) 596)]
noncomputable def o315 (_ : Params) : Obj := cO [(.str (S 36344496227587819637979312233) 592), (.str (S 2618896954680526433690932518906927297180625236) 593), (.str (S 9700865007064396754801562313776) 594), (.int (114) 0), (.int (2) 0), (.int (0) 0), (.int (0) 0), (.int (3) 0), (.ref 310), (.bool true), (.int (181) 0), (.ref 311), .none, (.ref 312), (.ref 313), (.ref 314), (.int (597) 0), (.int (114) 0), (.str (S 9700865007064396754801562313776) 598)]
noncomputable def o316 (_ : Params) : Obj := ⟨(.type "function"), none, .func (PySem.W.fnOf (Str.ofString "holder_count") (Str.ofString "Sheets.holder_count") (defArgs (inClass (top 21) 6)) (defBody (inClass (top 21) 6)) (defScope (inClass (top 21) 6)) .none .none .none (.str (S 154800023163187350263413837515144196967) 518) none (.ref 315) .none), #[]⟩
noncomputable def o319 (_ : Params) : Obj := tO [(.str (S 1735222900) 603), (.str (S 1970303348) 604), (.str (S 504229161332) 605)]
noncomputable def o322 (_ : Params) : Obj := cO [(.str (S 8458429107500640628) 600), (.str (S 609494050826874274975507821181167956) 601), (.str (S 9700865007064396754801562313776) 602), (.int (117) 0), (.int (2) 0), (.int (0) 0), (.int (0) 0), (.int (3) 0), (.ref 317), (.bool true), (.int (181) 0), (.ref 318), .none, (.ref 319), (.ref 320), (.ref 321), (.int (606) 0), (.int (117) 0), (.str (S 9700865007064396754801562313776) 607)]
noncomputable def o323 (_ : Params) : Obj := ⟨(.type "function"), none, .func (PySem.W.fnOf (Str.ofString "sheet_at") (Str.ofString "Sheets.sheet_at") (defArgs (inClass (top 21) 7)) (defBody (inClass (top 21) 7)) (defScope (inClass (top 21) 7)) .none .none .none (.str (S 154800023163187350263413837515144196967) 518) none (.ref 322) .none), #[]⟩
noncomputable def o326 (_ : Params) : Obj := tO [(.str (S 1735222900) 612), (.str (S 439938610023) 613), (.str (S 7958627) 614)]
noncomputable def o329 (_ : Params) : Obj := cO [(.str (S 113732352569443) 609), (.str (S 8195279690427427246896753043796) 610), (.str (S 9700865007064396754801562313776) 611), (.int (121) 0), (.int (3) 0), (.int (0) 0), (.int (0) 0), (.int (3) 0), (.ref 324), (.bool true), (.int (181) 0), (.ref 325), .none, (.ref 326), (.ref 327), (.ref 328), (.int (615) 0), (.int (121) 0), (.str (S 9700865007064396754801562313776) 616)]
noncomputable def o330 (_ : Params) : Obj := ⟨(.type "function"), none, .func (PySem.W.fnOf (Str.ofString "box_of") (Str.ofString "Sheets.box_of") (defArgs (inClass (top 21) 8)) (defBody (inClass (top 21) 8)) (defScope (inClass (top 21) 8)) .none .none .none (.str (S 154800023163187350263413837515144196967) 518) none (.ref 329) .none), #[]⟩
noncomputable def o333 (_ : Params) : Obj := tO [(.str (S 1735222900) 621), (.str (S 439938610023) 622), (.str (S 7958627) 623), (.str (S 440073544311) 624)]
noncomputable def o336 (_ : Params) : Obj := cO [(.str (S 34182044304369268) 618), (.str (S 2463075871870707541703845600454996) 619), (.str (S 9700865007064396754801562313776) 620), (.int (124) 0), (.int (4) 0), (.int (0) 0), (.int (0) 0), (.int (3) 0), (.ref 331), (.bool true), (.int (181) 0), (.ref 332), .none, (.ref 333), (.ref 334), (.ref 335), (.int (625) 0), (.int (124) 0), (.str (S 9700865007064396754801562313776) 626)]
noncomputable def o337 (_ : Params) : Obj := ⟨(.type "function"), none, .func (PySem.W.fnOf (Str.ofString "set_box") (Str.ofString "Sheets.set_box") (defArgs (inClass (top 21) 9)) (defBody (inClass (top 21) 9)) (defScope (inClass (top 21) 9)) .none .none .none (.str (S 154800023163187350263413837515144196967) 518) none (.ref 336) .none), #[]⟩
noncomputable def o340 (_ : Params) : Obj := tO [(.str (S 1735222900) 631)]
noncomputable def o343 (_ : Params) : Obj := cO [(.str (S 1701671015) 628), (.str (S 122618319198336150833359188) 629), (.str (S 9700865007064396754801562313776) 630), (.int (127) 0), (.int (1) 0), (.int (0) 0), (.int (0) 0), (.int (3) 0), (.ref 338), (.bool true), (.int (181) 0), (.ref 339), .none, (.ref 340), (.ref 341), (.ref 342), (.int (632) 0), (.int (127) 0), (.str (S 9700865007064396754801562313776) 633)]
noncomputable def o344 (_ : Params) : Obj := ⟨(.type "function"), none, .func (PySem.W.fnOf (Str.ofString "fold") (Str.ofString "Sheets.fold") (defArgs (inClass (top 21) 10)) (defBody (inClass (top 21) 10)) (defScope (inClass (top 21) 10)) .none .none .none (.str (S 154800023163187350263413837515144196967) 518) none (.ref 343) .none), #[]⟩
noncomputable def o347 (_ : Params) : Obj := tO [(.str (S 1735222900) 638)]
noncomputable def o350 (_ : Params) : Obj := cO [(.str (S 140789800901245672938236525) 635), (.str (S 10144974318022661352875422811256588356446548) 636), (.str (S 9700865007064396754801562313776) 637), (.int (130) 0), (.int (1) 0), (.int (0) 0), (.int (0) 0), (.int (3) 0), (.ref 345), (.bool true), (.int (181) 0), (.ref 346), .none, (.ref 347), (.ref 348), (.ref 349), (.int (639) 0), (.int (130) 0), (.str (S 9700865007064396754801562313776) 640)]
noncomputable def o351 (_ : Params) : Obj := ⟨(.type "function"), none, .func (PySem.W.fnOf (Str.ofString "live_sheets") (Str.ofString "Sheets.live_sheets") (defArgs (inClass (top 21) 11)) (defBody (inClass (top 21) 11)) (defScope (inClass (top 21) 11)) .none .none .none (.str (S 154800023163187350263413837515144196967) 518) none (.ref 350) .none), #[]⟩
noncomputable def o354 (_ : Params) : Obj := tO [(.str (S 1735222900) 645)]
noncomputable def o357 (_ : Params) : Obj := cO [(.str (S 30801127769404522) 642), (.str (S 2219455160718099884163236951910740) 643), (.str (S 9700865007064396754801562313776) 644), (.int (133) 0), (.int (1) 0), (.int (0) 0), (.int (0) 0), (.int (3) 0), (.ref 352), (.bool true), (.int (181) 0), (.ref 353), .none, (.ref 354), (.ref 355), (.ref 356), (.int (646) 0), (.int (133) 0), (.str (S 9700865007064396754801562313776) 647)]
noncomputable def o358 (_ : Params) : Obj := ⟨(.type "function"), none, .func (PySem.W.fnOf (Str.ofString "is_full") (Str.ofString "Sheets.is_full") (defArgs (inClass (top 21) 12)) (defBody (inClass (top 21) 12)) (defScope (inClass (top 21) 12)) .none .none .none (.str (S 154800023163187350263413837515144196967) 518) none (.ref 357) .none), #[]⟩
noncomputable def o361 (_ : Params) : Obj := tO [(.str (S 1735222900) 652)]
noncomputable def o364 (_ : Params) : Obj := cO [(.str (S 33040738433327721) 649), (.str (S 2380836116742092014812639552498004) 650), (.str (S 9700865007064396754801562313776) 651), (.int (136) 0), (.int (1) 0), (.int (0) 0), (.int (0) 0), (.int (3) 0), (.ref 359), (.bool true), (.int (181) 0), (.ref 360), .none, (.ref 361), (.ref 362), (.ref 363), (.int (653) 0), (.int (136) 0), (.str (S 9700865007064396754801562313776) 654)]
noncomputable def o365 (_ : Params) : Obj := ⟨(.type "function"), none, .func (PySem.W.fnOf (Str.ofString "hand_at") (Str.ofString "Sheets.hand_at") (defArgs (inClass (top 21) 13)) (defBody (inClass (top 21) 13)) (defScope (inClass (top 21) 13)) .none .none .none (.str (S 154800023163187350263413837515144196967) 518) none (.ref 364) .none), #[]⟩
noncomputable def o368 (_ : Params) : Obj := tO [(.str (S 1735222900) 659), (.str (S 1701671029) 660), (.str (S 439938610023) 661), (.str (S 504229161332) 662)]
noncomputable def o371 (_ : Params) : Obj := cO [(.str (S 140719112692525297883246709) 656), (.str (S 10139880695775420249778937948812234134546772) 657), (.str (S 9700865007064396754801562313776) 658), (.int (139) 0), (.int (1) 0), (.int (0) 0), (.int (0) 0), (.int (3) 0), (.ref 366), (.bool true), (.int (181) 0), (.ref 367), .none, (.ref 368), (.ref 369), (.ref 370), (.int (663) 0), (.int (139) 0), (.str (S 9700865007064396754801562313776) 664)]
noncomputable def o372 (_ : Params) : Obj := ⟨(.type "function"), none, .func (PySem.W.fnOf (Str.ofString "told_frames") (Str.ofString "Sheets.told_frames") (defArgs (inClass (top 21) 14)) (defBody (inClass (top 21) 14)) (defScope (inClass (top 21) 14)) .none .none .none (.str (S 154800023163187350263413837515144196967) 518) none (.ref 371) .none), #[]⟩
noncomputable def o376 (_ : Params) : Obj := cO [(.str (S 549960882328764939071605) 666), (.str (S 39628857995586799648525390943893217241428) 667), (.str (S 9700865007064396754801562313776) 668), (.int (148) 0), (.int (1) 0), (.int (0) 0), (.int (0) 0), (.int (3) 0), (.ref 373), (.bool true), (.int (181) 0), (.ref 374), .none, .none, .none, (.ref 375), (.int (669) 0), (.int (148) 0), (.str (S 9700865007064396754801562313776) 670)]
noncomputable def o377 (_ : Params) : Obj := ⟨(.type "function"), none, .func (PySem.W.fnOf (Str.ofString "told_slots") (Str.ofString "Sheets.told_slots") (defArgs (inClass (top 21) 15)) (defBody (inClass (top 21) 15)) (defScope (inClass (top 21) 15)) .none .none .none (.str (S 154800023163187350263413837515144196967) 518) none (.ref 376) .none), #[]⟩
noncomputable def o380 (_ : Params) : Obj := tO [(.str (S 1735222900) 675)]
noncomputable def o383 (_ : Params) : Obj := cO [(.str (S 435510800494) 672), (.str (S 31381860461143034575928584532) 673), (.str (S 9700865007064396754801562313776) 674), (.int (151) 0), (.int (1) 0), (.int (0) 0), (.int (0) 0), (.int (3) 0), (.ref 378), (.bool true), (.int (181) 0), (.ref 379), .none, (.ref 380), (.ref 381), (.ref 382), (.int (676) 0), (.int (151) 0), (.str (S 9700865007064396754801562313776) 677)]
noncomputable def o384 (_ : Params) : Obj := ⟨(.type "function"), none, .func (PySem.W.fnOf (Str.ofString "moved") (Str.ofString "Sheets.moved") (defArgs (inClass (top 21) 16)) (defBody (inClass (top 21) 16)) (defScope (inClass (top 21) 16)) .none .none .none (.str (S 154800023163187350263413837515144196967) 518) none (.ref 383) .none), #[]⟩
noncomputable def o387 (_ : Params) : Obj := tO [(.str (S 1735222900) 682), (.str (S 1970303348) 683), (.str (S 500186509684) 684)]
noncomputable def o390 (_ : Params) : Obj := cO [(.str (S 8458429051817327213) 679), (.str (S 609494046814468682230731163709106516) 680), (.str (S 9700865007064396754801562313776) 681), (.int (154) 0), (.int (2) 0), (.int (0) 0), (.int (0) 0), (.int (3) 0), (.ref 385), (.bool true), (.int (181) 0), (.ref 386), .none, (.ref 387), (.ref 388), (.ref 389), (.int (685) 0), (.int (154) 0), (.str (S 9700865007064396754801562313776) 686)]
noncomputable def o391 (_ : Params) : Obj := ⟨(.type "function"), none, .func (PySem.W.fnOf (Str.ofString "lying_at") (Str.ofString "Sheets.lying_at") (defArgs (inClass (top 21) 17)) (defBody (inClass (top 21) 17)) (defScope (inClass (top 21) 17)) .none .none .none (.str (S 154800023163187350263413837515144196967) 518) none (.ref 390) .none), #[]⟩
noncomputable def o394 (_ : Params) : Obj := tO [(.str (S 1735222900) 691)]
noncomputable def o397 (_ : Params) : Obj := cO [(.str (S 2148284700994785078626) 688), (.str (S 154800226862173623962013088011365280084) 689), (.str (S 9700865007064396754801562313776) 690), (.int (158) 0), (.int (1) 0), (.int (0) 0), (.int (0) 0), (.int (3) 0), (.ref 392), (.bool true), (.int (181) 0), (.ref 393), .none, (.ref 394), (.ref 395), (.ref 396), (.int (692) 0), (.int (158) 0), (.str (S 9700865007064396754801562313776) 693)]
noncomputable def o398 (_ : Params) : Obj := ⟨(.type "function"), none, .func (PySem.W.fnOf (Str.ofString "all_spots") (Str.ofString "Sheets.all_spots") (defArgs (inClass (top 21) 18)) (defBody (inClass (top 21) 18)) (defScope (inClass (top 21) 18)) .none .none .none (.str (S 154800023163187350263413837515144196967) 518) none (.ref 397) .none), #[]⟩
noncomputable def o401 (_ : Params) : Obj := tO [(.str (S 1735222900) 698), (.str (S 1970302324) 699), (.str (S 504229161332) 700), (.str (S 439938610023) 701)]
noncomputable def o404 (_ : Params) : Obj := cO [(.str (S 2166370315886094282869) 695), (.str (S 156103432757937886773936481808104712532) 696), (.str (S 9700865007064396754801562313776) 697), (.int (161) 0), (.int (2) 0), (.int (0) 0), (.int (0) 0), (.int (3) 0), (.ref 399), (.bool true), (.int (181) 0), (.ref 400), .none, (.ref 401), (.ref 402), (.ref 403), (.int (702) 0), (.int (161) 0), (.str (S 9700865007064396754801562313776) 703)]
noncomputable def o405 (_ : Params) : Obj := ⟨(.type "function"), none, .func (PySem.W.fnOf (Str.ofString "told_slot") (Str.ofString "Sheets.told_slot") (defArgs (inClass (top 21) 19)) (defBody (inClass (top 21) 19)) (defScope (inClass (top 21) 19)) .none .none .none (.str (S 154800023163187350263413837515144196967) 518) none (.ref 404) .none), #[]⟩
noncomputable def o408 (_ : Params) : Obj := tO [(.str (S 1735222900) 708), (.str (S 1970303348) 709), (.str (S 495639426416) 710)]
noncomputable def o411 (_ : Params) : Obj := cO [(.str (S 2128759062150016623209) 705), (.str (S 153393256304966102397104309401490450772) 706), (.str (S 9700865007064396754801562313776) 707), (.int (170) 0), (.int (3) 0), (.int (0) 0), (.int (0) 0), (.int (3) 0), (.ref 406), (.bool true), (.int (181) 0), (.ref 407), .none, (.ref 408), (.ref 409), (.ref 410), (.int (711) 0), (.int (170) 0), (.str (S 9700865007064396754801562313776) 712)]
noncomputable def o412 (_ : Params) : Obj := ⟨(.type "function"), none, .func (PySem.W.fnOf (Str.ofString "hand_over") (Str.ofString "Sheets.hand_over") (defArgs (inClass (top 21) 20)) (defBody (inClass (top 21) 20)) (defScope (inClass (top 21) 20)) .none .none .none (.str (S 154800023163187350263413837515144196967) 518) none (.ref 411) .none), #[]⟩
noncomputable def o415 (_ : Params) : Obj := tO [(.str (S 1735222900) 717), (.str (S 1970303348) 718)]
noncomputable def o418 (_ : Params) : Obj := cO [(.str (S 578295153549658678911598) 714), (.str (S 41670557408582505496529931128187121985876) 715), (.str (S 9700865007064396754801562313776) 716), (.int (173) 0), (.int (2) 0), (.int (0) 0), (.int (0) 0), (.int (3) 0), (.ref 413), (.bool true), (.int (181) 0), (.ref 414), .none, (.ref 415), (.ref 416), (.ref 417), (.int (719) 0), (.int (173) 0), (.str (S 9700865007064396754801562313776) 720)]
noncomputable def o419 (_ : Params) : Obj := ⟨(.type "function"), none, .func (PySem.W.fnOf (Str.ofString "make_empty") (Str.ofString "Sheets.make_empty") (defArgs (inClass (top 21) 21)) (defBody (inClass (top 21) 21)) (defScope (inClass (top 21) 21)) .none .none .none (.str (S 154800023163187350263413837515144196967) 518) none (.ref 418) .none), #[]⟩
noncomputable def o422 (_ : Params) : Obj := tO [(.str (S 1735222900) 725), (.str (S 439938610023) 726), (.str (S 1970302324) 727)]
noncomputable def o425 (_ : Params) : Obj := cO [(.str (S 2055260603203882086509) 722), (.str (S 148097134187812227235189991446143199572) 723), (.str (S 9700865007064396754801562313776) 724), (.int (180) 0), (.int (2) 0), (.int (0) 0), (.int (0) 0), (.int (3) 0), (.ref 420), (.bool true), (.int (181) 0), (.ref 421), .none, (.ref 422), (.ref 423), (.ref 424), (.int (728) 0), (.int (180) 0), (.str (S 9700865007064396754801562313776) 729)]
noncomputable def o426 (_ : Params) : Obj := ⟨(.type "function"), none, .func (PySem.W.fnOf (Str.ofString "lose_twin") (Str.ofString "Sheets.lose_twin") (defArgs (inClass (top 21) 22)) (defBody (inClass (top 21) 22)) (defScope (inClass (top 21) 22)) .none .none .none (.str (S 154800023163187350263413837515144196967) 518) none (.ref 425) .none), #[]⟩
noncomputable def o429 (_ : Params) : Obj := tO [(.str (S 1735222900) 734), (.str (S 133512874028327697487130724) 735), (.str (S 500035707502) 736), (.str (S 439938610023) 737), (.str (S 112581468514660) 738)]
noncomputable def o432 (_ : Params) : Obj := cO [(.str (S 2129475116924502438759) 731), (.str (S 153444853489214921332424288546578655572) 732), (.str (S 9700865007064396754801562313776) 733), (.int (186) 0), (.int (3) 0), (.int (0) 0), (.int (0) 0), (.int (3) 0), (.ref 427), (.bool true), (.int (181) 0), (.ref 428), .none, (.ref 429), (.ref 430), (.ref 431), (.int (739) 0), (.int (186) 0), (.str (S 9700865007064396754801562313776) 740)]
noncomputable def o433 (_ : Params) : Obj := ⟨(.type "function"), none, .func (PySem.W.fnOf (Str.ofString "frame_for") (Str.ofString "Sheets.frame_for") (defArgs (inClass (top 21) 23)) (defBody (inClass (top 21) 23)) (defScope (inClass (top 21) 23)) .none .none .none (.str (S 154800023163187350263413837515144196967) 518) none (.ref 432) .none), #[]⟩
noncomputable def o436 (_ : Params) : Obj := tO [(.str (S 1735222900) 745), (.str (S 439938610023) 746), (.str (S 133512874028327697487130724) 747), (.str (S 504229161332) 748), (.str (S 1970302324) 749)]
noncomputable def o439 (_ : Params) : Obj := cO [(.str (S 33062797301872241) 742), (.str (S 2382425625736609055251908520208724) 743), (.str (S 9700865007064396754801562313776) 744), (.int (194) 0), (.int (3) 0), (.int (0) 0), (.int (0) 0), (.int (3) 0), (.ref 434), (.bool true), (.int (181) 0), (.ref 435), .none, (.ref 436), (.ref 437), (.ref 438), (.int (750) 0), (.int (194) 0), (.str (S 9700865007064396754801562313776) 751)]
noncomputable def o440 (_ : Params) : Obj := ⟨(.type "function"), none, .func (PySem.W.fnOf (Str.ofString "put_out") (Str.ofString "Sheets.put_out") (defArgs (inClass (top 21) 24)) (defBody (inClass (top 21) 24)) (defScope (inClass (top 21) 24)) .none .none .none (.str (S 154800023163187350263413837515144196967) 518) none (.ref 439) .none), #[]⟩
noncomputable def o443 (_ : Params) : Obj := tO [(.str (S 1735222900) 756), (.str (S 439938610023) 757), (.str (S 133512874028327697487130724) 758), (.str (S 525956378214) 759), (.str (S 1869248629) 760)]
noncomputable def o446 (_ : Params) : Obj := cO [(.str (S 8318262175738129780) 753), (.str (S 599393958960389321452523230538918228) 754), (.str (S 9700865007064396754801562313776) 755), (.int (206) 0), (.int (3) 0), (.int (0) 0), (.int (0) 0), (.int (3) 0), (.ref 441), (.bool true), (.int (181) 0), (.ref 442), .none, (.ref 443), (.ref 444), (.ref 445), (.int (761) 0), (.int (206) 0), (.str (S 9700865007064396754801562313776) 762)]
noncomputable def o447 (_ : Params) : Obj := ⟨(.type "function"), none, .func (PySem.W.fnOf (Str.ofString "slot_for") (Str.ofString "Sheets.slot_for") (defArgs (inClass (top 21) 25)) (defBody (inClass (top 21) 25)) (defScope (inClass (top 21) 25)) .none .none .none (.str (S 154800023163187350263413837515144196967) 518) none (.ref 446) .none), #[]⟩
noncomputable def o448 (_ : Params) : Obj := ⟨(.type "tuple"), none, .seq #[(.str (Str.ofString "come_back") 764), (.str (Str.ofString "frames") 765), (.str (Str.ofString "gone_astray") 766), (.str (Str.ofString "gone_out") 767), (.str (Str.ofString "hand") 768), (.str (Str.ofString "size") 769), (.str (Str.ofString "slots") 770)] 0, #[]⟩
noncomputable def o449 (P : Params) : Obj := dO 4 [ent P (S 455125450472104437637216) 527 (.str (S 154800023163187350263413837515144196967) 518), ent P (S 500416517772168279997240570217455712) 531 (.int (72) 530), ent P (S 6944679725401530464) 541 (.ref 274), ent P (S 452924437351) 552 (.ref 281), ent P (S 1818518115) 563 (.ref 288), ent P (S 1701671017) 572 (.ref 295), ent P (S 123593597216365) 582 (.ref 302), ent P (S 488476733378837491839081) 591 (.ref 309), ent P (S 36344496227587819637979312233) 599 (.ref 316), ent P (S 8458429107500640628) 608 (.ref 323), ent P (S 113732352569443) 617 (.ref 330), ent P (S 34182044304369268) 627 (.ref 337), ent P (S 1701671015) 634 (.ref 344), ent P (S 140789800901245672938236525) 641 (.ref 351), ent P (S 30801127769404522) 648 (.ref 358), ent P (S 33040738433327721) 655 (.ref 365), ent P (S 140719112692525297883246709) 665 (.ref 372), ent P (S 549960882328764939071605) 671 (.ref 377), ent P (S 435510800494) 678 (.ref 384), ent P (S 8458429051817327213) 687 (.ref 391), ent P (S 2148284700994785078626) 694 (.ref 398), ent P (S 2166370315886094282869) 704 (.ref 405), ent P (S 2128759062150016623209) 713 (.ref 412), ent P (S 578295153549658678911598) 721 (.ref 419), ent P (S 2055260603203882086509) 730 (.ref 426), ent P (S 2129475116924502438759) 741 (.ref 433), ent P (S 33062797301872241) 752 (.ref 440), ent P (S 8318262175738129780) 763 (.ref 447), ent P (S 140854816109632365363434125429399349832812124725344) 771 (.ref 448), ent P (S 6944679699547512928) 773 (.ref 451), ent P (S 116512133262362862868258912) 775 (.ref 452), ent P (S 27127582262911072) 776 .none]
noncomputable def o450 (_ : Params) : Obj := ⟨(.type "type"), none, .cls { name := (Str.ofString "Sheets"), bases := [(.type "object")], mro := [(.ref 450), (.type "object")], ns := 449, qualname := (Str.ofString "Sheets"), hasDict := true, slotNames := [], subclasses := [], abstract := false, collection := none, hasDel := false }, #[none, none, (some (.str (S 128047577983316) 520)), (some (.str (S 128047577983316) 528)), (some (.builtin "object.__new__")), (some (.bool true))]⟩
noncomputable def o451 (_ : Params) : Obj := ⟨(.type "getset_descriptor"), none, .fields ⟨[(.str (S 6944679699547512928) 772), (.ref 450), (.builtin "function.__dict__"), (.builtin "function.__dict__#set")]⟩, #[]⟩
noncomputable def o452 (_ : Params) : Obj := ⟨(.type "getset_descriptor"), none, .fields ⟨[(.str (S 116512133262362862868258912) 774), (.ref 450), (.builtin "ExceptionGroup.__weakref__"), .none]⟩, #[]⟩
noncomputable def o457 (_ : Params) : Obj := tO [(.str (S 141979911977246466280418656) 784), (.str (S 119161592376672) 785)]
noncomputable def o460 (_ : Params) : Obj := cO [(.str (S 2018578202597599112544) 781), (.str (S 2018578202597599112544) 782), (.str (S 9700865007064396754801562313776) 783), (.int (215) 0), (.int (2) 0), (.int (0) 0), (.int (0) 0), (.int (3) 0), (.ref 455), (.bool true), (.int (181) 0), (.ref 456), .none, (.ref 457), (.ref 458), (.ref 459), (.int (786) 0), (.int (215) 0), (.str (S 9700865007064396754801562313776) 787)]
noncomputable def o461 (_ : Params) : Obj := ⟨(.type "function"), none, .func (PySem.W.fnOf (Str.ofString "_law_cell") (Str.ofString "_law_cell") (defArgs (top 23)) (defBody (top 23)) (defScope (top 23)) .none .none .none (.str (S 699838560520272013362597179274043844820798332517458973573337268914512493) 779) none (.ref 460) .none), #[]⟩
noncomputable def o464 (_ : Params) : Obj := tO [(.str (S 479015137796973828140384) 792), (.str (S 7383200104131489120) 793), (.str (S 119161592376672) 794)]
noncomputable def o467 (_ : Params) : Obj := cO [(.str (S 1889380072283105815904) 789), (.str (S 1889380072283105815904) 790), (.str (S 9700865007064396754801562313776) 791), (.int (219) 0), (.int (2) 0), (.int (0) 0), (.int (0) 0), (.int (3) 0), (.ref 462), (.bool true), (.int (181) 0), (.ref 463), .none, (.ref 464), (.ref 465), (.ref 466), (.int (795) 0), (.int (219) 0), (.str (S 9700865007064396754801562313776) 796)]
noncomputable def o468 (_ : Params) : Obj := ⟨(.type "function"), none, .func (PySem.W.fnOf (Str.ofString "_law_like") (Str.ofString "_law_like") (defArgs (top 24)) (defBody (top 24)) (defScope (top 24)) .none .none .none (.str (S 699838560520272013362597179274043844820798332517458973573337268914512493) 779) none (.ref 467) .none), #[]⟩
noncomputable def o471 (_ : Params) : Obj := tO [(.str (S 140789800901245673238850912) 801), (.str (S 554405825948688972934496) 802), (.str (S 139510021644005314150952288) 803), (.str (S 549795074702062171352416) 804), (.str (S 34862194397020852982265263931225081539936) 805)]
noncomputable def o474 (_ : Params) : Obj := cO [(.str (S 31381846404235127185299631456) 798), (.str (S 31381846404235127185299631456) 799), (.str (S 9700865007064396754801562313776) 800), (.int (238) 0), (.int (4) 0), (.int (0) 0), (.int (0) 0), (.int (3) 0), (.ref 469), (.bool true), (.int (181) 0), (.ref 470), .none, (.ref 471), (.ref 472), (.ref 473), (.int (806) 0), (.int (238) 0), (.str (S 9700865007064396754801562313776) 807)]
noncomputable def o475 (_ : Params) : Obj := ⟨(.type "function"), none, .func (PySem.W.fnOf (Str.ofString "_law_refused") (Str.ofString "_law_refused") (defArgs (top 25)) (defBody (top 25)) (defScope (top 25)) .none .none .none (.str (S 699838560520272013362597179274043844820798332517458973573337268914512493) 779) none (.ref 474) .none), #[]⟩
noncomputable def o478 (_ : Params) : Obj := tO [(.str (S 140789800901245673238850912) 812), (.str (S 554405825948688972934496) 813), (.str (S 139510021644005314150952288) 814), (.str (S 549795074702062171352416) 815), (.str (S 102) 816)]
noncomputable def o481 (_ : Params) : Obj := cO [(.str (S 483737071084356757515616) 809), (.str (S 483737071084356757515616) 810), (.str (S 9700865007064396754801562313776) 811), (.int (245) 0), (.int (4) 0), (.int (0) 0), (.int (0) 0), (.int (3) 0), (.ref 476), (.bool true), (.int (181) 0), (.ref 477), .none, (.ref 478), (.ref 479), (.ref 480), (.int (817) 0), (.int (245) 0), (.str (S 9700865007064396754801562313776) 818)]
noncomputable def o482 (_ : Params) : Obj := ⟨(.type "function"), none, .func (PySem.W.fnOf (Str.ofString "_law_alone") (Str.ofString "_law_alone") (defArgs (top 26)) (defBody (top 26)) (defScope (top 26)) .none .none .none (.str (S 699838560520272013362597179274043844820798332517458973573337268914512493) 779) none (.ref 481) .none), #[]⟩
noncomputable def o485 (_ : Params) : Obj := tO [(.str (S 140789800901245673238850912) 823)]
noncomputable def o488 (_ : Params) : Obj := cO [(.str (S 483846745014073506819424) 820), (.str (S 483846745014073506819424) 821), (.str (S 9700865007064396754801562313776) 822), (.int (255) 0), (.int (1) 0), (.int (0) 0), (.int (0) 0), (.int (3) 0), (.ref 483), (.bool true), (.int (181) 0), (.ref 484), .none, (.ref 485), (.ref 486), (.ref 487), (.int (824) 0), (.int (255) 0), (.str (S 9700865007064396754801562313776) 825)]
noncomputable def o489 (_ : Params) : Obj := ⟨(.type "function"), none, .func (PySem.W.fnOf (Str.ofString "_law_state") (Str.ofString "_law_state") (defArgs (top 27)) (defBody (top 27)) (defScope (top 27)) .none .none .none (.str (S 699838560520272013362597179274043844820798332517458973573337268914512493) 779) none (.ref 488) .none), #[]⟩
noncomputable def o492 (_ : Params) : Obj := tO [(.str (S 140789800901245673238850912) 830), (.str (S 2077948713125189379357033996905824) 831), (.str (S 139509984824270207699807584) 832), (.str (S 549795074702062171352416) 833), (.str (S 2258528875839108574560) 834), (.str (S 478774175226688602008928) 835)]
noncomputable def o495 (_ : Params) : Obj := cO [(.str (S 9700307658800043374223860854112) 827), (.str (S 9700307658800043374223860854112) 828), (.str (S 9700865007064396754801562313776) 829), (.int (257) 0), (.int (5) 0), (.int (0) 0), (.int (0) 0), (.int (3) 0), (.ref 490), (.bool true), (.int (181) 0), (.ref 491), .none, (.ref 492), (.ref 493), (.ref 494), (.int (836) 0), (.int (257) 0), (.str (S 9700865007064396754801562313776) 837)]
noncomputable def o496 (_ : Params) : Obj := ⟨(.type "function"), none, .func (PySem.W.fnOf (Str.ofString "_law_too_many") (Str.ofString "_law_too_many") (defArgs (top 28)) (defBody (top 28)) (defScope (top 28)) .none .none .none (.str (S 699838560520272013362597179274043844820798332517458973573337268914512493) 779) none (.ref 495) .none), #[]⟩
noncomputable def o499 (_ : Params) : Obj := tO [(.str (S 140789800901245673238850912) 842), (.str (S 140719112692525298201292128) 843), (.str (S 549960882328765257117024) 844), (.str (S 139509984824270207699807584) 845), (.str (S 483865979046955610959200) 846), (.str (S 139510021644005314150952288) 847), (.str (S 549795074702062171352416) 848), (.str (S 2166371441786319170912) 849), (.str (S 479015137796973828140384) 850)]
noncomputable def o502 (_ : Params) : Obj := cO [(.str (S 31381789606350664195656281440) 839), (.str (S 31381789606350664195656281440) 840), (.str (S 9700865007064396754801562313776) 841), (.int (266) 0), (.int (7) 0), (.int (0) 0), (.int (0) 0), (.int (3) 0), (.ref 497), (.bool true), (.int (181) 0), (.ref 498), .none, (.ref 499), (.ref 500), (.ref 501), (.int (851) 0), (.int (266) 0), (.str (S 9700865007064396754801562313776) 852)]
noncomputable def o503 (_ : Params) : Obj := ⟨(.type "function"), none, .func (PySem.W.fnOf (Str.ofString "_law_changed") (Str.ofString "_law_changed") (defArgs (top 29)) (defBody (top 29)) (defScope (top 29)) .none .none .none (.str (S 699838560520272013362597179274043844820798332517458973573337268914512493) 779) none (.ref 502) .none), #[]⟩
noncomputable def o507 (_ : Params) : Obj := cO [(.str (S 7889517) 854), (.str (S 7889517) 855), (.str (S 9700865007064396754801562313776) 856), (.int (279) 0), (.int (1) 0), (.int (0) 0), (.int (0) 0), (.int (3) 0), (.ref 504), (.bool true), (.int (181) 0), (.ref 505), .none, .none, .none, (.ref 506), (.int (857) 0), (.int (279) 0), (.str (S 9700865007064396754801562313776) 858)]
noncomputable def o508 (_ : Params) : Obj := ⟨(.type "function"), none, .func (PySem.W.fnOf (Str.ofString "law") (Str.ofString "law") (defArgs (top 30)) (defBody (top 30)) (defScope (top 30)) .none .none .none (.str (S 699838560520272013362597179274043844820798332517458973573337268914512493) 779) none (.ref 507) .none), #[]⟩
noncomputable def Kf : Params → PySem.W.Frag := fun P => (nat_lit 2, o2 P) :: (nat_lit 3, o3 P) :: (nat_lit 15, o15 P) :: (nat_lit 17, o17 P) :: (nat_lit 18, o15 P) :: (nat_lit 20, o20 P) :: (nat_lit 21, o21 P) :: (nat_lit 22, o22 P) :: (nat_lit 29, o29 P) :: (nat_lit 30, o30 P) :: (nat_lit 31, o31 P) :: (nat_lit 32, o32 P) :: (nat_lit 35, o35 P) :: (nat_lit 42, o29 P) :: (nat_lit 43, o43 P) :: (nat_lit 44, o44 P) :: (nat_lit 47, o35 P) :: (nat_lit 54, o29 P) :: (nat_lit 55, o55 P) :: (nat_lit 56, o56 P) :: (nat_lit 59, o35 P) :: (nat_lit 66, o29 P) :: (nat_lit 67, o67 P) :: (nat_lit 68, o68 P) :: (nat_lit 71, o35 P) :: (nat_lit 78, o29 P) :: (nat_lit 79, o79 P) :: (nat_lit 80, o80 P) :: (nat_lit 83, o35 P) :: (nat_lit 90, o29 P) :: (nat_lit 91, o91 P) :: (nat_lit 92, o92 P) :: (nat_lit 95, o35 P) :: (nat_lit 102, o29 P) :: (nat_lit 103, o103 P) :: (nat_lit 104, o104 P) :: (nat_lit 107, o35 P) :: (nat_lit 114, o29 P) :: (nat_lit 115, o115 P) :: (nat_lit 116, o116 P) :: (nat_lit 119, o35 P) :: (nat_lit 126, o29 P) :: (nat_lit 127, o127 P) :: (nat_lit 128, o128 P) :: (nat_lit 131, o35 P) :: (nat_lit 138, o29 P) :: (nat_lit 139, o139 P) :: (nat_lit 140, o140 P) :: (nat_lit 143, o35 P) :: (nat_lit 150, o29 P) :: (nat_lit 151, o151 P) :: (nat_lit 152, o152 P) :: (nat_lit 155, o35 P) :: (nat_lit 162, o29 P) :: (nat_lit 163, o163 P) :: (nat_lit 164, o164 P) :: (nat_lit 167, o35 P) :: (nat_lit 174, o29 P) :: (nat_lit 175, o175 P) :: (nat_lit 176, o176 P) :: (nat_lit 179, o15 P) :: (nat_lit 181, o181 P) :: (nat_lit 182, o15 P) :: (nat_lit 184, o184 P) :: (nat_lit 185, o185 P) :: (nat_lit 193, o15 P) :: (nat_lit 195, o195 P) :: (nat_lit 196, o15 P) :: (nat_lit 198, o198 P) :: (nat_lit 199, o199 P) :: (nat_lit 200, o15 P) :: (nat_lit 202, o202 P) :: (nat_lit 203, o15 P) :: (nat_lit 205, o205 P) :: (nat_lit 206, o206 P) :: (nat_lit 207, o15 P) :: (nat_lit 209, o209 P) :: (nat_lit 210, o15 P) :: (nat_lit 212, o212 P) :: (nat_lit 213, o213 P) :: (nat_lit 214, o214 P) :: (nat_lit 215, o215 P) :: (nat_lit 216, o216 P) :: (nat_lit 217, o217 P) :: (nat_lit 218, o218 P) :: (nat_lit 228, o15 P) :: (nat_lit 230, o230 P) :: (nat_lit 231, o15 P) :: (nat_lit 233, o233 P) :: (nat_lit 234, o234 P) :: (nat_lit 235, o15 P) :: (nat_lit 237, o237 P) :: (nat_lit 238, o15 P) :: (nat_lit 240, o240 P) :: (nat_lit 241, o241 P) :: (nat_lit 242, o15 P) :: (nat_lit 244, o244 P) :: (nat_lit 245, o15 P) :: (nat_lit 247, o247 P) :: (nat_lit 248, o248 P) :: (nat_lit 249, o15 P) :: (nat_lit 252, o252 P) :: (nat_lit 253, o253 P) :: (nat_lit 254, o254 P) :: (nat_lit 255, o255 P) :: (nat_lit 256, o256 P) :: (nat_lit 257, o257 P) :: (nat_lit 258, o258 P) :: (nat_lit 268, o15 P) :: (nat_lit 270, o270 P) :: (nat_lit 271, o15 P) :: (nat_lit 273, o273 P) :: (nat_lit 274, o274 P) :: (nat_lit 275, o15 P) :: (nat_lit 277, o277 P) :: (nat_lit 278, o15 P) :: (nat_lit 280, o280 P) :: (nat_lit 281, o281 P) :: (nat_lit 282, o15 P) :: (nat_lit 284, o284 P) :: (nat_lit 285, o15 P) :: (nat_lit 287, o287 P) :: (nat_lit 288, o288 P) :: (nat_lit 289, o15 P) :: (nat_lit 291, o291 P) :: (nat_lit 292, o15 P) :: (nat_lit 294, o294 P) :: (nat_lit 295, o295 P) :: (nat_lit 296, o15 P) :: (nat_lit 298, o298 P) :: (nat_lit 299, o15 P) :: (nat_lit 301, o301 P) :: (nat_lit 302, o302 P) :: (nat_lit 303, o15 P) :: (nat_lit 305, o305 P) :: (nat_lit 306, o15 P) :: (nat_lit 308, o308 P) :: (nat_lit 309, o309 P) :: (nat_lit 310, o15 P) :: (nat_lit 312, o312 P) :: (nat_lit 313, o15 P) :: (nat_lit 315, o315 P) :: (nat_lit 316, o316 P) :: (nat_lit 317, o15 P) :: (nat_lit 319, o319 P) :: (nat_lit 320, o15 P) :: (nat_lit 322, o322 P) :: (nat_lit 323, o323 P) :: (nat_lit 324, o15 P) :: (nat_lit 326, o326 P) :: (nat_lit 327, o15 P) :: (nat_lit 329, o329 P) :: (nat_lit 330, o330 P) :: (nat_lit 331, o15 P) :: (nat_lit 333, o333 P) :: (nat_lit 334, o15 P) :: (nat_lit 336, o336 P) :: (nat_lit 337, o337 P) :: (nat_lit 338, o15 P) :: (nat_lit 340, o340 P) :: (nat_lit 341, o15 P) :: (nat_lit 343, o343 P) :: (nat_lit 344, o344 P) :: (nat_lit 345, o15 P) :: (nat_lit 347, o347 P) :: (nat_lit 348, o15 P) :: (nat_lit 350, o350 P) :: (nat_lit 351, o351 P) :: (nat_lit 352, o15 P) :: (nat_lit 354, o354 P) :: (nat_lit 355, o15 P) :: (nat_lit 357, o357 P) :: (nat_lit 358, o358 P) :: (nat_lit 359, o15 P) :: (nat_lit 361, o361 P) :: (nat_lit 362, o15 P) :: (nat_lit 364, o364 P) :: (nat_lit 365, o365 P) :: (nat_lit 366, o15 P) :: (nat_lit 368, o368 P) :: (nat_lit 369, o15 P) :: (nat_lit 371, o371 P) :: (nat_lit 372, o372 P) :: (nat_lit 373, o15 P) :: (nat_lit 376, o376 P) :: (nat_lit 377, o377 P) :: (nat_lit 378, o15 P) :: (nat_lit 380, o380 P) :: (nat_lit 381, o15 P) :: (nat_lit 383, o383 P) :: (nat_lit 384, o384 P) :: (nat_lit 385, o15 P) :: (nat_lit 387, o387 P) :: (nat_lit 388, o15 P) :: (nat_lit 390, o390 P) :: (nat_lit 391, o391 P) :: (nat_lit 392, o15 P) :: (nat_lit 394, o394 P) :: (nat_lit 395, o15 P) :: (nat_lit 397, o397 P) :: (nat_lit 398, o398 P) :: (nat_lit 399, o15 P) :: (nat_lit 401, o401 P) :: (nat_lit 402, o15 P) :: (nat_lit 404, o404 P) :: (nat_lit 405, o405 P) :: (nat_lit 406, o15 P) :: (nat_lit 408, o408 P) :: (nat_lit 409, o15 P) :: (nat_lit 411, o411 P) :: (nat_lit 412, o412 P) :: (nat_lit 413, o15 P) :: (nat_lit 415, o415 P) :: (nat_lit 416, o15 P) :: (nat_lit 418, o418 P) :: (nat_lit 419, o419 P) :: (nat_lit 420, o15 P) :: (nat_lit 422, o422 P) :: (nat_lit 423, o15 P) :: (nat_lit 425, o425 P) :: (nat_lit 426, o426 P) :: (nat_lit 427, o15 P) :: (nat_lit 429, o429 P) :: (nat_lit 430, o15 P) :: (nat_lit 432, o432 P) :: (nat_lit 433, o433 P) :: (nat_lit 434, o15 P) :: (nat_lit 436, o436 P) :: (nat_lit 437, o15 P) :: (nat_lit 439, o439 P) :: (nat_lit 440, o440 P) :: (nat_lit 441, o15 P) :: (nat_lit 443, o443 P) :: (nat_lit 444, o15 P) :: (nat_lit 446, o446 P) :: (nat_lit 447, o447 P) :: (nat_lit 448, o448 P) :: (nat_lit 449, o449 P) :: (nat_lit 450, o450 P) :: (nat_lit 451, o451 P) :: (nat_lit 452, o452 P) :: (nat_lit 455, o15 P) :: (nat_lit 457, o457 P) :: (nat_lit 458, o15 P) :: (nat_lit 460, o460 P) :: (nat_lit 461, o461 P) :: (nat_lit 462, o15 P) :: (nat_lit 464, o464 P) :: (nat_lit 465, o15 P) :: (nat_lit 467, o467 P) :: (nat_lit 468, o468 P) :: (nat_lit 469, o15 P) :: (nat_lit 471, o471 P) :: (nat_lit 472, o15 P) :: (nat_lit 474, o474 P) :: (nat_lit 475, o475 P) :: (nat_lit 476, o15 P) :: (nat_lit 478, o478 P) :: (nat_lit 479, o15 P) :: (nat_lit 481, o481 P) :: (nat_lit 482, o482 P) :: (nat_lit 483, o15 P) :: (nat_lit 485, o485 P) :: (nat_lit 486, o15 P) :: (nat_lit 488, o488 P) :: (nat_lit 489, o489 P) :: (nat_lit 490, o15 P) :: (nat_lit 492, o492 P) :: (nat_lit 493, o15 P) :: (nat_lit 495, o495 P) :: (nat_lit 496, o496 P) :: (nat_lit 497, o15 P) :: (nat_lit 499, o499 P) :: (nat_lit 500, o15 P) :: (nat_lit 502, o502 P) :: (nat_lit 503, o503 P) :: (nat_lit 504, o15 P) :: (nat_lit 507, o507 P) :: (nat_lit 508, o508 P) :: []
noncomputable def Kc0 (P : Params) : List (Option Obj) := [some (o2 P), some (o3 P), some (o15 P), some (o17 P), some (o15 P), some (o20 P), some (o21 P), some (o22 P), some (o29 P), some (o30 P), some (o31 P), some (o32 P), some (o35 P), some (o29 P)]
noncomputable def Kc1 (P : Params) : List (Option Obj) := [some (o43 P), some (o44 P), some (o35 P), some (o29 P), some (o55 P), some (o56 P), some (o35 P), some (o29 P), some (o67 P), some (o68 P), some (o35 P), some (o29 P), some (o79 P), some (o80 P)]
noncomputable def Kc2 (P : Params) : List (Option Obj) := [some (o35 P), some (o29 P), some (o91 P), some (o92 P), some (o35 P), some (o29 P), some (o103 P), some (o104 P), some (o35 P), some (o29 P), some (o115 P), some (o116 P), some (o35 P), some (o29 P)]
noncomputable def Kc3 (P : Params) : List (Option Obj) := [some (o127 P), some (o128 P), some (o35 P), some (o29 P), some (o139 P), some (o140 P), some (o35 P), some (o29 P), some (o151 P), some (o152 P), some (o35 P), some (o29 P), some (o163 P), some (o164 P)]
noncomputable def Kc4 (P : Params) : List (Option Obj) := [some (o35 P), some (o29 P), some (o175 P), some (o176 P), some (o15 P), some (o181 P), some (o15 P), some (o184 P), some (o185 P), some (o15 P), some (o195 P), some (o15 P), some (o198 P), some (o199 P)]
noncomputable def Kc5 (P : Params) : List (Option Obj) := [some (o15 P), some (o202 P), some (o15 P), some (o205 P), some (o206 P), some (o15 P), some (o209 P), some (o15 P), some (o212 P), some (o213 P), some (o214 P), some (o215 P), some (o216 P), some (o217 P)]
noncomputable def Kc6 (P : Params) : List (Option Obj) := [some (o218 P), some (o15 P), some (o230 P), some (o15 P), some (o233 P), some (o234 P), some (o15 P), some (o237 P), some (o15 P), some (o240 P), some (o241 P), some (o15 P), some (o244 P), some (o15 P)]
noncomputable def Kc7 (P : Params) : List (Option Obj) := [some (o247 P), some (o248 P), some (o15 P), some (o252 P), some (o253 P), some (o254 P), some (o255 P), some (o256 P), some (o257 P), some (o258 P), some (o15 P), some (o270 P), some (o15 P), some (o273 P)]
noncomputable def Kc8 (P : Params) : List (Option Obj) := [some (o274 P), some (o15 P), some (o277 P), some (o15 P), some (o280 P), some (o281 P), some (o15 P), some (o284 P), some (o15 P), some (o287 P), some (o288 P), some (o15 P), some (o291 P), some (o15 P)]
noncomputable def Kc9 (P : Params) : List (Option Obj) := [some (o294 P), some (o295 P), some (o15 P), some (o298 P), some (o15 P), some (o301 P), some (o302 P), some (o15 P), some (o305 P), some (o15 P), some (o308 P), some (o309 P), some (o15 P), some (o312 P)]
noncomputable def Kc10 (P : Params) : List (Option Obj) := [some (o15 P), some (o315 P), some (o316 P), some (o15 P), some (o319 P), some (o15 P), some (o322 P), some (o323 P), some (o15 P), some (o326 P), some (o15 P), some (o329 P), some (o330 P), some (o15 P)]
noncomputable def Kc11 (P : Params) : List (Option Obj) := [some (o333 P), some (o15 P), some (o336 P), some (o337 P), some (o15 P), some (o340 P), some (o15 P), some (o343 P), some (o344 P), some (o15 P), some (o347 P), some (o15 P), some (o350 P), some (o351 P)]
noncomputable def Kc12 (P : Params) : List (Option Obj) := [some (o15 P), some (o354 P), some (o15 P), some (o357 P), some (o358 P), some (o15 P), some (o361 P), some (o15 P), some (o364 P), some (o365 P), some (o15 P), some (o368 P), some (o15 P), some (o371 P)]
noncomputable def Kc13 (P : Params) : List (Option Obj) := [some (o372 P), some (o15 P), some (o376 P), some (o377 P), some (o15 P), some (o380 P), some (o15 P), some (o383 P), some (o384 P), some (o15 P), some (o387 P), some (o15 P), some (o390 P), some (o391 P)]
noncomputable def Kc14 (P : Params) : List (Option Obj) := [some (o15 P), some (o394 P), some (o15 P), some (o397 P), some (o398 P), some (o15 P), some (o401 P), some (o15 P), some (o404 P), some (o405 P), some (o15 P), some (o408 P), some (o15 P), some (o411 P)]
noncomputable def Kc15 (P : Params) : List (Option Obj) := [some (o412 P), some (o15 P), some (o415 P), some (o15 P), some (o418 P), some (o419 P), some (o15 P), some (o422 P), some (o15 P), some (o425 P), some (o426 P), some (o15 P), some (o429 P), some (o15 P)]
noncomputable def Kc16 (P : Params) : List (Option Obj) := [some (o432 P), some (o433 P), some (o15 P), some (o436 P), some (o15 P), some (o439 P), some (o440 P), some (o15 P), some (o443 P), some (o15 P), some (o446 P), some (o447 P), some (o448 P), some (o449 P)]
noncomputable def Kc17 (P : Params) : List (Option Obj) := [some (o450 P), some (o451 P), some (o452 P), some (o15 P), some (o457 P), some (o15 P), some (o460 P), some (o461 P), some (o15 P), some (o464 P), some (o15 P), some (o467 P), some (o468 P), some (o15 P)]
noncomputable def Kc18 (P : Params) : List (Option Obj) := [some (o471 P), some (o15 P), some (o474 P), some (o475 P), some (o15 P), some (o478 P), some (o15 P), some (o481 P), some (o482 P), some (o15 P), some (o485 P), some (o15 P), some (o488 P), some (o489 P)]
noncomputable def Kc19 (P : Params) : List (Option Obj) := [some (o15 P), some (o492 P), some (o15 P), some (o495 P), some (o496 P), some (o15 P), some (o499 P), some (o15 P), some (o502 P), some (o503 P), some (o15 P), some (o507 P), some (o508 P)]
noncomputable def Kc (P : Params) : List (Option Obj) := Kc0 P ++ (Kc1 P ++ (Kc2 P ++ (Kc3 P ++ (Kc4 P ++ (Kc5 P ++ (Kc6 P ++ (Kc7 P ++ (Kc8 P ++ (Kc9 P ++ (Kc10 P ++ (Kc11 P ++ (Kc12 P ++ (Kc13 P ++ (Kc14 P ++ (Kc15 P ++ (Kc16 P ++ (Kc17 P ++ (Kc18 P ++ (Kc19 P)))))))))))))))))))
def adr : List Addr := nat_lit 2 :: nat_lit 3 :: nat_lit 15 :: nat_lit 17 :: nat_lit 18 :: nat_lit 20 :: nat_lit 21 :: nat_lit 22 :: nat_lit 29 :: nat_lit 30 :: nat_lit 31 :: nat_lit 32 :: nat_lit 35 :: nat_lit 42 :: nat_lit 43 :: nat_lit 44 :: nat_lit 47 :: nat_lit 54 :: nat_lit 55 :: nat_lit 56 :: nat_lit 59 :: nat_lit 66 :: nat_lit 67 :: nat_lit 68 :: nat_lit 71 :: nat_lit 78 :: nat_lit 79 :: nat_lit 80 :: nat_lit 83 :: nat_lit 90 :: nat_lit 91 :: nat_lit 92 :: nat_lit 95 :: nat_lit 102 :: nat_lit 103 :: nat_lit 104 :: nat_lit 107 :: nat_lit 114 :: nat_lit 115 :: nat_lit 116 :: nat_lit 119 :: nat_lit 126 :: nat_lit 127 :: nat_lit 128 :: nat_lit 131 :: nat_lit 138 :: nat_lit 139 :: nat_lit 140 :: nat_lit 143 :: nat_lit 150 :: nat_lit 151 :: nat_lit 152 :: nat_lit 155 :: nat_lit 162 :: nat_lit 163 :: nat_lit 164 :: nat_lit 167 :: nat_lit 174 :: nat_lit 175 :: nat_lit 176 :: nat_lit 179 :: nat_lit 181 :: nat_lit 182 :: nat_lit 184 :: nat_lit 185 :: nat_lit 193 :: nat_lit 195 :: nat_lit 196 :: nat_lit 198 :: nat_lit 199 :: nat_lit 200 :: nat_lit 202 :: nat_lit 203 :: nat_lit 205 :: nat_lit 206 :: nat_lit 207 :: nat_lit 209 :: nat_lit 210 :: nat_lit 212 :: nat_lit 213 :: nat_lit 214 :: nat_lit 215 :: nat_lit 216 :: nat_lit 217 :: nat_lit 218 :: nat_lit 228 :: nat_lit 230 :: nat_lit 231 :: nat_lit 233 :: nat_lit 234 :: nat_lit 235 :: nat_lit 237 :: nat_lit 238 :: nat_lit 240 :: nat_lit 241 :: nat_lit 242 :: nat_lit 244 :: nat_lit 245 :: nat_lit 247 :: nat_lit 248 :: nat_lit 249 :: nat_lit 252 :: nat_lit 253 :: nat_lit 254 :: nat_lit 255 :: nat_lit 256 :: nat_lit 257 :: nat_lit 258 :: nat_lit 268 :: nat_lit 270 :: nat_lit 271 :: nat_lit 273 :: nat_lit 274 :: nat_lit 275 :: nat_lit 277 :: nat_lit 278 :: nat_lit 280 :: nat_lit 281 :: nat_lit 282 :: nat_lit 284 :: nat_lit 285 :: nat_lit 287 :: nat_lit 288 :: nat_lit 289 :: nat_lit 291 :: nat_lit 292 :: nat_lit 294 :: nat_lit 295 :: nat_lit 296 :: nat_lit 298 :: nat_lit 299 :: nat_lit 301 :: nat_lit 302 :: nat_lit 303 :: nat_lit 305 :: nat_lit 306 :: nat_lit 308 :: nat_lit 309 :: nat_lit 310 :: nat_lit 312 :: nat_lit 313 :: nat_lit 315 :: nat_lit 316 :: nat_lit 317 :: nat_lit 319 :: nat_lit 320 :: nat_lit 322 :: nat_lit 323 :: nat_lit 324 :: nat_lit 326 :: nat_lit 327 :: nat_lit 329 :: nat_lit 330 :: nat_lit 331 :: nat_lit 333 :: nat_lit 334 :: nat_lit 336 :: nat_lit 337 :: nat_lit 338 :: nat_lit 340 :: nat_lit 341 :: nat_lit 343 :: nat_lit 344 :: nat_lit 345 :: nat_lit 347 :: nat_lit 348 :: nat_lit 350 :: nat_lit 351 :: nat_lit 352 :: nat_lit 354 :: nat_lit 355 :: nat_lit 357 :: nat_lit 358 :: nat_lit 359 :: nat_lit 361 :: nat_lit 362 :: nat_lit 364 :: nat_lit 365 :: nat_lit 366 :: nat_lit 368 :: nat_lit 369 :: nat_lit 371 :: nat_lit 372 :: nat_lit 373 :: nat_lit 376 :: nat_lit 377 :: nat_lit 378 :: nat_lit 380 :: nat_lit 381 :: nat_lit 383 :: nat_lit 384 :: nat_lit 385 :: nat_lit 387 :: nat_lit 388 :: nat_lit 390 :: nat_lit 391 :: nat_lit 392 :: nat_lit 394 :: nat_lit 395 :: nat_lit 397 :: nat_lit 398 :: nat_lit 399 :: nat_lit 401 :: nat_lit 402 :: nat_lit 404 :: nat_lit 405 :: nat_lit 406 :: nat_lit 408 :: nat_lit 409 :: nat_lit 411 :: nat_lit 412 :: nat_lit 413 :: nat_lit 415 :: nat_lit 416 :: nat_lit 418 :: nat_lit 419 :: nat_lit 420 :: nat_lit 422 :: nat_lit 423 :: nat_lit 425 :: nat_lit 426 :: nat_lit 427 :: nat_lit 429 :: nat_lit 430 :: nat_lit 432 :: nat_lit 433 :: nat_lit 434 :: nat_lit 436 :: nat_lit 437 :: nat_lit 439 :: nat_lit 440 :: nat_lit 441 :: nat_lit 443 :: nat_lit 444 :: nat_lit 446 :: nat_lit 447 :: nat_lit 448 :: nat_lit 449 :: nat_lit 450 :: nat_lit 451 :: nat_lit 452 :: nat_lit 455 :: nat_lit 457 :: nat_lit 458 :: nat_lit 460 :: nat_lit 461 :: nat_lit 462 :: nat_lit 464 :: nat_lit 465 :: nat_lit 467 :: nat_lit 468 :: nat_lit 469 :: nat_lit 471 :: nat_lit 472 :: nat_lit 474 :: nat_lit 475 :: nat_lit 476 :: nat_lit 478 :: nat_lit 479 :: nat_lit 481 :: nat_lit 482 :: nat_lit 483 :: nat_lit 485 :: nat_lit 486 :: nat_lit 488 :: nat_lit 489 :: nat_lit 490 :: nat_lit 492 :: nat_lit 493 :: nat_lit 495 :: nat_lit 496 :: nat_lit 497 :: nat_lit 499 :: nat_lit 500 :: nat_lit 502 :: nat_lit 503 :: nat_lit 504 :: nat_lit 507 :: nat_lit 508 :: []
theorem adr_eq (P : Params) : adr = (Kf P).map (·.1) := by kernel_rfl
theorem kc_eq (P : Params) : Kc P = (Kf P).map fun p => some p.2 := by kernel_rfl
noncomputable def vw : Program := PySem.W.view PySem.Challenge.pw_frameland_k67_full_refused [0, 2, 3, 4, 5, 6, 7, 8, 9, 10, 11, 12, 13, 14, 16, 18, 19, 21, 23, 24, 25, 26, 27, 28, 29, 30]
noncomputable def o12_pa (_ : Params) : Obj := ⟨.none, none, .fields ⟨[]⟩, #[]⟩
noncomputable def o13_pa (_ : Params) : Obj := cO [(.str (S 4568459227289382461) 182), (.str (S 4568459227289382461) 183), (.str (S 9700865007064396754801562313776) 184), (.int (1) 0), (.int (0) 0), (.int (0) 0), (.int (0) 0), (.int (0) 0), (.ref 11), (.bool false), (.int (181) 0), (.ref 12), .none, .none, .none, .none, (.int (185) 0), (.int (1) 0), (.str (S 9700865007064396754801562313776) 186)]
noncomputable def o14_pa (_ : Params) : Obj := ⟨(.type "frame"), none, .plain, #[(some (.ref 13)), (some (.ref 3)), (some (.ref 3)), none, (some (.str (S 6944673128113922144) 164)), none, (some (.ref 0))]⟩
noncomputable def tpa_8_7 (P : Params) : PySem.W.BT := .node (PySem.W.boot_o_7 P) (.nil) (.nil)
noncomputable def tpa_8_11 (P : Params) : PySem.W.BT := .node (o15 P) (.nil) (.nil)
noncomputable def tpa_8_9 (P : Params) : PySem.W.BT := .node (PySem.W.boot_o_9 P) (.nil) (.nil)
noncomputable def tpa_8_13 (P : Params) : PySem.W.BT := .node (o13_pa P) (.nil) (.nil)
noncomputable def tpa_8_8 (P : Params) : PySem.W.BT := .node (PySem.W.boot_o_8 P) (.nil) (.nil)
noncomputable def tpa_8_12 (P : Params) : PySem.W.BT := .node (o12_pa P) (.nil) (.nil)
noncomputable def tpa_8_10 (P : Params) : PySem.W.BT := .node (PySem.W.boot_o_10 P) (.nil) (.nil)
noncomputable def tpa_8_14 (P : Params) : PySem.W.BT := .node (o14_pa P) (.nil) (.nil)
noncomputable def tpa_1_0 (P : Params) : PySem.W.BT := .node (PySem.W.boot_o_0 P) (.node (PySem.W.boot_o_1 P) (.node (PySem.W.boot_o_3 P) (tpa_8_7 P) (tpa_8_11 P)) (.node (PySem.W.boot_o_5 P) (tpa_8_9 P) (tpa_8_13 P))) (.node (PySem.W.boot_o_2 P) (.node (PySem.W.boot_o_4 P) (tpa_8_8 P) (tpa_8_12 P)) (.node (PySem.W.boot_o_6 P) (tpa_8_10 P) (tpa_8_14 P)))
noncomputable def spa (w : World) (os : OsState) : PySem.W.SharedT := ⟨tpa_1_0 w.params, 15, (PySem.W.boot_heap w.params).life, #[], PySem.W.boot_drawn, 187, os⟩
noncomputable def tpb_8_7 (P : Params) : PySem.W.BT := .node (PySem.W.boot_o_7 P) (.nil) (.nil)
noncomputable def tpb_8_11 (P : Params) : PySem.W.BT := .node (o15 P) (.nil) (.nil)
noncomputable def tpb_8_9 (P : Params) : PySem.W.BT := .node (PySem.W.boot_o_9 P) (.nil) (.nil)
noncomputable def tpb_8_13 (P : Params) : PySem.W.BT := .node (o13_pa P) (.nil) (.nil)
noncomputable def tpb_8_8 (P : Params) : PySem.W.BT := .node (PySem.W.boot_o_8 P) (.nil) (.nil)
noncomputable def tpb_8_12 (P : Params) : PySem.W.BT := .node (o12_pa P) (.nil) (.nil)
noncomputable def tpb_8_10 (P : Params) : PySem.W.BT := .node (PySem.W.boot_o_10 P) (.nil) (.nil)
noncomputable def tpb_8_14 (P : Params) : PySem.W.BT := .node (o14_pa P) (.nil) (.nil)
noncomputable def tpb_1_0 (P : Params) : PySem.W.BT := .node (PySem.W.boot_o_0 P) (.node (PySem.W.boot_o_1 P) (.node (PySem.W.boot_o_3 P) (tpb_8_7 P) (tpb_8_11 P)) (.node (PySem.W.boot_o_5 P) (tpb_8_9 P) (tpb_8_13 P))) (.node (PySem.W.boot_o_2 P) (.node (PySem.W.boot_o_4 P) (tpb_8_8 P) (tpb_8_12 P)) (.node (PySem.W.boot_o_6 P) (tpb_8_10 P) (tpb_8_14 P)))
noncomputable def spb (w : World) (os : OsState) : PySem.W.SharedT := ⟨tpb_1_0 w.params, 15, (PySem.W.boot_heap w.params).life, #[], PySem.W.boot_drawn, 187, os⟩
noncomputable def o3_c15 (P : Params) : Obj := dO 23 [ent P (S 6944663249689206880) 165 (.str (S 154789842426610354947036250589871895399) 194), ent P (S 27127582262911072) 166 .none, ent P (S 116512114954948911152848992) 167 .none, ent P (S 455126385231797511086176) 168 (.builtin "__main__.__loader__#opaque"), ent P (S 6944661016558198880) 169 .none, ent P (S 500416834696884185539869749159288928) 170 (.ref 6), ent P (S 29827167671303893903271485536) 171 (.ref 4), ent P (S 6944663245527933024) 173 (.str (S 9700865007064396754801562313776) 172), ent P (S 455125376429887381069920) 174 .none, ent P (S 469986605152) 193 (.ref 21), ent P (S 545146499936607105348423) 213 (.ref 31), ent P (S 28835115112362063) 229 (.ref 44), ent P (S 2037243915540886812240) 245 (.ref 56), ent P (S 2148282720731175150147) 261 (.ref 68), ent P (S 119247121772623) 277 (.ref 80), ent P (S 119225645756495) 293 (.ref 92), ent P (S 2000274411557569787472) 309 (.ref 104), ent P (S 478459748949) 325 (.ref 116), ent P (S 1870502957375938719823) 341 (.ref 128), ent P (S 33048469456515151) 357 (.ref 140), ent P (S 121429199908943) 373 (.ref 152), ent P (S 2054452803) 389 (.ref 164), ent P (S 517280591951) 405 (.ref 176)]
noncomputable def o12_c15 (_ : Params) : Obj := ⟨.none, none, .fields ⟨[(.int (1) 0), (.int (0) 0), (.ref 20), (.int (5) 0), (.int (0) 0), (.ref 27), (.int (7) 0), (.int (0) 0), (.ref 40), (.int (9) 0), (.int (0) 0), (.ref 52), (.int (11) 0), (.int (0) 0), (.ref 64), (.int (13) 0), (.int (0) 0), (.ref 76), (.int (15) 0), (.int (0) 0), (.ref 88), (.int (17) 0), (.int (0) 0), (.ref 100), (.int (19) 0), (.int (0) 0), (.ref 112), (.int (21) 0), (.int (0) 0), (.ref 124), (.int (23) 0), (.int (0) 0), (.ref 136), (.int (25) 0), (.int (0) 0), (.ref 148), (.int (27) 0), (.int (0) 0), (.ref 160), (.int (29) 0), (.int (0) 0), (.ref 172)]⟩, #[]⟩
noncomputable def o19_c15 (_ : Params) : Obj := ⟨.none, none, .func { name := (S 469986605152), qualname := (S 469986605152), params := defArgs (top 0), body := .stmts (defBody (top 0)), scope := defScope (top 0), globals := 0, closure := [], defaults := .none, kwdefaults := .none, doc := .none, pyModule := .none, annotations := none, code := .none, closureTuple := .none, builtins := 0 }, #[]⟩
noncomputable def o23_c15 (_ : Params) : Obj := ⟨(.type "builtin_function_or_method"), none, .fields ⟨[(.builtin "type.__prepare__"), (.type "type")]⟩, #[]⟩
noncomputable def o24_c15 (P : Params) : Obj := dO 4 [ent P (S 455125450472104437637216) 203 (.str (S 154789842426610354947036250589871895399) 194), ent P (S 29827101539148240018006499424) 205 (.str (S 545146499936607105348423) 204), ent P (S 500416517772168279997240570217455712) 207 (.int (5) 206), ent P (S 140854816109632365363434125429399349832812124725344) 208 (.ref 29)]
noncomputable def o27_c15 (_ : Params) : Obj := cO [(.str (S 545146499936607105348423) 198), (.str (S 545146499936607105348423) 199), (.str (S 9700865007064396754801562313776) 200), (.int (5) 0), (.int (0) 0), (.int (0) 0), (.int (0) 0), (.int (0) 0), (.ref 25), (.bool false), (.int (181) 0), (.ref 26), .none, .none, .none, .none, (.int (201) 0), (.int (5) 0), (.str (S 9700865007064396754801562313776) 202)]
noncomputable def o28_c15 (_ : Params) : Obj := ⟨(.type "frame"), none, .plain, #[(some (.ref 27)), (some (.ref 3)), (some (.ref 24)), none, (some (.str (S 154789842426610354947036250589871895399) 194)), none, (some (.ref 0))]⟩
noncomputable def o33_c15 (_ : Params) : Obj := ⟨(.type "super"), none, .fields ⟨[(.ref 31), (.ref 31), (.ref 31)]⟩, #[]⟩
noncomputable def o34_c15 (_ : Params) : Obj := ⟨(.type "builtin_function_or_method"), none, .fields ⟨[(.builtin "object.__init_subclass__"), (.ref 31)]⟩, #[]⟩
noncomputable def o37_c15 (P : Params) : Obj := dO 4 [ent P (S 455125450472104437637216) 221 (.str (S 154789842426610354947036250589871895399) 194), ent P (S 29827101539148240018006499424) 223 (.str (S 28835115112362063) 222), ent P (S 500416517772168279997240570217455712) 225 (.int (7) 224), ent P (S 140854816109632365363434125429399349832812124725344) 226 (.ref 42)]
noncomputable def o40_c15 (_ : Params) : Obj := cO [(.str (S 28835115112362063) 216), (.str (S 28835115112362063) 217), (.str (S 9700865007064396754801562313776) 218), (.int (7) 0), (.int (0) 0), (.int (0) 0), (.int (0) 0), (.int (0) 0), (.ref 38), (.bool false), (.int (181) 0), (.ref 39), .none, .none, .none, .none, (.int (219) 0), (.int (7) 0), (.str (S 9700865007064396754801562313776) 220)]
noncomputable def o41_c15 (_ : Params) : Obj := ⟨(.type "frame"), none, .plain, #[(some (.ref 40)), (some (.ref 3)), (some (.ref 37)), none, (some (.str (S 154789842426610354947036250589871895399) 194)), none, (some (.ref 0))]⟩
noncomputable def o45_c15 (_ : Params) : Obj := ⟨(.type "super"), none, .fields ⟨[(.ref 44), (.ref 44), (.ref 44)]⟩, #[]⟩
noncomputable def o46_c15 (_ : Params) : Obj := ⟨(.type "builtin_function_or_method"), none, .fields ⟨[(.builtin "object.__init_subclass__"), (.ref 44)]⟩, #[]⟩
noncomputable def o49_c15 (P : Params) : Obj := dO 4 [ent P (S 455125450472104437637216) 237 (.str (S 154789842426610354947036250589871895399) 194), ent P (S 29827101539148240018006499424) 239 (.str (S 2037243915540886812240) 238), ent P (S 500416517772168279997240570217455712) 241 (.int (9) 240), ent P (S 140854816109632365363434125429399349832812124725344) 242 (.ref 54)]
noncomputable def o52_c15 (_ : Params) : Obj := cO [(.str (S 2037243915540886812240) 232), (.str (S 2037243915540886812240) 233), (.str (S 9700865007064396754801562313776) 234), (.int (9) 0), (.int (0) 0), (.int (0) 0), (.int (0) 0), (.int (0) 0), (.ref 50), (.bool false), (.int (181) 0), (.ref 51), .none, .none, .none, .none, (.int (235) 0), (.int (9) 0), (.str (S 9700865007064396754801562313776) 236)]
noncomputable def o53_c15 (_ : Params) : Obj := ⟨(.type "frame"), none, .plain, #[(some (.ref 52)), (some (.ref 3)), (some (.ref 49)), none, (some (.str (S 154789842426610354947036250589871895399) 194)), none, (some (.ref 0))]⟩
noncomputable def o57_c15 (_ : Params) : Obj := ⟨(.type "super"), none, .fields ⟨[(.ref 56), (.ref 56), (.ref 56)]⟩, #[]⟩
noncomputable def o58_c15 (_ : Params) : Obj := ⟨(.type "builtin_function_or_method"), none, .fields ⟨[(.builtin "object.__init_subclass__"), (.ref 56)]⟩, #[]⟩
noncomputable def o61_c15 (P : Params) : Obj := dO 4 [ent P (S 455125450472104437637216) 253 (.str (S 154789842426610354947036250589871895399) 194), ent P (S 29827101539148240018006499424) 255 (.str (S 2148282720731175150147) 254), ent P (S 500416517772168279997240570217455712) 257 (.int (11) 256), ent P (S 140854816109632365363434125429399349832812124725344) 258 (.ref 66)]
noncomputable def o64_c15 (_ : Params) : Obj := cO [(.str (S 2148282720731175150147) 248), (.str (S 2148282720731175150147) 249), (.str (S 9700865007064396754801562313776) 250), (.int (11) 0), (.int (0) 0), (.int (0) 0), (.int (0) 0), (.int (0) 0), (.ref 62), (.bool false), (.int (181) 0), (.ref 63), .none, .none, .none, .none, (.int (251) 0), (.int (11) 0), (.str (S 9700865007064396754801562313776) 252)]
noncomputable def o65_c15 (_ : Params) : Obj := ⟨(.type "frame"), none, .plain, #[(some (.ref 64)), (some (.ref 3)), (some (.ref 61)), none, (some (.str (S 154789842426610354947036250589871895399) 194)), none, (some (.ref 0))]⟩
noncomputable def o69_c15 (_ : Params) : Obj := ⟨(.type "super"), none, .fields ⟨[(.ref 68), (.ref 68), (.ref 68)]⟩, #[]⟩
noncomputable def o70_c15 (_ : Params) : Obj := ⟨(.type "builtin_function_or_method"), none, .fields ⟨[(.builtin "object.__init_subclass__"), (.ref 68)]⟩, #[]⟩
noncomputable def o73_c15 (P : Params) : Obj := dO 4 [ent P (S 455125450472104437637216) 269 (.str (S 154789842426610354947036250589871895399) 194), ent P (S 29827101539148240018006499424) 271 (.str (S 119247121772623) 270), ent P (S 500416517772168279997240570217455712) 273 (.int (13) 272), ent P (S 140854816109632365363434125429399349832812124725344) 274 (.ref 78)]
noncomputable def o76_c15 (_ : Params) : Obj := cO [(.str (S 119247121772623) 264), (.str (S 119247121772623) 265), (.str (S 9700865007064396754801562313776) 266), (.int (13) 0), (.int (0) 0), (.int (0) 0), (.int (0) 0), (.int (0) 0), (.ref 74), (.bool false), (.int (181) 0), (.ref 75), .none, .none, .none, .none, (.int (267) 0), (.int (13) 0), (.str (S 9700865007064396754801562313776) 268)]
noncomputable def o77_c15 (_ : Params) : Obj := ⟨(.type "frame"), none, .plain, #[(some (.ref 76)), (some (.ref 3)), (some (.ref 73)), none, (some (.str (S 154789842426610354947036250589871895399) 194)), none, (some (.ref 0))]⟩
noncomputable def o81_c15 (_ : Params) : Obj := ⟨(.type "super"), none, .fields ⟨[(.ref 80), (.ref 80), (.ref 80)]⟩, #[]⟩
noncomputable def o82_c15 (_ : Params) : Obj := ⟨(.type "builtin_function_or_method"), none, .fields ⟨[(.builtin "object.__init_subclass__"), (.ref 80)]⟩, #[]⟩
noncomputable def o85_c15 (P : Params) : Obj := dO 4 [ent P (S 455125450472104437637216) 285 (.str (S 154789842426610354947036250589871895399) 194), ent P (S 29827101539148240018006499424) 287 (.str (S 119225645756495) 286), ent P (S 500416517772168279997240570217455712) 289 (.int (15) 288), ent P (S 140854816109632365363434125429399349832812124725344) 290 (.ref 90)]
noncomputable def o88_c15 (_ : Params) : Obj := cO [(.str (S 119225645756495) 280), (.str (S 119225645756495) 281), (.str (S 9700865007064396754801562313776) 282), (.int (15) 0), (.int (0) 0), (.int (0) 0), (.int (0) 0), (.int (0) 0), (.ref 86), (.bool false), (.int (181) 0), (.ref 87), .none, .none, .none, .none, (.int (283) 0), (.int (15) 0), (.str (S 9700865007064396754801562313776) 284)]
noncomputable def o89_c15 (_ : Params) : Obj := ⟨(.type "frame"), none, .plain, #[(some (.ref 88)), (some (.ref 3)), (some (.ref 85)), none, (some (.str (S 154789842426610354947036250589871895399) 194)), none, (some (.ref 0))]⟩
noncomputable def o93_c15 (_ : Params) : Obj := ⟨(.type "super"), none, .fields ⟨[(.ref 92), (.ref 92), (.ref 92)]⟩, #[]⟩
noncomputable def o94_c15 (_ : Params) : Obj := ⟨(.type "builtin_function_or_method"), none, .fields ⟨[(.builtin "object.__init_subclass__"), (.ref 92)]⟩, #[]⟩
noncomputable def o97_c15 (P : Params) : Obj := dO 4 [ent P (S 455125450472104437637216) 301 (.str (S 154789842426610354947036250589871895399) 194), ent P (S 29827101539148240018006499424) 303 (.str (S 2000274411557569787472) 302), ent P (S 500416517772168279997240570217455712) 305 (.int (17) 304), ent P (S 140854816109632365363434125429399349832812124725344) 306 (.ref 102)]
noncomputable def o100_c15 (_ : Params) : Obj := cO [(.str (S 2000274411557569787472) 296), (.str (S 2000274411557569787472) 297), (.str (S 9700865007064396754801562313776) 298), (.int (17) 0), (.int (0) 0), (.int (0) 0), (.int (0) 0), (.int (0) 0), (.ref 98), (.bool false), (.int (181) 0), (.ref 99), .none, .none, .none, .none, (.int (299) 0), (.int (17) 0), (.str (S 9700865007064396754801562313776) 300)]
noncomputable def o101_c15 (_ : Params) : Obj := ⟨(.type "frame"), none, .plain, #[(some (.ref 100)), (some (.ref 3)), (some (.ref 97)), none, (some (.str (S 154789842426610354947036250589871895399) 194)), none, (some (.ref 0))]⟩
noncomputable def o105_c15 (_ : Params) : Obj := ⟨(.type "super"), none, .fields ⟨[(.ref 104), (.ref 104), (.ref 104)]⟩, #[]⟩
noncomputable def o106_c15 (_ : Params) : Obj := ⟨(.type "builtin_function_or_method"), none, .fields ⟨[(.builtin "object.__init_subclass__"), (.ref 104)]⟩, #[]⟩
noncomputable def o109_c15 (P : Params) : Obj := dO 4 [ent P (S 455125450472104437637216) 317 (.str (S 154789842426610354947036250589871895399) 194), ent P (S 29827101539148240018006499424) 319 (.str (S 478459748949) 318), ent P (S 500416517772168279997240570217455712) 321 (.int (19) 320), ent P (S 140854816109632365363434125429399349832812124725344) 322 (.ref 114)]
noncomputable def o112_c15 (_ : Params) : Obj := cO [(.str (S 478459748949) 312), (.str (S 478459748949) 313), (.str (S 9700865007064396754801562313776) 314), (.int (19) 0), (.int (0) 0), (.int (0) 0), (.int (0) 0), (.int (0) 0), (.ref 110), (.bool false), (.int (181) 0), (.ref 111), .none, .none, .none, .none, (.int (315) 0), (.int (19) 0), (.str (S 9700865007064396754801562313776) 316)]
noncomputable def o113_c15 (_ : Params) : Obj := ⟨(.type "frame"), none, .plain, #[(some (.ref 112)), (some (.ref 3)), (some (.ref 109)), none, (some (.str (S 154789842426610354947036250589871895399) 194)), none, (some (.ref 0))]⟩
noncomputable def o117_c15 (_ : Params) : Obj := ⟨(.type "super"), none, .fields ⟨[(.ref 116), (.ref 116), (.ref 116)]⟩, #[]⟩
noncomputable def o118_c15 (_ : Params) : Obj := ⟨(.type "builtin_function_or_method"), none, .fields ⟨[(.builtin "object.__init_subclass__"), (.ref 116)]⟩, #[]⟩
noncomputable def o121_c15 (P : Params) : Obj := dO 4 [ent P (S 455125450472104437637216) 333 (.str (S 154789842426610354947036250589871895399) 194), ent P (S 29827101539148240018006499424) 335 (.str (S 1870502957375938719823) 334), ent P (S 500416517772168279997240570217455712) 337 (.int (21) 336), ent P (S 140854816109632365363434125429399349832812124725344) 338 (.ref 126)]
noncomputable def o124_c15 (_ : Params) : Obj := cO [(.str (S 1870502957375938719823) 328), (.str (S 1870502957375938719823) 329), (.str (S 9700865007064396754801562313776) 330), (.int (21) 0), (.int (0) 0), (.int (0) 0), (.int (0) 0), (.int (0) 0), (.ref 122), (.bool false), (.int (181) 0), (.ref 123), .none, .none, .none, .none, (.int (331) 0), (.int (21) 0), (.str (S 9700865007064396754801562313776) 332)]
noncomputable def o125_c15 (_ : Params) : Obj := ⟨(.type "frame"), none, .plain, #[(some (.ref 124)), (some (.ref 3)), (some (.ref 121)), none, (some (.str (S 154789842426610354947036250589871895399) 194)), none, (some (.ref 0))]⟩
noncomputable def o129_c15 (_ : Params) : Obj := ⟨(.type "super"), none, .fields ⟨[(.ref 128), (.ref 128), (.ref 128)]⟩, #[]⟩
noncomputable def o130_c15 (_ : Params) : Obj := ⟨(.type "builtin_function_or_method"), none, .fields ⟨[(.builtin "object.__init_subclass__"), (.ref 128)]⟩, #[]⟩
noncomputable def o133_c15 (P : Params) : Obj := dO 4 [ent P (S 455125450472104437637216) 349 (.str (S 154789842426610354947036250589871895399) 194), ent P (S 29827101539148240018006499424) 351 (.str (S 33048469456515151) 350), ent P (S 500416517772168279997240570217455712) 353 (.int (23) 352), ent P (S 140854816109632365363434125429399349832812124725344) 354 (.ref 138)]
noncomputable def o136_c15 (_ : Params) : Obj := cO [(.str (S 33048469456515151) 344), (.str (S 33048469456515151) 345), (.str (S 9700865007064396754801562313776) 346), (.int (23) 0), (.int (0) 0), (.int (0) 0), (.int (0) 0), (.int (0) 0), (.ref 134), (.bool false), (.int (181) 0), (.ref 135), .none, .none, .none, .none, (.int (347) 0), (.int (23) 0), (.str (S 9700865007064396754801562313776) 348)]
noncomputable def o137_c15 (_ : Params) : Obj := ⟨(.type "frame"), none, .plain, #[(some (.ref 136)), (some (.ref 3)), (some (.ref 133)), none, (some (.str (S 154789842426610354947036250589871895399) 194)), none, (some (.ref 0))]⟩
noncomputable def o141_c15 (_ : Params) : Obj := ⟨(.type "super"), none, .fields ⟨[(.ref 140), (.ref 140), (.ref 140)]⟩, #[]⟩
noncomputable def o142_c15 (_ : Params) : Obj := ⟨(.type "builtin_function_or_method"), none, .fields ⟨[(.builtin "object.__init_subclass__"), (.ref 140)]⟩, #[]⟩
noncomputable def o145_c15 (P : Params) : Obj := dO 4 [ent P (S 455125450472104437637216) 365 (.str (S 154789842426610354947036250589871895399) 194), ent P (S 29827101539148240018006499424) 367 (.str (S 121429199908943) 366), ent P (S 500416517772168279997240570217455712) 369 (.int (25) 368), ent P (S 140854816109632365363434125429399349832812124725344) 370 (.ref 150)]
noncomputable def o148_c15 (_ : Params) : Obj := cO [(.str (S 121429199908943) 360), (.str (S 121429199908943) 361), (.str (S 9700865007064396754801562313776) 362), (.int (25) 0), (.int (0) 0), (.int (0) 0), (.int (0) 0), (.int (0) 0), (.ref 146), (.bool false), (.int (181) 0), (.ref 147), .none, .none, .none, .none, (.int (363) 0), (.int (25) 0), (.str (S 9700865007064396754801562313776) 364)]
noncomputable def o149_c15 (_ : Params) : Obj := ⟨(.type "frame"), none, .plain, #[(some (.ref 148)), (some (.ref 3)), (some (.ref 145)), none, (some (.str (S 154789842426610354947036250589871895399) 194)), none, (some (.ref 0))]⟩
noncomputable def o153_c15 (_ : Params) : Obj := ⟨(.type "super"), none, .fields ⟨[(.ref 152), (.ref 152), (.ref 152)]⟩, #[]⟩
noncomputable def o154_c15 (_ : Params) : Obj := ⟨(.type "builtin_function_or_method"), none, .fields ⟨[(.builtin "object.__init_subclass__"), (.ref 152)]⟩, #[]⟩
noncomputable def o157_c15 (P : Params) : Obj := dO 4 [ent P (S 455125450472104437637216) 381 (.str (S 154789842426610354947036250589871895399) 194), ent P (S 29827101539148240018006499424) 383 (.str (S 2054452803) 382), ent P (S 500416517772168279997240570217455712) 385 (.int (27) 384), ent P (S 140854816109632365363434125429399349832812124725344) 386 (.ref 162)]
noncomputable def o160_c15 (_ : Params) : Obj := cO [(.str (S 2054452803) 376), (.str (S 2054452803) 377), (.str (S 9700865007064396754801562313776) 378), (.int (27) 0), (.int (0) 0), (.int (0) 0), (.int (0) 0), (.int (0) 0), (.ref 158), (.bool false), (.int (181) 0), (.ref 159), .none, .none, .none, .none, (.int (379) 0), (.int (27) 0), (.str (S 9700865007064396754801562313776) 380)]
noncomputable def o161_c15 (_ : Params) : Obj := ⟨(.type "frame"), none, .plain, #[(some (.ref 160)), (some (.ref 3)), (some (.ref 157)), none, (some (.str (S 154789842426610354947036250589871895399) 194)), none, (some (.ref 0))]⟩
noncomputable def o165_c15 (_ : Params) : Obj := ⟨(.type "super"), none, .fields ⟨[(.ref 164), (.ref 164), (.ref 164)]⟩, #[]⟩
noncomputable def o166_c15 (_ : Params) : Obj := ⟨(.type "builtin_function_or_method"), none, .fields ⟨[(.builtin "object.__init_subclass__"), (.ref 164)]⟩, #[]⟩
noncomputable def o169_c15 (P : Params) : Obj := dO 4 [ent P (S 455125450472104437637216) 397 (.str (S 154789842426610354947036250589871895399) 194), ent P (S 29827101539148240018006499424) 399 (.str (S 517280591951) 398), ent P (S 500416517772168279997240570217455712) 401 (.int (29) 400), ent P (S 140854816109632365363434125429399349832812124725344) 402 (.ref 174)]
noncomputable def o172_c15 (_ : Params) : Obj := cO [(.str (S 517280591951) 392), (.str (S 517280591951) 393), (.str (S 9700865007064396754801562313776) 394), (.int (29) 0), (.int (0) 0), (.int (0) 0), (.int (0) 0), (.int (0) 0), (.ref 170), (.bool false), (.int (181) 0), (.ref 171), .none, .none, .none, .none, (.int (395) 0), (.int (29) 0), (.str (S 9700865007064396754801562313776) 396)]
noncomputable def o173_c15 (_ : Params) : Obj := ⟨(.type "frame"), none, .plain, #[(some (.ref 172)), (some (.ref 3)), (some (.ref 169)), none, (some (.str (S 154789842426610354947036250589871895399) 194)), none, (some (.ref 0))]⟩
noncomputable def o177_c15 (_ : Params) : Obj := ⟨(.type "super"), none, .fields ⟨[(.ref 176), (.ref 176), (.ref 176)]⟩, #[]⟩
noncomputable def o178_c15 (_ : Params) : Obj := ⟨(.type "builtin_function_or_method"), none, .fields ⟨[(.builtin "object.__init_subclass__"), (.ref 176)]⟩, #[]⟩
noncomputable def tc15_64_63 (P : Params) : PySem.W.BT := .node (o12_pa P) (.node (o127 P) (.nil) (.nil)) (.nil)
noncomputable def tc15_64_95 (P : Params) : PySem.W.BT := .node (o35 P) (.node (o12_pa P) (.nil) (.nil)) (.nil)
noncomputable def tc15_64_79 (P : Params) : PySem.W.BT := .node (o79 P) (.node (o35 P) (.nil) (.nil)) (.nil)
noncomputable def tc15_64_111 (P : Params) : PySem.W.BT := .node (o12_pa P) (.node (o175 P) (.nil) (.nil)) (.nil)
noncomputable def tc15_64_71 (P : Params) : PySem.W.BT := .node (o35 P) (.node (o12_pa P) (.nil) (.nil)) (.nil)
noncomputable def tc15_64_103 (P : Params) : PySem.W.BT := .node (o103 P) (.node (o35 P) (.nil) (.nil)) (.nil)
noncomputable def tc15_64_87 (P : Params) : PySem.W.BT := .node (o12_pa P) (.node (o151 P) (.nil) (.nil)) (.nil)
noncomputable def tc15_64_119 (P : Params) : PySem.W.BT := .node (o35 P) (.nil) (.nil)
noncomputable def tc15_8_7 (P : Params) : PySem.W.BT := .node (PySem.W.boot_o_7 P) (.node (o15 P) (.node (o31 P) (tc15_64_63 P) (tc15_64_95 P)) (.node (o35 P) (tc15_64_79 P) (tc15_64_111 P))) (.node (o23_c15 P) (.node (o12_pa P) (tc15_64_71 P) (tc15_64_103 P)) (.node (o55 P) (tc15_64_87 P) (tc15_64_119 P)))
noncomputable def tc15_64_67 (P : Params) : PySem.W.BT := .node (o67 P) (.node (o35 P) (.nil) (.nil)) (.nil)
noncomputable def tc15_64_99 (P : Params) : PySem.W.BT := .node (o12_pa P) (.node (o163 P) (.nil) (.nil)) (.nil)
noncomputable def tc15_64_83 (P : Params) : PySem.W.BT := .node (o35 P) (.node (o12_pa P) (.nil) (.nil)) (.nil)
noncomputable def tc15_64_115 (P : Params) : PySem.W.BT := .node (o115 P) (.nil) (.nil)
noncomputable def tc15_64_75 (P : Params) : PySem.W.BT := .node (o12_pa P) (.node (o139 P) (.nil) (.nil)) (.nil)
noncomputable def tc15_64_107 (P : Params) : PySem.W.BT := .node (o35 P) (.node (o12_pa P) (.nil) (.nil)) (.nil)
noncomputable def tc15_64_91 (P : Params) : PySem.W.BT := .node (o91 P) (.node (o35 P) (.nil) (.nil)) (.nil)
noncomputable def tc15_64_123 (P : Params) : PySem.W.BT := .node (o12_pa P) (.nil) (.nil)
noncomputable def tc15_8_11 (P : Params) : PySem.W.BT := .node (o15 P) (.node (o19_c15 P) (.node (o35 P) (tc15_64_67 P) (tc15_64_99 P)) (.node (o12_pa P) (tc15_64_83 P) (tc15_64_115 P))) (.node (o27_c15 P) (.node (o43 P) (tc15_64_75 P) (tc15_64_107 P)) (.node (o35 P) (tc15_64_91 P) (tc15_64_123 P)))
noncomputable def tc15_64_65 (P : Params) : PySem.W.BT := .node (o65_c15 P) (.node (o129_c15 P) (.nil) (.nil)) (.nil)
noncomputable def tc15_64_97 (P : Params) : PySem.W.BT := .node (o97_c15 P) (.node (o161_c15 P) (.nil) (.nil)) (.nil)
noncomputable def tc15_64_81 (P : Params) : PySem.W.BT := .node (o81_c15 P) (.node (o145_c15 P) (.nil) (.nil)) (.nil)
noncomputable def tc15_64_113 (P : Params) : PySem.W.BT := .node (o113_c15 P) (.node (o177_c15 P) (.nil) (.nil)) (.nil)
noncomputable def tc15_64_73 (P : Params) : PySem.W.BT := .node (o73_c15 P) (.node (o137_c15 P) (.nil) (.nil)) (.nil)
noncomputable def tc15_64_105 (P : Params) : PySem.W.BT := .node (o105_c15 P) (.node (o169_c15 P) (.nil) (.nil)) (.nil)
noncomputable def tc15_64_89 (P : Params) : PySem.W.BT := .node (o89_c15 P) (.node (o153_c15 P) (.nil) (.nil)) (.nil)
noncomputable def tc15_64_121 (P : Params) : PySem.W.BT := .node (o121_c15 P) (.nil) (.nil)
noncomputable def tc15_8_9 (P : Params) : PySem.W.BT := .node (PySem.W.boot_o_9 P) (.node (o17 P) (.node (o33_c15 P) (tc15_64_65 P) (tc15_64_97 P)) (.node (o49_c15 P) (tc15_64_81 P) (tc15_64_113 P))) (.node (o15 P) (.node (o41_c15 P) (tc15_64_73 P) (tc15_64_105 P)) (.node (o57_c15 P) (tc15_64_89 P) (tc15_64_121 P)))
noncomputable def tc15_64_69 (P : Params) : PySem.W.BT := .node (o69_c15 P) (.node (o133_c15 P) (.nil) (.nil)) (.nil)
noncomputable def tc15_64_101 (P : Params) : PySem.W.BT := .node (o101_c15 P) (.node (o165_c15 P) (.nil) (.nil)) (.nil)
noncomputable def tc15_64_85 (P : Params) : PySem.W.BT := .node (o85_c15 P) (.node (o149_c15 P) (.nil) (.nil)) (.nil)
noncomputable def tc15_64_117 (P : Params) : PySem.W.BT := .node (o117_c15 P) (.nil) (.nil)
noncomputable def tc15_64_77 (P : Params) : PySem.W.BT := .node (o77_c15 P) (.node (o141_c15 P) (.nil) (.nil)) (.nil)
noncomputable def tc15_64_109 (P : Params) : PySem.W.BT := .node (o109_c15 P) (.node (o173_c15 P) (.nil) (.nil)) (.nil)
noncomputable def tc15_64_93 (P : Params) : PySem.W.BT := .node (o93_c15 P) (.node (o157_c15 P) (.nil) (.nil)) (.nil)
noncomputable def tc15_64_125 (P : Params) : PySem.W.BT := .node (o125_c15 P) (.nil) (.nil)
noncomputable def tc15_8_13 (P : Params) : PySem.W.BT := .node (o13_pa P) (.node (o21 P) (.node (o37_c15 P) (tc15_64_69 P) (tc15_64_101 P)) (.node (o53_c15 P) (tc15_64_85 P) (tc15_64_117 P))) (.node (o29 P) (.node (o45_c15 P) (tc15_64_77 P) (tc15_64_109 P)) (.node (o61_c15 P) (tc15_64_93 P) (tc15_64_125 P)))
noncomputable def tc15_64_64 (P : Params) : PySem.W.BT := .node (o64_c15 P) (.node (o128 P) (.nil) (.nil)) (.nil)
noncomputable def tc15_64_96 (P : Params) : PySem.W.BT := .node (o23_c15 P) (.node (o160_c15 P) (.nil) (.nil)) (.nil)
noncomputable def tc15_64_80 (P : Params) : PySem.W.BT := .node (o80 P) (.node (o23_c15 P) (.nil) (.nil)) (.nil)
noncomputable def tc15_64_112 (P : Params) : PySem.W.BT := .node (o112_c15 P) (.node (o176 P) (.nil) (.nil)) (.nil)
noncomputable def tc15_64_72 (P : Params) : PySem.W.BT := .node (o23_c15 P) (.node (o136_c15 P) (.nil) (.nil)) (.nil)
noncomputable def tc15_64_104 (P : Params) : PySem.W.BT := .node (o104 P) (.node (o23_c15 P) (.nil) (.nil)) (.nil)
noncomputable def tc15_64_88 (P : Params) : PySem.W.BT := .node (o88_c15 P) (.node (o152 P) (.nil) (.nil)) (.nil)
noncomputable def tc15_64_120 (P : Params) : PySem.W.BT := .node (o23_c15 P) (.nil) (.nil)
noncomputable def tc15_8_8 (P : Params) : PySem.W.BT := .node (PySem.W.boot_o_8 P) (.node (o12_pa P) (.node (o32 P) (tc15_64_64 P) (tc15_64_96 P)) (.node (o23_c15 P) (tc15_64_80 P) (tc15_64_112 P))) (.node (o24_c15 P) (.node (o40_c15 P) (tc15_64_72 P) (tc15_64_104 P)) (.node (o56 P) (tc15_64_88 P) (tc15_64_120 P)))
noncomputable def tc15_64_68 (P : Params) : PySem.W.BT := .node (o68 P) (.node (o23_c15 P) (.nil) (.nil)) (.nil)
noncomputable def tc15_64_100 (P : Params) : PySem.W.BT := .node (o100_c15 P) (.node (o164 P) (.nil) (.nil)) (.nil)
noncomputable def tc15_64_84 (P : Params) : PySem.W.BT := .node (o23_c15 P) (.node (o148_c15 P) (.nil) (.nil)) (.nil)
noncomputable def tc15_64_116 (P : Params) : PySem.W.BT := .node (o116 P) (.nil) (.nil)
noncomputable def tc15_64_76 (P : Params) : PySem.W.BT := .node (o76_c15 P) (.node (o140 P) (.nil) (.nil)) (.nil)
noncomputable def tc15_64_108 (P : Params) : PySem.W.BT := .node (o23_c15 P) (.node (o172_c15 P) (.nil) (.nil)) (.nil)
noncomputable def tc15_64_92 (P : Params) : PySem.W.BT := .node (o92 P) (.node (o23_c15 P) (.nil) (.nil)) (.nil)
noncomputable def tc15_64_124 (P : Params) : PySem.W.BT := .node (o124_c15 P) (.nil) (.nil)
noncomputable def tc15_8_12 (P : Params) : PySem.W.BT := .node (o12_c15 P) (.node (o20 P) (.node (o23_c15 P) (tc15_64_68 P) (tc15_64_100 P)) (.node (o52_c15 P) (tc15_64_84 P) (tc15_64_116 P))) (.node (o28_c15 P) (.node (o44 P) (tc15_64_76 P) (tc15_64_108 P)) (.node (o23_c15 P) (tc15_64_92 P) (tc15_64_124 P)))
noncomputable def tc15_64_66 (P : Params) : PySem.W.BT := .node (o29 P) (.node (o130_c15 P) (.nil) (.nil)) (.nil)
noncomputable def tc15_64_98 (P : Params) : PySem.W.BT := .node (o15 P) (.node (o29 P) (.nil) (.nil)) (.nil)
noncomputable def tc15_64_82 (P : Params) : PySem.W.BT := .node (o82_c15 P) (.node (o15 P) (.nil) (.nil)) (.nil)
noncomputable def tc15_64_114 (P : Params) : PySem.W.BT := .node (o29 P) (.node (o178_c15 P) (.nil) (.nil)) (.nil)
noncomputable def tc15_64_74 (P : Params) : PySem.W.BT := .node (o15 P) (.node (o29 P) (.nil) (.nil)) (.nil)
noncomputable def tc15_64_106 (P : Params) : PySem.W.BT := .node (o106_c15 P) (.node (o15 P) (.nil) (.nil)) (.nil)
noncomputable def tc15_64_90 (P : Params) : PySem.W.BT := .node (o29 P) (.node (o154_c15 P) (.nil) (.nil)) (.nil)
noncomputable def tc15_64_122 (P : Params) : PySem.W.BT := .node (o15 P) (.nil) (.nil)
noncomputable def tc15_8_10 (P : Params) : PySem.W.BT := .node (PySem.W.boot_o_10 P) (.node (o15 P) (.node (o34_c15 P) (tc15_64_66 P) (tc15_64_98 P)) (.node (o15 P) (tc15_64_82 P) (tc15_64_114 P))) (.node (o12_pa P) (.node (o29 P) (tc15_64_74 P) (tc15_64_106 P)) (.node (o58_c15 P) (tc15_64_90 P) (tc15_64_122 P)))
noncomputable def tc15_64_70 (P : Params) : PySem.W.BT := .node (o70_c15 P) (.node (o15 P) (.nil) (.nil)) (.nil)
noncomputable def tc15_64_102 (P : Params) : PySem.W.BT := .node (o29 P) (.node (o166_c15 P) (.nil) (.nil)) (.nil)
noncomputable def tc15_64_86 (P : Params) : PySem.W.BT := .node (o15 P) (.node (o29 P) (.nil) (.nil)) (.nil)
noncomputable def tc15_64_118 (P : Params) : PySem.W.BT := .node (o118_c15 P) (.nil) (.nil)
noncomputable def tc15_64_78 (P : Params) : PySem.W.BT := .node (o29 P) (.node (o142_c15 P) (.nil) (.nil)) (.nil)
noncomputable def tc15_64_110 (P : Params) : PySem.W.BT := .node (o15 P) (.node (o29 P) (.nil) (.nil)) (.nil)
noncomputable def tc15_64_94 (P : Params) : PySem.W.BT := .node (o94_c15 P) (.node (o15 P) (.nil) (.nil)) (.nil)
noncomputable def tc15_64_126 (P : Params) : PySem.W.BT := .node (o29 P) (.nil) (.nil)
noncomputable def tc15_8_14 (P : Params) : PySem.W.BT := .node (o14_pa P) (.node (o22 P) (.node (o15 P) (tc15_64_70 P) (tc15_64_102 P)) (.node (o29 P) (tc15_64_86 P) (tc15_64_118 P))) (.node (o30 P) (.node (o46_c15 P) (tc15_64_78 P) (tc15_64_110 P)) (.node (o15 P) (tc15_64_94 P) (tc15_64_126 P)))
noncomputable def tc15_1_0 (P : Params) : PySem.W.BT := .node (PySem.W.boot_o_0 P) (.node (PySem.W.boot_o_1 P) (.node (o3_c15 P) (tc15_8_7 P) (tc15_8_11 P)) (.node (PySem.W.boot_o_5 P) (tc15_8_9 P) (tc15_8_13 P))) (.node (PySem.W.boot_o_2 P) (.node (PySem.W.boot_o_4 P) (tc15_8_8 P) (tc15_8_12 P)) (.node (PySem.W.boot_o_6 P) (tc15_8_10 P) (tc15_8_14 P)))
noncomputable def sc15 (w : World) (os : OsState) : PySem.W.SharedT := ⟨tc15_1_0 w.params, 179, (PySem.W.boot_heap w.params).life, #[], PySem.W.boot_drawn, 406, os⟩
noncomputable def bs : List Stmt := PySem.W.behindTheImports PySem.Challenge.pw_frameland_k67_full_refused
noncomputable def env : Env := { scope := PySem.Challenge.pw_frameland_k67_full_refused.main.scope, locals := mainNs, globals := mainNs, cells := [], code := (.ref 13), frame := some 14 }
noncomputable def L0 (w : World) (os : OsState) := goT treeTable PySem.Challenge.pw_frameland_k67_full_refused w (PySem.W.boot_heap w.params).objs.size (ann0 w) 12 (bootS w os) (PySem.W.topStub PySem.Challenge.pw_frameland_k67_full_refused)
noncomputable def R0 (w : World) (os : OsState) := some (spa w os, (⟨denote treeTable (Code.body bs env), (Code.body bs env), ⟨0, 0, 0, 0⟩, [PySem.W.topFrame ⟨0, 0, 0, 0⟩]⟩ : Thread))
noncomputable def L1 (w : World) (os : OsState) := PySem.W.segRunT treeTable PySem.Challenge.pw_frameland_k67_full_refused w (PySem.W.boot_heap w.params).objs.size (ann0 w) 1 1 (spa w os) (PySem.W.blockOf bs env (Code.body bs env) ⟨0, 0, 0, 0⟩ [PySem.W.topFrame ⟨0, 0, 0, 0⟩])
noncomputable def R1 (w : World) (os : OsState) := some (Flow.next, spb w os, (Code.body bs env), (⟨0, 0, 0, 0⟩ : Pos))
noncomputable def L2 (w : World) (os : OsState) := PySem.W.segRunT treeTable PySem.Challenge.pw_frameland_k67_full_refused w (PySem.W.boot_heap w.params).objs.size (ann0 w) 1 2781 (spb w os) (PySem.W.piecesOf ((bs).take 15) env (Code.body bs env) ⟨0, 0, 0, 0⟩ [PySem.W.topFrame ⟨0, 0, 0, 0⟩])
noncomputable def R2 (w : World) (os : OsState) := some (Flow.next, sc15 w os, (Code.body bs env), (⟨29, 0, 30, 8⟩ : Pos))
noncomputable def lhs (w : World) (os : OsState) := (runT treeTable PySem.Challenge.pw_frameland_k67_full_refused w (PySem.W.boot_heap w.params).objs.size (ann0 w) 4866 (sc15 w os) (PySem.W.restOf ((bs).drop 15) env (Code.body bs env) ⟨29, 0, 30, 8⟩ [PySem.W.topFrame ⟨0, 0, 0, 0⟩])).map (fun s => look PySem.Challenge.pw_frameland_k67_full_refused (fun s => adr.map s.heap.get?) (PySem.W.boot_heap w.params) s.abs)
noncomputable def rhs (w : World) := some (true, Kc w.params)
noncomputable def lht (w : World) (os : OsState) := (runT treeTable PySem.Challenge.pw_frameland_k67_full_refused w (PySem.W.boot_heap w.params).objs.size (ann0 w) 4866 (sc15 w os) (PySem.W.restOf ((bs).drop 15) env (Code.body bs env) ⟨29, 0, 30, 8⟩ [PySem.W.topFrame ⟨0, 0, 0, 0⟩])).map (fun s => PySem.W.openSeen vw [] (PySem.importedModules PySem.Challenge.pw_frameland_k67_full_refused.main.body) (fun s => PySem.W.xlAt vw [] s && PySem.W.recOk (PySem.W.RowW.records (PySem.Challenge.rw_frameland_k67_full_refused).row.toRowW) s) true s.abs)
noncomputable def rht := some (PySem.W.openGood vw [])
theorem twins0 : (fun (_ _ : World → OsState → _) => true) L0 R0 = true := by k_qdec
theorem run0 : ∀ (w : World) (os : OsState), PySem.W.Fast.tw6480634986709459259 w os = PySem.W.Fast.tw3368112316094526086 w os := by intro w os; kernel_rfl
theorem h0 (w : World) (os : OsState) : goT treeTable PySem.Challenge.pw_frameland_k67_full_refused w (PySem.W.boot_heap w.params).objs.size (ann0 w) 12 (bootS w os) (PySem.W.topStub PySem.Challenge.pw_frameland_k67_full_refused) = some (spa w os, (⟨denote treeTable (Code.body bs env), (Code.body bs env), ⟨0, 0, 0, 0⟩, [PySem.W.topFrame ⟨0, 0, 0, 0⟩]⟩ : Thread)) := (congrFun (congrFun PySem.W.Fast.te6480634986709459259 w) os).trans ((run0 w os).trans (congrFun (congrFun PySem.W.Fast.te3368112316094526086 w) os).symm)
theorem twins1 : (fun (_ _ : World → OsState → _) => true) L1 R1 = true := by k_qdec
theorem run1 : ∀ (w : World) (os : OsState), PySem.W.Fast.tw6549898218072122711 w os = PySem.W.Fast.tw8138977323033037049 w os := by intro w os; kernel_rfl
theorem h1 (w : World) (os : OsState) : PySem.W.segRunT treeTable PySem.Challenge.pw_frameland_k67_full_refused w (PySem.W.boot_heap w.params).objs.size (ann0 w) 1 1 (spa w os) (PySem.W.blockOf bs env (Code.body bs env) ⟨0, 0, 0, 0⟩ [PySem.W.topFrame ⟨0, 0, 0, 0⟩]) = some (Flow.next, spb w os, (Code.body bs env), (⟨0, 0, 0, 0⟩ : Pos)) := (congrFun (congrFun PySem.W.Fast.te6549898218072122711 w) os).trans ((run1 w os).trans (congrFun (congrFun PySem.W.Fast.te8138977323033037049 w) os).symm)
theorem twins2 : (fun (_ _ : World → OsState → _) => true) L2 R2 = true := by k_qdec
theorem run2 : ∀ (w : World) (os : OsState), PySem.W.Fast.tw5255168214638199525 w os = PySem.W.Fast.tw18023110596874490952 w os := by intro w os; kernel_rfl
theorem h2 (w : World) (os : OsState) : PySem.W.segRunT treeTable PySem.Challenge.pw_frameland_k67_full_refused w (PySem.W.boot_heap w.params).objs.size (ann0 w) 1 2781 (spb w os) (PySem.W.piecesOf ((bs).take 15) env (Code.body bs env) ⟨0, 0, 0, 0⟩ [PySem.W.topFrame ⟨0, 0, 0, 0⟩]) = some (Flow.next, sc15 w os, (Code.body bs env), (⟨29, 0, 30, 8⟩ : Pos)) := (congrFun (congrFun PySem.W.Fast.te5255168214638199525 w) os).trans ((run2 w os).trans (congrFun (congrFun PySem.W.Fast.te18023110596874490952 w) os).symm)
theorem twins : (fun (_ : World → OsState → _) (_ : World → _) (_ : World → OsState → _) (_ : Option _) => true) lhs rhs lht rht = true := by k_qdec
theorem run_one : ∀ (w : World) (os : OsState), PySem.W.Fast.tw7128866508377749982 w os = PySem.W.Fast.tw12590348191598281069 w := by intro w os; kernel_rfl
theorem run_two : ∀ (w : World) (os : OsState), PySem.W.Fast.tw7374437481920917934 w os = PySem.W.Fast.tw10733892774512676622 := by intro w os; kernel_rfl
theorem left : PySem.W.LeftO PySem.Challenge.pw_frameland_k67_full_refused vw [] (fun s => PySem.W.xlAt vw [] s && PySem.W.recOk (PySem.W.RowW.records (PySem.Challenge.rw_frameland_k67_full_refused).row.toRowW) s) (fun s => adr.map s.heap.get?) (fun w => (Kf w.params).map fun p => some p.2) (12 + (1 + (2781 + (4866)))) := by
  refine left_lead (Nl := 4866) (S := sc15) (t := (PySem.W.restOf ((bs).drop 15) env (Code.body bs env) ⟨29, 0, 30, 8⟩ [PySem.W.topFrame ⟨0, 0, 0, 0⟩])) (by kernel_rfl) (by kernel_rfl) (by intro s; kernel_rfl) (fun w os r k => PySem.W.go_top (n := 12) (N := 1 + (2781 + (4866))) (goT_of (h0 w os)) (PySem.W.piece_block (n := 1) (N := 2781 + (4866)) (PySem.W.segRun_of (h1 w os)) (seg_on (n := 2781) (N := 4866) (h2 w os) k))) (fun w os => ?_) fun w os => ?_
  · rw [← kc_eq]; exact (congrFun (congrFun PySem.W.Fast.te7128866508377749982 w) os).trans ((run_one w os).trans (congrFun PySem.W.Fast.te12590348191598281069 w).symm)
  · exact (congrFun (congrFun PySem.W.Fast.te7374437481920917934 w) os).trans ((run_two w os).trans PySem.W.Fast.te10733892774512676622.symm)
end

end Pf
open PySem PySem.W PyProof.Rows
set_option maxRecDepth 100000 in
set_option maxHeartbeats 0 in
theorem PySem.Challenge.cw_frameland_k67_full_refused_holds : PySem.Challenge.rw_frameland_k67_full_refused.Holds := by
  w_on; o_law
  refine holds_open (q := Pf.vw) (loose := []) (Xt := fun s => xlAt Pf.vw [] s && recOk (RowW.records (PySem.Challenge.rw_frameland_k67_full_refused).row.toRowW) s) (XP := XL Pf.vw []) (Yf := Hook.obs (kHook Pf.Kf Pf.adr Pf.adr_eq)) (Ya := Hook.val (kHook Pf.Kf Pf.adr Pf.adr_eq)) (YP := Hook.says (kHook Pf.Kf Pf.adr Pf.adr_eq)) (N := (12 + (1 + (2781 + (4866))))) Pf.left (Hook.of (kHook Pf.Kf Pf.adr Pf.adr_eq)) (Hook.keeps (kHook Pf.Kf Pf.adr Pf.adr_eq)) (fun s e => xl_of s (Bool.and_eq_true_iff.mp e).1) XL.keeps (by rfl) (by rfl) (by rfl) (fun s e => recFacts_of (Bool.and_eq_true_iff.mp e).2) (by rfl) (by first | assumption | decide +kernel) (by decide +kernel) ⟨rfl, rfl, rfl, rfl, rfl, by decide +kernel⟩ ?hw ?hc
  case hw => w_witness2
  k_fill
  refine Pf.walk (l := PySem.Challenge.rw_frameland_k67_full_refused) rfl rfl rfl (fun w h Y => PySem.W.kIn_of Y) ?F
  case F =>
    intro w mg h KX G
    refine' Pf.txt_mk KX G ?g0 ?g1 ?g2 ?g3 ?g4 ?g5 ?g6 ?g7 ?g8 ?g9 ?g10 ?g11 ?g12 ?g13 ?g14 ?g15 ?g16 ?g17 ?g18 ?g19 ?g20 ?g21 ?g22 ?g23 ?g24 ?g25 ?g26 ?g27 ?g28 ?g29 ?g30 ?g31 ?g32 ?g33 ?g34 ?g35 ?g36 ?g37 ?g38 ?g39 ?g40 ?g41 ?g42 ?g43 ?g44 ?g45 ?g46 ?g47 ?g48 ?g49 ?g50 ?g51 ?g52 ?g53 ?g54 ?g55 ?g56 ?g57 ?g58 ?g59 ?g60 ?g61 ?g62 ?g63 ?g64 ?g65 ?g66 ?g67 ?g68 ?g69 ?g70 ?g71 ?g72 ?g73 ?g74 ?g75 ?g76 ?g77 ?g78 ?g79 ?g80 ?g81 ?g82 ?g83 ?g84 ?g85 ?g86 ?g87 ?g88 ?g89 ?g90 ?g91 ?g92 ?g93 ?g94 ?g95 ?g96 ?g97 ?g98 ?g99 ?g100 ?g101 ?g102 ?g103 ?g104 ?g105 ?g106 ?g107 ?g108 ?g109 ?g110 ?g111 ?g112 ?g113 ?g114 ?g115 ?g116 ?g117 ?g118 ?g119 ?g120 ?g121 ?g122 ?g123 ?g124 ?g125 ?g126 ?g127 ?g128 ?g129 ?g130 ?g131 ?g132 ?g133 ?g134 ?g135 ?g136 ?g137 ?g138 ?g139 ?g140 ?g141 ?g142 ?g143 ?g144 ?g145 ?g146 ?g147 ?g148 ?g149 ?g150 ?g151 ?g152 ?g153 ?g154 ?g155 ?g156 ?g157 ?g158 ?g159 ?g160 ?g161 ?g162 ?g163 ?g164 ?g165 ?g166 ?g167 ?g168 ?g169 ?g170 ?g171 ?g172 ?g173 ?g174 ?g175 ?g176 ?g177 ?g178 ?g179 ?g180 ?g181 ?g182 ?g183 ?g184 ?g185 ?g186 ?g187 ?g188 ?g189 ?g190 ?g191 ?g192 ?g193 ?g194 ?g195 ?g196 ?g197 ?g198 ?g199 ?g200 ?g201 ?g202 ?g203 ?g204 ?g205 ?g206 ?g207 ?g208 ?g209 ?g210 ?g211 ?g212 ?g213 ?g214 ?g215 ?g216 ?g217 ?g218 ?g219 ?g220 ?g221 ?g222 ?g223 ?g224 ?g225 ?g226 ?g227 ?g228 ?g229 ?g230 ?g231 ?g232 ?g233 ?g234 ?g235 ?g236 ?g237 ?g238 ?g239 ?g240 ?g241 ?g242 ?g243 ?g244 ?g245 ?g246 ?g247
    (case g0 => k_is); (case g1 => k_is); (case g2 => k_is); (case g3 => k_is); (case g4 => k_is); (case g5 => k_is)
    (case g6 => k_is); (case g7 => k_is); (case g8 => k_is); (case g9 => k_is); (case g10 => k_is); (case g11 => k_is)
    (case g12 => k_is); (case g13 => k_is); (case g14 => k_is); (case g15 => k_is); (case g16 => k_is); (case g17 => k_is)
    (case g18 => k_is); (case g19 => k_is); (case g20 => k_is); (case g21 => k_is); (case g22 => k_is); (case g23 => k_is)
    (case g24 => k_is); (case g25 => k_is); (case g26 => k_is); (case g27 => k_is); (case g28 => k_is); (case g29 => k_is)
    (case g30 => k_is); (case g31 => k_is); (case g32 => k_is); (case g33 => k_is); (case g34 => k_is); (case g35 => k_is)
    (case g36 => k_is); (case g37 => k_is); (case g38 => k_is); (case g39 => k_is); (case g40 => k_is); (case g41 => k_is)
    (case g42 => k_is); (case g43 => k_is); (case g44 => k_is); (case g45 => k_is); (case g46 => k_is); (case g47 => k_is)
    (case g48 => k_is); (case g49 => k_is); (case g50 => k_is); (case g51 => k_is); (case g52 => k_is); (case g53 => k_is)
    (case g54 => k_is); (case g55 => k_is); (case g56 => k_is); (case g57 => k_is); (case g58 => k_is); (case g59 => k_is)
    (case g60 => k_is); (case g61 => k_is); (case g62 => k_is); (case g63 => k_is); (case g64 => k_is); (case g65 => k_is)
    (case g66 => k_is); (case g67 => k_is); (case g68 => k_is); (case g69 => k_is); (case g70 => k_is); (case g71 => k_is)
    (case g72 => k_is); (case g73 => k_is); (case g74 => k_is); (case g75 => k_is); (case g76 => k_is); (case g77 => k_is)
    (case g78 => k_is); (case g79 => k_is); (case g80 => k_is); (case g81 => k_is); (case g82 => k_is); (case g83 => k_is)
    (case g84 => k_is); (case g85 => k_is); (case g86 => k_is); (case g87 => k_is); (case g88 => k_is); (case g89 => k_is)
    (case g90 => k_is); (case g91 => k_is); (case g92 => k_is); (case g93 => k_is); (case g94 => k_is); (case g95 => k_is)
    (case g96 => k_is); (case g97 => k_is); (case g98 => k_is); (case g99 => k_is); (case g100 => k_is); (case g101 => k_is)
    (case g102 => k_is); (case g103 => k_is); (case g104 => k_is); (case g105 => k_is); (case g106 => k_is); (case g107 => k_is)
    (case g108 => k_is); (case g109 => k_is); (case g110 => k_is); (case g111 => k_is); (case g112 => k_is); (case g113 => k_is)
    (case g114 => k_is); (case g115 => k_is); (case g116 => k_is); (case g117 => k_is); (case g118 => k_is); (case g119 => k_is)
    (case g120 => k_is); (case g121 => k_is); (case g122 => k_is); (case g123 => k_is); (case g124 => k_is); (case g125 => k_is)
    (case g126 => k_is); (case g127 => k_is); (case g128 => k_is); (case g129 => k_is); (case g130 => k_is); (case g131 => k_is)
    (case g132 => k_is); (case g133 => k_is); (case g134 => k_is); (case g135 => k_is); (case g136 => k_is); (case g137 => k_is)
    (case g138 => k_is); (case g139 => k_is); (case g140 => k_is); (case g141 => k_is); (case g142 => k_is); (case g143 => k_is)
    (case g144 => k_is); (case g145 => k_is); (case g146 => k_is); (case g147 => k_is); (case g148 => k_is); (case g149 => k_is)
    (case g150 => k_is); (case g151 => k_is); (case g152 => k_is); (case g153 => k_is); (case g154 => k_is); (case g155 => k_is)
    (case g156 => k_is); (case g157 => k_is); (case g158 => k_is); (case g159 => k_is); (case g160 => k_is); (case g161 => k_is)
    (case g162 => k_is); (case g163 => k_is); (case g164 => k_is); (case g165 => k_is); (case g166 => k_is); (case g167 => k_is)
    (case g168 => k_is); (case g169 => k_is); (case g170 => k_is); (case g171 => k_is); (case g172 => k_is); (case g173 => k_is)
    (case g174 => k_is); (case g175 => k_is); (case g176 => k_is); (case g177 => k_is); (case g178 => k_is); (case g179 => k_is)
    (case g180 => k_is); (case g181 => k_is); (case g182 => k_is); (case g183 => k_is); (case g184 => k_is); (case g185 => k_is)
    (case g186 => k_is); (case g187 => k_is); (case g188 => k_is); (case g189 => k_is); (case g190 => k_is); (case g191 => k_is)
    (case g192 => k_is); (case g193 => k_is); (case g194 => k_is); (case g195 => k_is); (case g196 => k_is); (case g197 => k_is)
    (case g198 => k_is); (case g199 => k_is); (case g200 => k_is); (case g201 => k_is); (case g202 => k_is); (case g203 => k_is)
    (case g204 => k_is); (case g205 => k_is); (case g206 => k_is); (case g207 => k_is); (case g208 => k_is); (case g209 => k_is)
    (case g210 => k_is); (case g211 => k_is); (case g212 => k_is); (case g213 => k_is); (case g214 => k_is); (case g215 => k_is)
    (case g216 => k_is); (case g217 => k_is); (case g218 => k_is); (case g219 => k_is); (case g220 => k_exc); (case g221 => k_is)
    (case g222 => k_is); (case g223 => k_is); (case g224 => k_is); (case g225 => k_is); (case g226 => k_is); (case g227 => k_is)
    (case g228 => k_is); (case g229 => k_is); (case g230 => k_is); (case g231 => kit_is); (case g232 => kit_is); (case g233 => kit_is)
    (case g234 => kit_is); (case g235 => kit_is); (case g236 => kit_is); (case g237 => kit_is); (case g238 => kit_is); (case g239 => kit_is)
    (case g240 => kit_is); (case g241 => kit_is); (case g242 => kit_is); (case g243 => kit_is); (case g244 => k_is); (case g245 => k_is)
    (case g246 => k_is); (case g247 => k_is)
