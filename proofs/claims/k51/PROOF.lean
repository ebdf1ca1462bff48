import PyProof.Rows.All
import Wide.All
import OpenK.AllK
import Wide.FinOn
import Lean
import PyProof.EqAt
import PyProof.EqKinds
import PyProof.TupleCall
import PyProof.NeKinds
import PyProof.EnumMake
import PyProof.EnumStmt
import PyProof.LayNew
import KE.KDictLaws
import KE.KDictSum
import KE.LcSums
import PyProof.Rows.SumAny
import PyProof.Rows.SortWalk
import PyProof.DictWalks
import PyProof.Rows.SortRev
import KE.KRevIter
import KE.KIntText
import PyProof.CallStr
import PyProof.StrCalls2
import PyProof.Rows.StrJoin2
import PyProof.StrWalks
import PyProof.Rows.Range3
import PySem.Challenge.RW_frameland_k51_own_boxes
set_option Elab.async false
set_option linter.all false
set_option maxRecDepth 100000
namespace L2
open PySem PySem.Spec PyProof.Rows
abbrev Key := Sum Int Str
def keyIs : Key → Value → Bool
  | .inl k, v => Value.isInt k v
  | .inr x, v => Value.isStrOf x v
def keyH (w : World) : Key → Int
  | .inl k => hashInt k
  | .inr x => hashStr w x
theorem keyIs_shape : ∀ {k : Key} {v : Value}, keyIs k v = true → (∃ i t, k = Sum.inl i ∧ v = Value.int i t) ∨ (∃ x t, k = Sum.inr x ∧ v = Value.str x t)
  | .inl i, v, h => by
    obtain ⟨t, e⟩ := Value.isInt_shape (k := i) (v := v) h
    exact .inl ⟨i, t, rfl, e⟩
  | .inr x, v, h => by
    obtain ⟨t, e⟩ := Value.isStrOf_shape (x := x) (v := v) h
    exact .inr ⟨x, t, rfl, e⟩
theorem keyIs_int (i : Int) (t : Tok) : keyIs (.inl i) (.int i t) = true := by simp [keyIs, Value.isInt]
theorem keyIs_str (x : Str) (t : Tok) : keyIs (.inr x) (.str x t) = true := by simp [keyIs, Value.isStrOf]
theorem key_ll (a b : Int) : decide ((Sum.inl a : Key) = Sum.inl b) = (a == b) := by
  by_cases e : a = b
  · subst e; simp
  · have h : ¬ (Sum.inl a : Key) = Sum.inl b := fun q => e (Sum.inl.inj q)
    rw [decide_eq_false h]
    exact (beq_eq_false_iff_ne.mpr e).symm
theorem key_rr (a b : Str) : decide ((Sum.inr a : Key) = Sum.inr b) = decide (a = b) := by
  by_cases e : a = b
  · subst e; simp
  · have h : ¬ (Sum.inr a : Key) = Sum.inr b := fun q => e (Sum.inr.inj q)
    rw [decide_eq_false h, decide_eq_false e]
theorem key_lr (a : Int) (b : Str) : decide ((Sum.inl a : Key) = Sum.inr b) = false := decide_eq_false (fun q => nomatch q)
theorem key_rl (a : Str) (b : Int) : decide ((Sum.inr a : Key) = Sum.inl b) = false := decide_eq_false (fun q => nomatch q)
def mixKind (prog : Program) (w : World) : PySem.KeyKind prog w Key where
  is := keyIs
  hash := keyH w
  inj := fun v a b ha hb => by
    rcases keyIs_shape ha with ⟨i, t, rfl, rfl⟩ | ⟨x, t, rfl, rfl⟩
    · rcases keyIs_shape hb with ⟨j, u, rfl, e⟩ | ⟨y, u, rfl, e⟩
      · injection e with e1 _; rw [e1]
      · exact nomatch e
    · rcases keyIs_shape hb with ⟨j, u, rfl, e⟩ | ⟨y, u, rfl, e⟩
      · exact nomatch e
      · injection e with e1 _; rw [e1]
  byValue := fun k v h => by
    rcases keyIs_shape h with ⟨i, t, rfl, rfl⟩ | ⟨x, t, rfl, rfl⟩ <;> rfl
  pyHash := fun hv h => by
    rcases keyIs_shape hv with ⟨i, t, rfl, rfl⟩ | ⟨x, t, rfl, rfl⟩
    · exact wpAny_pyHash_int h
    · exact wpAny_pyHash_str h
  eqBool := fun hu hv h => by
    rcases keyIs_shape hu with ⟨i, t, rfl, rfl⟩ | ⟨x, t, rfl, rfl⟩
    · rcases keyIs_shape hv with ⟨j, u, rfl, rfl⟩ | ⟨y, u, rfl, rfl⟩
      · rw [key_ll] at h; exact wpAny_eqBool_int h
      · rw [key_lr] at h; exact SeqAt.EqAt.int_str i t y u _ _ _ _ h
    · rcases keyIs_shape hv with ⟨j, u, rfl, rfl⟩ | ⟨y, u, rfl, rfl⟩
      · rw [key_rl] at h; exact SeqAt.EqAt.str_int x t j u _ _ _ _ h
      · rw [key_rr] at h; exact wpAny_eqBool_str h
  «strs» := fun k x t v h => by
    rcases keyIs_shape h with ⟨i, u, rfl, e⟩ | ⟨y, u, rfl, e⟩
    · exact nomatch e
    · injection e with e1 _
      subst e1
      cases v <;> rfl
theorem mixKind_int (prog : Program) (w : World) (i : Int) (t : Tok) : (mixKind prog w).is (.inl i) (.int i t) = true := keyIs_int i t
theorem mixKind_str (prog : Program) (w : World) (x : Str) (t : Tok) : (mixKind prog w).is (.inr x) (.str x t) = true := keyIs_str x t
end L2
namespace L2
open PySem PySem.Spec PyProof.Rows
inductive V where
  | non | bl (b : Bool) | int (i : Int) | str (x : Str) | byt (b : Array UInt8) | flt (b : UInt64) | ref (a : Addr) | ty (n : String)
  deriving DecidableEq
def RelV : V → Value → Prop
  | .non, u => u = Value.none
  | .bl b, u => u = Value.bool b
  | .int i, u => ∃ t, u = Value.int i t
  | .str x, u => ∃ t, u = Value.str x t
  | .byt b, u => ∃ t, u = Value.bytes b t
  | .flt b, u => ∃ t, u = Value.float b t
  | .ref a, u => u = Value.ref a
  | .ty n, u => u = Value.type n
abbrev Vals : List V → List Value → Prop := Paired RelV
theorem Vals.length {xs : List V} {us : List Value} (r : Vals xs us) : xs.length = us.length := Paired.length r
theorem Vals.get : ∀ {xs : List V} {us : List Value} {i : Nat} {x : V}, Vals xs us → xs[i]? = some x → ∃ u, us[i]? = some u ∧ RelV x u
  | _, _, _, _, .nil, e => by simp at e
  | _, _, 0, _, .cons r _, e => by simp at e; subst e; exact ⟨_, rfl, r⟩
  | _, _, i + 1, x, .cons _ t, e => by
    obtain ⟨u, h1, h2⟩ := Vals.get (i := i) (x := x) t (by simpa using e)
    exact ⟨u, by simpa using h1, h2⟩
theorem Vals.set {x : V} {u : Value} (r : RelV x u) : ∀ {xs : List V} {us : List Value} (i : Nat), Vals xs us → Vals (xs.set i x) (us.set i u)
  | _, _, _, .nil => .nil
  | _, _, 0, .cons _ t => .cons r t
  | _, _, i + 1, .cons q t => .cons q (Vals.set r i t)
theorem Vals.append : ∀ {xs ys : List V} {us ws : List Value}, Vals xs us → Vals ys ws → Vals (xs ++ ys) (us ++ ws)
  | _, _, _, _, .nil, s => s
  | _, _, _, _, .cons r t, s => .cons r (Vals.append t s)
theorem Vals.take : ∀ {xs : List V} {us : List Value} (n : Nat), Vals xs us → Vals (xs.take n) (us.take n)
  | _, _, 0, _ => .nil
  | _, _, _ + 1, .nil => .nil
  | _, _, n + 1, .cons r t => .cons r (Vals.take n t)
theorem Vals.drop : ∀ {xs : List V} {us : List Value} (n : Nat), Vals xs us → Vals (xs.drop n) (us.drop n)
  | _, _, 0, r => r
  | _, _, _ + 1, .nil => .nil
  | _, _, n + 1, .cons _ t => Vals.drop n t
def RelO : Option V → Option Value → Prop
  | some v, some u => RelV v u
  | none, none => True
  | _, _ => False
def KV {κ : Type} : List (κ × V) → List (κ × Value) → Prop := Paired fun (p : κ × V) (q : κ × Value) => p.1 = q.1 ∧ RelV p.2 q.2
def kV : Key → V
  | .inl i => .int i
  | .inr x => .str x
inductive HO where
    | lst (xs : List V)
    | tup (xs : List V)
    | dK (kvs : List (Key × V)) | dT (kvs : List (List Key × V))
    | set (S : Int → Bool) (n : Nat)
    | ins (C dx : Addr) (fs : List (Str × V))
    | own (x : Addr)
    | xd (fs : List (Str × V))
    | met (f x : Addr)
    | rng (lo hi : Int)
    | frz (o : Obj) (u : HO)
    | tbl (ps : Array Value)
    | ext (φ : Heap → Prop)
abbrev Hp := Addr → Option HO
def upd (H : Hp) (a : Addr) (o : HO) : Hp := fun b => if b = a then some o else H b
theorem upd_same {H : Hp} {a : Addr} {o : HO} : upd H a o a = some o := by unfold upd; rw [if_pos rfl]
theorem upd_ne {H : Hp} {a b : Addr} {o : HO} (h : b ≠ a) : upd H a o b = H b := by unfold upd; rw [if_neg h]
theorem upd_upd {H : Hp} {a : Addr} {o u : HO} : upd (upd H a o) a u = upd H a u := by
  funext b; unfold upd; split <;> rfl
theorem ne_of {H : Hp} {a b : Addr} {o u : HO} (h : H a = some o) (h' : H b = some u) (d : o ≠ u) : a ≠ b := by
  intro e; subst e; rw [h] at h'; exact d (Option.some.inj h')
theorem ne_of_none {H : Hp} {a b : Addr} {o : HO} (h : H a = some o) (h' : H b = none) : a ≠ b := by
  intro e; subst e; rw [h] at h'; cases h'
section
variable (P : Program) (w : World)
def ObjOk (H : Hp) (h : Heap) (a : Addr) : HO → Prop
  | .lst xs => xs.length ≤ sizeLine ∧ ∃ (its : List Value) (n : Nat), Vals xs its ∧ h.get? a = some { cls := .type "list", data := .seq its.toArray n }
  | .tup xs => xs.length ≤ sizeLine ∧ ∃ its : List Value, Vals xs its ∧ IsTup h a its.toArray
  | .dK kvs => kvs.length ≤ sizeLine ∧ (a == sysModules) = false ∧ ∃ vs, KV kvs vs ∧ h.DictOf (mixKind P w) a vs
  | .dT kvs => kvs.length ≤ sizeLine ∧ (a == sysModules) = false ∧ ∃ xs : List (List Key × Addr × Value),
      Paired (fun (p : List Key × V) (q : List Key × Addr × Value) => p.1 = q.1 ∧ H q.2.1 = some (.tup (p.1.map kV)) ∧ RelV p.2 q.2.2) kvs xs ∧
      ∃ o es ep, h.get? a = some o ∧ o.ExactDict ∧ o.data = .dict es ep ∧ es.toList = xs.map (entryOfKey (tupleKind (mixKind P w))) ∧ (xs.map (·.1)).Nodup
  | .set S n => h.SetOf (intKind P w) a S n
  | .ins C dx fs => H dx = some (.own a) ∧ fs.length ≤ 1000 ∧ dx ≠ a ∧ h.get? a = some (PySem.W.instObj C dx) ∧
      ∃ mA, h.Ns1 dx mA ∧ (∀ f, RelO (fs.lookup f) (mA f)) ∧ PySem.Within mA (fs.map (·.1))
  | .own _ => ∃ o, h.get? a = some o
  | .xd fs => ∃ mA, h.Ns1 a mA ∧ ∀ f, RelO (fs.lookup f) (mA f)
  | .rng lo hi => ∃ t u v, h.get? a = some { cls := .type "range", data := .fields #[.int lo t, .int hi u, .int 1 v] }
  | .frz o u => h.get? a = some o ∧ ObjOk H h a u
  | .tbl ps => h.get? a = some { cls := .none, data := .fields ps }
  | .met f x => h.get? a = some (PySem.W.methodObj (.ref f) (.ref x))
  | .ext φ => φ h ∧ (∃ o, h.get? a = some o) ∧ ∀ h1 h2 : Heap, φ h1 → (∀ o, h1.get? a = some o → h2.get? a = some o) → φ h2
def HOk (H : Hp) (h : Heap) : Prop := ∀ a o, H a = some o → ObjOk P w H h a o
end
section
variable {P : Program} {w : World} {H H' : Hp} {h h' : Heap} {a : Addr} {o : HO}
theorem ObjOk.lt (x : ObjOk P w H h a o) : a < h.objs.size := by
  cases o with
  | lst xs => obtain ⟨_, _, _, _, e⟩ := x; exact Heap.lt_size e
  | tup xs => obtain ⟨_, _, _, p⟩ := x; exact p.lt
  | dK kvs => obtain ⟨_, _, _, _, o, _, _, e, _⟩ := x; exact Heap.lt_size e
  | dT kvs => obtain ⟨_, _, _, _, o, _, _, e, _⟩ := x; exact Heap.lt_size e
  | set S n => obtain ⟨o, _, _, _, e, _⟩ := x; exact Heap.lt_size e
  | ins C dx fs => obtain ⟨_, _, _, e, _⟩ := x; exact Heap.lt_size e
  | own y => obtain ⟨_, e⟩ := x; exact Heap.lt_size e
  | xd fs => obtain ⟨_, ⟨_, _, _, e, _⟩, _⟩ := x; exact Heap.lt_size e
  | rng lo hi => obtain ⟨_, _, _, e⟩ := x; exact Heap.lt_size e
  | frz ob u => obtain ⟨e, _⟩ := x; exact Heap.lt_size e
  | tbl ps => exact Heap.lt_size (show h.get? a = some _ from x)
  | met f y => exact Heap.lt_size (show h.get? a = some _ from x)
  | ext φ => obtain ⟨_, ⟨_, e⟩, _⟩ := x; exact Heap.lt_size e
theorem Paired.mapP {α β : Type} {F G : α → β → Prop} : ∀ {l₁ : List α} {l₂ : List β}, Paired F l₁ l₂ → (∀ a b, F a b → G a b) → Paired G l₁ l₂
  | _, _, .nil, _ => .nil
  | _, _, .cons r t, f => .cons (f _ _ r) (Paired.mapP t f)
theorem ObjOk.stay (x : ObjOk P w H h a o) (k : ∀ b u, (b = a ∨ H b = some (.own a)) → h.get? b = some u → h'.get? b = some u)
    (ho : ∀ b, H b = some (.own a) → H' b = some (.own a)) (ht : ∀ b xs, H b = some (.tup xs) → H' b = some (.tup xs)) : ObjOk P w H' h' a o := by
  induction o with
  | lst xs => obtain ⟨z, its, n, r, e⟩ := x; exact ⟨z, its, n, r, k _ _ (.inl rfl) e⟩
  | tup xs => obtain ⟨z, its, r, ob, e, c⟩ := x; exact ⟨z, its, r, ob, k _ _ (.inl rfl) e, c⟩
  | dK kvs => obtain ⟨z, y, vs, r, ob, es, ep, e, c⟩ := x; exact ⟨z, y, vs, r, ob, es, ep, k _ _ (.inl rfl) e, c⟩
  | dT kvs =>
    obtain ⟨z, y, xs, r, ob, es, ep, e, c⟩ := x
    exact ⟨z, y, xs, Paired.mapP r fun p q z => ⟨z.1, ht _ _ z.2.1, z.2.2⟩, ob, es, ep, k _ _ (.inl rfl) e, c⟩
  | set S n => obtain ⟨ob, es, ep, t, e, c⟩ := x; exact ⟨ob, es, ep, t, k _ _ (.inl rfl) e, c⟩
  | ins C dx fs =>
    obtain ⟨d, z, ne, e, mA, ⟨od, es, ep, e2, c⟩, r⟩ := x
    exact ⟨ho _ d, z, ne, k _ _ (.inl rfl) e, mA, ⟨od, es, ep, k _ _ (.inr d) e2, c⟩, r⟩
  | own y => obtain ⟨ob, e⟩ := x; exact ⟨ob, k _ _ (.inl rfl) e⟩
  | xd fs => obtain ⟨mA, ⟨od, es, ep, e, c⟩, r⟩ := x; exact ⟨mA, ⟨od, es, ep, k _ _ (.inl rfl) e, c⟩, r⟩
  | rng lo hi => obtain ⟨t, u, v, e⟩ := x; exact ⟨t, u, v, k _ _ (.inl rfl) e⟩
  | frz ob u ih => obtain ⟨e, q⟩ := x; exact ⟨k _ _ (.inl rfl) e, ih q⟩
  | tbl ps =>
    have e : h.get? a = some { cls := .none, data := .fields ps } := x
    show h'.get? a = some { cls := .none, data := .fields ps }
    exact k a _ (.inl rfl) e
  | met f y =>
    have e : h.get? a = some (PySem.W.methodObj (.ref f) (.ref y)) := x
    show h'.get? a = some (PySem.W.methodObj (.ref f) (.ref y))
    exact k a _ (.inl rfl) e
  | ext φ => obtain ⟨p, ⟨o, e⟩, st⟩ := x; exact ⟨st _ _ p fun o q => k _ _ (.inl rfl) q, ⟨o, k _ _ (.inl rfl) e⟩, st⟩
theorem HOk.lt (x : HOk P w H h) (e : H a = some o) : a < h.objs.size := (x a o e).lt
theorem HOk.fresh (x : HOk P w H h) (e : h.objs.size ≤ a) : H a = none := by
  cases q : H a with
  | none => rfl
  | some u => exact absurd (Nat.lt_of_lt_of_le (x.lt q) e) (Nat.lt_irrefl _)
theorem HOk.kept (x : HOk P w H h) (k : ∀ b u, h.get? b = some u → h'.get? b = some u) : HOk P w H h' := fun a o e =>
  (x a o e).stay (fun b u _ q => k b u q) (fun _ q => q) fun _ _ q => q
theorem HOk.laid (x : HOk P w H h) (k : ∀ b u, h.get? b = some u → h'.get? b = some u) (hp : h.objs.size ≤ a) (new : ObjOk P w (upd H a o) h' a o) : HOk P w (upd H a o) h' := fun b u e => by
  have hn := x.fresh hp
  by_cases hb : b = a
  · subst hb; rw [upd_same] at e; cases e; exact new
  · rw [upd_ne hb] at e
    exact (x b u e).stay (fun c v _ q => k c v q) (fun c q => by rw [upd_ne (ne_of_none q hn)]; exact q) fun c xs q => by rw [upd_ne (ne_of_none q hn)]; exact q
end
def Rd (H : Hp) (a : Addr) (u : HO) : Prop := H a = some u ∨ ∃ o, H a = some (.frz o u)
theorem Rd.of {H : Hp} {a : Addr} {u : HO} (h : H a = some u) : Rd H a u := .inl h
theorem Rd.ok {P : Program} {w : World} {H : Hp} {h : Heap} {a : Addr} {u : HO} (r : Rd H a u) (x : HOk P w H h) : ObjOk P w H h a u := by
  rcases r with r | ⟨o, r⟩
  · exact x a u r
  · obtain ⟨_, q⟩ := x a _ r
    exact q
def Mut : Option HO → Prop
  | some (.lst _) => True
  | some (.dK _) => True
  | some (.dT _) => True
  | some (.set _ _) => True
  | some (.ins _ _ _) => True
  | some (.ext _) => True
  | _ => False
section
variable {P : Program} {w : World} {H : Hp} {h h' : Heap} {x e : Addr} {o' : HO}
theorem HOk.write (ok : HOk P w H h) (mu : Mut (H x)) (he : e = x ∨ H e = some (.own x)) (k : ∀ b u, b ≠ e → h.get? b = some u → h'.get? b = some u) (heo : ∃ u, h'.get? e = some u)
    (new : ObjOk P w (upd H x o') h' x o') : HOk P w (upd H x o') h' := fun b u q => by
  have nown : ∀ c y, H c = some (.own y) → c ≠ x := fun c y r z => by subst z; rw [r] at mu; exact mu
  have ntup : ∀ c xs, H c = some (.tup xs) → c ≠ x := fun c xs r z => by subst z; rw [r] at mu; exact mu
  by_cases hb : b = x
  · subst hb; rw [upd_same] at q; cases q; exact new
  · rw [upd_ne hb] at q
    by_cases hbe : b = e
    · have q' : H b = some (.own x) := by
        rcases he with z | z
        · exact absurd (hbe.trans z) hb
        · rw [hbe]; exact z
      rw [q] at q'; cases q'
      obtain ⟨v, hv⟩ := heo
      exact ⟨v, by rw [hbe]; exact hv⟩
    · refine (ok b u q).stay (fun c v hc r => k c v ?_ r) (fun c r => by rw [upd_ne (nown c b r)]; exact r) fun c xs r => by rw [upd_ne (ntup c xs r)]; exact r
      rcases hc with rfl | hc
      · exact hbe
      · rintro rfl
        rcases he with z | z
        · exact nown c b hc z
        · rw [hc] at z; cases z; exact hb rfl
end
structure Un (fs ex : List Addr) (H H' : Hp) (h h' : Heap) : Prop where
  keep : ∀ b o, h.get? b = some o → H b = none → b ∉ fs → b ∉ ex → h'.get? b = some o
  slot : ∀ b o, h.get? b = some o → H b = none → b ∈ fs → b ∉ ex → ∃ sl, h'.get? b = some { o with slots := sl }
  free : ∀ b o, h.get? b = some o → H b = none → b ∉ ex → H' b = none
  there : ∀ b o, h.get? b = some o → b ∉ ex → ∃ o', h'.get? b = some o'
  tups : ∀ b xs, H b = some (.tup xs) → H' b = some (.tup xs)
  frzs : ∀ b o u, H b = some (.frz o u) → H' b = some (.frz o u)
  tbls : ∀ b ps, H b = some (.tbl ps) → ∃ more, H' b = some (.tbl (ps ++ more))
section
variable {fs fs' ex ex' : List Addr} {H H1 H2 : Hp} {h h1 h2 h' : Heap} {a x e : Addr} {o : HO}
theorem Un.any (u : Un fs ex H H1 h h1) {b : Addr} {ob : Obj} (q : h.get? b = some ob) (n : H b = none) (hx : b ∉ ex) : ∃ sl, h1.get? b = some { ob with slots := sl } := by
  by_cases hb : b ∈ fs
  · exact u.slot b ob q n hb hx
  · exact ⟨ob.slots, u.keep b ob q n hb hx⟩
theorem Un.trans (a : Un fs ex H H1 h h1) (b : Un fs ex H1 H2 h1 h2) : Un fs ex H H2 h h2 where
  keep := fun c ob q n hc hx => b.keep c ob (a.keep c ob q n hc hx) (a.free c ob q n hx) hc hx
  slot := fun c ob q n hc hx => by
    obtain ⟨sl, e1⟩ := a.slot c ob q n hc hx
    obtain ⟨sl', e2⟩ := b.slot c _ e1 (a.free c ob q n hx) hc hx
    exact ⟨sl', e2⟩
  free := fun c ob q n hx => by
    obtain ⟨o', e1⟩ := a.there c ob q hx
    exact b.free c o' e1 (a.free c ob q n hx) hx
  there := fun c ob q hx => by
    obtain ⟨o', e1⟩ := a.there c ob q hx
    exact b.there c o' e1 hx
  tups := fun c xs q => b.tups c xs (a.tups c xs q)
  frzs := fun c ob xs q => b.frzs c ob xs (a.frzs c ob xs q)
  tbls := fun c ps q => by
    obtain ⟨m1, e1⟩ := a.tbls c ps q
    obtain ⟨m2, e2⟩ := b.tbls c _ e1
    exact ⟨m1 ++ m2, by rw [e2, Array.append_assoc]⟩
theorem Un.kept (k : ∀ b u, h.get? b = some u → h'.get? b = some u) : Un fs ex H H h h' :=
  ⟨fun b ob q _ _ _ => k b ob q, fun b ob q _ _ _ => ⟨ob.slots, k b ob q⟩, fun _ _ _ n _ => n, fun b ob q _ => ⟨ob, k b ob q⟩, fun _ _ q => q, fun _ _ _ q => q, fun _ ps q => ⟨#[], by rw [q]; simp⟩⟩
theorem Un.refl : Un fs ex H H h h := Un.kept fun _ _ q => q
theorem Un.laid (k : ∀ b u, h.get? b = some u → h'.get? b = some u) (hp : h.objs.size ≤ a) (hn : H a = none) : Un fs ex H (upd H a o) h h' where
  keep := fun b u q _ _ _ => k b u q
  slot := fun b u q _ _ _ => ⟨u.slots, k b u q⟩
  free := fun b u q n _ => by rw [upd_ne (Nat.ne_of_lt (Nat.lt_of_lt_of_le (Heap.lt_size q) hp))]; exact n
  there := fun b u q _ => ⟨u, k b u q⟩
  tups := fun b xs q => by rw [upd_ne (ne_of_none q hn)]; exact q
  frzs := fun b u xs q => by rw [upd_ne (ne_of_none q hn)]; exact q
  tbls := fun b ps q => ⟨#[], by rw [upd_ne (ne_of_none q hn), q]; simp⟩
theorem Un.write (mu : Mut (H x)) (he : e = x ∨ H e = some (.own x)) (k : ∀ b u, b ≠ e → h.get? b = some u → h'.get? b = some u) (heo : ∃ u, h'.get? e = some u) : Un fs ex H (upd H x o) h h' := by
  have hx : ∀ b, H b = none → b ≠ x := fun b n z => by subst z; rw [n] at mu; exact mu
  have hb : ∀ b, H b = none → b ≠ e := fun b n z => by
    subst z
    rcases he with r | r
    · exact hx b n r
    · rw [n] at r; cases r
  have hm : ∀ b u, H b = some u → ¬ Mut (some u) → b ≠ x := fun b u q nm z => by subst z; rw [q] at mu; exact nm mu
  refine ⟨fun b u q n _ _ => k b u (hb b n) q, fun b u q n _ _ => ⟨u.slots, k b u (hb b n) q⟩, fun b u q n _ => by rw [upd_ne (hx b n)]; exact n, fun b u q _ => ?_,
    fun b xs q => by rw [upd_ne (hm b _ q fun z => z)]; exact q, fun b u xs q => by rw [upd_ne (hm b _ q fun z => z)]; exact q, fun b ps q => ⟨#[], by rw [upd_ne (hm b _ q fun z => z), q]; simp⟩⟩
  by_cases hbe : b = e
  · subst hbe; exact heo
  · exact ⟨u, k b u hbe q⟩
end
def trk (h : Heap) (H : Hp) : List Addr := (List.range h.objs.size).filter fun a => (H a).isSome
def hidT (h : Heap) (H : Hp) : Heap := PySem.W.hideAll h (trk h H)
theorem hidT_size (h : Heap) (H : Hp) : (hidT h H).objs.size = h.objs.size := PySem.W.hideAll_size _ _
theorem hidT_get {h : Heap} {H : Hp} {b : Addr} {o : Obj} (e : h.get? b = some o) (n : H b = none) : (hidT h H).get? b = some o :=
  PySem.W.hideAll_get _ e fun hm => by
    have q : (H b).isSome = true := (List.mem_filter.mp hm).2
    rw [n] at q; simp at q
theorem of_hidT {h : Heap} {H : Hp} {b : Addr} {o : Obj} (e : (hidT h H).get? b = some o) : h.get? b = some o ∧ H b = none := by
  have e' : h.get? b = some o := PySem.W.of_hideAll (trk h H) e
  refine ⟨e', ?_⟩
  cases q : H b with
  | none => rfl
  | some x =>
    have hm : b ∈ trk h H := List.mem_filter.mpr ⟨List.mem_range.mpr (Heap.lt_size e'), by simp [q]⟩
    have z : (hidT h H).get? b = none := PySem.W.hideAll_none (trk h H) hm
    rw [z] at e; cases e
def allNews (g h : Heap) (L : Addr) : List (Addr × Obj) := (List.range h.objs.size).filterMap fun a => if a = L ∨ (g.get? a).isSome = true then none else (h.get? a).map fun o => (a, o)
def rest (g h : Heap) (L d : Addr) : List (Addr × Obj) := (allNews g h L).filter fun p => decide (p.1 ≠ d)
end L2
namespace L2
open PySem PySem.Spec PyProof.Rows
structure Mod (K : PySem.W.Frag) (mg : Str → Option Value) (base : Heap) : Prop where
  kin : K.In base
  glob : base.Ns mainGlobals mg
  blt : ∃ mb, base.Ns builtinsNs mb ∧ ∀ x : Str, x ≠ "__name__" → mb x = bootBuiltins x
  nolimit : base.NoLimit
structure Cx where
  prog : Program
  w : World
  K : PySem.W.Frag
  mg : Str → Option Value
  base : Heap
  A : Around
  N : List Str
  s₀ : Shared
  H₀ : Hp
  env : Env
  outer : List Env
  stack : List Env
  ex : List Addr
  fn : Str → Bool
  calm : Bool
  pn : List (Addr × Obj)
  xe : Value → Shared → Prop
def frs (l : List Env) : List Addr := l.filterMap (·.frame)
abbrev Cx.fs (X : Cx) : List Addr := frs X.outer
def Vis (sc : Scope) (x : Str) : Prop := sc.names.lookup x = some .local ∨ sc.names.lookup x = some .cell ∨ sc.names.lookup x = some .free
def Loc (sc : Scope) (x : Str) : Prop := sc.names.lookup x = some .local ∨ sc.names.lookup x = some .cell
def Look (env : Env) (h : Heap) (m : Str → Option Value) (x : Str) (u : Value) : Prop :=
  (env.kindOf x = some .local ∧ m x = some u) ∨ ((env.kindOf x = some .cell ∨ env.kindOf x = some .free) ∧ ∃ c, env.cells.lookup x = some c ∧ h.IsCell c (some u))
structure Cx.Ok (X : Cx) : Prop where
  mod : Mod X.K X.mg X.base
  kind : X.env.scope.kind = .function
  glob : X.env.globals = mainGlobals
  blt : X.env.builtins = builtinsNs
  above : X.s₀.heap.objs.size ≤ X.env.locals
  inj : ∀ x y c, X.env.cells.lookup x = some c → X.env.cells.lookup y = some c → x = y
  has : ∀ x, (X.env.kindOf x = some .cell ∨ X.env.kindOf x = some .free) → ∃ c, X.env.cells.lookup x = some c
  cab : ∀ x c, X.fn x = true → X.env.cells.lookup x = some c → X.s₀.heap.objs.size ≤ c
  hd : X.calm = true → X.A.handled = none
  frames : X.A.frames = some X.stack
  stk : X.stack = X.outer ∨ (X.stack = X.env :: X.outer ∧ X.env.frame = some X.env.locals)
  exf : ∀ b ∈ X.ex, b ≠ X.env.locals ∧ ∀ x c, X.env.cells.lookup x = some c → c ≠ b
  bs : ∀ b o, X.base.get? b = some o → X.s₀.heap.get? b = some o ∧ X.H₀ b = none
  bsz : X.base.objs.size ≤ X.s₀.heap.objs.size
  noex : ∀ b o, X.base.get? b = some o → b ∉ X.ex
  exfs : ∀ b ∈ X.ex, b ∉ X.fs
  funs : X.s₀.heap.FunFrames X.base X.outer
  frf : ∀ b ∈ X.fs, X.H₀ b = none
structure Inv (X : Cx) (pins : List (Addr × Obj)) (σ : List (Option V)) (H : Hp) (s : Shared) : Prop where
  ok : X.Ok
  os : s.os = X.s₀.os
  bare : AllBare s.gens
  base : Un X.fs X.ex X.H₀ H X.s₀.heap s.heap
  loc : ∃ m, s.heap.Ns X.env.locals m ∧ ∀ (i : Nat) (x : Str) (v : V), X.N[i]? = some x → σ[i]? = some (some v) → Vis X.env.scope x → ∃ u, RelV v u ∧ Look X.env s.heap m x u
  cell : ∀ x c, X.env.cells.lookup x = some c → ∃ v, s.heap.IsCell c v
  free : H X.env.locals = none
  freeC : ∀ x c, X.env.cells.lookup x = some c → H c = none
  pin : ∀ p ∈ X.pn ++ pins, s.heap.get? p.1 = some p.2 ∧ H p.1 = none ∧ p.1 ≠ X.env.locals ∧ p.1 ∉ X.fs ∧ ∀ v, p.2.data ≠ .cell v
  hok : HOk X.prog X.w H s.heap
  len : σ.length = X.N.length
section
variable {X : Cx} {pins : List (Addr × Obj)} {σ : List (Option V)} {H H' : Hp} {s : Shared} {h' : Heap}
theorem Cx.Ok.nofr (ok : X.Ok) {b : Addr} {o : Obj} (e : X.base.get? b = some o) : b ∉ X.fs := fun hb => by
  have := (ok.funs.mem hb).1
  rw [e] at this; cases this
theorem Inv.bs (I : Inv X pins σ H s) : ∀ b o, X.base.get? b = some o → s.heap.get? b = some o ∧ H b = none := fun b o e =>
  ⟨I.base.keep b o (I.ok.bs b o e).1 (I.ok.bs b o e).2 (I.ok.nofr e) (I.ok.noex b o e), I.base.free b o (I.ok.bs b o e).1 (I.ok.bs b o e).2 (I.ok.noex b o e)⟩
theorem Inv.bk (I : Inv X pins σ H s) : ∀ b o, X.base.get? b = some o → s.heap.get? b = some o := fun b o e => (I.bs b o e).1
theorem Inv.mod (I : Inv X pins σ H s) : Mod X.K X.mg X.base := I.ok.mod
theorem Inv.kIn (I : Inv X pins σ H s) : X.K.In s.heap := I.ok.mod.kin.keeps I.bk
theorem Inv.fr (I : Inv X pins σ H s) : ∃ m, Fr X.base X.env.locals s.heap m :=
  let ⟨m, hn, _⟩ := I.loc
  ⟨m, hn, I.bk, Nat.le_trans I.ok.bsz I.ok.above⟩
theorem Inv.lt (I : Inv X pins σ H s) : X.env.locals < s.heap.objs.size := let ⟨_, hn, _⟩ := I.loc; hn.lt
theorem Inv.sz (I : Inv X pins σ H s) : X.s₀.heap.objs.size ≤ s.heap.objs.size := Nat.le_trans I.ok.above (Nat.le_of_lt I.lt)
theorem Inv.nofs (I : Inv X pins σ H s) {a : Addr} (h : s.heap.objs.size ≤ a) : a ∉ X.fs := fun hb => by
  obtain ⟨_, o, ho, _⟩ := I.ok.funs.mem hb
  exact absurd (Nat.lt_of_lt_of_le (Heap.lt_size ho) (Nat.le_trans I.sz h)) (Nat.lt_irrefl _)
theorem Inv.cne (I : Inv X pins σ H s) : ∀ x c, X.env.cells.lookup x = some c → c ≠ X.env.locals := fun x c e z => by
  obtain ⟨v, o, ho, hd⟩ := I.cell x c e
  obtain ⟨m, ⟨o', es, ep, ho', hd', _⟩, _⟩ := I.loc
  rw [z, ho'] at ho; cases ho; rw [hd'] at hd; cases hd
theorem Inv.funs (I : Inv X pins σ H s) : s.heap.FunFrames X.base X.outer := by
  have all : ∀ (l : List Env), (∀ b ∈ frs l, b ∈ X.fs) → X.s₀.heap.FunFrames X.base l → s.heap.FunFrames X.base l := by
    intro l
    induction l with
    | nil => intro _ _; trivial
    | cons env r ih =>
      intro hs hl
      obtain ⟨hk, ⟨L, o, hf, hn, ho, hd⟩, hr⟩ := hl
      have hL : L ∈ X.fs := hs L (by unfold frs; rw [List.filterMap_cons, hf]; exact List.mem_cons_self)
      obtain ⟨sl, e⟩ := I.base.slot L o ho (I.ok.frf L hL) hL fun z => I.ok.exfs L z hL
      exact ⟨hk, ⟨L, _, hf, hn, e, hd⟩, ih (fun b hb => hs b (by unfold frs; rw [List.filterMap_cons, hf]; exact List.mem_cons_of_mem _ hb)) hr⟩
  exact all X.outer (fun _ hb => hb) I.ok.funs
theorem Inv.stack (I : Inv X pins σ H s) : s.heap.FunFrames X.base X.stack := by
  rcases I.ok.stk with e | ⟨e, hf⟩
  · rw [e]; exact I.funs
  · rw [e]
    obtain ⟨m, hn, _⟩ := I.loc
    refine .cons (by rw [I.ok.kind]; decide) hf hn ?_ I.funs
    exact Heap.get?_none_of_le (Nat.le_trans I.ok.bsz I.ok.above)
theorem Inv.stkSub (I : Inv X pins σ H s) : ∀ b ∈ frs X.stack, b ∈ X.env.locals :: X.fs := fun b hb => by
  rcases I.ok.stk with e | ⟨e, hf⟩
  · rw [e] at hb; exact List.mem_cons_of_mem _ hb
  · rw [e] at hb
    unfold frs at hb
    rw [List.filterMap_cons, hf] at hb
    exact hb
theorem Inv.stkFree (I : Inv X pins σ H s) : ∀ b ∈ frs X.stack, H b = none := fun b hb => by
  rcases List.mem_cons.mp (I.stkSub b hb) with e | hb
  · rw [e]; exact I.free
  · obtain ⟨_, o, ho, _⟩ := I.ok.funs.mem hb
    exact I.base.free b o ho (I.ok.frf b hb) fun z => I.ok.exfs b z hb
theorem Inv.step {g' : Array GenState} {t' : Nat} {d' : Drawn} {ch : List Addr} (I : Inv X pins σ H s)
    (hch : ∀ b ∈ ch, (b ∈ X.ex ∨ X.s₀.heap.objs.size ≤ b) ∧ b ≠ X.env.locals ∧ (∀ x c, X.env.cells.lookup x = some c → c ≠ b) ∧ ∀ p ∈ X.pn ++ pins, p.1 ≠ b)
    (keep : ∀ b o, b ≠ X.env.locals → b ∉ X.fs → b ∉ ch → s.heap.get? b = some o → H b = none → h'.get? b = some o)
    (slot : ∀ b o, b ≠ X.env.locals → b ∈ X.fs → b ∉ ch → s.heap.get? b = some o → H b = none → ∃ sl, h'.get? b = some { o with slots := sl }) (free : ∀ b o, b ∉ ch → s.heap.get? b = some o → H b = none → H' b = none)
    (there : ∀ b o, b ∉ ch → s.heap.get? b = some o → ∃ o', h'.get? b = some o')
    (tups : ∀ b xs, H b = some (.tup xs) → H' b = some (.tup xs)) (frzs : ∀ b o u, H b = some (.frz o u) → H' b = some (.frz o u)) (tbls : ∀ b ps, H b = some (.tbl ps) → ∃ more, H' b = some (.tbl (ps ++ more)))
    (ns : ∀ m, s.heap.Ns X.env.locals m → h'.Ns X.env.locals m) (hok : HOk X.prog X.w H' h') (hg : AllBare g') :
    Inv X pins σ H' { s with heap := h', gens := g', drawn := d', toks := t' } := by
  have neL : ∀ b o, X.s₀.heap.get? b = some o → b ≠ X.env.locals := fun b o e => Nat.ne_of_lt (Nat.lt_of_lt_of_le (Heap.lt_size e) I.ok.above)
  have neC : ∀ b o, X.s₀.heap.get? b = some o → b ∉ X.ex → b ∉ ch := fun b o e hx hb => by
    rcases (hch b hb).1 with z | z
    · exact hx z
    · exact absurd (Nat.lt_of_lt_of_le (Heap.lt_size e) z) (Nat.lt_irrefl _)
  have cellK : ∀ x c, X.env.cells.lookup x = some c → ∀ v, s.heap.IsCell c v → h'.IsCell c v := fun x c e v ⟨o, ho, hd⟩ => by
    have nch : c ∉ ch := fun z => (hch c z).2.2.1 x c e rfl
    by_cases hc : c ∈ X.fs
    · obtain ⟨sl, q⟩ := slot c o (I.cne x c e) hc nch ho (I.freeC x c e)
      exact ⟨_, q, hd⟩
    · exact ⟨o, keep c o (I.cne x c e) hc nch ho (I.freeC x c e), hd⟩
  refine ⟨I.ok, I.os, hg, ⟨fun b o e n hb hx => ?_, fun b o e n hb hx => ?_, fun b o e n hx => ?_, fun b o e hx => ?_, fun b xs e => tups b xs (I.base.tups b xs e), fun b o xs e => frzs b o xs (I.base.frzs b o xs e), fun b ps e => ?_⟩, ?_, fun x c e => ?_, ?_, fun x c e => ?_, fun p hp => ?_, hok, I.len⟩
  · exact keep b o (neL b o e) hb (neC b o e hx) (I.base.keep b o e n hb hx) (I.base.free b o e n hx)
  · obtain ⟨sl, e1⟩ := I.base.slot b o e n hb hx
    obtain ⟨sl', e2⟩ := slot b _ (neL b o e) hb (neC b o e hx) e1 (I.base.free b o e n hx)
    exact ⟨sl', e2⟩
  · obtain ⟨o', e1⟩ := I.base.there b o e hx
    exact free b o' (neC b o e hx) e1 (I.base.free b o e n hx)
  · obtain ⟨o', e1⟩ := I.base.there b o e hx
    exact there b o' (neC b o e hx) e1
  · obtain ⟨m1, e1⟩ := I.base.tbls b ps e
    obtain ⟨m2, e2⟩ := tbls b _ e1
    exact ⟨m1 ++ m2, by rw [e2, Array.append_assoc]⟩
  · obtain ⟨m, hn, hl⟩ := I.loc
    refine ⟨m, ns m hn, fun i x v e1 e2 e3 => ?_⟩
    obtain ⟨u, r, l⟩ := hl i x v e1 e2 e3
    refine ⟨u, r, ?_⟩
    rcases l with l | ⟨k, c, e, z⟩
    · exact .inl l
    · exact .inr ⟨k, c, e, cellK x c e _ z⟩
  · obtain ⟨v, z⟩ := I.cell x c e
    exact ⟨v, cellK x c e v z⟩
  · obtain ⟨m, ⟨o, _, _, ho, _⟩, _⟩ := I.loc
    exact free _ o (fun z => (hch _ z).2.1 rfl) ho I.free
  · obtain ⟨v, o, ho, hd⟩ := I.cell x c e
    exact free c o (fun z => (hch c z).2.2.1 x c e rfl) ho (I.freeC x c e)
  · obtain ⟨e, n, ne, nf, d⟩ := I.pin p hp
    have nch : p.1 ∉ ch := fun z => (hch p.1 z).2.2.2 p hp rfl
    exact ⟨keep p.1 p.2 ne nf nch e n, free p.1 p.2 nch e n, ne, nf, d⟩
theorem Inv.un {t' : Nat} (I : Inv X pins σ H s) (u : Un X.fs [] H H' s.heap h') (hok : HOk X.prog X.w H' h') : Inv X pins σ H' { s with heap := h', toks := t' } := by
  obtain ⟨m, ⟨o, es, ep, ho, r⟩, _⟩ := id I.loc
  obtain ⟨sl, hL⟩ := u.any ho I.free (by simp)
  exact I.step (g' := s.gens) (d' := s.drawn) (ch := []) (fun _ z => nomatch z) (fun b o _ hb _ e n => u.keep b o e n hb (by simp)) (fun b o _ hb _ e n => u.slot b o e n hb (by simp)) (fun b o _ e n => u.free b o e n (by simp)) (fun b o _ e => u.there b o e (by simp)) u.tups u.frzs u.tbls (fun m' hm => by
    obtain ⟨o', es', ep', ho', r'⟩ := hm
    rw [ho] at ho'; cases ho'
    exact ⟨_, es', ep', hL, r'⟩) hok I.bare
theorem Inv.call {g' : Array GenState} {t' : Nat} {d' : Drawn} {ch : List Addr} (I : Inv X pins σ H s) (u : Un (frs X.stack) ch H H' s.heap h') (hok : HOk X.prog X.w H' h') (hg : AllBare g')
    (hch : ∀ b ∈ ch, (b ∈ X.ex ∨ X.s₀.heap.objs.size ≤ b) ∧ b ≠ X.env.locals ∧ (∀ x c, X.env.cells.lookup x = some c → c ≠ b) ∧ ∀ p ∈ X.pn ++ pins, p.1 ≠ b) :
    Inv X pins σ H' { s with heap := h', gens := g', drawn := d', toks := t' } := by
  obtain ⟨m, ⟨o, es, ep, ho, r⟩, _⟩ := id I.loc
  obtain ⟨sl, hL⟩ := u.any ho I.free fun z => (hch _ z).2.1 rfl
  exact I.step (ch := ch) hch (fun b o hL hb hc e n => u.keep b o e n (fun z => (List.mem_cons.mp (I.stkSub b z)).elim hL hb) hc) (fun b o _ _ hc e n => u.any e n hc) (fun b o hc e n => u.free b o e n hc) (fun b o hc e => u.there b o e hc) u.tups u.frzs u.tbls (fun m' hm => by
    obtain ⟨o', es', ep', ho', r'⟩ := hm
    rw [ho] at ho'; cases ho'
    exact ⟨_, es', ep', hL, r'⟩) hok hg
theorem Inv.turned {t' : Nat} {it : Addr} (I : Inv X pins σ H s) (k : ∀ b o, b ≠ it → s.heap.get? b = some o → h'.get? b = some o) (hn : H it = none) (hL : it ≠ X.env.locals)
    (h1 : it ∈ X.ex ∨ X.s₀.heap.objs.size ≤ it) (h2 : ∀ x c, X.env.cells.lookup x = some c → c ≠ it) (h3 : ∀ p ∈ X.pn ++ pins, p.1 ≠ it) : Inv X pins σ H { s with heap := h', toks := t' } := by
  have nit : ∀ b u, H b = some u → b ≠ it := fun b u e z => by rw [z, hn] at e; cases e
  refine I.step (g' := s.gens) (d' := s.drawn) (ch := [it]) (fun b hb => ?_) (fun b o _ _ hc e _ => k b o (fun z => hc (by simp [z])) e) (fun b o _ _ hc e _ => ⟨o.slots, k b o (fun z => hc (by simp [z])) e⟩) (fun _ _ _ _ n => n)
    (fun b o hc e => ⟨o, k b o (fun z => hc (by simp [z])) e⟩) (fun _ _ e => e) (fun _ _ _ e => e) (fun b ps e => ⟨#[], by rw [e]; simp⟩) (fun m hm => ?_) (fun b u e => ?_) I.bare
  · have e : b = it := by simpa using hb
    subst e
    exact ⟨h1, hL, h2, h3⟩
  · obtain ⟨o, es, ep, ho, r⟩ := hm
    exact ⟨o, es, ep, k _ o (Ne.symm hL) ho, r⟩
  · refine (I.hok b u e).stay (fun c v hc q => k c v ?_ q) (fun _ q => q) fun _ _ q => q
    rcases hc with z | z
    · rw [z]; exact nit b u e
    · exact nit c _ z
theorem Inv.tok (I : Inv X pins σ H s) (t : Nat) : Inv X pins σ H { s with toks := t } := I.un (h' := s.heap) (t' := t) Un.refl I.hok
theorem Inv.kept {t' : Nat} (I : Inv X pins σ H s) (k : ∀ b u, s.heap.get? b = some u → h'.get? b = some u) : Inv X pins σ H { s with heap := h', toks := t' } := I.un (Un.kept k) (I.hok.kept k)
theorem Inv.laid {a : Addr} {o : HO} {t' : Nat} (I : Inv X pins σ H s) (k : ∀ b u, s.heap.get? b = some u → h'.get? b = some u) (hp : s.heap.objs.size ≤ a) (new : ObjOk X.prog X.w (upd H a o) h' a o) :
    Inv X pins σ (upd H a o) { s with heap := h', toks := t' } := I.un (Un.laid k hp (I.hok.fresh hp)) (I.hok.laid k hp new)
theorem Inv.write {x e : Addr} {o : HO} {t' : Nat} (I : Inv X pins σ H s) (mu : Mut (H x)) (he : e = x ∨ H e = some (.own x)) (k : ∀ b u, b ≠ e → s.heap.get? b = some u → h'.get? b = some u) (heo : ∃ u, h'.get? e = some u)
    (new : ObjOk X.prog X.w (upd H x o) h' x o) : Inv X pins σ (upd H x o) { s with heap := h', toks := t' } := I.un (Un.write mu he k heo) (I.hok.write mu he k heo new)
theorem Inv.pins_of {pins' : List (Addr × Obj)} (I : Inv X pins σ H s) (h : ∀ p ∈ pins', s.heap.get? p.1 = some p.2 ∧ H p.1 = none ∧ p.1 ≠ X.env.locals ∧ p.1 ∉ X.fs ∧ ∀ v, p.2.data ≠ .cell v) : Inv X pins' σ H s :=
  ⟨I.ok, I.os, I.bare, I.base, I.loc, I.cell, I.free, I.freeC, fun p hp => (List.mem_append.mp hp).elim (fun z => I.pin p (List.mem_append_left _ z)) (h p), I.hok, I.len⟩
theorem nodup_ix {N : List Str} (hN : N.Nodup) {i j : Nat} {x : Str} (a : N[i]? = some x) (b : N[j]? = some x) : i = j := by
  obtain ⟨h1, e1⟩ := List.getElem?_eq_some_iff.mp a
  obtain ⟨h2, e2⟩ := List.getElem?_eq_some_iff.mp b
  exact (List.getElem_inj hN).mp (e1.trans e2.symm)
theorem store_ok2 {M : Model} {A : Around} {E : Value → Shared → Prop} {i : Nat} {x : Str} {v : V} {u : Value} {Q : Unit → Shared → Prop} (I : Inv X pins σ H s) (hN : X.N.Nodup) (hi : X.N[i]? = some x) (hx : Loc X.env.scope x) (r : RelV v u)
    (h : ∀ s', Inv X pins (σ.set i (some v)) H s' → (∃ a, Heap.SameBut a s.heap s'.heap ∧ (a = X.env.locals ∨ X.env.cells.lookup x = some a)) → Q () s') (hf : X.fn x = true ∨ X.env.scope.names.lookup x = some .local := by first | exact .inl rfl | exact .inr rfl | assumption) : wpAny M A (storeName X.env x u) Q E s := by
  obtain ⟨m, hn, hl⟩ := id I.loc
  have hcls : (X.env.scope.kind == .class || (X.env.scope.kind == .module && X.env.locals != X.env.globals)) = false := by rw [I.ok.kind]; rfl
  have hiσ : i < σ.length := by rw [I.len]; exact (List.getElem?_eq_some_iff.mp hi).1
  have cne := I.cne
  have tracked : ∀ {a : Addr} {h' : Heap}, (∃ o, s.heap.get? a = some o ∧ H a = none) → Heap.SameBut a s.heap h' → HOk X.prog X.w H h' := fun {a h'} ha hs b ob e => by
    obtain ⟨_, _, hfree⟩ := ha
    refine (I.hok b ob e).stay (fun c w' hc q => (hs.2 c ?_).trans q) (fun _ q => q) fun _ _ q => q
    rintro rfl
    rcases hc with rfl | hc
    · rw [hfree] at e; cases e
    · rw [hfree] at hc; cases hc
  rcases hx with hk | hk
  · refine wpAny_storeName_local hk hn (fun h' hn' hs => ?_) hcls
    obtain ⟨oL, _, _, hoL, _⟩ := id hn
    refine h _ ⟨I.ok, I.os, I.bare, ⟨fun b o e n hb hx => ?_, fun b o e n hb hx => ?_, I.base.free, fun b o e hx => ?_, I.base.tups, I.base.frzs, I.base.tbls⟩, ⟨_, hn', fun j y v' e1 e2 e3 => ?_⟩, fun y c e => ?_, I.free, I.freeC, fun p hp => ?_, tracked ⟨oL, hoL, I.free⟩ hs, by simpa using I.len⟩ ⟨_, hs, .inl rfl⟩
    · exact (hs.2 b (Nat.ne_of_lt (Nat.lt_of_lt_of_le (Heap.lt_size e) I.ok.above))).trans (I.base.keep b o e n hb hx)
    · obtain ⟨sl, e1⟩ := I.base.slot b o e n hb hx
      exact ⟨sl, (hs.2 b (Nat.ne_of_lt (Nat.lt_of_lt_of_le (Heap.lt_size e) I.ok.above))).trans e1⟩
    · obtain ⟨o', e1⟩ := I.base.there b o e hx
      exact ⟨o', (hs.2 b (Nat.ne_of_lt (Nat.lt_of_lt_of_le (Heap.lt_size e) I.ok.above))).trans e1⟩
    · by_cases hj : j = i
      · subst hj
        rw [hi] at e1; cases e1
        rw [List.getElem?_set_self hiσ] at e2
        cases e2
        exact ⟨u, r, .inl ⟨hk, by simp⟩⟩
      · rw [List.getElem?_set_ne (Ne.symm hj)] at e2
        obtain ⟨u', r', q⟩ := hl j y v' e1 e2 e3
        refine ⟨u', r', ?_⟩
        rcases q with ⟨k, e⟩ | ⟨k, c, e, z⟩
        · refine .inl ⟨k, ?_⟩
          have : y ≠ x := fun e => hj (nodup_ix hN e1 (e ▸ hi))
          simp [this, e]
        · exact .inr ⟨k, c, e, z.sameBut hs (cne y c e)⟩
    · obtain ⟨w', z⟩ := I.cell y c e
      exact ⟨w', z.sameBut hs (cne y c e)⟩
    · obtain ⟨e, n, ne, nf, d⟩ := I.pin p hp
      exact ⟨(hs.2 p.1 ne).trans e, n, ne, nf, d⟩
  · have hfn : X.fn x = true := by
      rcases hf with z | z
      · exact z
      · rw [z] at hk; cases hk
    obtain ⟨c, hc⟩ := I.ok.has x (.inl hk)
    obtain ⟨w', z⟩ := I.cell x c hc
    refine wpAny_storeName_cell I.ok.kind hk hc z (fun h' hc' hs => ?_)
    obtain ⟨oc, hoc, hocd⟩ := id z
    refine h { s with heap := h' } ⟨I.ok, I.os, I.bare, ⟨fun b o e n hb hx => ?_, fun b o e n hb hx => ?_, I.base.free, fun b o e hx => ?_, I.base.tups, I.base.frzs, I.base.tbls⟩, ⟨m, hn.sameBut hs (Ne.symm (cne x c hc)), fun j y v' e1 e2 e3 => ?_⟩, fun y c' e => ?_, I.free, I.freeC, fun p hp => ?_, tracked ⟨oc, hoc, I.freeC x c hc⟩ hs, by simpa using I.len⟩ ⟨c, hs, .inr hc⟩
    · exact (hs.2 b (Nat.ne_of_lt (Nat.lt_of_lt_of_le (Heap.lt_size e) (I.ok.cab x c hfn hc)))).trans (I.base.keep b o e n hb hx)
    · obtain ⟨sl, e1⟩ := I.base.slot b o e n hb hx
      exact ⟨sl, (hs.2 b (Nat.ne_of_lt (Nat.lt_of_lt_of_le (Heap.lt_size e) (I.ok.cab x c hfn hc)))).trans e1⟩
    · obtain ⟨o', e1⟩ := I.base.there b o e hx
      exact ⟨o', (hs.2 b (Nat.ne_of_lt (Nat.lt_of_lt_of_le (Heap.lt_size e) (I.ok.cab x c hfn hc)))).trans e1⟩
    · by_cases hj : j = i
      · subst hj
        rw [hi] at e1; cases e1
        rw [List.getElem?_set_self hiσ] at e2
        cases e2
        exact ⟨u, r, .inr ⟨.inl hk, c, hc, hc'⟩⟩
      · rw [List.getElem?_set_ne (Ne.symm hj)] at e2
        obtain ⟨u', r', q⟩ := hl j y v' e1 e2 e3
        refine ⟨u', r', ?_⟩
        rcases q with q | ⟨k, c', e, z'⟩
        · exact .inl q
        · refine .inr ⟨k, c', e, z'.sameBut hs ?_⟩
          rintro rfl
          exact hj (nodup_ix hN e1 (I.ok.inj _ _ _ e hc ▸ hi))
    · by_cases hcc : c' = c
      · subst hcc; exact ⟨_, hc'⟩
      · obtain ⟨w2, z2⟩ := I.cell y c' e
        exact ⟨w2, z2.sameBut hs hcc⟩
    · obtain ⟨e, n, ne, nf, d⟩ := I.pin p hp
      refine ⟨(hs.2 p.1 ?_).trans e, n, ne, nf, d⟩
      intro q
      rw [q, hoc] at e
      have q' : oc = p.2 := Option.some.inj e
      exact d w' (by rw [← q']; exact hocd)
theorem store_ok {M : Model} {A : Around} {E : Value → Shared → Prop} {i : Nat} {x : Str} {v : V} {u : Value} {Q : Unit → Shared → Prop} (I : Inv X pins σ H s) (hN : X.N.Nodup) (hi : X.N[i]? = some x) (hx : Loc X.env.scope x) (r : RelV v u)
    (h : ∀ s', Inv X pins (σ.set i (some v)) H s' → Q () s') (hf : X.fn x = true ∨ X.env.scope.names.lookup x = some .local := by first | exact .inl rfl | exact .inr rfl | assumption) : wpAny M A (storeName X.env x u) Q E s :=
  store_ok2 I hN hi hx r (fun s' I' _ => h s' I') hf
theorem Inv.call' {s' : Shared} {ch : List Addr} (I : Inv X pins σ H s) (ho : s'.os = s.os) (u : Un (frs X.stack) ch H H' s.heap s'.heap) (hok : HOk X.prog X.w H' s'.heap) (hg : AllBare s'.gens)
    (hch : ∀ b ∈ ch, (b ∈ X.ex ∨ X.s₀.heap.objs.size ≤ b) ∧ b ≠ X.env.locals ∧ (∀ x c, X.env.cells.lookup x = some c → c ≠ b) ∧ ∀ p ∈ X.pn ++ pins, p.1 ≠ b) : Inv X pins σ H' s' := by
  obtain ⟨h', g', d', t', o'⟩ := s'
  have e : o' = s.os := ho
  subst e
  exact I.call (g' := g') (t' := t') (d' := d') u hok hg hch
end
abbrev XK := Value → Option Addr → Hp → Prop
abbrev St := List (Option V)
abbrev VK := V → Hp → Prop
abbrev TE := St → Hp → VK → Prop
abbrev TT := St → Hp → (Bool → Hp → Prop) → Prop
abbrev TA := St → Hp → (List V → Hp → Prop) → Prop
structure Ends where
  nx : St → Hp → Prop
  rt : VK
  bk : St → Hp → Prop := fun _ _ => False
  ct : St → Hp → Prop := fun _ _ => False
abbrev TS := Ends → St → Hp → Prop
def EP (X : Cx) (pins : List (Addr × Obj)) (σ : St) (Q : VK) (u : Value) (s' : Shared) : Prop := ∃ v H', Inv X pins σ H' s' ∧ RelV v u ∧ Q v H'
def TP (X : Cx) (pins : List (Addr × Obj)) (σ : St) (Q : Bool → Hp → Prop) (b : Bool) (s' : Shared) : Prop := ∃ H', Inv X pins σ H' s' ∧ Q b H'
def AP (X : Cx) (pins : List (Addr × Obj)) (σ : St) (Q : List V → Hp → Prop) (us : List Value) (s' : Shared) : Prop := ∃ vs H', Inv X pins σ H' s' ∧ Vals vs us ∧ Q vs H'
def SP (X : Cx) (pins : List (Addr × Obj)) (D : Ends) (f : Flow) (s' : Shared) : Prop :=
  match f with
  | .next => ∃ σ' H', Inv X pins σ' H' s' ∧ D.nx σ' H'
  | .brk => ∃ σ' H', Inv X pins σ' H' s' ∧ D.bk σ' H'
  | .cont => ∃ σ' H', Inv X pins σ' H' s' ∧ D.ct σ' H'
  | .ret u => ∃ v σ' H', Inv X pins σ' H' s' ∧ RelV v u ∧ D.rt v H'
def PE (X : Cx) (e : Expr) (t : TE) : Prop :=
  ∀ (pins : List (Addr × Obj)) (s : Shared) (σ : St) (H : Hp) (Q : VK), Inv X pins σ H s → t σ H Q → wpAny (model X.prog X.w) X.A (eval e X.env) (EP X pins σ Q) X.xe s
def PT (X : Cx) (e : Expr) (t : TT) : Prop :=
  ∀ (pins : List (Addr × Obj)) (s : Shared) (σ : St) (H : Hp) (Q : Bool → Hp → Prop), Inv X pins σ H s → t σ H Q → wpAny (model X.prog X.w) X.A (isTrue e X.env (eval e X.env)) (TP X pins σ Q) X.xe s
def PW (X : Cx) (e : Expr) (t : TT) : Prop :=
  ∀ (whole : Sem Value) (pins : List (Addr × Obj)) (s : Shared) (σ : St) (H : Hp) (Q : Bool → Hp → Prop), Inv X pins σ H s → t σ H Q → wpAny (model X.prog X.w) X.A (isTrue e X.env whole) (TP X pins σ Q) X.xe s
theorem PW.pt {X : Cx} {e : Expr} {t : TT} (h : PW X e t) : PT X e t := h _
def PA (X : Cx) (es : List Expr) (t : TA) : Prop :=
  ∀ (pos : Pos) (pins : List (Addr × Obj)) (s : Shared) (σ : St) (H : Hp) (Q : List V → Hp → Prop), Inv X pins σ H s → t σ H Q → wpAny (model X.prog X.w) X.A (spliced (backTo pos (starEach es X.env))) (AP X pins σ Q) X.xe s
def PS (X : Cx) (st : Stmt) (t : TS) : Prop :=
  ∀ (pins : List (Addr × Obj)) (s : Shared) (σ : St) (H : Hp) (D : Ends), Inv X pins σ H s → t D σ H → wpAny (model X.prog X.w) X.A (exec st X.env) (SP X pins D) X.xe s
def PSs (X : Cx) (st : List Stmt) (t : TS) : Prop :=
  ∀ (pins : List (Addr × Obj)) (s : Shared) (σ : St) (H : Hp) (D : Ends), Inv X pins σ H s → t D σ H → wpAny (model X.prog X.w) X.A (execs st X.env) (SP X pins D) X.xe s
theorem thn {α : Type} {t : Sem α} {Q Q' : α → Shared → Prop} {M : Model} {A : Around} {E : Value → Shared → Prop} {s : Shared} (h : wpAny M A t Q E s) (hQ : ∀ a s, Q a s → Q' a s) : wpAny M A t Q' E s := wpAny_mono h hQ fun _ _ x => x
end L2
namespace L2
open PySem PySem.Spec PyProof.Rows
section
variable {X : Cx}
def tVar (i : Nat) : TE := fun σ H Q => ∃ v, σ[i]? = some (some v) ∧ Q v H
def tC (v : V) : TE := fun _ H Q => Q v H
theorem pe_var {i : Nat} {x : Str} {pos : Pos} (hN : X.N[i]? = some x) (hv : Vis X.env.scope x) (hd : (x == ("__debug__" : Str)) = false := by decide) (hcd : (x == ("__classdict__" : Str)) = false := by decide) : PE X (.Name x pos) (tVar i) := by
  intro pins s σ H Q I h
  obtain ⟨v, e, h⟩ := h
  obtain ⟨m, hn, hl⟩ := I.loc
  obtain ⟨u, r, l⟩ := hl i x v hN e hv
  have fin : EP X pins σ Q u s := ⟨v, H, I, r, h⟩
  rcases l with ⟨hk, hm⟩ | ⟨hk, c, hc, hcell⟩
  · exact wpAny_Name (wpAny_loadName_local I.ok.kind hk hn hm fin) hd
  · rcases hk with hk | hk
    · exact wpAny_Name (wpAny_loadName_cell I.ok.kind hk hc hcell fin) hd
    · exact wpAny_Name (wpAny_loadName_free I.ok.kind hk hc hcell fin hcd) hd
theorem pe_int {i j pos} : PE X (.Constant (.int i) j pos) (tC (.int i)) := fun _ _ _ H _ I h => wpAny_Constant_int ⟨.int i, H, I.tok _, ⟨_, rfl⟩, h⟩
theorem pe_bl {b j pos} : PE X (.Constant (.bool b) j pos) (tC (.bl b)) := fun _ _ _ H _ I h => Constant_bool ⟨.bl b, H, I, rfl, h⟩
theorem pe_non {j pos} : PE X (.Constant .none j pos) (tC .non) := fun _ _ _ H _ I h => Constant_none ⟨.non, H, I, rfl, h⟩
theorem pe_str {x j pos} : PE X (.Constant (.str x) j pos) (tC (.str x)) := fun _ _ _ H _ I h => Calls.Constant_str ⟨.str x, H, I.tok _, ⟨_, rfl⟩, h⟩
def Gl (X : Cx) (x : Str) : Prop := X.env.kindOf x = some .globalImplicit
theorem ld_glob {E : Value → Shared → Prop} {pins : List (Addr × Obj)} {s : Shared} {σ : St} {H : Hp} {x : Str} {u : Value} {pos : Pos} {Q : Value → Shared → Prop} (I : Inv X pins σ H s) (hg : Gl X x) (hm : X.mg x = some u) (h : Q u s)
    (hd : (x == ("__debug__" : Str)) = false := by decide) : wpAny (model X.prog X.w) X.A (eval (.Name x pos) X.env) Q E s :=
  Calls.Name_function_global I.ok.kind hg (Calls.loadGlobal_global (by rw [I.ok.glob]; exact I.mod.glob.keeps I.bk) hm h) hd
theorem ld_blt {E : Value → Shared → Prop} {pins : List (Addr × Obj)} {s : Shared} {σ : St} {H : Hp} {x : Str} {u : Value} {pos : Pos} {Q : Value → Shared → Prop} (I : Inv X pins σ H s) (hg : Gl X x) (hm : X.mg x = none) (hv : bootBuiltins x = some u) (h : Q u s)
    (hn : x ≠ "__name__" := by decide) (hd : (x == ("__debug__" : Str)) = false := by decide) : wpAny (model X.prog X.w) X.A (eval (.Name x pos) X.env) Q E s := by
  obtain ⟨mb, h1, h2⟩ := I.mod.blt
  exact Calls.Name_function_global I.ok.kind hg (Calls.loadGlobal_builtin (by rw [I.ok.glob]; exact I.mod.glob.keeps I.bk) hm (by rw [I.ok.blt]; exact h1.keeps I.bk) ((h2 x hn).trans hv) h) hd
theorem pe_glob {x : Str} {v : V} {u : Value} {pos : Pos} (hg : Gl X x) (hm : X.mg x = some u) (r : RelV v u) (hd : (x == ("__debug__" : Str)) = false := by decide) : PE X (.Name x pos) (tC v) :=
  fun _ _ _ H _ I h => ld_glob I hg hm ⟨v, H, I, r, h⟩ hd
theorem pe_bltn {x : Str} {v : V} {u : Value} {pos : Pos} (hg : Gl X x) (hm : X.mg x = none) (hv : bootBuiltins x = some u) (r : RelV v u) (hn : x ≠ "__name__" := by decide) (hd : (x == ("__debug__" : Str)) = false := by decide) : PE X (.Name x pos) (tC v) :=
  fun _ _ _ H _ I h => ld_blt I hg hm hv ⟨v, H, I, r, h⟩ hn hd
variable {a b : Expr} {ta tb : TE} {pos : Pos}
def PC (X : Cx) (op : CmpOp) (a b : Expr) (t : TE) : Prop :=
  ∀ (pins : List (Addr × Obj)) (s : Shared) (σ : St) (H : Hp) (Q : VK), Inv X pins σ H s → t σ H Q →
    wpAny (model X.prog X.w) X.A (eval a X.env) (fun v s₁ => wpAny (model X.prog X.w) X.A (eval b X.env) (fun u s₂ => wpAny (model X.prog X.w) X.A (compareOp op v u) (EP X pins σ Q) X.xe s₂) X.xe s₁) X.xe s
theorem nobehind (b : Expr) {op : CmpOp} (h : op ≠ .In) (h2 : op ≠ .NotIn) : behindInMarks op b = false := by
  have e1 : (op == CmpOp.In) = false := by cases op <;> first | rfl | exact absurd rfl h
  have e2 : (op == CmpOp.NotIn) = false := by cases op <;> first | rfl | exact absurd rfl h2
  cases b <;> simp [behindInMarks, e1, e2]
def tB (t : TE) : TT := fun σ H Q => t σ H fun x H1 => ∃ c, x = .bl c ∧ Q c H1
theorem pt_cmp {op : CmpOp} {t : TE} (h : PC X op a b t) (h1 : behindInMarks op b = false := by first | exact nobehind _ (by decide) (by decide) | rfl) : PT X (.Compare a [op] [b] pos) (tB t) := by
  intro pins s σ H Q I hw
  refine wpAny_isTrue_Compare1 (thn (h pins s σ H _ I hw) fun v s1 h1 => thn h1 fun u s2 h2 => thn h2 fun c s3 ⟨x, H1, I1, r1, q1⟩ => ?_) h1
  obtain ⟨d, rfl, q⟩ := q1
  cases r1
  exact wpAny_truthy_bool ⟨H1, I1, q⟩
theorem pt_val {e : Expr} {t : TE} (h : PE X e t) (he : ∀ whole, isTrue e X.env whole = (do let v ← whole; standAt e.pos; holding [v] (truthy v)) := by intro _; rfl) : PT X e (tB t) := by
  intro pins s σ H Q I hw
  refine isTrue_plain (thn (h pins s σ H _ I hw) fun v s1 ⟨x, H1, I1, r1, q1⟩ => ?_) (he _)
  obtain ⟨d, rfl, q⟩ := q1
  cases r1
  exact wpAny_truthy_bool ⟨H1, I1, q⟩
variable {tA tB' : TT} {rest : List Expr}
def tAnd (t u : TT) : TT := fun σ H Q => t σ H fun c H1 => if c = true then u σ H1 Q else Q false H1
def tOr (t u : TT) : TT := fun σ H Q => t σ H fun c H1 => if c = true then Q true H1 else u σ H1 Q
def tNot (t : TT) : TT := fun σ H Q => t σ H fun c H1 => Q (!c) H1
theorem pw_and1 (ha : PT X a tA) : PW X (.BoolOp .And [a] pos) tA := by
  intro wh pins s σ H Q I h
  refine isTrue_and (thn (ha pins s σ H Q I h) fun c s1 e => ?_)
  cases c with
  | true => exact isTrue_and_nil e
  | false => exact e
theorem pw_or1 (ha : PT X a tA) : PW X (.BoolOp .Or [a] pos) tA := by
  intro wh pins s σ H Q I h
  refine isTrue_or (thn (ha pins s σ H Q I h) fun c s1 e => ?_)
  cases c with
  | false => exact isTrue_or_nil e
  | true => exact e
theorem pw_and (ha : PT X a tA) (hb : PW X (.BoolOp .And (b :: rest) pos) tB') : PW X (.BoolOp .And (a :: b :: rest) pos) (tAnd tA tB') := by
  intro wh pins s σ H Q I h
  refine isTrue_and (thn (ha pins s σ H _ I h) fun c s1 ⟨H1, I1, q1⟩ => ?_)
  cases c with
  | true => exact hb wh pins s1 σ H1 Q I1 q1
  | false => exact ⟨H1, I1, q1⟩
theorem pw_or (ha : PT X a tA) (hb : PW X (.BoolOp .Or (b :: rest) pos) tB') : PW X (.BoolOp .Or (a :: b :: rest) pos) (tOr tA tB') := by
  intro wh pins s σ H Q I h
  refine isTrue_or (thn (ha pins s σ H _ I h) fun c s1 ⟨H1, I1, q1⟩ => ?_)
  cases c with
  | true => exact ⟨H1, I1, q1⟩
  | false => exact hb wh pins s1 σ H1 Q I1 q1
theorem pt_not (ha : PT X a tA) : PT X (.UnaryOp .Not a pos) (tNot tA) := by
  intro pins s σ H Q I h
  exact isTrue_not (ha pins s σ H (fun c H1 => Q (!c) H1) I h)
def tAndV (ta tb : TE) : TE := fun σ H Q => ta σ H fun x H1 => ∃ c, x = .bl c ∧ if c = true then tb σ H1 Q else Q (.bl false) H1
def tNotV (ta : TE) : TE := fun σ H Q => ta σ H fun x H1 => ∃ c, x = .bl c ∧ Q (.bl (!c)) H1
theorem pe_one {op} {t : TE} (h : PE X a t) : PE X (.BoolOp op [a] pos) t := fun pins s σ H Q I hw => BoolOp_one (h pins s σ H Q I hw)
theorem pe_and (ha : PE X a ta) (hb : PE X (.BoolOp .And (b :: rest) pos) tb) : PE X (.BoolOp .And (a :: b :: rest) pos) (tAndV ta tb) := by
  intro pins s σ H Q I h
  refine BoolOp_and (thn (ha pins s σ H _ I h) fun v s1 ⟨x, H1, I1, r1, q1⟩ => ?_)
  obtain ⟨c, rfl, q1⟩ := q1
  cases r1
  refine wpAny_truthy_bool ?_
  cases c with
  | true => exact hb pins s1 σ H1 Q I1 q1
  | false => exact ⟨.bl false, H1, I1, rfl, q1⟩
theorem pe_not (ha : PE X a ta) : PE X (.UnaryOp .Not a pos) (tNotV ta) := by
  intro pins s σ H Q I h
  refine UnaryOp_ (thn (ha pins s σ H _ I h) fun v s1 ⟨x, H1, I1, r1, q1⟩ => ?_)
  obtain ⟨c, rfl, q1⟩ := q1
  cases r1
  exact not_of (wpAny_truthy_bool ⟨.bl (!c), H1, I1, rfl, q1⟩)
def tIf (t : TT) (ta tb : TE) : TE := fun σ H Q => t σ H fun c H1 => if c = true then ta σ H1 Q else tb σ H1 Q
theorem pe_ifExp {c : Expr} (hc : PT X c tA) (ha : PE X a ta) (hb : PE X b tb) : PE X (.IfExp c a b pos) (tIf tA ta tb) := by
  intro pins s σ H Q I h
  refine wpAny_IfExp (thn (hc pins s σ H _ I h) fun d s1 ⟨H1, I1, q1⟩ => ?_)
  cases d with
  | true => exact ha pins s1 σ H1 Q I1 q1
  | false => exact hb pins s1 σ H1 Q I1 q1
end
end L2
namespace L2
open PySem PySem.Spec PyProof.Rows
def SqL (K : PySem.W.Frag) (H : Hp) (a : Addr) (xs : List V) : Prop :=
  Rd H a (.lst xs) ∨
    ∃ (o : Obj) (its : Array Value) (n : Nat), K.lookup a = some o ∧ o.cls = .type "list" ∧ o.dict = none ∧ o.data = .seq its n ∧ its.size ≤ sizeLine ∧ Vals xs its.toList
def SqT (K : PySem.W.Frag) (H : Hp) (a : Addr) (xs : List V) : Prop :=
  Rd H a (.tup xs) ∨
    ∃ (o : Obj) (its : Array Value) (n : Nat), K.lookup a = some o ∧ o.cls = .type "tuple" ∧ o.data = .seq its n ∧ its.size ≤ sizeLine ∧ Vals xs its.toList
def absV : Value → Option V
  | .none => some .non
  | .bool b => some (.bl b)
  | .int i _ => some (.int i)
  | .str x _ => some (.str x)
  | .bytes b _ => some (.byt b)
  | .float b _ => some (.flt b)
  | .ref a => some (.ref a)
  | .type n => some (.ty n)
  | _ => none
theorem RelV.abs {x : V} {u : Value} (r : RelV x u) : absV u = some x := by
  cases x with
  | non => cases r; rfl
  | bl _ => cases r; rfl
  | int _ => obtain ⟨t, rfl⟩ := r; rfl
  | str _ => obtain ⟨t, rfl⟩ := r; rfl
  | byt _ => obtain ⟨t, rfl⟩ := r; rfl
  | flt _ => obtain ⟨t, rfl⟩ := r; rfl
  | ref _ => cases r; rfl
  | ty _ => cases r; rfl
theorem RelV.inj {x y : V} {u : Value} (r : RelV x u) (q : RelV y u) : x = y := Option.some.inj (r.abs.symm.trans q.abs)
theorem Vals.inj : ∀ {xs ys : List V} {us : List Value}, Vals xs us → Vals ys us → xs = ys
  | _, _, _, .nil, .nil => rfl
  | _, _, _, .cons r t, .cons r' t' => by rw [r.inj r', Vals.inj t t']
section
variable {X : Cx} {pins : List (Addr × Obj)} {σ : St} {H : Hp} {s : Shared} {a : Addr} {xs ys : List V}
theorem SqL.of {K : PySem.W.Frag} (h : H a = some (.lst xs)) : SqL K H a xs := .inl (.inl h)
theorem SqT.of {K : PySem.W.Frag} (h : H a = some (.tup xs)) : SqT K H a xs := .inl (.inl h)
theorem Inv.list (I : Inv X pins σ H s) (h : SqL X.K H a xs) : ∃ its : List Value, Vals xs its ∧ PlainL s.heap a its.toArray ∧ xs.length ≤ sizeLine := by
  rcases h with h | ⟨o, its, n, hk, hc, hd, hs, hz, r⟩
  · obtain ⟨z, its, n, r, e⟩ := h.ok I.hok
    exact ⟨its, r, ⟨_, n, e, rfl, rfl, rfl⟩, z⟩
  · refine ⟨its.toList, r, ⟨o, n, I.kIn a o hk, hc, hd, by simpa using hs⟩, ?_⟩
    have e := r.length
    simp only [Array.length_toList] at e
    omega
theorem Inv.tuple (I : Inv X pins σ H s) (h : SqT X.K H a xs) : ∃ its : List Value, Vals xs its ∧ IsTup s.heap a its.toArray ∧ xs.length ≤ sizeLine := by
  rcases h with h | ⟨o, its, n, hk, hc, hs, hz, r⟩
  · obtain ⟨z, its, r, p⟩ := h.ok I.hok
    exact ⟨its, r, p, z⟩
  · refine ⟨its.toList, r, ⟨o, I.kIn a o hk, hc, n, by simpa using hs⟩, ?_⟩
    have e := r.length
    simp only [Array.length_toList] at e
    omega
theorem Inv.list_inj (I : Inv X pins σ H s) (h : SqL X.K H a xs) (h' : SqL X.K H a ys) : xs = ys := by
  obtain ⟨its, r, ⟨o, n, e, _, _, d⟩, _⟩ := I.list h
  obtain ⟨its', r', ⟨o', n', e', _, _, d'⟩, _⟩ := I.list h'
  rw [e] at e'; cases e'
  rw [d] at d'
  injection d' with d1 _
  have : its = its' := by simpa using congrArg Array.toList d1
  subst this
  exact r.inj r'
end
abbrev Cx.wish (X : Cx) (E : Value → Shared → Prop) : Cx := { X with xe := E }
abbrev Cx.nox (X : Cx) : Cx := X.wish fun _ _ => False
theorem Cx.Ok.wish {X : Cx} (ok : X.Ok) (E : Value → Shared → Prop) : (X.wish E).Ok :=
  ⟨ok.mod, ok.kind, ok.glob, ok.blt, ok.above, ok.inj, ok.has, ok.cab, ok.hd, ok.frames, ok.stk, ok.exf, ok.bs, ok.bsz, ok.noex, ok.exfs, ok.funs, ok.frf⟩
theorem Cx.Ok.unwish {X : Cx} {E : Value → Shared → Prop} (ok : (X.wish E).Ok) : X.Ok :=
  ⟨ok.mod, ok.kind, ok.glob, ok.blt, ok.above, ok.inj, ok.has, ok.cab, ok.hd, ok.frames, ok.stk, ok.exf, ok.bs, ok.bsz, ok.noex, ok.exfs, ok.funs, ok.frf⟩
section
variable {X : Cx} {pins : List (Addr × Obj)} {σ : St} {H : Hp} {s : Shared} {E : Value → Shared → Prop}
theorem Inv.wish (I : Inv X pins σ H s) (E : Value → Shared → Prop) : Inv (X.wish E) pins σ H s := ⟨I.ok.wish E, I.os, I.bare, I.base, I.loc, I.cell, I.free, I.freeC, I.pin, I.hok, I.len⟩
theorem Inv.unwish (I : Inv (X.wish E) pins σ H s) : Inv X pins σ H s := ⟨I.ok.unwish, I.os, I.bare, I.base, I.loc, I.cell, I.free, I.freeC, I.pin, I.hok, I.len⟩
theorem SP.unwish {D : Ends} {f : Flow} {s' : Shared} (h : SP (X.wish E) pins D f s') : SP X pins D f s' := by
  cases f with
  | next => obtain ⟨σ', H', I, q⟩ := h; exact ⟨σ', H', I.unwish, q⟩
  | brk => obtain ⟨σ', H', I, q⟩ := h; exact ⟨σ', H', I.unwish, q⟩
  | cont => obtain ⟨σ', H', I, q⟩ := h; exact ⟨σ', H', I.unwish, q⟩
  | ret u => obtain ⟨v, σ', H', I, r, q⟩ := h; exact ⟨v, σ', H', I.unwish, r, q⟩
theorem PE.nox {e : Expr} {t : TE} (h : PE X.nox e t) : PE X e t := fun pins s σ H Q I hw =>
  wpAny_mono (h pins s σ H Q (I.wish _) hw) (fun _ _ ⟨v, H', I', r, q⟩ => ⟨v, H', I'.unwish, r, q⟩) fun _ _ z => False.elim z
theorem PT.nox {e : Expr} {t : TT} (h : PT X.nox e t) : PT X e t := fun pins s σ H Q I hw =>
  wpAny_mono (h pins s σ H Q (I.wish _) hw) (fun _ _ ⟨H', I', q⟩ => ⟨H', I'.unwish, q⟩) fun _ _ z => False.elim z
theorem PSs.nox {st : List Stmt} {t : TS} (h : PSs X.nox st t) : PSs X st t := fun pins s σ H D I hw =>
  wpAny_mono (h pins s σ H D (I.wish _) hw) (fun _ _ q => q.unwish) fun _ _ z => False.elim z
end
section
variable {X : Cx} {st : Stmt} {rest : List Stmt} {t u : TS} {e : Expr} {te : TE} {pos : Pos}
def tNext : TS := fun D σ H => D.nx σ H
def tSeq (t u : TS) : TS := fun D σ H => t { D with nx := u D } σ H
theorem pss_nil : PSs X [] tNext := fun _ _ σ H _ I h => wpAny_execs_nil ⟨σ, H, I, h⟩
theorem pss_cons (h1 : PS X st t) (h2 : PSs X rest u) : PSs X (st :: rest) (tSeq t u) := by
  intro pins s σ H D I h
  refine wpAny_execs_cons (thn (h1 pins s σ H { D with nx := u D } I h) fun f s1 q => ?_)
  cases f with
  | next =>
    obtain ⟨σ', H', I', q⟩ := q
    exact h2 pins s1 σ' H' D I' q
  | ret v => exact q
  | brk => exact q
  | cont => exact q
theorem pss_one (h1 : PS X st t) : PSs X [st] t := by
  intro pins s σ H D I h
  refine wpAny_execs_cons (thn (h1 pins s σ H D I h) fun f s1 q => ?_)
  cases f with
  | next => exact wpAny_execs_nil q
  | ret v => exact q
  | brk => exact q
  | cont => exact q
theorem Inv.quiet {pins : List (Addr × Obj)} {σ : St} {H : Hp} {s : Shared} (I : Inv X pins σ H s) : interactive X.env = false := by simp [interactive, I.ok.kind]
def tDrop (te : TE) : TS := fun D σ H => te σ H fun _ H1 => D.nx σ H1
theorem ps_expr (he : PE X e te) (hs : swapsWith e none pos.line X.env = pure false := by rfl) : PS X (.Expr e pos) (tDrop te) := by
  intro pins s σ H D I h
  exact wpAny_Expr_any (thn (he pins s σ H _ I h) fun v s1 ⟨x, H1, I1, r1, q1⟩ => ⟨σ, H1, I1, q1⟩) I.quiet hs
def tRet (te : TE) : TS := fun D σ H => te σ H D.rt
theorem ps_ret (he : PE X e te) : PS X (.Return (some e) pos) (tRet te) := by
  intro pins s σ H D I h
  exact wpAny_Return_some (thn (he pins s σ H _ I h) fun v s1 ⟨x, H1, I1, r1, q1⟩ => ⟨x, σ, H1, I1, r1, q1⟩)
def tIfS (c : TT) (t u : TS) : TS := fun D σ H => c σ H fun b H1 => if b = true then t D σ H1 else u D σ H1
theorem ps_if {c : Expr} {a b : List Stmt} {tc : TT} (hc : PT X c tc) (ha : PSs X a t) (hb : PSs X b u) : PS X (.If c a b pos) (tIfS tc t u) := by
  intro pins s σ H D I h
  refine wpAny_If (thn (hc pins s σ H _ I h) fun d s1 ⟨H1, I1, q1⟩ => ?_)
  cases d with
  | true => exact ha pins s1 σ H1 D I1 q1
  | false => exact hb pins s1 σ H1 D I1 q1
end
abbrev TG := V → St → Hp → (St → Hp → Prop) → Prop
abbrev TGs := List V → St → Hp → (St → Hp → Prop) → Prop
def PG (X : Cx) (target : Expr) (t : TG) : Prop :=
  ∀ (pins : List (Addr × Obj)) (s : Shared) (σ : St) (H : Hp) (v : V) (u : Value) (Q : St → Hp → Prop), Inv X pins σ H s → RelV v u → t v σ H Q →
    wpAny (model X.prog X.w) X.A (assign target X.env u) (fun _ s' => ∃ σ' H', Inv X pins σ' H' s' ∧ Q σ' H') X.xe s
def PGs (X : Cx) (ts : List Expr) (t : TGs) : Prop :=
  ∀ (pins : List (Addr × Obj)) (s : Shared) (σ : St) (H : Hp) (vs : List V) (us : List Value) (Q : St → Hp → Prop), Inv X pins σ H s → Vals vs us → t vs σ H Q →
    wpAny (model X.prog X.w) X.A (assignInOrder ((assignEach ts X.env).map (·.2)) us) (fun _ s' => ∃ σ' H', Inv X pins σ' H' s' ∧ Q σ' H') X.xe s
abbrev TSet := V → V → V → Hp → (Hp → Prop) → Prop
def PSet (X : Cx) (t : TSet) : Prop :=
  ∀ (pins : List (Addr × Obj)) (s : Shared) (σ : St) (H : Hp) (o i v : V) (ov iv u : Value) (Q : Hp → Prop), Inv X pins σ H s → RelV o ov → RelV i iv → RelV v u → t o i v H Q →
    wpAny (model X.prog X.w) X.A (setItem ov iv u) (fun _ s' => ∃ H', Inv X pins σ H' s' ∧ Q H') X.xe s
section
variable {X : Cx} {pos : Pos}
def gName (i : Nat) : TG := fun v σ H Q => Q (σ.set i (some v)) H
theorem pg_name {i : Nat} {x : Str} (hN : X.N.Nodup) (hi : X.N[i]? = some x) (hx : Loc X.env.scope x) (hf : X.fn x = true ∨ X.env.scope.names.lookup x = some .local := by first | exact .inl rfl | exact .inr rfl | assumption) : PG X (.Name x pos) (gName i) := by
  intro pins s σ H v u Q I r h
  exact wpAny_assign_Name (store_ok I hN hi hx r (fun s' I' => ⟨_, H, I', h⟩) hf)
def gNil : TGs := fun vs σ H Q => vs = [] ∧ Q σ H
def gCons (t : TG) (u : TGs) : TGs := fun vs σ H Q => ∃ v r, vs = v :: r ∧ t v σ H fun σ' H' => u r σ' H' Q
theorem pgs_nil : PGs X [] gNil := by
  intro pins s σ H vs us Q I r h
  obtain ⟨e, h⟩ := h
  subst e
  cases r
  exact assignInOrder_nil ⟨σ, H, I, h⟩
theorem pgs_cons {e : Expr} {es : List Expr} {t : TG} {u : TGs} (h1 : PG X e t) (h2 : PGs X es u)
    (hs : (assignEach (e :: es) X.env).map (·.2) = assign e X.env :: (assignEach es X.env).map (·.2) := by rfl) : PGs X (e :: es) (gCons t u) := by
  intro pins s σ H vs us Q I r h
  obtain ⟨v, vr, e1, h⟩ := h
  subst e1
  cases r with
  | cons r rr =>
    rw [hs]
    refine assignInOrder_cons (thn (h1 pins s σ H _ _ _ I r h) fun _ s1 ⟨σ1, H1, I1, q1⟩ => ?_)
    exact h2 pins s1 σ1 H1 _ _ Q I1 rr q1
def gTup (K : PySem.W.Frag) (n : Nat) (t : TGs) : TG := fun v σ H Q => ∃ a xs, v = .ref a ∧ SqT K H a xs ∧ xs.length = n ∧ t xs σ H Q
theorem pg_tup {es : List Expr} {k : Nat} {t : TGs} {n : Nat} (hc : X.calm = true) (h : PGs X es t)
    (hn : (assignEach es X.env).length = n := by rfl) (hst : (assignEach es X.env).findIdx? (·.1) = none := by rfl) : PG X (.Tuple es k pos) (gTup X.K n t) := by
  intro pins s σ H v u Q I r hw
  obtain ⟨a, xs, e1, hq, hl, hw⟩ := hw
  subst e1
  cases r
  obtain ⟨its, rv, ht, hz⟩ := I.tuple hq
  refine assign_Tuple_tuple (I.ok.hd hc) ht (by simp [hn, ← hl, rv.length]) hst fun h' hx => ?_
  have I1 : Inv X pins σ H { s with heap := h' } := I.kept (t' := s.toks) fun b o e => hx b o (Nat.ne_of_lt (Heap.lt_size e)) e
  exact h pins _ σ H xs _ Q I1 (by simpa using rv) hw
def gSub (to ti : TE) (t : TSet) : TG := fun v σ H Q => to σ H fun o H1 => ti σ H1 fun i H2 => t o i v H2 fun H3 => Q σ H3
theorem pg_sub {o i : Expr} {to ti : TE} {t : TSet} (ho : PE X o to) (hi : PE X i ti) (hs : PSet X t)
    (ha : ∀ v, assign (.Subscript o i pos) X.env v = (do
      let ov ← holding [v] (eval o X.env)
      let iv ← holding [v, ov] (eval i X.env)
      standAt pos
      holding [v, ov, iv] (setItem ov iv v)
      release [v, ov, iv] []) := by intro _; rfl) : PG X (.Subscript o i pos) (gSub to ti t) := by
  intro pins s σ H v u Q I r h
  rw [ha]
  refine wpAny_bind (wpAny_holding (thn (ho pins s σ H _ I h) fun ov s1 ⟨x, H1, I1, r1, q1⟩ => ?_))
  refine wpAny_bind (wpAny_holding (thn (hi pins s1 σ H1 _ I1 q1) fun iv s2 ⟨y, H2, I2, r2, q2⟩ => ?_))
  refine wpAny_bind (wpAny_standAt (wpAny_bind (wpAny_holding (thn (hs pins s2 σ H2 x y v ov iv u _ I2 r1 r2 r q2) fun _ s3 ⟨H3, I3, q3⟩ => ?_))))
  exact wpAny_release ⟨σ, H3, I3, q3⟩
def tAsg (te : TE) (g : TG) : TS := fun D σ H => te σ H fun x H1 => g x σ H1 D.nx
theorem ps_asg {tg e : Expr} {te : TE} {g : TG} (he : PE X e te) (hg : PG X tg g) (hs : swapsWithSole [tg] e pos.line X.env = pure false := by rfl) (hw : swappedStores [tg] e X.env = pure none := by rfl)
    (h1 : (assignEach [tg] X.env).map (·.2) = [assign tg X.env] := by rfl) : PS X (.Assign [tg] e pos) (tAsg te g) := by
  intro pins s σ H D I h
  refine wpAny_Assign_stores (thn (he pins s σ H _ I h) fun v s1 ⟨x, H1, I1, r1, q1⟩ => ?_) hs hw
  rw [h1]
  exact thn (hg pins s1 σ H1 x v _ I1 r1 q1) fun _ s2 q => q
theorem ps_set {i : Nat} {x : Str} {e : Expr} {te : TE} {pos' : Pos} (hN : X.N.Nodup) (hi : X.N[i]? = some x) (hx : Loc X.env.scope x) (he : PE X e te) (hs : swapsWith e (some (.Name x pos')) pos.line X.env = pure false := by rfl) (hf : X.fn x = true ∨ X.env.scope.names.lookup x = some .local := by first | exact .inl rfl | exact .inr rfl | assumption) :
    PS X (.Assign [.Name x pos'] e pos) (tAsg te (gName i)) := by
  intro pins s σ H D I h
  refine wpAny_Assign_Name (thn (he pins s σ H _ I h) fun v s1 ⟨y, H1, I1, r1, q1⟩ => ?_) hs
  exact store_ok I1 hN hi hx r1 (fun s2 I2 => ⟨_, H1, I2, q1⟩) hf
end
section
variable {X : Cx} {pos : Pos}
def tWhile (c : TT) (tb : TS) : TS := fun D σ H => ∃ W : Nat → St → Hp → Prop, (∃ m, W m σ H) ∧ ∀ m σ H, W m σ H →
  c σ H fun b H1 => if b = true then ∃ N : St → Hp → Prop, (∀ σ' H', N σ' H' → ∃ m', m' < m ∧ W m' σ' H') ∧ tb { D with nx := N, ct := N, bk := D.nx } σ H1 else D.nx σ H1
theorem ps_while {c : Expr} {body : List Stmt} {tc : TT} {tb : TS} (hp : PassesOwn (model X.prog X.w) X.A X.env X.xe) (hc : PT X c tc) (hb : PSs X body tb) : PS X (.While c body [] pos) (tWhile tc tb) := by
  intro pins s σ H D I h
  obtain ⟨W, ⟨m0, w0⟩, turn⟩ := h
  refine wpAny_While (codeAny_whileLoop (fun n s' => ∃ σ' H', Inv X pins σ' H' s' ∧ W n σ' H') ?_ m0 ⟨σ, H, I, w0⟩)
  rintro n s1 ⟨σ1, H1, I1, w1⟩
  refine wpAny_passesOwn hp (thn (hc pins s1 σ1 H1 _ I1 (turn n σ1 H1 w1)) fun b s2 ⟨H2, I2, q2⟩ => ?_)
  cases b with
  | true =>
    obtain ⟨N, hN, q2⟩ := q2
    rw [if_pos rfl]
    refine wpAny_passesOwn hp (thn (hb pins s2 σ1 H2 _ I2 q2) fun f s3 q3 => ?_)
    cases f with
    | next =>
      obtain ⟨σ3, H3, I3, n3⟩ := q3
      obtain ⟨m', hm, w3⟩ := hN σ3 H3 n3
      exact ⟨m', hm, σ3, H3, I3, w3⟩
    | cont =>
      obtain ⟨σ3, H3, I3, n3⟩ := q3
      obtain ⟨m', hm, w3⟩ := hN σ3 H3 n3
      exact ⟨m', hm, σ3, H3, I3, w3⟩
    | brk => exact q3
    | ret v => exact q3
  | false =>
    rw [if_neg Bool.false_ne_true]
    exact wpAny_execs_nil ⟨σ1, H2, I2, q2⟩
end
structure It where
  go : Nat → Hp → Prop
  yld : Nat → Hp → V → Hp → Prop
  stop : Nat → Hp → Prop
def FpOk (X : Cx) (pins : List (Addr × Obj)) (H : Hp) (b : Addr) : Prop :=
  H b = none ∧ b ≠ X.env.locals ∧ b ∉ X.fs ∧ (b ∈ X.ex ∨ X.s₀.heap.objs.size ≤ b) ∧ (∀ x c, X.env.cells.lookup x = some c → c ≠ b) ∧ ∀ p ∈ X.pn ++ pins, p.1 ≠ b
theorem Inv.fpOk {X : Cx} {pins : List (Addr × Obj)} {σ : St} {H H' : Hp} {s : Shared} {b : Addr} (I : Inv X pins σ H s) (hb : s.heap.objs.size ≤ b) (hn : H' b = none) : FpOk X pins H' b := by
  refine ⟨hn, Nat.ne_of_gt (Nat.lt_of_lt_of_le I.lt hb), I.nofs hb, .inr (Nat.le_trans I.sz hb), fun x c e z => ?_, fun p hp z => ?_⟩
  · obtain ⟨v, q⟩ := I.cell x c e
    exact absurd (Nat.lt_of_lt_of_le q.lt (by rw [z]; exact hb)) (Nat.lt_irrefl _)
  · exact absurd (Nat.lt_of_lt_of_le (Heap.lt_size (I.pin p hp).1) (by rw [z]; exact hb)) (Nat.lt_irrefl _)
structure Turn (P : Program) (w : World) (K : PySem.W.Frag) (tg : Expr) (J : It) (fp : List Addr) (it : Addr) (tn : Nat → Heap → Prop) : Prop where
  mem : it ∈ fp
  obj : ∀ i h, tn i h → ∀ b ∈ fp, ∃ o, h.get? b = some o ∧ ∀ v, o.data ≠ .cell v
  keep : ∀ i h h', tn i h → (∀ b ∈ fp, ∀ o, h.get? b = some o → h'.get? b = some o) → tn i h'
  item : ∀ (X : Cx), X.prog = P → X.w = w → X.K = K → X.calm = true → ∀ (i : Nat) (pins : List (Addr × Obj)) (s : Shared) (σ : St) (H : Hp) (E : Value → Shared → Prop), Inv X pins σ H s → (∀ b ∈ fp, FpOk X pins H b) → tn i s.heap → J.go i H →
    wpAny (model P w) X.A (pyNext (.ref it)) (fun r s1 => ∃ u, r = some u ∧
      wpAny (model P w) X.A (letOwnedTupleGo tg (.ref it) u) (fun _ s2 => ∃ x H', Inv X pins σ H' s2 ∧ RelV x u ∧ J.yld i H x H' ∧ tn (i + 1) s2.heap ∧ ∀ b ∈ fp, H' b = none) E s1) E s
  done : ∀ (X : Cx), X.prog = P → X.w = w → X.K = K → X.calm = true → ∀ (i : Nat) (pins : List (Addr × Obj)) (s : Shared) (σ : St) (H : Hp) (E : Value → Shared → Prop), Inv X pins σ H s → (∀ b ∈ fp, FpOk X pins H b) → tn i s.heap → J.stop i H →
    wpAny (model P w) X.A (pyNext (.ref it)) (fun r s1 => r = none ∧ Inv X pins σ H s1) E s
  self : ∀ (A : Around) (i : Nat) (s : Shared) (Q : Value → Shared → Prop) (E : Value → Shared → Prop), tn i s.heap → Q (.ref it) s → wpAny (model P w) A (pyIter (.ref it)) Q E s
abbrev TI := St → Hp → (It → Hp → Prop) → Prop
def PIE (X : Cx) (pins : List (Addr × Obj)) (σ : St) (tg : Expr) (R : It → Hp → Prop) (itv : Value) (s2 : Shared) : Prop :=
  ∃ (it : Addr) (fp : List Addr) (tn : Nat → Heap → Prop) (J : It) (H' : Hp), itv = .ref it ∧ Inv X pins σ H' s2 ∧ Turn X.prog X.w X.K tg J fp it tn ∧ tn 0 s2.heap ∧ (∀ b ∈ fp, FpOk X pins H' b) ∧ R J H'
def PI (X : Cx) (tg iter : Expr) (wi : TI) : Prop :=
  ∀ (pins : List (Addr × Obj)) (s : Shared) (σ : St) (H : Hp) (R : It → Hp → Prop), Inv X pins σ H s → wi σ H R →
    wpAny (model X.prog X.w) X.A (eval iter X.env) (fun v s1 => wpAny (model X.prog X.w) X.A (pyIter v) (PIE X pins σ tg R) X.xe s1) X.xe s
theorem go_of {M : Model} {A : Around} {E : Value → Shared → Prop} {s : Shared} {tg : Expr} {it : Addr} {u : Value} {o : Obj} {n : String} {vs : Array Value} {Q : Unit → Shared → Prop} (ho : s.heap.get? it = some o) (hc : o.cls = .type n) (hd : o.data = .fields vs)
    (hn : ["enumerate", "zip", "dict_itemiterator", "dict_reverseitemiterator", "odict_iterator", "itertools.zip_longest", "itertools.pairwise"].contains n = false) (hQ : Q () s) : wpAny M A (letOwnedTupleGo tg (.ref it) u) Q E s := by
  unfold letOwnedTupleGo
  cases tg <;> first
    | exact wpAny_pure hQ
    | (cases u <;> first
        | exact wpAny_pure hQ
        | (refine wpAny_bind (wpAny_load ho ?_)
           rw [hc, hd]
           show wpAny M A (if (["enumerate", "zip", "dict_itemiterator", "dict_reverseitemiterator", "odict_iterator", "itertools.zip_longest", "itertools.pairwise"].contains n && vs[0]? == some (rawInt _)) = true then _ else _) Q E s
           rw [if_neg (by intro h; rw [hn, Bool.false_and] at h; cases h)]
           exact wpAny_pure hQ))
def Itl (K : PySem.W.Frag) (a : Addr) : It :=
  ⟨fun i H => ∃ xs x, SqL K H a xs ∧ xs[i]? = some x, fun i H x H' => H' = H ∧ ∀ xs, SqL K H a xs → xs[i]? = some x, fun i H => ∃ xs, SqL K H a xs ∧ xs.length ≤ i⟩
def Itr (lo : Int) (n : Nat) : It := ⟨fun i _ => i < n, fun i H x H' => H' = H ∧ x = .int (lo + i), fun i _ => n ≤ i⟩
theorem turn_list {P : Program} {w : World} {K : PySem.W.Frag} {tg : Expr} (a it : Addr) : Turn P w K tg (Itl K a) [it] it (fun i h => h.IsListIter it a i) where
  mem := by simp
  obj := fun i h st b hb => by
    have e : b = it := by simpa using hb
    subst e
    obtain ⟨o, e, c, d⟩ := st
    exact ⟨o, e, fun v z => by rw [d] at z; cases z⟩
  keep := fun i h h' st k => st.at fun o e => k it (by simp) o e
  item := by
    intro X hP hw hK hc i pins s σ H E I hf st hg
    subst hP hw hK
    obtain ⟨xs, x, hq, hx⟩ := hg
    obtain ⟨its, rv, p, hz⟩ := I.list hq
    obtain ⟨u, hu, ru⟩ := rv.get hx
    obtain ⟨f0, f1, f2, f3, f4, f5⟩ := hf it (by simp)
    refine wpAny_pyNext_list_item st p.isList (x := u) (by simpa using hu) fun h' st' sb => ?_
    have I1 : Inv X pins σ H { s with heap := h' } := I.turned (t' := s.toks) (fun b o hb e => (sb.2 b hb).trans e) f0 f1 f3 f4 f5
    obtain ⟨o, e, c, d⟩ := id st'
    exact ⟨u, rfl, go_of (s := { s with heap := h' }) e c d (by decide) ⟨x, H, I1, ru, ⟨rfl, fun ys hy => by rw [I.list_inj hy hq]; exact hx⟩, st', fun b hb => (hf b hb).1⟩⟩
  done := by
    intro X hP hw hK hc i pins s σ H E I hf st hg
    subst hP hw hK
    obtain ⟨xs, hq, hx⟩ := hg
    obtain ⟨its, rv, p, hz⟩ := I.list hq
    obtain ⟨f0, f1, f2, f3, f4, f5⟩ := hf it (by simp)
    have hl := rv.length
    exact wpAny_pyNext_list_end (I.ok.hd hc) st p.isList (by simp; omega) fun h' eb => ⟨rfl, I.turned (t' := s.toks) (fun b o hb e => eb b o hb e) f0 f1 f3 f4 f5⟩
  self := fun _ _ _ _ _ st h => wpAny_pyIter_listiter st h
theorem turn_range {P : Program} {w : World} {K : PySem.W.Frag} {tg : Expr} (it : Addr) (lo : Int) (n : Nat) : Turn P w K tg (Itr lo n) [it] it (fun i h => IsRangeIter h it (lo + (i : Nat) * 1) ((n : Int) - (i : Nat)) 1) where
  mem := by simp
  obj := fun i h st b hb => by
    have e : b = it := by simpa using hb
    subst e
    exact ⟨_, st, fun v z => by
      have z' : Data.fields _ = Data.cell v := z
      cases z'⟩
  keep := fun i h h' st k => k it (by simp) _ st
  item := by
    intro X hP hw hK hc i pins s σ H E I hf st hg
    subst hP hw hK
    obtain ⟨f0, f1, f2, f3, f4, f5⟩ := hf it (by simp)
    have W := Walks.range (prog := X.prog) (w := X.w) (I.ok.hd hc) it lo 1 n
    refine W.item i s _ _ hg st fun v h' tk hv st' kk => ?_
    obtain ⟨t, rfl⟩ := hv
    have I1 : Inv X pins σ H { s with heap := h', toks := tk } := I.turned (fun b o hb e => kk b o (by simpa using hb) e) f0 f1 f3 f4 f5
    refine ⟨_, rfl, go_of (s := { s with heap := h', toks := tk }) (n := "range_iterator") st' rfl rfl (by decide) ⟨.int (lo + i), H, I1, ⟨t, ?_⟩, ⟨rfl, rfl⟩, st', fun b hb => (hf b hb).1⟩⟩
    rw [Int.mul_one]
  done := by
    intro X hP hw hK hc i pins s σ H E I hf st hg
    subst hP hw hK
    obtain ⟨f0, f1, f2, f3, f4, f5⟩ := hf it (by simp)
    exact wpAny_pyNext_range_end (I.ok.hd hc) st (by have : n ≤ i := hg; omega) fun h' eb => ⟨rfl, I.turned (t' := s.toks) (fun b o hb e => eb b o hb e) f0 f1 f3 f4 f5⟩
  self := fun _ _ _ _ _ st h => wpAny_pyIter_rangeiter st h
end L2
namespace L2
open PySem PySem.Spec PyProof.Rows
section
variable {X : Cx} {tg : Expr}
def iList (K : PySem.W.Frag) (tl : TE) : TI := fun σ H R => tl σ H fun x H1 => ∃ a, x = .ref a ∧ (∃ xs, SqL K H1 a xs) ∧ R (Itl K a) H1
theorem pi_list {l : Expr} {tl : TE} (hl : PE X l tl) : PI X tg l (iList X.K tl) := by
  intro pins s σ H R I h
  refine thn (hl pins s σ H _ I h) fun v s1 ⟨x, H1, I1, r1, q1⟩ => ?_
  obtain ⟨a, e, ⟨xs, hq⟩, q⟩ := q1
  subst e
  cases r1
  obtain ⟨its, rv, p, hz⟩ := I1.list hq
  refine wpAny_pyIter_list p.isList ?_
  refine ⟨s1.heap.objs.size, [s1.heap.objs.size], _, _, H1, rfl, I1.kept (t' := s1.toks) fun b o e => Heap.get?_push_of_some _ e, turn_list a _, ⟨_, Heap.get?_push_size _ rfl, rfl, rfl⟩, fun b hb => ?_, q⟩
  have e : b = s1.heap.objs.size := by simpa using hb
  subst e
  exact I1.fpOk (Nat.le_refl _) (I1.hok.fresh (Nat.le_refl _))
theorem range_it {pins : List (Addr × Obj)} {σ : St} {H : Hp} {s : Shared} {R : It → Hp → Prop} {E : Value → Shared → Prop} {lo hi : Int} {t u v : Tok} {tk : Nat} (I : Inv X pins σ H s) (h1 : -(2 ^ 62) ≤ lo) (h2 : lo < 2 ^ 62) (h3 : -(2 ^ 62) ≤ hi) (h4 : hi < 2 ^ 62)
    (q : R (Itr lo (hi - lo).toNat) H) : wpAny (model X.prog X.w) X.A (pyIter (.ref s.heap.objs.size)) (PIE X pins σ tg R) E { s with heap := s.heap.push { cls := .type "range", data := .fields #[.int lo t, .int hi u, .int 1 v] }, toks := tk } := by
  refine wpAny_pyIter_range (IsRange.new ..) (small_one h1 h2 h3 h4) ?_
  have I1 : Inv X pins σ H { s with heap := s.heap.push { cls := .type "range", data := .fields #[.int lo t, .int hi u, .int 1 v] }, toks := tk } := I.kept fun b o e => Heap.get?_push_of_some _ e
  refine ⟨(s.heap.push { cls := .type "range", data := .fields #[.int lo t, .int hi u, .int 1 v] }).objs.size, [(s.heap.push { cls := .type "range", data := .fields #[.int lo t, .int hi u, .int 1 v] }).objs.size], _, _, H, rfl,
    I1.kept (t' := tk) fun b o e => Heap.get?_push_of_some _ e, turn_range _ lo (hi - lo).toNat, ?_, fun b hb => ?_, q⟩
  · have e1 : lo + ((0 : Nat) : Int) * 1 = lo := by simp
    have e2 : (((hi - lo).toNat : Nat) : Int) - ((0 : Nat) : Int) = Builtin.Range.rangeSize lo hi 1 := by rw [rangeSize_one]; split <;> omega
    show IsRangeIter _ _ (lo + ((0 : Nat) : Int) * 1) ((((hi - lo).toNat : Nat) : Int) - ((0 : Nat) : Int)) 1
    rw [e1, e2]
    exact Heap.get?_push_size _ rfl
  · have e : b = (s.heap.push { cls := .type "range", data := .fields #[.int lo t, .int hi u, .int 1 v] }).objs.size := by simpa using hb
    subst e
    exact I1.fpOk (Nat.le_refl _) (I1.hok.fresh (Nat.le_refl _))
def iRng1 (ta : TA) : TI := fun σ H R => ta σ H fun vs H1 => ∃ j : Int, vs = [.int j] ∧ -(2 ^ 62) ≤ j ∧ j < 2 ^ 62 ∧ R (Itr 0 j.toNat) H1
def iRng2 (ta : TA) : TI := fun σ H R => ta σ H fun vs H1 => ∃ i j : Int, vs = [.int i, .int j] ∧ (-(2 ^ 62) ≤ i ∧ i < 2 ^ 62 ∧ -(2 ^ 62) ≤ j ∧ j < 2 ^ 62) ∧ R (Itr i (j - i).toNat) H1
theorem pi_range1 {a : Expr} {ta : TA} {p pos : Pos} (hg : Gl X "range") (hm : X.mg "range" = none) (ha : PA X [a] ta) (hs : starEach [a] X.env = [(false, eval a X.env)] := by rfl) : PI X tg (.Call (.Name "range" p) [a] [] pos) (iRng1 ta) := by
  intro pins s σ H R I h
  refine Call_ (ld_blt I hg hm boot_range (PyProof.Rows.callWith_type1 (thn (ha pos pins s σ H _ I h) fun us s1 ⟨vs, H1, I1, r1, q1⟩ => ?_) hs rfl))
  obtain ⟨j, e, q1, q2, q⟩ := q1
  subst e
  cases r1 with
  | cons r rr =>
    cases rr
    obtain ⟨t, rfl⟩ := r
    exact call_range_1 (range_it I1 (by omega) (by omega) q1 q2 (by simpa using q))
theorem pi_range2 {a b : Expr} {ta : TA} {p pos : Pos} (hg : Gl X "range") (hm : X.mg "range" = none) (ha : PA X [a, b] ta) (hs : starEach [a, b] X.env = [(false, eval a X.env), (false, eval b X.env)] := by rfl) (hs2 : starEach [b] X.env = [(false, eval b X.env)] := by rfl) :
    PI X tg (.Call (.Name "range" p) [a, b] [] pos) (iRng2 ta) := by
  intro pins s σ H R I h
  refine Call_ (ld_blt I hg hm boot_range (PyProof.Rows.callWith_type1 (thn (ha pos pins s σ H _ I h) fun us s1 ⟨vs, H1, I1, r1, q1⟩ => ?_) (by rw [hs, hs2]) (by rw [hs2]; rfl)))
  obtain ⟨i, j, e, ⟨q1, q2, q3, q4⟩, q⟩ := q1
  subst e
  cases r1 with
  | cons r rr =>
    cases rr with
    | cons r' rr =>
      cases rr
      obtain ⟨t, rfl⟩ := r
      obtain ⟨t', rfl⟩ := r'
      exact call_range_2 (range_it I1 q1 q2 q3 q4 q)
def tFor (wi : TI) (g : TG) (tb : TS) : TS := fun D σ H => wi σ H fun J H1 => ∃ W : Nat → Nat → St → Hp → Prop, (∃ m, W 0 m σ H1) ∧ ∀ i m σ H, W i m σ H →
  (J.stop i H ∧ D.nx σ H) ∨ (J.go i H ∧ ∃ N : St → Hp → Prop, (∀ σ' H', N σ' H' → ∃ m', m' < m ∧ W (i + 1) m' σ' H') ∧ ∀ x H', J.yld i H x H' → g x σ H' fun σ2 H2 => tb { D with nx := N, ct := N, bk := D.nx } σ2 H2)
def pinsAt (fp : List Addr) (h : Heap) : List (Addr × Obj) := fp.filterMap fun b => (h.get? b).map fun o => (b, o)
theorem mem_pinsAt {fp : List Addr} {h : Heap} {b : Addr} {o : Obj} (hb : b ∈ fp) (e : h.get? b = some o) : (b, o) ∈ pinsAt fp h := List.mem_filterMap.mpr ⟨b, hb, by rw [e]; rfl⟩
theorem of_pinsAt {fp : List Addr} {h : Heap} {p : Addr × Obj} (hp : p ∈ pinsAt fp h) : p.1 ∈ fp ∧ h.get? p.1 = some p.2 := by
  obtain ⟨b, hb, e⟩ := List.mem_filterMap.mp hp
  cases q : h.get? b with
  | none => rw [q] at e; cases e
  | some o =>
    rw [q] at e
    have e' : (b, o) = p := Option.some.inj e
    subst e'
    exact ⟨hb, q⟩
theorem Inv.pinned {pins : List (Addr × Obj)} {σ : St} {H : Hp} {s : Shared} {fp : List Addr} (I : Inv X pins σ H s) (hf : ∀ b ∈ fp, FpOk X pins H b) (ho : ∀ b ∈ fp, ∃ o, s.heap.get? b = some o ∧ ∀ v, o.data ≠ .cell v) : Inv X (pins ++ pinsAt fp s.heap) σ H s :=
  I.pins_of fun p hp => (List.mem_append.mp hp).elim (fun z => I.pin p (List.mem_append_right _ z)) fun z => by
    obtain ⟨hb, e⟩ := of_pinsAt z
    obtain ⟨f0, f1, f2, _⟩ := hf p.1 hb
    obtain ⟨o, e', d⟩ := ho p.1 hb
    rw [e] at e'; cases e'
    exact ⟨e, f0, f1, f2, d⟩
theorem Inv.unpinned {pins pl : List (Addr × Obj)} {σ : St} {H : Hp} {s : Shared} (I : Inv X (pins ++ pl) σ H s) : Inv X pins σ H s := I.pins_of fun p hp => I.pin p (List.mem_append_right _ (List.mem_append_left _ hp))
theorem ps_for {iter : Expr} {body : List Stmt} {wi : TI} {g : TG} {tb : TS} {pos : Pos} (hp : PassesOwn (model X.prog X.w) X.A X.env X.xe) (hc : X.calm = true) (hi : PI X tg iter wi) (hg : PG X tg g) (hb : PSs X body tb)
    (hs : ∀ x, foldedSetIterable iter X.env x = pure x := by intro _; rfl) : PS X (.For tg iter body [] pos) (tFor wi g tb) := by
  intro pins s σ H D I h
  refine wpAny_For (thn (hi pins s σ H _ I h) fun v s1 h1 => thn h1 fun itv s2 h2 => ?_) hs
  obtain ⟨it, fp, tn, J, H2, e, I2, T, st2, f2, W, ⟨m0, w0⟩, turn⟩ := h2
  subst e
  have stat : ∀ {H' : Hp}, (∀ b ∈ fp, H' b = none) → ∀ b ∈ fp, FpOk X pins H' b := fun hn b hb => ⟨hn b hb, (f2 b hb).2⟩
  refine codeAny_forLoop_any (fun n s' => ∃ i σ' H', Inv X pins σ' H' s' ∧ tn i s'.heap ∧ (∀ b ∈ fp, H' b = none) ∧ W i n σ' H') ?_ m0 ⟨0, σ, H2, I2, st2, fun b hb => (f2 b hb).1, w0⟩
  rintro n s3 ⟨i, σ3, H3, I3, st3, fr3, w3⟩
  rcases turn i n σ3 H3 w3 with ⟨stop, qn⟩ | ⟨go, N, hN, step⟩
  · refine wpAny_passesOwn hp (thn (T.done X rfl rfl rfl hc i pins s3 σ3 H3 X.xe I3 (stat fr3) st3 stop) fun r s4 ⟨hr, I4⟩ => ?_)
    subst hr
    exact wpAny_execs_nil ⟨σ3, H3, I4, qn⟩
  · refine wpAny_passesOwn hp (thn (T.item X rfl rfl rfl hc i pins s3 σ3 H3 X.xe I3 (stat fr3) st3 go) fun r s4 ⟨u, hr, h4⟩ => ?_)
    subst hr
    refine wpAny_passesOwn hp (thn h4 fun _ s5 ⟨x, H5, I5, r5, y5, st5, fr5⟩ => ?_)
    have I5' := I5.pinned (stat fr5) (T.obj _ _ st5)
    refine wpAny_passesOwn hp (thn (hg _ s5 σ3 H5 x u _ I5' r5 (step x H5 y5)) fun _ s6 ⟨σ6, H6, I6, q6⟩ => ?_)
    refine wpAny_passesOwn hp (thn (hb _ s6 σ6 H6 _ I6 q6) fun f s7 q7 => ?_)
    have again : ∀ {σ7 : St} {H7 : Hp}, Inv X (pins ++ pinsAt fp s5.heap) σ7 H7 s7 → N σ7 H7 → ∃ m, m < n ∧ ∃ i σ' H', Inv X pins σ' H' s7 ∧ tn i s7.heap ∧ (∀ b ∈ fp, H' b = none) ∧ W i m σ' H' := fun {σ7 H7} I7 n7 => by
      obtain ⟨m', hm, w7⟩ := hN σ7 H7 n7
      refine ⟨m', hm, i + 1, σ7, H7, I7.unpinned, T.keep _ _ _ st5 fun b hb o e => (I7.pin (b, o) (List.mem_append_right _ (List.mem_append_right _ (mem_pinsAt hb e)))).1, fun b hb => ?_, w7⟩
      obtain ⟨o, e, d⟩ := T.obj _ _ st5 b hb
      exact (I7.pin (b, o) (List.mem_append_right _ (List.mem_append_right _ (mem_pinsAt hb e)))).2.1
    cases f with
    | next => obtain ⟨σ7, H7, I7, n7⟩ := q7; exact again I7 n7
    | cont => obtain ⟨σ7, H7, I7, n7⟩ := q7; exact again I7 n7
    | brk => obtain ⟨σ7, H7, I7, q7⟩ := q7; exact ⟨σ7, H7, I7.unpinned, q7⟩
    | ret v => obtain ⟨x7, σ7, H7, I7, r7, q7⟩ := q7; exact ⟨x7, σ7, H7, I7.unpinned, r7, q7⟩
end
theorem for_list {K : PySem.W.Frag} {a : Addr} {xs : List V} {g : TG} {tb : TS} {D : Ends} {σ : St} {H : Hp} (Pv : Nat → St → Hp → Prop) (h0 : Pv 0 σ H) (hl : ∀ i σ H, i ≤ xs.length → Pv i σ H → SqL K H a xs)
    (hs : ∀ i x σ H, xs[i]? = some x → Pv i σ H → g x σ H fun σ2 H2 => tb { D with nx := Pv (i + 1), ct := Pv (i + 1), bk := D.nx } σ2 H2) (hd : ∀ σ H, Pv xs.length σ H → D.nx σ H) :
    ∃ W : Nat → Nat → St → Hp → Prop, (∃ m, W 0 m σ H) ∧ ∀ i m σ H, W i m σ H →
      ((Itl K a).stop i H ∧ D.nx σ H) ∨ ((Itl K a).go i H ∧ ∃ N : St → Hp → Prop, (∀ σ' H', N σ' H' → ∃ m', m' < m ∧ W (i + 1) m' σ' H') ∧ ∀ x H', (Itl K a).yld i H x H' → g x σ H' fun σ2 H2 => tb { D with nx := N, ct := N, bk := D.nx } σ2 H2) := by
  refine ⟨fun i m σ H => m = xs.length - i ∧ i ≤ xs.length ∧ Pv i σ H, ⟨xs.length, by simp, Nat.zero_le _, h0⟩, ?_⟩
  rintro i m σ H ⟨rfl, hi, p⟩
  have q := hl i σ H hi p
  by_cases hlt : i < xs.length
  · refine .inr ⟨⟨xs, xs[i], q, by simp [hlt]⟩, Pv (i + 1), fun σ' H' p' => ⟨xs.length - (i + 1), by omega, rfl, hlt, p'⟩, fun x H' y => ?_⟩
    obtain ⟨e, y⟩ := y
    subst e
    exact hs i x σ _ (y xs q) p
  · have e : i = xs.length := by omega
    subst e
    exact .inl ⟨⟨xs, q, Nat.le_refl _⟩, hd σ H p⟩
theorem for_range {lo : Int} {n : Nat} {g : TG} {tb : TS} {D : Ends} {σ : St} {H : Hp} (Pv : Nat → St → Hp → Prop) (h0 : Pv 0 σ H)
    (hs : ∀ i σ H, i < n → Pv i σ H → g (.int (lo + i)) σ H fun σ2 H2 => tb { D with nx := Pv (i + 1), ct := Pv (i + 1), bk := D.nx } σ2 H2) (hd : ∀ σ H, Pv n σ H → D.nx σ H) :
    ∃ W : Nat → Nat → St → Hp → Prop, (∃ m, W 0 m σ H) ∧ ∀ i m σ H, W i m σ H →
      ((Itr lo n).stop i H ∧ D.nx σ H) ∨ ((Itr lo n).go i H ∧ ∃ N : St → Hp → Prop, (∀ σ' H', N σ' H' → ∃ m', m' < m ∧ W (i + 1) m' σ' H') ∧ ∀ x H', (Itr lo n).yld i H x H' → g x σ H' fun σ2 H2 => tb { D with nx := N, ct := N, bk := D.nx } σ2 H2) := by
  refine ⟨fun i m σ H => m = n - i ∧ i ≤ n ∧ Pv i σ H, ⟨n, by simp, Nat.zero_le _, h0⟩, ?_⟩
  rintro i m σ H ⟨rfl, hi, p⟩
  by_cases hlt : i < n
  · refine .inr ⟨hlt, Pv (i + 1), fun σ' H' p' => ⟨n - (i + 1), by omega, rfl, hlt, p'⟩, fun x H' y => ?_⟩
    obtain ⟨e, y⟩ := y
    subst e y
    exact hs i σ _ hlt p
  · have e : i = n := by omega
    subst e
    exact .inl ⟨Nat.le_refl _, hd σ H p⟩
end L2
namespace L2
open PySem PySem.Spec PyProof.Rows
abbrev R2 := V → V → Hp → VK → Prop
def OpR (X : Cx) (f : Value → Value → Sem Value) (r : R2) : Prop :=
  ∀ (pins : List (Addr × Obj)) (s : Shared) (σ : St) (H : Hp) (x y : V) (v u : Value) (Q : VK), Inv X pins σ H s → RelV x v → RelV y u → r x y H Q →
    wpAny (model X.prog X.w) X.A (f v u) (EP X pins σ Q) X.xe s
def UnR (X : Cx) (f : Value → Sem Value) (r : V → Hp → VK → Prop) : Prop :=
  ∀ (pins : List (Addr × Obj)) (s : Shared) (σ : St) (H : Hp) (x : V) (v : Value) (Q : VK), Inv X pins σ H s → RelV x v → r x H Q →
    wpAny (model X.prog X.w) X.A (f v) (EP X pins σ Q) X.xe s
def CallR (X : Cx) (f : Value) (r : List V → Hp → VK → Prop) : Prop :=
  ∀ (pins : List (Addr × Obj)) (s : Shared) (σ : St) (H : Hp) (xs : List V) (us : List Value) (Q : VK), Inv X pins σ H s → Vals xs us → r xs H Q →
    wpAny (model X.prog X.w) X.A (call f us) (EP X pins σ Q) X.xe s
def TruR (X : Cx) (r : V → Hp → (Bool → Hp → Prop) → Prop) : Prop :=
  ∀ (pins : List (Addr × Obj)) (s : Shared) (σ : St) (H : Hp) (x : V) (v : Value) (Q : Bool → Hp → Prop), Inv X pins σ H s → RelV x v → r x H Q →
    wpAny (model X.prog X.w) X.A (truthy v) (TP X pins σ Q) X.xe s
def tOp (r : R2) (ta tb : TE) : TE := fun σ H Q => ta σ H fun x H1 => tb σ H1 fun y H2 => r x y H2 Q
def tUn (r : V → Hp → VK → Prop) (ta : TE) : TE := fun σ H Q => ta σ H fun x H1 => r x H1 Q
def rI (C : Int → Int → Prop) (g : Int → Int → V) : R2 := fun x y H Q => ∃ i j, x = .int i ∧ y = .int j ∧ C i j ∧ Q (g i j) H
def rI0 (g : Int → Int → V) : R2 := fun x y H Q => ∃ i j, x = .int i ∧ y = .int j ∧ Q (g i j) H
def rU (g : Int → V) : V → Hp → VK → Prop := fun x H Q => ∃ i, x = .int i ∧ Q (g i) H
section
variable {X : Cx} {a b c : Expr} {ta tb tc : TE} {pos : Pos}
theorem binT (ha : PE X a ta) (hb : PE X b tb) {pins : List (Addr × Obj)} {s : Shared} {σ : St} {H : Hp} {R : V → V → Hp → Prop} (I : Inv X pins σ H s)
    (h : ta σ H fun x H1 => tb σ H1 fun y H2 => R x y H2) {Q : Value → Shared → Prop} {f : Value → Value → Sem Value}
    (hf : ∀ v u s2 x y H2, Inv X pins σ H2 s2 → RelV x v → RelV y u → R x y H2 → wpAny (model X.prog X.w) X.A (f v u) Q X.xe s2) :
    wpAny (model X.prog X.w) X.A (eval a X.env) (fun v s₁ => wpAny (model X.prog X.w) X.A (eval b X.env) (fun u s₂ => wpAny (model X.prog X.w) X.A (f v u) Q X.xe s₂) X.xe s₁) X.xe s := by
  refine thn (ha pins s σ H _ I h) fun v s1 ⟨x, H1, I1, r1, q1⟩ => ?_
  refine thn (hb pins s1 σ H1 _ I1 q1) fun u s2 ⟨y, H2, I2, r2, q2⟩ => ?_
  exact hf v u s2 x y H2 I2 r1 r2 q2
theorem pe_op {op : Operator} {r : R2} (ho : OpR X (binaryOp op) r) (ha : PE X a ta) (hb : PE X b tb) : PE X (.BinOp a op b pos) (tOp r ta tb) := by
  intro pins s σ H Q I h
  exact wpAny_BinOp (binT ha hb I h fun v u s2 x y H2 I2 rx ry q => ho pins s2 σ H2 x y v u Q I2 rx ry q)
theorem pe_un {op : UnaryOp} {r : V → Hp → VK → Prop} (ho : UnR X (unaryOp op) r) (ha : PE X a ta) : PE X (.UnaryOp op a pos) (tUn r ta) := by
  intro pins s σ H Q I h
  exact UnaryOp_ (thn (ha pins s σ H _ I h) fun v s1 ⟨x, H1, I1, r1, q1⟩ => ho pins s1 σ H1 x v Q I1 r1 q1)
theorem opI {f : Value → Value → Sem Value} {C : Int → Int → Prop} {g : Int → Int → Int}
    (rule : ∀ (i j : Int) (t u : Tok) (s : Shared) (Q : Value → Shared → Prop) (E : Value → Shared → Prop), C i j → Q (.int (g i j) s.toks) { s with toks := s.toks + 1 } → wpAny (model X.prog X.w) X.A (f (.int i t) (.int j u)) Q E s) :
    OpR X f (rI C fun i j => .int (g i j)) := by
  intro pins s σ H x y v u Q I rx ry h
  obtain ⟨i, j, rfl, rfl, hc, q⟩ := h
  obtain ⟨t, rfl⟩ := rx
  obtain ⟨t', rfl⟩ := ry
  exact rule i j t t' s _ _ hc ⟨.int (g i j), H, I.tok _, ⟨_, rfl⟩, q⟩
theorem opI0 {f : Value → Value → Sem Value} {g : Int → Int → Int}
    (rule : ∀ (i j : Int) (t u : Tok) (s : Shared) (Q : Value → Shared → Prop) (E : Value → Shared → Prop), Q (.int (g i j) s.toks) { s with toks := s.toks + 1 } → wpAny (model X.prog X.w) X.A (f (.int i t) (.int j u)) Q E s) :
    OpR X f (rI0 fun i j => .int (g i j)) := by
  intro pins s σ H x y v u Q I rx ry h
  obtain ⟨i, j, rfl, rfl, q⟩ := h
  obtain ⟨t, rfl⟩ := rx
  obtain ⟨t', rfl⟩ := ry
  exact rule i j t t' s _ _ ⟨.int (g i j), H, I.tok _, ⟨_, rfl⟩, q⟩
theorem opB0 {f : Value → Value → Sem Value} {g : Int → Int → Bool}
    (rule : ∀ (i j : Int) (t u : Tok) (s : Shared) (Q : Value → Shared → Prop) (E : Value → Shared → Prop), Q (.bool (g i j)) s → wpAny (model X.prog X.w) X.A (f (.int i t) (.int j u)) Q E s) :
    OpR X f (rI0 fun i j => .bl (g i j)) := by
  intro pins s σ H x y v u Q I rx ry h
  obtain ⟨i, j, rfl, rfl, q⟩ := h
  obtain ⟨t, rfl⟩ := rx
  obtain ⟨t', rfl⟩ := ry
  exact rule i j t t' s _ _ ⟨.bl (g i j), H, I, rfl, q⟩
def CDiv (i j : Int) : Prop := 0 < j ∧ j < 1073741824
def CPow (i j : Int) : Prop := 0 ≤ j ∧ j ≤ 1000000 ∧ i.natAbs < 2 ^ 64
def CMul (i j : Int) : Prop := (-(2 ^ 64) < i ∧ i < 2 ^ 64) ∨ (-(2 ^ 64) < j ∧ j < 2 ^ 64)
theorem CMul.ok {i j : Int} (h : CMul i j) : IntMulOk i j := by
  rcases h with ⟨h1, h2⟩ | ⟨h1, h2⟩
  · exact .of_left (intBits_le_64 h1 h2)
  · exact .of_right (intBits_le_64 h1 h2)
theorem op_add : OpR X (binaryOp .Add) (rI0 fun i j => .int (i + j)) := opI0 fun _ _ _ _ _ _ _ q => add_int q
theorem op_sub : OpR X (binaryOp .Sub) (rI0 fun i j => .int (i - j)) := opI0 fun _ _ _ _ _ _ _ q => sub_int q
theorem op_mul : OpR X (binaryOp .Mult) (rI CMul fun i j => .int (i * j)) := opI fun _ _ _ _ _ _ _ hc q => mul_int q hc.ok
theorem op_fdiv : OpR X (binaryOp .FloorDiv) (rI CDiv fun i j => .int (i / j)) := opI fun i j _ _ _ _ _ hc q => by
  have h1 : (0 : Int) < j := hc.1
  have h2 : j < 1073741824 := hc.2
  exact floordiv_int (by omega) (by rw [Int.fdiv_eq_ediv_of_nonneg i (by omega)]; exact q) (.inl (PyProof.noPylong_small (by omega)))
theorem op_mod : OpR X (binaryOp .Mod) (rI (fun _ j => 0 < j) fun i j => .int (i % j)) := opI fun i j _ _ _ _ _ hc q => by
  have h1 : (0 : Int) < j := hc
  exact mod_int' (by omega) (by rw [Int.fmod_eq_emod_of_nonneg i (by omega)]; exact q)
theorem op_pow : OpR X (binaryOp .Pow) (rI CPow fun i j => .int (i ^ j.toNat)) := opI fun _ _ _ _ _ _ _ hc q => pow_int_small hc.1 hc.2.1 hc.2.2 q
theorem op_shl : OpR X (binaryOp .LShift) (rI CPow fun i j => .int (i * 2 ^ j.toNat)) := opI fun _ _ _ _ _ _ _ hc q => lshift_int_small hc.1 hc.2.1 hc.2.2 q
theorem op_and : OpR X (binaryOp .BitAnd) (rI0 fun i j => .int (Builtin.bitAnd i j)) := opI0 fun _ _ _ _ _ _ _ q => and_int q
end
def scal : V → V → Bool
  | .non, .non => true | .non, .int _ => true | .int _, .non => true | .non, .bl _ => true | .bl _, .non => true | .non, .str _ => true | .str _, .non => true
  | .int _, .int _ => true | .bl _, .bl _ => true | .str _, .str _ => true | .byt _, .byt _ => true
  | .int _, .str _ => true | .str _, .int _ => true | .bl _, .str _ => true | .str _, .bl _ => true
  | _, _ => false
def rEq : R2 := fun x y H Q => scal x y = true ∧ Q (.bl (decide (x = y))) H
def rNe : R2 := fun x y H Q => scal x y = true ∧ Q (.bl (!decide (x = y))) H
theorem dec_int {i j : Int} : decide (V.int i = V.int j) = (i == j) := by
  rw [Bool.eq_iff_iff]
  simp
theorem dec_bl {i j : Bool} : decide (V.bl i = V.bl j) = (i == j) := by
  rw [Bool.eq_iff_iff]
  simp
theorem dec_str {i j : Str} : decide (V.str i = V.str j) = (i == j) := by
  rw [Bool.eq_iff_iff]
  simp
theorem dec_byt {i j : Array UInt8} : decide (V.byt i = V.byt j) = (i.toList == j.toList) := by
  rw [Bool.eq_iff_iff]
  cases i
  cases j
  simp
section
variable {X : Cx} {a b c : Expr} {ta tb tc : TE} {pos : Pos}
theorem fin_bl {pins : List (Addr × Obj)} {σ : St} {H : Hp} {s : Shared} {Q : VK} {k k' : Bool} (I : Inv X pins σ H s) (q : Q (.bl k) H) (e : k = k') : EP X pins σ Q (.bool k') s := by
  subst e
  exact ⟨.bl k, H, I, rfl, q⟩
theorem op_eq : OpR X (compareOp .Eq) rEq := by
  intro pins s σ H x y v u Q I rx ry h
  obtain ⟨hs, q⟩ := h
  cases x with
  | non =>
    cases rx
    cases y with
    | non => cases ry; exact PySem.EqNone.eq_none_none (fin_bl I q (by simp))
    | bl j => cases ry; exact PySem.EqNone.eq_none_bool (fin_bl I q (by simp))
    | int j => obtain ⟨t', rfl⟩ := ry; exact PySem.EqNone.eq_none_int (fin_bl I q (by simp))
    | str j => obtain ⟨t', rfl⟩ := ry; exact PySem.EqNone.eq_none_str (fin_bl I q (by simp))
    | _ => exact absurd (show false = true from hs) Bool.false_ne_true
  | bl i =>
    cases rx
    cases y with
    | non => cases ry; exact PySem.EqNone.eq_bool_none (fin_bl I q (by simp))
    | bl j => cases ry; exact eq_bool (fin_bl I q dec_bl)
    | str j => obtain ⟨t', rfl⟩ := ry; exact PySem.EqMixed.eq_bool_str (fin_bl I q (by simp))
    | _ => exact absurd (show false = true from hs) Bool.false_ne_true
  | int i =>
    obtain ⟨t, rfl⟩ := rx
    cases y with
    | non => cases ry; exact PySem.EqNone.eq_int_none (fin_bl I q (by simp))
    | int j => obtain ⟨t', rfl⟩ := ry; exact eq_int (fin_bl I q dec_int)
    | str j => obtain ⟨t', rfl⟩ := ry; exact PySem.EqMixed.eq_int_str (fin_bl I q (by simp))
    | _ => exact absurd (show false = true from hs) Bool.false_ne_true
  | str i =>
    obtain ⟨t, rfl⟩ := rx
    cases y with
    | non => cases ry; exact PySem.EqNone.eq_str_none (fin_bl I q (by simp))
    | bl j => cases ry; exact PySem.EqMixed.eq_str_bool (fin_bl I q (by simp))
    | int j => obtain ⟨t', rfl⟩ := ry; exact PySem.EqMixed.eq_str_int (fin_bl I q (by simp))
    | str j => obtain ⟨t', rfl⟩ := ry; exact eq_str (fin_bl I q dec_str)
    | _ => exact absurd (show false = true from hs) Bool.false_ne_true
  | byt i =>
    obtain ⟨t, rfl⟩ := rx
    cases y with
    | byt j => obtain ⟨t', rfl⟩ := ry; exact PySem.W.eq_bytes (fin_bl I q dec_byt)
    | _ => exact absurd (show false = true from hs) Bool.false_ne_true
  | _ => cases y <;> exact absurd (show false = true from hs) Bool.false_ne_true
theorem op_ne : OpR X (compareOp .NotEq) rNe := by
  intro pins s σ H x y v u Q I rx ry h
  obtain ⟨hs, q⟩ := h
  cases x with
  | non =>
    cases rx
    cases y with
    | non => cases ry; exact PySem.EqNone.ne_none_none (fin_bl I q (by simp))
    | bl j => cases ry; exact PySem.EqNone.ne_none_bool (fin_bl I q (by simp))
    | int j => obtain ⟨t', rfl⟩ := ry; exact PySem.EqNone.ne_none_int (fin_bl I q (by simp))
    | str j => obtain ⟨t', rfl⟩ := ry; exact PySem.EqNone.ne_none_str (fin_bl I q (by simp))
    | _ => exact absurd (show false = true from hs) Bool.false_ne_true
  | bl i =>
    cases rx
    cases y with
    | non => cases ry; exact PySem.EqNone.ne_bool_none (fin_bl I q (by simp))
    | bl j => cases ry; exact ne_bool (fin_bl I q (congrArg not dec_bl))
    | str j => obtain ⟨t', rfl⟩ := ry; exact PySem.EqMixed.ne_bool_str (fin_bl I q (by simp))
    | _ => exact absurd (show false = true from hs) Bool.false_ne_true
  | int i =>
    obtain ⟨t, rfl⟩ := rx
    cases y with
    | non => cases ry; exact PySem.EqNone.ne_int_none (fin_bl I q (by simp))
    | int j => obtain ⟨t', rfl⟩ := ry; exact ne_int (fin_bl I q (congrArg not dec_int))
    | str j => obtain ⟨t', rfl⟩ := ry; exact PySem.EqMixed.ne_int_str (fin_bl I q (by simp))
    | _ => exact absurd (show false = true from hs) Bool.false_ne_true
  | str i =>
    obtain ⟨t, rfl⟩ := rx
    cases y with
    | non => cases ry; exact PySem.EqNone.ne_str_none (fin_bl I q (by simp))
    | bl j => cases ry; exact PySem.EqMixed.ne_str_bool (fin_bl I q (by simp))
    | int j => obtain ⟨t', rfl⟩ := ry; exact PySem.EqMixed.ne_str_int (fin_bl I q (by simp))
    | str j => obtain ⟨t', rfl⟩ := ry; exact ne_str (fin_bl I q (congrArg not dec_str))
    | _ => exact absurd (show false = true from hs) Bool.false_ne_true
  | byt i =>
    obtain ⟨t, rfl⟩ := rx
    cases y with
    | byt j => obtain ⟨t', rfl⟩ := ry; exact PySem.W.ne_bytes (fin_bl I q (congrArg not dec_byt))
    | _ => exact absurd (show false = true from hs) Bool.false_ne_true
  | _ => cases y <;> exact absurd (show false = true from hs) Bool.false_ne_true
theorem op_lt : OpR X (compareOp .Lt) (rI0 fun i j => .bl (decide (i < j))) := opB0 fun _ _ _ _ _ _ _ q => lt_int q
theorem op_le : OpR X (compareOp .LtE) (rI0 fun i j => .bl (decide (i ≤ j))) := opB0 fun _ _ _ _ _ _ _ q => le_int q
theorem op_gt : OpR X (compareOp .Gt) (rI0 fun i j => .bl (decide (j < i))) := opB0 fun _ _ _ _ _ _ _ q => gt_int q
theorem op_ge : OpR X (compareOp .GtE) (rI0 fun i j => .bl (decide (j ≤ i))) := opB0 fun _ _ _ _ _ _ _ q => ge_int q
theorem op_isN : OpR X (compareOp .Is) (fun x y H Q => y = .non ∧ Q (.bl (decide (x = .non))) H) := by
  intro pins s σ H x y v u Q I rx ry h
  obtain ⟨rfl, q⟩ := h
  cases ry
  refine is_none_gen (fin_bl I q ?_)
  cases x <;> first
    | (cases rx; rfl)
    | (obtain ⟨t, rfl⟩ := rx; rfl)
theorem op_notN : OpR X (compareOp .IsNot) (fun x y H Q => y = .non ∧ Q (.bl (!decide (x = .non))) H) := by
  intro pins s σ H x y v u Q I rx ry h
  obtain ⟨rfl, q⟩ := h
  cases ry
  refine isnot_none_gen (fin_bl I q ?_)
  cases x <;> first
    | (cases rx; rfl)
    | (obtain ⟨t, rfl⟩ := rx; rfl)
theorem OpR.or {f : Value → Value → Sem Value} {r r' : R2} (h : OpR X f r) (h' : OpR X f r') : OpR X f (fun x y H Q => r x y H Q ∨ r' x y H Q) := by
  intro pins s σ H x y v u Q I rx ry q
  rcases q with q | q
  · exact h pins s σ H x y v u Q I rx ry q
  · exact h' pins s σ H x y v u Q I rx ry q
theorem nomark (b : Expr) {op : CmpOp} (h : op ≠ .In := by decide) (h2 : op ≠ .NotIn := by decide) : behindInMarks op b = false := by
  have e1 : (op == CmpOp.In) = false := by cases op <;> first | rfl | exact absurd rfl h
  have e2 : (op == CmpOp.NotIn) = false := by cases op <;> first | rfl | exact absurd rfl h2
  cases b <;> simp [behindInMarks, e1, e2]
theorem pe_cmpR {op : CmpOp} {r : R2} (ho : OpR X (compareOp op) r) (ha : PE X a ta) (hb : PE X b tb) (hm : behindInMarks op b = false) : PE X (.Compare a [op] [b] pos) (tOp r ta tb) := by
  intro pins s σ H Q I h
  exact wpAny_Compare1 (binT ha hb I h fun v u s2 x y H2 I2 rx ry q => ho pins s2 σ H2 x y v u Q I2 rx ry q) hm
def tTest (t : TE) : TT := fun σ H Q => t σ H fun x H' => ∃ k, x = .bl k ∧ Q k H'
theorem pt_cmpR {op : CmpOp} {r : R2} (ho : OpR X (compareOp op) r) (ha : PE X a ta) (hb : PE X b tb) (hm : behindInMarks op b = false) : PT X (.Compare a [op] [b] pos) (tTest (tOp r ta tb)) := by
  intro pins s σ H Q I h
  refine wpAny_isTrue_Compare1 (thn (ha pins s σ H _ I h) fun v s1 ⟨x, H1, I1, r1, q1⟩ => thn (hb pins s1 σ H1 _ I1 q1) fun u s2 ⟨y, H2, I2, r2, q2⟩ =>
    thn (ho pins s2 σ H2 x y v u _ I2 r1 r2 q2) fun c s3 ⟨z, H3, I3, r3, k, e, q3⟩ => ?_) hm
  subst e
  cases r3
  exact wpAny_truthy_bool ⟨H3, I3, q3⟩
def tChain (r r' : R2) (ta tb tc : TE) : TE := fun σ H Q => ta σ H fun x H1 => tb σ H1 fun y H2 => r x y H2 fun z H3 => ∃ k, z = .bl k ∧
  (if k = true then tc σ H3 fun w' H4 => r' y w' H4 Q else Q (.bl false) H3)
theorem pe_chain {op op' : CmpOp} {r r' : R2} (ho : OpR X (compareOp op) r) (ho' : OpR X (compareOp op') r') (ha : PE X a ta) (hb : PE X b tb) (hc : PE X c tc)
    (hm : lastMarks [op, op'] [b, c] = false := by with_unfolding_all rfl) : PE X (.Compare a [op, op'] [b, c] pos) (tChain r r' ta tb tc) := by
  intro pins s σ H Q I h
  refine Compare_chain (thn (ha pins s σ H _ I h) fun v s1 ⟨x, H1, I1, r1, q1⟩ => chain_link (thn (hb pins s1 σ H1 _ I1 q1) fun u s2 ⟨y, H2, I2, r2, q2⟩ =>
    thn (ho pins s2 σ H2 x y v u _ I2 r1 r2 q2) fun d s3 ⟨z, H3, I3, r3, k, e, q3⟩ => ?_)) hm
  subst e
  cases r3
  refine wpAny_truthy_bool ?_
  cases k with
  | false => exact ite_ff ⟨.bl false, H3, I3, rfl, q3⟩
  | true => exact ite_tt (chain_last (thn (hc pins s3 σ H3 _ I3 q3) fun w' s4 ⟨z', H4, I4, r4, q4⟩ => ho' pins s4 σ H4 y z' u w' Q I4 r2 r4 q4))
def TruV (K : PySem.W.Frag) (x : V) (H : Hp) (k : Bool) : Prop :=
  match x with
  | .non => k = false
  | .bl b => k = b
  | .int i => k = (i != 0)
  | .str y => y.length ≤ sizeLine ∧ k = ((y.length : Int) != 0)
  | .byt y => y.size ≤ sizeLine ∧ k = ((y.size : Int) != 0)
  | .ref p => (∃ xs, SqL K H p xs ∧ k = !xs.isEmpty) ∨ (∃ xs, SqT K H p xs ∧ k = !xs.isEmpty) ∨ ∃ kvs, H p = some (.dK kvs) ∧ k = !kvs.isEmpty
  | _ => False
theorem line63 : (sizeLine : Nat) < 2 ^ 63 := by rw [sizeLine_eq]; decide
theorem vals1 {x : V} {us : List Value} (r : Vals [x] us) : ∃ u, us = [u] ∧ RelV x u := by
  cases r with
  | cons r1 r2 => cases r2; exact ⟨_, rfl, r1⟩
theorem vals2 {x y : V} {us : List Value} (r : Vals [x, y] us) : ∃ u w', us = [u, w'] ∧ RelV x u ∧ RelV y w' := by
  cases r with
  | cons r1 r2 =>
    cases r2 with
    | cons r3 r4 => cases r4; exact ⟨_, _, rfl, r1, r3⟩
theorem call_max2 (hc : X.calm = true) : CallR X (.builtin "max") (fun xs H Q => ∃ i j, xs = [.int i, .int j] ∧ Q (.int (if j > i then j else i)) H) := by
  intro pins s σ H xs us Q I r h
  obtain ⟨i, j, rfl, q⟩ := h
  obtain ⟨u, w', rfl, ⟨t, rfl⟩, ⟨t', rfl⟩⟩ := vals2 r
  refine max_two_ints (I.ok.hd hc) fun h' tk k => ⟨_, H, I.kept k, ?_, q⟩
  by_cases hj : j > i
  · rw [if_pos hj, if_pos hj]; exact ⟨_, rfl⟩
  · rw [if_neg hj, if_neg hj]; exact ⟨_, rfl⟩
theorem call_min2 (hc : X.calm = true) : CallR X (.builtin "min") (fun xs H Q => ∃ i j, xs = [.int i, .int j] ∧ Q (.int (if j < i then j else i)) H) := by
  intro pins s σ H xs us Q I r h
  obtain ⟨i, j, rfl, q⟩ := h
  obtain ⟨u, w', rfl, ⟨t, rfl⟩, ⟨t', rfl⟩⟩ := vals2 r
  refine min_two_ints (I.ok.hd hc) fun h' tk k => ⟨_, H, I.kept k, ?_, q⟩
  by_cases hj : j < i
  · rw [if_pos hj, if_pos hj]; exact ⟨_, rfl⟩
  · rw [if_neg hj, if_neg hj]; exact ⟨_, rfl⟩
def LenV (K : PySem.W.Frag) (x : V) (H : Hp) (n : Nat) : Prop :=
  match x with
  | .str y => y.length ≤ sizeLine ∧ n = y.length
  | .byt y => y.size ≤ sizeLine ∧ n = y.size
  | .ref p => (∃ xs, SqL K H p xs ∧ n = xs.length) ∨ ∃ xs, SqT K H p xs ∧ n = xs.length
  | _ => False
theorem call_len : CallR X (.builtin "len") (fun xs H Q => ∃ x n, xs = [x] ∧ LenV X.K x H n ∧ Q (.int n) H) := by
  intro pins s σ H xs us Q I r h
  obtain ⟨x, n, rfl, e, q⟩ := h
  obtain ⟨u, rfl, rx⟩ := vals1 r
  have hl := line63
  have hs : sizeLine = 16777216 := sizeLine_eq
  cases x with
  | str y =>
    obtain ⟨t, rfl⟩ := rx
    obtain ⟨hy, e'⟩ : y.length ≤ sizeLine ∧ n = y.length := e
    subst e'
    exact len_str (by omega) ⟨.int _, H, I.tok _, ⟨_, rfl⟩, q⟩
  | byt y =>
    obtain ⟨t, rfl⟩ := rx
    obtain ⟨hy, e'⟩ : y.size ≤ sizeLine ∧ n = y.size := e
    subst e'
    exact PySem.W.len_bytes (by omega) ⟨.int _, H, I.tok _, ⟨_, rfl⟩, q⟩
  | ref p =>
    cases rx
    have e' : (∃ xs, SqL X.K H p xs ∧ n = xs.length) ∨ ∃ xs, SqT X.K H p xs ∧ n = xs.length := e
    rcases e' with ⟨xs, hx, e'⟩ | ⟨xs, hx, e'⟩
    · subst e'
      obtain ⟨its, r', pl, hz⟩ := I.list hx
      have hlen := r'.length
      exact Calls.call_len_list pl.isList (by simp only [List.size_toArray]; omega) ⟨.int xs.length, H, I.tok _, ⟨_, by simp only [List.size_toArray]; rw [hlen]⟩, q⟩
    · subst e'
      obtain ⟨its, r', pl, hz⟩ := I.tuple hx
      have hlen := r'.length
      exact len_tuple pl (by simp only [List.size_toArray]; omega) ⟨.int xs.length, H, I.tok _, ⟨_, by simp only [List.size_toArray]; rw [hlen]⟩, q⟩
  | _ => exact (show False from e).elim
end
end L2
namespace L2
open PySem PySem.Spec PyProof.Rows
structure ObjM (h : Heap) (x dx C : Addr) (mA : Str → Option Value) : Prop where
  obj : h.get? x = some (PySem.W.instObj C dx)
  ns : h.Ns1 dx mA
  ne : dx ≠ x
theorem lookIn_ns {h : Heap} {dx : Addr} {mA : Str → Option Value} (n : h.Ns1 dx mA) : ∃ od, h.get? dx = some od ∧ ∀ name, PySem.W.lookIn name od = some (mA name) := by
  obtain ⟨o, es, ep, ho, hd, hk, _, hm⟩ := n
  refine ⟨o, ho, fun name => ?_⟩
  have e := hm name
  unfold nsFind findBy at e
  rw [← Array.find?_toList] at e
  unfold PySem.W.lookIn
  rw [hd]
  dsimp only
  split
  · rename_i y q
    rw [q] at e
    exact congrArg some e
  · rename_i q
    rw [q] at e
    have a : es.toList.any (·.refKey) = false := by
      rw [List.any_eq_false]
      intro y hy
      obtain ⟨z, t, hkey⟩ := hk y (Array.mem_toList_iff.mp hy)
      simp [DictEntry.refKey, hkey]
    have a' : ¬ es.toList.any (·.refKey) = true := by rw [a]; exact Bool.false_ne_true
    rw [if_neg a']
    exact congrArg some e
theorem ObjM.look {h : Heap} {x dx C : Addr} {mA : Str → Option Value} (I : ObjM h x dx C mA) : ∃ od, PySem.W.InstAt h x (PySem.W.instObj C dx) C (some od) ∧ ∀ name, PySem.W.lookIn name od = some (mA name) :=
  let ⟨od, ho, hl⟩ := lookIn_ns I.ns
  ⟨od, ⟨I.obj, rfl, rfl, ho⟩, hl⟩
section
variable {prog : Program} {w : World} {A : Around} {E : Value → Shared → Prop} {s : Shared} {K : PySem.W.Frag} {x dx C f : Addr} {mA : Str → Option Value} {name : Str} {v : Value}
theorem get_map {expr : Bool} {Q : Value → Shared → Prop} (X : K.In s.heap) (I : ObjM s.heap x dx C mA) (hg : PySem.W.plainGet K C name = true) (hh : PySem.W.hasDictIn K C = true)
    (ha : PySem.W.findIn K (.ref C) name = some none) (hv : mA name = some v) (hv' : PySem.W.handedIn v = true) (h : Q v { s with toks := s.toks + 1 }) :
    wpAny (model prog w) A (getAttr (.ref x) name expr) Q E s := by
  obtain ⟨od, J, hl⟩ := I.look
  exact PySem.W.get_value X J (PySem.W.plainGet_of hg).1 (PySem.W.findObj_own hh ha rfl (by rw [hl, hv])) hv' h
theorem get_meth {pl : Sem Bool} {Q : Value × List Value → Shared → Prop} (X : K.In s.heap) (I : ObjM s.heap x dx C mA) (hg : PySem.W.plainGet K C name = true)
    (hf : PySem.W.findIn K (.ref C) name = some (some (.ref f))) (ht : PySem.W.isFn K (.ref f) = true) (hv : mA name = none) (h : Q (.ref f, [.ref x]) s) :
    wpAny (model prog w) A (getMethod (.ref x) name pl) Q E s := by
  obtain ⟨od, J, hl⟩ := I.look
  exact PySem.W.method_fn X J (PySem.W.plainGet_of hg).1 (PySem.W.plainGet_of hg).2 hf (beq_iff_eq.mp ht) (by show (PySem.W.lookIn name od).map (·.isSome) = some false; rw [hl, hv]; rfl) h
theorem set_map {ns : List Str} {Q : Unit → Shared → Prop} (X : K.In s.heap) (I : ObjM s.heap x dx C mA)
    (hs : PySem.W.findIn K (.ref C) "__setattr__" = some (some (.builtin "object.__setattr__"))) (hp : PySem.W.plainOver K C = true) (ht : PySem.W.takerIn K C name = some none) (hh : PySem.W.hasDictIn K C = true)
    (hw : PySem.Within mA ns) (hsz : ns.length ≤ sizeLine)
    (h : ∀ h', ObjM h' x dx C (fun y => if y = name then some v else mA y) → Heap.SameBut dx s.heap h' → Q () { s with heap := h', toks := s.toks + 2 }) :
    wpAny (model prog w) A (setAttr (.ref x) name v) Q E s := by
  obtain ⟨od, J, hl⟩ := I.look
  refine PySem.W.set_plain X J hs (PySem.W.osa_open (s := { s with toks := s.toks + 1 }) (r := none) X J hp ht fun b => ?_)
  obtain ⟨cd, hc, hd'⟩ := PySem.W.any_some hh
  have hx : s.heap.get? x = some ⟨.ref C, some dx, .plain, #[]⟩ := I.obj
  refine wpAny_bind (wpAny_pure (wpAny_bind (wpAny_bind (wpAny_loadPart hx (wpAny_bind (PySem.W.Looks.here (s := { s with toks := s.toks + 1 }) (PySem.W.looks_clsIn X hc) ?_))))))
  rw [hd']
  refine wpAny_pure (a := some dx) (wpAny_bind (wpAny_pure (wpAny_bind ?_)))
  refine wpAny_nsSet1 (s := { s with toks := s.toks + 1 }) I.ns fun h' hn2 hs2 => ?_
  obtain ⟨oD, esD, epD, hoD, hdD, hcD⟩ := hn2.count (PySem.Within.cons name v hw)
  refine wpAny_bind (wpAny_lookBehind hoD (by rw [hdD]; exact pastItsLine_dict (Nat.le_trans hcD (by rw [List.length_cons]; omega))) ?_)
  exact wpAny_pure (h _ ⟨(hs2.2 _ (Ne.symm I.ne)).trans I.obj, hn2, I.ne⟩ hs2)
theorem make_map {R : Result → Shared → Prop} {vs : List Value} {kw : List (Str × Value)} (X : K.In s.heap) (hm : PySem.W.makesIn K C = true)
    (hi : PySem.W.findIn K (.ref C) "__init__" = some (some (.ref f))) (hf : PySem.W.typeIn K (.ref f) = some (.type "function"))
    (h : codeAny (model prog w) (A.under (.builtin "type.__call__" ⟨.ref C :: vs, kw⟩)) (.call (.ref f) ⟨.ref (s.heap.objs.size + 1) :: vs, kw⟩) (PySem.W.InitBack (s.heap.objs.size + 1) R)
      { s with heap := (s.heap.push PySem.W.emptyDict).push (PySem.W.instObj C s.heap.objs.size) }) :
    codeAny (model prog w) A (.call (.ref C) ⟨vs, kw⟩) R s := by
  obtain ⟨hh, g, d, t, os⟩ := s
  exact PySem.W.make_core (PySem.W.makes_of X hm) (PySem.W.looks_findIn X hi) (fun self => PySem.W.bind_fn X self hf) (.inl rfl) h
end
def putF (f : Str) (v : V) : List (Str × V) → List (Str × V)
  | [] => [(f, v)]
  | (g, x) :: r => if g = f then (g, v) :: r else (g, x) :: putF f v r
theorem lookup_putF (f g : Str) (v : V) : ∀ fs : List (Str × V), (putF f v fs).lookup g = if g = f then some v else fs.lookup g
  | [] => by
    show List.lookup g [(f, v)] = _
    by_cases h : g = f
    · have hb : (g == f) = true := beq_iff_eq.mpr h
      simp only [List.lookup, hb, if_pos h]
    · have hb : (g == f) = false := beq_eq_false_iff_ne.mpr h
      simp only [List.lookup, hb, if_neg h]
  | (k, x) :: r => by
    have ih := lookup_putF f g v r
    rw [show putF f v ((k, x) :: r) = (if k = f then (k, v) :: r else (k, x) :: putF f v r) from rfl]
    by_cases hk : k = f
    · rw [if_pos hk]
      by_cases h : g = k
      · have hb : (g == k) = true := beq_iff_eq.mpr h
        simp only [List.lookup, hb, if_pos (h.trans hk)]
      · have hb : (g == k) = false := beq_eq_false_iff_ne.mpr h
        simp only [List.lookup, hb, if_neg (fun e : g = f => h (e.trans hk.symm))]
    · rw [if_neg hk]
      by_cases h : g = k
      · have hb : (g == k) = true := beq_iff_eq.mpr h
        simp only [List.lookup, hb, if_neg (fun e : g = f => hk (h.symm.trans e))]
      · have hb : (g == k) = false := beq_eq_false_iff_ne.mpr h
        simp only [List.lookup, hb]
        exact ih
theorem keys_putF (f : Str) (v : V) : ∀ fs : List (Str × V), f ∈ (putF f v fs).map (·.1) ∧ ∀ g, g ∈ fs.map (·.1) → g ∈ (putF f v fs).map (·.1)
  | [] => ⟨by simp [putF], fun g h => by simp at h⟩
  | (k, x) :: r => by
    obtain ⟨i1, i2⟩ := keys_putF f v r
    rw [show putF f v ((k, x) :: r) = (if k = f then (k, v) :: r else (k, x) :: putF f v r) from rfl]
    by_cases hk : k = f
    · rw [if_pos hk]
      subst hk
      exact ⟨by simp, fun g h => by simpa using h⟩
    · rw [if_neg hk]
      refine ⟨?_, fun g h => ?_⟩
      · rw [List.map_cons]
        exact List.mem_cons_of_mem _ i1
      · rw [List.map_cons] at h ⊢
        rcases List.mem_cons.mp h with e | e
        · exact List.mem_cons.mpr (.inl e)
        · exact List.mem_cons_of_mem _ (i2 g e)
theorem length_putF (f : Str) (v : V) : ∀ fs : List (Str × V), (putF f v fs).length ≤ fs.length + 1
  | [] => by simp [putF]
  | (k, x) :: r => by
    have ih := length_putF f v r
    rw [show putF f v ((k, x) :: r) = (if k = f then (k, v) :: r else (k, x) :: putF f v r) from rfl]
    by_cases hk : k = f
    · rw [if_pos hk, List.length_cons, List.length_cons]; omega
    · rw [if_neg hk, List.length_cons, List.length_cons]; omega
theorem RelO.some_of {v : V} {o : Option Value} (r : RelO (some v) o) : ∃ u, o = some u ∧ RelV v u := by
  cases o with
  | none => exact (show False from r).elim
  | some u => exact ⟨u, rfl, r⟩
theorem RelO.none_of {o : Option Value} (r : RelO none o) : o = none := by
  cases o with
  | none => rfl
  | some u => exact (show False from r).elim
theorem handed_of {v : V} {u : Value} (r : RelV v u) : PySem.W.handedIn u = true := by
  cases v with
  | non => cases (show u = Value.none from r); rfl
  | bl b => cases (show u = Value.bool b from r); rfl
  | int i => obtain ⟨t, e⟩ := (show ∃ t, u = Value.int i t from r); cases e; rfl
  | str x => obtain ⟨t, e⟩ := (show ∃ t, u = Value.str x t from r); cases e; rfl
  | byt b => obtain ⟨t, e⟩ := (show ∃ t, u = Value.bytes b t from r); cases e; rfl
  | flt b => obtain ⟨t, e⟩ := (show ∃ t, u = Value.float b t from r); cases e; rfl
  | ref a => cases (show u = Value.ref a from r); rfl
  | ty n => cases (show u = Value.type n from r); rfl
section
variable {P : Program} {w : World} {H H' : Hp} {h h' : Heap} {a C dx : Addr} {fs fs' : List (Str × V)}
theorem ins_get (hok : HOk P w H h) (e : H a = some (.ins C dx fs)) : ∃ mA, ObjM h a dx C mA ∧ (∀ f, RelO (fs.lookup f) (mA f)) ∧ PySem.Within mA (fs.map (·.1)) ∧ fs.length ≤ 1000 ∧ H dx = some (.own a) := by
  obtain ⟨d, z, ne, ob, mA, n, r, q⟩ := (show ObjOk P w H h a (.ins C dx fs) from hok a _ e)
  exact ⟨mA, ⟨ob, n, ne⟩, r, q, z, d⟩
end
structure Cls (K : PySem.W.Frag) (C : Addr) : Prop where
  pg : PySem.W.plainGet K C Str.empty = true
  hd : PySem.W.hasDictIn K C = true
  po : PySem.W.plainOver K C = true
  sa : PySem.W.findIn K (.ref C) "__setattr__" = some (some (.builtin "object.__setattr__"))
theorem Cls.get {K : PySem.W.Frag} {C : Addr} (c : Cls K C) (f : Str) : PySem.W.plainGet K C f = true := c.pg
def NoAttr (K : PySem.W.Frag) (C : Addr) (f : Str) : Prop := PySem.W.findIn K (.ref C) f = some none
theorem NoAttr.taker {K : PySem.W.Frag} {C : Addr} {f : Str} (n : NoAttr K C f) : PySem.W.takerIn K C f = some none := by
  unfold PySem.W.takerIn
  rw [show PySem.W.findIn K (.ref C) f = some none from n]
  rfl
structure Meth (K : PySem.W.Frag) (C : Addr) (m : Str) (f : Addr) : Prop where
  at_ : PySem.W.findIn K (.ref C) m = some (some (.ref f))
  fn : PySem.W.isFn K (.ref f) = true
  kp : PySem.W.keepIn K (.ref f) = true
section
variable {X : Cx} {pins : List (Addr × Obj)} {σ : St} {H : Hp} {s : Shared} {a C dx : Addr} {fs : List (Str × V)} {f : Str} {v : V} {A : Around} {E : Value → Shared → Prop}
theorem getattr_ok {b : Bool} {Q : Value → Shared → Prop} (I : Inv X pins σ H s) (e : H a = some (.ins C dx fs)) (c : Cls X.K C) (n : NoAttr X.K C f) (l : fs.lookup f = some v)
    (h : ∀ u s', Inv X pins σ H s' → RelV v u → Q u s') : wpAny (model X.prog X.w) A (getAttr (.ref a) f b) Q E s := by
  obtain ⟨mA, O, r, _, _, _⟩ := ins_get I.hok e
  obtain ⟨u, hu, ru⟩ := RelO.some_of (v := v) (o := mA f) (by rw [← l]; exact r f)
  exact get_map I.kIn O (c.get f) c.hd n hu (handed_of ru) (h u _ (I.tok _) ru)
theorem getmeth_ok {m : Str} {g : Addr} {pl : Sem Bool} {Q : Value × List Value → Shared → Prop} (I : Inv X pins σ H s) (e : H a = some (.ins C dx fs)) (c : Cls X.K C) (k : Meth X.K C m g) (l : fs.lookup m = none)
    (h : Q (.ref g, [.ref a]) s) : wpAny (model X.prog X.w) A (getMethod (.ref a) m pl) Q E s := by
  obtain ⟨mA, O, r, _, _, _⟩ := ins_get I.hok e
  have hn : mA m = none := RelO.none_of (by rw [← l]; exact r m)
  exact get_meth I.kIn O (c.get m) k.at_ k.fn hn h
theorem setattr_ok {y : V} {u : Value} {Q : Unit → Shared → Prop} (I : Inv X pins σ H s) (e : H a = some (.ins C dx fs)) (c : Cls X.K C) (n : NoAttr X.K C f) (hl : fs.length < 1000) (ry : RelV y u)
    (h : ∀ s', Inv X pins σ (upd H a (.ins C dx (putF f y fs))) s' → Q () s') : wpAny (model X.prog X.w) A (setAttr (.ref a) f u) Q E s := by
  obtain ⟨mA, O, r, wi, _, ho⟩ := ins_get I.hok e
  have hz : (fs.map (·.1)).length ≤ sizeLine := by rw [List.length_map, sizeLine_eq]; omega
  refine set_map I.kIn O c.sa c.po n.taker c.hd wi hz fun h' O' sb => h _ ?_
  have hd : ∃ o, h'.get? dx = some o := let ⟨o, _, _, e', _⟩ := O'.ns; ⟨o, e'⟩
  refine I.write (x := a) (e := dx) (by rw [e]; exact True.intro) (.inr ho) (fun b q hb z => (sb.2 b hb).trans z) hd ?_
  refine ⟨by rw [upd_ne O.ne]; exact ho, ?_, O.ne, O'.obj, _, O'.ns, fun g => ?_, fun g hg => ?_⟩
  · have := length_putF f y fs; omega
  · show RelO ((putF f y fs).lookup g) (if g = f then some u else mA g)
    rw [lookup_putF]
    by_cases q : g = f
    · rw [if_pos q, if_pos q]; exact ry
    · rw [if_neg q, if_neg q]; exact r g
  · by_cases q : g = f
    · rw [q]; exact (keys_putF f y fs).1
    · refine (keys_putF f y fs).2 g (wi g fun z => hg ?_)
      show (if g = f then some u else mA g) = none
      rw [if_neg q]; exact z
theorem Inv.made (I : Inv X pins σ H s) : Inv X pins σ (upd (upd H s.heap.objs.size (.own (s.heap.objs.size + 1))) (s.heap.objs.size + 1) (.ins C s.heap.objs.size []))
    { s with heap := (s.heap.push PySem.W.emptyDict).push (PySem.W.instObj C s.heap.objs.size) } := by
  have e1 : (s.heap.push PySem.W.emptyDict).get? s.heap.objs.size = some PySem.W.emptyDict := Heap.get?_push_size s.heap rfl
  have e2 : ((s.heap.push PySem.W.emptyDict).push (PySem.W.instObj C s.heap.objs.size)).get? (s.heap.objs.size + 1) = some (PySem.W.instObj C s.heap.objs.size) := by
    have := Heap.get?_push_size (s.heap.push PySem.W.emptyDict) (o := PySem.W.instObj C s.heap.objs.size) rfl
    rwa [Heap.size_push] at this
  have e3 : (s.heap.push PySem.W.emptyDict).Ns s.heap.objs.size (fun _ => none) := ⟨PySem.W.emptyDict, #[], _, e1, rfl, (fun e he => absurd he (by simp)), fun _ => rfl⟩
  have I1 := I.laid (a := s.heap.objs.size) (o := .own (s.heap.objs.size + 1)) (h' := s.heap.push PySem.W.emptyDict) (t' := s.toks) (fun b u q => Heap.get?_push_of_some _ q) (Nat.le_refl _) ⟨_, e1⟩
  refine I1.laid (a := s.heap.objs.size + 1) (o := .ins C s.heap.objs.size []) (t' := s.toks) (fun b u q => Heap.get?_push_of_some _ q) (Nat.le_of_eq (Heap.size_push _ _)) ?_
  have ne : s.heap.objs.size ≠ s.heap.objs.size + 1 := Nat.ne_of_lt (Nat.lt_succ_self _)
  refine ⟨by rw [upd_ne ne, upd_same], Nat.zero_le _, ne, e2, fun _ => none, (Heap.Ns1.of_empty e3).at fun o q => Heap.get?_push_of_some _ q, fun _ => True.intro, fun y hy => absurd rfl hy⟩
theorem attr_of {prog : Program} {w : World} {env : Env} {e : Expr} {f : Str} {pos : Pos} {s : Shared} {Q : Value → Shared → Prop} (hb : attributeBase e f env (eval e env) = eval e env)
    (h : wpAny (model prog w) A (eval e env) (fun o s₁ => wpAny (model prog w) A (getAttr o f true) Q E s₁) E s) : wpAny (model prog w) A (eval (.Attribute e f pos) env) Q E s :=
  Attribute_any_ h (by rw [arm_eval_Attribute, hb])
end
def tFld (K : PySem.W.Frag) (ta : TE) (f : Str) : TE := fun σ H Q => ta σ H fun x H1 => ∃ a C dx fs v, x = .ref a ∧ H1 a = some (.ins C dx fs) ∧ Cls K C ∧ NoAttr K C f ∧ fs.lookup f = some v ∧ Q v H1
def sFld (K : PySem.W.Frag) (ta tv : TE) (f : Str) : TS := fun D σ H => tv σ H fun y H1 => ta σ H1 fun x H2 => ∃ a C dx fs, x = .ref a ∧ H2 a = some (.ins C dx fs) ∧ Cls K C ∧ NoAttr K C f ∧ fs.length < 1000 ∧
  D.nx σ (upd H2 a (.ins C dx (putF f y fs)))
section
variable {X : Cx} {o e value : Expr} {f : Str} {pos pos' tpos : Pos} {ta tv : TE}
theorem pe_fld (he : PE X e ta) (hb : attributeBase e f X.env (eval e X.env) = eval e X.env) : PE X (.Attribute e f pos) (tFld X.K ta f) := by
  intro pins s σ H Q I h
  refine attr_of hb (thn (he pins s σ H _ I h) fun u s1 ⟨x, H1, I1, rx, a, C, dx, fs, v, ex, ea, c, n, l, q⟩ => ?_)
  subst ex
  obtain rfl : u = Value.ref a := rx
  exact getattr_ok I1 ea c n l fun u' s2 I2 ru => ⟨v, H1, I2, ru, q⟩
theorem ps_fld (ha : PE X o ta) (hv : PE X value tv) (hs : swapsWith value (some (.Attribute o f pos')) pos.line X.env = pure false) : PS X (.Assign [.Attribute o f pos'] value pos) (sFld X.K ta tv f) := by
  intro pins s σ H D I h
  refine plainObj_wpAny_Assign_Attribute (thn (hv pins s σ H _ I h) fun u s1 ⟨y, H1, I1, ry, q⟩ => thn (ha pins s1 σ H1 _ I1 q) fun ov s2 ⟨x, H2, I2, rx, a, C, dx, fs, ex, ea, c, n, l, q2⟩ => ?_) hs
  subst ex
  obtain rfl : ov = Value.ref a := rx
  exact setattr_ok I2 ea c n l ry fun s3 I3 => ⟨σ, _, I3, q2⟩
end
section
variable {X : Cx} {pins : List (Addr × Obj)} {σ : St} {H : Hp} {s : Shared} {A : Around} {E : Value → Shared → Prop} {Q : Value → Shared → Prop} {c : Value} {b : Bool}
inductive TyOf (K : PySem.W.Frag) (H : Hp) : V → Value → Prop where
  | non : TyOf K H .non (.type "NoneType")
  | bl (x : Bool) : TyOf K H (.bl x) (.type "bool")
  | int (i : Int) : TyOf K H (.int i) (.type "int")
  | str (x : Str) : TyOf K H (.str x) (.type "str")
  | flt (x : UInt64) : TyOf K H (.flt x) (.type "float")
  | lst {a : Addr} {xs : List V} (e : H a = some (.lst xs)) : TyOf K H (.ref a) (.type "list")
  | frz {a : Addr} {o : Obj} {xs : List V} (e : H a = some (.frz o (.lst xs))) : TyOf K H (.ref a) (.type "list")
  | tup {a : Addr} {xs : List V} (e : H a = some (.tup xs)) : TyOf K H (.ref a) (.type "tuple")
  | dK {a : Addr} {kvs : List (Key × V)} (e : H a = some (.dK kvs)) : TyOf K H (.ref a) (.type "dict")
  | dT {a : Addr} {kvs : List (List Key × V)} (e : H a = some (.dT kvs)) : TyOf K H (.ref a) (.type "dict")
  | ins {a C dx : Addr} {fs : List (Str × V)} (e : H a = some (.ins C dx fs)) (cl : Cls K C) (ha : PySem.W.findIn K (.ref C) "__class__" = some (some (.builtin "object.__class__")))
      (hn : PySem.W.specialIn K (.builtin "object.__class__") "__get__" = some (some (.builtin "getset_descriptor.__get__"))) (htk : PySem.W.takesIn K (.builtin "object.__class__") = some true)
      (hm : PySem.W.mroIn K C (.type "object") = some true) : TyOf K H (.ref a) (.ref C)
theorem isinst_ok {x : V} {u t : Value} (I : Inv X pins σ H s) (rx : RelV x u) (ty : TyOf X.K H x t) (e : PySem.W.kitOne X.K t c = some b) (h : ∀ tk, Q (.bool b) { s with toks := tk }) :
    wpAny (model X.prog X.w) A (call (.builtin "isinstance") [u, c]) Q E s := by
  cases ty with
  | non => cases (show u = Value.none from rx); exact PySem.W.kia_one PySem.W.kitx_none I.kIn True.intro e (fun z => nomatch z) h
  | bl y => cases (show u = Value.bool y from rx); exact PySem.W.kia_one PySem.W.kitx_bool I.kIn True.intro e (fun z => nomatch z) h
  | int i => obtain ⟨t, q⟩ := (show ∃ t, u = Value.int i t from rx); cases q; exact PySem.W.kia_one PySem.W.kitx_int I.kIn True.intro e (fun z => nomatch z) h
  | str y => obtain ⟨t, q⟩ := (show ∃ t, u = Value.str y t from rx); cases q; exact PySem.W.kia_one PySem.W.kitx_str I.kIn True.intro e (fun z => nomatch z) h
  | flt y => obtain ⟨t, q⟩ := (show ∃ t, u = Value.float y t from rx); cases q; exact PySem.W.kia_one PySem.W.kitx_float I.kIn True.intro e (fun z => nomatch z) h
  | @lst a xs ea =>
    cases (show u = Value.ref a from rx)
    obtain ⟨_, _, n, _, h1⟩ := (show ObjOk X.prog X.w H s.heap a (.lst xs) from I.hok a _ ea)
    exact PySem.W.kia_one PySem.W.kitx_list I.kIn ⟨_, h1, rfl⟩ e (fun z => nomatch z) h
  | @frz a ob xs ea =>
    cases (show u = Value.ref a from rx)
    obtain ⟨_, _, _, n, _, h1⟩ := (show ObjOk X.prog X.w H s.heap a (.frz ob (.lst xs)) from I.hok a _ ea)
    exact PySem.W.kia_one PySem.W.kitx_list I.kIn ⟨_, h1, rfl⟩ e (fun z => nomatch z) h
  | @tup a xs ea =>
    cases (show u = Value.ref a from rx)
    obtain ⟨_, _, _, p⟩ := (show ObjOk X.prog X.w H s.heap a (.tup xs) from I.hok a _ ea)
    obtain ⟨o, h1, h2, _⟩ := p
    exact PySem.W.kia_one PySem.W.kitx_tuple I.kIn ⟨o, h1, h2⟩ e (fun z => nomatch z) h
  | @dK a kvs ea =>
    cases (show u = Value.ref a from rx)
    obtain ⟨_, _, vs, _, p⟩ := (show ObjOk X.prog X.w H s.heap a (.dK kvs) from I.hok a _ ea)
    obtain ⟨o, es, ep, h1, h2, _⟩ := p
    exact PySem.W.kia_one PySem.W.kitx_dict I.kIn ⟨o, h1, h2.1⟩ e (fun z => nomatch z) h
  | @dT a kvs ea =>
    cases (show u = Value.ref a from rx)
    obtain ⟨_, _, xs, _, o, es, ep, h1, h2, _⟩ := (show ObjOk X.prog X.w H s.heap a (.dT kvs) from I.hok a _ ea)
    exact PySem.W.kia_one PySem.W.kitx_dict I.kIn ⟨o, h1, h2.1⟩ e (fun z => nomatch z) h
  | @ins a C dx fs ea cl ha hn htk hm =>
    cases (show u = Value.ref a from rx)
    obtain ⟨mA, O, _⟩ := ins_get I.hok ea
    obtain ⟨od, J, _⟩ := O.look
    exact PySem.W.kia_one (PySem.W.kitx_own (cl.get _) cl.hd ha hn htk hm) I.kIn J e (fun z => nomatch z) h
end
end L2
namespace L2
open PySem PySem.Spec PyProof.Rows
structure Room (k : Nat) (A : Around) : Prop where
  hd : A.handled = none
  dp : A.depth + 3 * k + 5 < recursionLimit
  un : A.units + 16 * k + 200 < cLine
theorem Room.mono {j k : Nat} {A : Around} (r : Room k A) (h : j ≤ k) : Room j A := ⟨r.hd, by have := r.dp; omega, by have := r.un; omega⟩
theorem Room.deeper {k : Nat} {A : Around} (r : Room (k + 1) A) (env : Env) : Room k (A.deeper env) :=
  ⟨r.hd, by have := r.dp; show A.depth + 1 + 3 * k + 5 < _; omega, by have := r.un; show A.units + 3 + 16 * k + 200 < _; omega⟩
theorem make_depth {A : Around} {C : Addr} {us : List Value} {kw : List (Str × Value)} : (A.under (.builtin "type.__call__" ⟨.ref C :: us, kw⟩)).depth = A.depth + 1 := by
  first | rfl | simp [Around.under, Code.weight, Code.isCreation, Code.isGuard, Code.isCaller, Code.frames, Code.isFrame, guardIds]
theorem make_units {A : Around} {C : Addr} {us : List Value} {kw : List (Str × Value)} : (A.under (.builtin "type.__call__" ⟨.ref C :: us, kw⟩)).units = A.units + 1 := by
  first | rfl | simp [Around.under, Code.cUnits, Code.frames, Code.isFrame]
theorem Room.make {k : Nat} {A : Around} (r : Room (k + 1) A) (C : Addr) (us : List Value) (kw : List (Str × Value)) : Room k (A.under (.builtin "type.__call__" ⟨.ref C :: us, kw⟩)) :=
  ⟨r.hd, by have := r.dp; rw [make_depth]; omega, by have := r.un; rw [make_units]; omega⟩
theorem Room.depth {k : Nat} {A : Around} (r : Room k A) : A.depth < recursionLimit := by have := r.dp; omega
theorem Room.units {k : Nat} {A : Around} (r : Room k A) : A.units + 64 < cLine := by have := r.un; omega
def tNil : TA := fun _ H Q => Q [] H
def tCons (ta : TE) (tr : TA) : TA := fun σ H Q => ta σ H fun x H1 => tr σ H1 fun xs H2 => Q (x :: xs) H2
section
variable {X : Cx} {e : Expr} {es : List Expr} {te : TE} {t : TA} {pos : Pos}
theorem pa_nil : PA X [] tNil := fun _ _ _ _ H Q I h => Calls.spliced_nil ⟨[], H, I, .nil, h⟩
theorem pa_cons (ha : PE X e te) (hr : PA X es t) (hs : starEach (e :: es) X.env = (false, eval e X.env) :: starEach es X.env := by rfl) : PA X (e :: es) (tCons te t) := by
  intro pos pins s σ H Q I h
  rw [hs]
  show wpAny _ _ (spliced ((false, eval e X.env) :: backTo pos (starEach es X.env))) _ _ s
  refine Calls.spliced_cons (thn (ha pins s σ H _ I h) fun u s1 ⟨x, H1, I1, r1, q1⟩ => ?_)
  exact thn (hr pos pins s1 σ H1 _ I1 q1) fun us s2 ⟨xs, H2, I2, r2, q2⟩ => ⟨x :: xs, H2, I2, .cons r1 r2, q2⟩
def tTup (t : TA) : TE := fun σ H Q => t σ H fun xs H1 => xs.length ≤ sizeLine ∧ ∀ p, H1 p = none → Q (.ref p) (upd H1 p (.tup xs))
def tLst (t : TA) : TE := fun σ H Q => t σ H fun xs H1 => xs.length ≤ sizeLine ∧ ∀ p, H1 p = none → Q (.ref p) (upd H1 p (.lst xs))
theorem pe_tup {x1} (h : PA X es t) : PE X (.Tuple es x1 pos) (tTup t) := by
  intro pins s σ H Q I hq
  refine wpAny_Tuple_spliced (thn (h pos pins s σ H _ I hq) fun us s1 ⟨xs, H1, I1, r, z, q⟩ => ⟨by rw [← r.length]; exact z, ?_⟩)
  have hf : H1 s1.heap.objs.size = none := I1.hok.fresh (Nat.le_refl _)
  refine ⟨.ref s1.heap.objs.size, upd H1 s1.heap.objs.size (.tup xs), I1.laid (t' := s1.toks) (fun b u e => Heap.get?_push_of_some _ e) (Nat.le_refl _) ?_, rfl, q _ hf⟩
  exact ⟨z, us, r, ⟨_, Heap.get?_push_size _ rfl, rfl, _, rfl⟩⟩
theorem pe_lst (h : PA X es t) : PE X (.List es pos) (tLst t) := by
  intro pins s σ H Q I hq
  refine wpAny_List_spliced (thn (h pos pins s σ H _ I hq) fun us s1 ⟨xs, H1, I1, r, z, q⟩ => ⟨by rw [← r.length]; exact z, ?_⟩)
  have hf : H1 s1.heap.objs.size = none := I1.hok.fresh (Nat.le_refl _)
  refine ⟨.ref s1.heap.objs.size, upd H1 s1.heap.objs.size (.lst xs), I1.laid (t' := s1.toks) (fun b u e => Heap.get?_push_of_some _ e) (Nat.le_refl _) ?_, rfl, q _ hf⟩
  exact ⟨z, us, 0, r, Heap.get?_push_size _ rfl⟩
end
abbrev Sp := List V → Hp → VK → XK → Prop
abbrev CXT := List Env → Hp → Shared → XK → Value → Shared → Prop
structure Env0 (P : Program) (w : World) (K : PySem.W.Frag) (mg : Str → Option Value) (base : Heap) (A : Around) (outer : List Env) (s : Shared) (H : Hp) : Prop where
  frames : A.frames = some outer
  mod : Mod K mg base
  bs : ∀ b o, base.get? b = some o → s.heap.get? b = some o ∧ H b = none
  bsz : base.objs.size ≤ s.heap.objs.size
  funs : s.heap.FunFrames base outer
  frf : ∀ b ∈ frs outer, H b = none
  hok : HOk P w H s.heap
  bare : AllBare s.gens
def CE (outer : List Env) (P : Program) (w : World) (H : Hp) (s : Shared) (Q : VK) (u : Value) (s' : Shared) : Prop :=
  ∃ v H', s'.os = s.os ∧ AllBare s'.gens ∧ Un (frs outer) [] H H' s.heap s'.heap ∧ HOk P w H' s'.heap ∧ RelV v u ∧ Q v H'
def CR (CX : CXT) (outer : List Env) (P : Program) (w : World) (H : Hp) (s : Shared) (Q : VK) (E : XK) (r : Result) (s' : Shared) : Prop :=
  match r with
  | .ok (.ret u) => CE outer P w H s Q u s'
  | .ok _ => False
  | .error e => CX outer H s E e s'
structure FnOk (P : Program) (w : World) (K : PySem.W.Frag) (mg : Str → Option Value) (base : Heap) (CX : CXT) (k : Nat) (f : Addr) (fd : FuncData) (ps : List Str) (sp : Sp) : Prop where
  len : ∀ vs H Q E, sp vs H Q E → vs.length = ps.length
  run : ∀ (A : Around) (outer : List Env) (s : Shared) (H : Hp) (args : Args) (us : List Value) (vs : List V) (Q : VK) (E : XK), Room k A → Env0 P w K mg base A outer s H → BindsTo s fd args (ps.zip us) → Vals vs us → sp vs H Q E →
    codeAny (model P w) A (.call (.ref f) args) (CR CX outer P w H s Q E) s
theorem Env0.make {P : Program} {w : World} {K : PySem.W.Frag} {mg : Str → Option Value} {base : Heap} {A : Around} {outer : List Env} {s : Shared} {H : Hp} (e : Env0 P w K mg base A outer s H) (C : Addr) (us : List Value) (kw : List (Str × Value)) :
    Env0 P w K mg base (A.under (.builtin "type.__call__" ⟨.ref C :: us, kw⟩)) outer s H := ⟨by first | exact e.frames | (simpa [Around.under, Code.envs, Code.isFrame, pushEnvs] using e.frames), e.mod, e.bs, e.bsz, e.funs, e.frf, e.hok, e.bare⟩
section
variable {X : Cx} {pins : List (Addr × Obj)} {σ : St} {H : Hp} {s s' : Shared}
theorem Inv.env0 (I : Inv X pins σ H s) : Env0 X.prog X.w X.K X.mg X.base X.A X.stack s H :=
  ⟨I.ok.frames, I.ok.mod, I.bs, Nat.le_trans I.ok.bsz I.sz, I.stack, I.stkFree, I.hok, I.bare⟩
theorem Inv.after {Q : VK} {u : Value} (I : Inv X pins σ H s) (h : CE X.stack X.prog X.w H s Q u s') : EP X pins σ Q u s' := by
  obtain ⟨v, H', os, bare, un, hok, r, q⟩ := h
  obtain ⟨hh, g, d, t, os'⟩ := s'
  obtain rfl : os' = s.os := os
  exact ⟨v, H', I.call (h' := hh) (g' := g) (d' := d) (t' := t) (ch := []) un hok bare (fun b z => absurd z (by simp)), r, q⟩
end
def Binds (K : PySem.W.Frag) (fd : FuncData) (ps : List Str) (ds : List Value) : Prop :=
  ∀ (s : Shared) (us : List Value), K.In s.heap → (us ++ ds).length = ps.length → BindsTo s fd ⟨us, []⟩ (ps.zip (us ++ ds))
theorem Binds.all {K : PySem.W.Frag} {fd : FuncData} {ps : List Str} (h : ∀ us : List Value, us.length = ps.length → bindArgs fd ⟨us, []⟩ = pure (ps.zip us)) : Binds K fd ps [] := fun s us _ hl => by
  rw [List.append_nil] at hl ⊢
  exact .of_eq (h us hl)
section
variable {X : Cx} {CX : CXT} {k : Nat} {f C : Addr} {fd : FuncData} {ps : List Str} {sp : Sp} {dvs : List V} {ds : List Value} {E : XK} {x m : Str} {p pos apos : Pos} {e o : Expr} {es : List Expr} {ta : TE} {t : TA}
structure Mk (K : PySem.W.Frag) (C f : Addr) : Prop where
  makes : PySem.W.makesIn K C = true
  init : PySem.W.findIn K (.ref C) "__init__" = some (some (.ref f))
  fn : PySem.W.isFn K (.ref f) = true
  kp : PySem.W.keepIn K (.ref C) = true
end
section
variable {X : Cx} {CX : CXT} {k : Nat} {f C : Addr} {fd : FuncData} {ps ks : List Str} {sp : Sp} {E : XK} {x m : Str} {p pos apos kpos : Pos} {e o : Expr} {es : List Expr} {kws : List Keyword} {te ta : TE} {t tk : TA} {nm : Option Str}
variable {g : List Value → List Value → List Value} {gV : List V → List V → List V}
end
structure FnScope (N P : List Str) (sc : Scope) : Prop where
  kind : sc.kind = .function
  co : sc.isCoroutine = false
  gen : sc.isGenerator = false
  nd : N.Nodup
  pre : N.take P.length = P
  par : ∀ x ∈ P, sc.names.lookup x = some .local ∨ sc.names.lookup x = some .cell
  nofree : ∀ y ∈ sc.names, y.2 ≠ .free
theorem bindL_out {kindOf : Str → Option NameKind} {x : Str} : ∀ {binds : List (Str × Value)} {m : Str → Option Value}, (∀ v, (x, v) ∉ binds) → bindL kindOf binds m x = m x
  | [], _, _ => rfl
  | (n, v) :: r, m, h => by
    unfold bindL
    rw [bindL_out fun w hw => h w (List.mem_cons_of_mem _ hw)]
    split
    · have : x ≠ n := by rintro rfl; exact h v List.mem_cons_self
      simp [this]
    · rfl
theorem bindC_out {kindOf : Str → Option NameKind} {x : Str} : ∀ {binds : List (Str × Value)} {m : Str → Option Value}, (∀ v, (x, v) ∉ binds) → bindC kindOf binds m x = m x
  | [], _, _ => rfl
  | (n, v) :: r, m, h => by
    unfold bindC
    rw [bindC_out fun w hw => h w (List.mem_cons_of_mem _ hw)]
    split
    · rfl
    · have : x ≠ n := by rintro rfl; exact h v List.mem_cons_self
      simp [this]
theorem bindL_get {kindOf : Str → Option NameKind} {x : Str} {v : Value} : ∀ {P : List Str} {vs : List Value} {i : Nat} {m : Str → Option Value}, P.Nodup → P[i]? = some x → vs[i]? = some v → kindOf x = some .local →
    bindL kindOf (P.zip vs) m x = some v
  | [], _, _, _, _, h, _, _ => by simp at h
  | _ :: _, [], _, _, _, _, h, _ => by simp at h
  | p :: P, w :: vs, 0, m, nd, h1, h2, hk => by
    simp at h1 h2; subst h1; subst h2
    show bindL kindOf ((p, w) :: P.zip vs) m p = _
    unfold bindL
    rw [bindL_out fun v hv => (List.nodup_cons.mp nd).1 (List.of_mem_zip hv).1, if_pos hk]
    simp
  | p :: P, w :: vs, i + 1, m, nd, h1, h2, hk => by
    show bindL kindOf ((p, w) :: P.zip vs) m x = _
    unfold bindL
    exact bindL_get (i := i) (List.nodup_cons.mp nd).2 (by simpa using h1) (by simpa using h2) hk
theorem bindC_get {kindOf : Str → Option NameKind} {x : Str} {v : Value} : ∀ {P : List Str} {vs : List Value} {i : Nat} {m : Str → Option Value}, P.Nodup → P[i]? = some x → vs[i]? = some v → kindOf x ≠ some .local →
    bindC kindOf (P.zip vs) m x = some v
  | [], _, _, _, _, h, _, _ => by simp at h
  | _ :: _, [], _, _, _, _, h, _ => by simp at h
  | p :: P, w :: vs, 0, m, nd, h1, h2, hk => by
    simp at h1 h2; subst h1; subst h2
    show bindC kindOf ((p, w) :: P.zip vs) m p = _
    unfold bindC
    rw [bindC_out fun v hv => (List.nodup_cons.mp nd).1 (List.of_mem_zip hv).1, if_neg hk]
    simp
  | p :: P, w :: vs, i + 1, m, nd, h1, h2, hk => by
    show bindC kindOf ((p, w) :: P.zip vs) m x = _
    unfold bindC
    exact bindC_get (i := i) (List.nodup_cons.mp nd).2 (by simpa using h1) (by simpa using h2) hk
def start (N : List Str) (vs : List V) : St := vs.map some ++ List.replicate (N.length - vs.length) none
def cxOf (CX : CXT) (P : Program) (w : World) (K : PySem.W.Frag) (mg : Str → Option Value) (base : Heap) (N : List Str) (qual : Str) (scope : Scope) (f : Addr) (cd : Value) (A : Around) (outer : List Env) (s : Shared) (H : Hp) (E : XK) : Cx where
  prog := P
  w := w
  K := K
  mg := mg
  base := base
  A := A.deeper (envOfC qual scope s.heap.objs.size f cd)
  N := N
  s₀ := s
  H₀ := H
  env := envOfC qual scope s.heap.objs.size f cd
  outer := outer
  stack := envOfC qual scope s.heap.objs.size f cd :: outer
  ex := []
  calm := true
  fn := fun _ => true
  pn := []
  xe := fun e s' => wpAny (model P w) (A.deeper (envOfC qual scope s.heap.objs.size f cd)) (leaving (envOfC qual scope s.heap.objs.size f cd) e) (fun _ s'' => CX outer H s E e s'') (fun e' s'' => CX outer H s E e' s'') s'
theorem cell_has {sc : Scope} {n : Nat} {x : Str} (h : sc.names.lookup x = some .cell) : ∃ c, (cellsFrom n sc.names []).lookup x = some c := by
  have q := PySem.W.cellsFrom_some sc.names n [] (.inl h)
  exact Option.isSome_iff_exists.mp q
theorem inv_start {CX : CXT} {P : Program} {w : World} {K : PySem.W.Frag} {mg : Str → Option Value} {base : Heap} {N ps : List Str} {qual : Str} {scope : Scope} {f : Addr} {cd : Value} {A : Around} {outer : List Env} {s s1 : Shared} {H : Hp} {E : XK} {us : List Value} {vs : List V}
    (S : FnScope N ps scope) (hd : A.handled = none) (e0 : Env0 P w K mg base A outer s H) (hl : vs.length = ps.length) (r : Vals vs us)
    (x : InCallC s s.heap.objs.size (bindL (envOfC qual scope s.heap.objs.size f cd).kindOf (ps.zip us) fun _ => none) (cellsFrom (s.heap.objs.size + 1) scope.names []) (bindC (envOfC qual scope s.heap.objs.size f cd).kindOf (ps.zip us) fun _ => none) s1) :
    Inv (cxOf CX P w K mg base N qual scope f cd A outer s H E) [] (start N vs) H s1 := by
  have hpl : ps.length ≤ N.length := by have := congrArg List.length S.pre; rw [List.length_take] at this; omega
  obtain ⟨h1, tk, rfl, hk⟩ := x.done
  have noA : ∀ b : Addr, b ∉ (cxOf CX P w K mg base N qual scope f cd A outer s H E).ex := fun b z => absurd (show b ∈ ([] : List Addr) from z) (by simp)
  refine ⟨⟨e0.mod, S.kind, rfl, rfl, Nat.le_refl _, fun y z c h1 h2 => ?_, fun y hy => ?_, fun y c _ h => ?_, fun _ => hd, Around.frames_deeper e0.frames, .inr ⟨rfl, rfl⟩, fun b z => absurd z (noA b), e0.bs, e0.bsz, fun b _ _ => noA b, fun b z => absurd z (noA b), e0.funs, e0.frf⟩,
    rfl, e0.bare, Un.kept hk, ⟨_, x.toInCall.ns, fun i y v h1 h2 h3 => ?_⟩, fun y c h => ⟨_, x.cell y c h⟩, e0.hok.fresh (Nat.le_refl _), fun y c h => ?_, fun p hp => absurd (show p ∈ ([] : List (Addr × Obj)) from hp) (by simp), e0.hok.kept hk, ?_⟩
  · exact name_of_addr x.apart (PySem.mem_of_lookup h1) (PySem.mem_of_lookup h2)
  · have hy : scope.names.lookup y = some .cell ∨ scope.names.lookup y = some .free := hy
    rcases hy with hy | hy
    · exact cell_has hy
    · exact absurd rfl (S.nofree _ (PySem.mem_of_lookup hy))
  · exact Nat.le_of_lt (x.above y c (PySem.mem_of_lookup h))
  · have hi : i < vs.length := by
      unfold start at h2
      by_cases hi : i < vs.length
      · exact hi
      · rw [List.getElem?_append_right (by simpa using hi)] at h2
        rw [List.getElem?_replicate] at h2
        split at h2 <;> cases h2
    have ha : vs[i]? = some v := by
      unfold start at h2
      rw [List.getElem?_append_left (by simpa using hi), List.getElem?_map] at h2
      cases e : vs[i]? with
      | none => rw [e] at h2; cases h2
      | some a => rw [e] at h2; cases h2; rfl
    obtain ⟨u, hu, rv⟩ := r.get ha
    have hp : ps[i]? = some y := by
      rw [← S.pre, List.getElem?_take_of_lt (by omega)]; exact h1
    have ndP : ps.Nodup := by rw [← S.pre]; exact S.nd.sublist (List.take_sublist _ _)
    refine ⟨u, rv, ?_⟩
    rcases S.par y (List.mem_of_getElem? hp) with k | k
    · exact .inl ⟨k, bindL_get ndP hp hu k⟩
    · obtain ⟨c, e⟩ := cell_has (n := s.heap.objs.size + 1) k
      refine .inr ⟨.inl k, c, e, ?_⟩
      have q := x.cell y c e
      rw [bindC_get ndP hp hu (by show scope.names.lookup y ≠ _; rw [k]; decide)] at q
      exact q
  · exact e0.hok.fresh (Nat.le_of_lt (x.above y c (PySem.mem_of_lookup h)))
  · unfold start
    show _ = N.length
    rw [List.length_append, List.length_map, List.length_replicate]
    omega
theorem fn_of {CX : CXT} {P : Program} {w : World} {K : PySem.W.Frag} {mg : Str → Option Value} {base : Heap} {k : Nat} {f : Addr} {name qual : Str} {params : Arguments} {body : List Stmt} {scope : Scope} {dV kV doc pm cdv ct oc : Value} {an od : Option Addr}
    {osl : Array (Option Value)} {N ps : List Str} {sp : Sp} (lk : K.lookup f = some ⟨oc, od, .func (PySem.W.fnOf name qual params body scope dV kV doc pm an cdv ct), osl⟩) (hcd : PySem.W.codeIn K cdv qual = true) (S : FnScope N ps scope)
    (len : ∀ vs H Q E, sp vs H Q E → vs.length = ps.length)
    (hbody : ∀ (A : Around) (outer : List Env) (s : Shared) (H : Hp) (vs : List V) (Q : VK) (E : XK), Room k (A.deeper (envOfC qual scope s.heap.objs.size f cdv)) → sp vs H Q E →
      ∃ t, PSs (cxOf CX P w K mg base N qual scope f cdv A outer s H E) body t ∧ t { nx := fun _ H' => Q .non H', rt := Q } (start N vs) H) :
    FnOk P w K mg base CX (k + 1) f (PySem.W.fnOf name qual params body scope dV kV doc pm an cdv ct) ps sp := by
  refine ⟨len, fun A outer s H args us vs Q E hr e0 hb r hsp => ?_⟩
  have hl := len _ _ _ _ hsp
  have KX : K.In s.heap := e0.mod.kin.keeps fun b o e => (e0.bs b o e).1
  have lim : s.heap.NoLimit := e0.mod.nolimit.keeps fun b o e => (e0.bs b o e).1
  have hkind : ∀ y ∈ ps.zip us, scope.names.lookup y.1 = some .local ∨ (scope.names.lookup y.1 = some .cell ∧ ((cellsFrom (s.heap.objs.size + 1) scope.names []).lookup y.1).isSome = true) := fun ⟨n, v⟩ hy => by
    rcases S.par n (List.of_mem_zip hy).1 with q | q
    · exact .inl q
    · exact .inr ⟨q, PySem.W.cellsFrom_some _ _ _ (.inl q)⟩
  refine codeAny_call_function hr.depth (KX _ _ lk) rfl S.co S.gen rfl (PySem.W.codeRec_of KX hcd) (hb _ _ _ _ ?_)
  refine wpAny_newFunctionEnv_cells S.kind hkind fun env he s1 x => ?_
  subst he
  refine ⟨lim.keeps x.toInCall.keep, codeAny_func ?_⟩
  obtain ⟨t, ht, hq⟩ := hbody A outer s H vs Q E (hr.deeper _) hsp
  have I : Inv (cxOf CX P w K mg base N qual scope f cdv A outer s H E) [] (start N vs) H s1 := inv_start S hr.hd e0 hl r x
  refine wpAny_mono (ht [] s1 (start N vs) H _ I hq) (fun fl s' hs => ?_) fun e s' hs => hs
  have fin : ∀ {σ' : St} {H' : Hp} {v : V} {u : Value}, Inv (cxOf CX P w K mg base N qual scope f cdv A outer s H E) [] σ' H' s' → RelV v u → Q v H' → CE outer P w H s Q u s' :=
    fun {σ' H' v u} J rv q => ⟨v, H', J.os, J.bare, J.base, J.hok, rv, q⟩
  cases fl with
  | ret u =>
    obtain ⟨v, σ', H', J, rv, q⟩ := hs
    exact fin J rv q
  | next =>
    obtain ⟨σ', H', J, q⟩ := hs
    exact fin (v := V.non) (u := Value.none) J rfl q
  | brk =>
    obtain ⟨_, _, _, q⟩ := hs
    exact False.elim q
  | cont =>
    obtain ⟨_, _, _, q⟩ := hs
    exact False.elim q
end L2
namespace L2
open PySem PySem.Spec PyProof.Rows
section
variable {X : Cx} {x : Str} {p pos : Pos} {e : Expr} {es : List Expr} {t : TA} {id T : String} {r : List V → Hp → VK → Prop}
def tCB (r : List V → Hp → VK → Prop) (t : TA) : TE := fun σ H Q => t σ H fun vs H1 => r vs H1 Q
theorem pe_callB (hc : CallR X (.builtin id) r) (hg : Gl X x) (hm : X.mg x = none) (hv : bootBuiltins x = some (.builtin id)) (ha : PA X (e :: es) t) (hn : x ≠ "__name__" := by decide) (hdb : (x == ("__debug__" : Str)) = false := by decide)
    (he : starEach (e :: es) X.env = (false, eval e X.env) :: starEach es X.env := by rfl) (hpl : (backTo pos (starEach es X.env)).any (·.1) = false := by rfl) : PE X (.Call (.Name x p) (e :: es) [] pos) (tCB r t) := by
  intro pins s σ H Q I h
  refine wpAny_Call_Name_kw (ld_blt I hg hm hv ?_ hn hdb)
  exact PyProof.Rows.callWith_builtin1 (thn (ha pos pins s σ H _ I h) fun us s1 ⟨vs, H1, I1, r1, q1⟩ => hc pins s1 σ H1 vs us Q I1 r1 q1) he hpl
theorem pe_callTy (hc : CallR X (.type T) r) (hg : Gl X x) (hm : X.mg x = none) (hv : bootBuiltins x = some (.type T)) (ha : PA X (e :: es) t) (hn : x ≠ "__name__" := by decide) (hdb : (x == ("__debug__" : Str)) = false := by decide)
    (he : starEach (e :: es) X.env = (false, eval e X.env) :: starEach es X.env := by rfl) (hpl : (backTo pos (starEach es X.env)).any (·.1) = false := by rfl) : PE X (.Call (.Name x p) (e :: es) [] pos) (tCB r t) := by
  intro pins s σ H Q I h
  refine wpAny_Call_Name_kw (ld_blt I hg hm hv ?_ hn hdb)
  exact PyProof.Rows.callWith_type1 (thn (ha pos pins s σ H _ I h) fun us s1 ⟨vs, H1, I1, r1, q1⟩ => hc pins s1 σ H1 vs us Q I1 r1 q1) he hpl
end
end L2
namespace HT
open PySem PyProof.Rows
section
open PySem.SeqAt
open PySem.AutoSeq1 (wpAny_loadPart')
open PySem.MeetsSeq PySem.MeetsSeq2 PySem.MeetsSeq3
end
section
variable {prog : Program} {w : World} {A : Around} {E : Value → Shared → Prop} {s : Shared}
def sIx (n d : Nat) : Option Int → Nat
  | none => d
  | some v => if v < 0 then (v + (n : Int)).toNat else min v.toNat n
end
end HT
namespace L2
open PySem PySem.Spec PyProof.Rows
abbrev TO := St → Hp → (Option Int → Hp → Prop) → Prop
def PO (X : Cx) (e : Option Expr) (t : TO) : Prop :=
  ∀ (pins : List (Addr × Obj)) (s : Shared) (σ : St) (H : Hp) (Q : Option Int → Hp → Prop), Inv X pins σ H s → t σ H Q →
    wpAny (model X.prog X.w) X.A (evalPart e X.env) (fun u s' => ∃ o H', Inv X pins σ H' s' ∧ IsPart u o ∧ Q o H') X.xe s
def tNoPart : TO := fun _ H Q => Q none H
def tPart (t : TE) : TO := fun σ H Q => t σ H fun x H1 => ∃ i, x = .int i ∧ Q (some i) H1
section
variable {X : Cx} {e : Expr} {te : TE} {lo hi : Option Expr} {tl th : TO} {pos p2 : Pos}
theorem po_none : PO X none tNoPart := by
  intro pins s σ H Q I h
  rw [evalPart_none]
  exact wpAny_pure ⟨none, H, I, .none, h⟩
theorem po_some (h : PE X e te) : PO X (some e) (tPart te) := by
  intro pins s σ H Q I hw
  rw [evalPart_some]
  refine thn (h pins s σ H _ I hw) fun u s1 ⟨x, H1, I1, r1, q1⟩ => ?_
  obtain ⟨i, rfl, q⟩ := q1
  obtain ⟨t, rfl⟩ := r1
  exact ⟨some i, H1, I1, .int i t, q⟩
def SlR (X : Cx) (r : V → Option Int → Option Int → Hp → VK → Prop) : Prop :=
  ∀ (pins : List (Addr × Obj)) (s : Shared) (σ : St) (H : Hp) (x : V) (v vl vu : Value) (lo hi : Option Int) (sl : Addr) (Q : VK), Inv X pins σ H s → RelV x v → s.heap.IsSliceOf sl vl vu .none → IsPart vl lo → IsPart vu hi → r x lo hi H Q →
    ∃ T id, typeLookup (.type T) "__getitem__" = pure (some (.builtin id)) ∧ s.TypeIs v T ∧ wpAny (model X.prog X.w) X.A (getItem v (.ref sl)) (EP X pins σ Q) X.xe s
theorem SlR.or {r r' : V → Option Int → Option Int → Hp → VK → Prop} (h : SlR X r) (h' : SlR X r') : SlR X (fun x lo hi H Q => r x lo hi H Q ∨ r' x lo hi H Q) := by
  intro pins s σ H x v vl vu lo hi sl Q I rx hs pl pu q
  rcases q with q | q
  · exact h pins s σ H x v vl vu lo hi sl Q I rx hs pl pu q
  · exact h' pins s σ H x v vl vu lo hi sl Q I rx hs pl pu q
def tSl (r : V → Option Int → Option Int → Hp → VK → Prop) (te : TE) (tl th : TO) : TE := fun σ H Q => te σ H fun x H1 => tl σ H1 fun l H2 => th σ H2 fun u H3 => r x l u H3 Q
theorem pe_slice {r : V → Option Int → Option Int → Hp → VK → Prop} (hr : SlR X r) (he : PE X e te) (hl : PO X lo tl) (hu : PO X hi th) : PE X (.Subscript e (.Slice lo hi none p2) pos) (tSl r te tl th) := by
  intro pins s σ H Q I h
  refine Subscript_ (thn (he pins s σ H _ I h) fun v s1 ⟨x, H1, I1, r1, q1⟩ => ?_)
  refine wpAny_Slice (thn (hl pins s1 σ H1 _ I1 q1) fun vl s2 ⟨l, H2, I2, pl, q2⟩ => thn (hu pins s2 σ H2 _ I2 q2) fun vu s3 ⟨u, H3, I3, pu, q3⟩ => ?_)
  rw [evalPart_none]
  refine wpAny_pure ?_
  have I4 : Inv X pins σ H3 { s3 with heap := s3.heap.push { cls := .type "slice", data := .fields #[vl, vu, .none] } } := I3.kept (t' := s3.toks) fun b ob q => Heap.get?_push_of_some _ q
  obtain ⟨T, id, hT, ht, hg⟩ := hr pins { s3 with heap := s3.heap.push { cls := .type "slice", data := .fields #[vl, vu, .none] } } σ H3 x v vl vu l u s3.heap.objs.size Q I4 r1 (Heap.IsSliceOf.new ..) pl pu q3
  show wpAny (model X.prog X.w) X.A (subscriptTail e (.Slice lo hi none p2) v (.ref s3.heap.objs.size)) (EP X pins σ Q) X.xe { s3 with heap := s3.heap.push { cls := .type "slice", data := .fields #[vl, vu, .none] } }
  exact tail_any (ops := [.ref s3.heap.objs.size, v]) ht hT hg (by with_unfolding_all rfl)
def cutV (xs : List V) (lo hi : Option Int) : List V := (xs.drop (HT.sIx xs.length 0 lo)).take (HT.sIx xs.length xs.length hi - HT.sIx xs.length 0 lo)
theorem cutV_length (xs : List V) (lo hi : Option Int) : (cutV xs lo hi).length ≤ xs.length := by
  unfold cutV
  rw [List.length_take, List.length_drop]
  omega
end
end L2
namespace L2
open PySem PySem.Spec PyProof.Rows
def ixN (n : Nat) (i : Int) : Option Nat := if 0 ≤ i then (if i < n then some i.toNat else none) else if -(n : Int) ≤ i then some (i + n).toNat else none
def atI {α : Type} (xs : List α) (i : Int) : Option α := (ixN xs.length i).bind fun j => xs[j]?
theorem ixN_seq {n : Nat} {i : Int} {j : Nat} (h : ixN n i = some j) : seqIndex? i n = some j ∧ j < n ∧ -(n : Int) ≤ i ∧ i < n := by
  unfold ixN at h
  by_cases h0 : 0 ≤ i
  · rw [if_pos h0] at h
    by_cases h1 : i < n
    · rw [if_pos h1] at h
      have e : i.toNat = j := Option.some.inj h
      exact ⟨by rw [seqIndex_of h0 h1, e], by omega, by omega, h1⟩
    · rw [if_neg h1] at h; cases h
  · rw [if_neg h0] at h
    by_cases h1 : -(n : Int) ≤ i
    · rw [if_pos h1] at h
      have e : (i + n).toNat = j := Option.some.inj h
      exact ⟨by rw [seqIndex_neg (by omega) h1, e], by omega, h1, by omega⟩
    · rw [if_neg h1] at h; cases h
theorem atI_get {α : Type} {xs : List α} {i : Int} {v : α} (h : atI xs i = some v) : ∃ j, seqIndex? i xs.length = some j ∧ xs[j]? = some v ∧ j < xs.length ∧ -(xs.length : Int) ≤ i ∧ i < xs.length := by
  unfold atI at h
  cases e : ixN xs.length i with
  | none => rw [e] at h; cases h
  | some j =>
    rw [e] at h
    obtain ⟨h1, h2, h3, h4⟩ := ixN_seq e
    exact ⟨j, h1, h, h2, h3, h4⟩
theorem atI_nat {α : Type} {xs : List α} {j : Nat} {v : α} (h : xs[j]? = some v) : atI xs (j : Int) = some v := by
  have hj : j < xs.length := (List.getElem?_eq_some_iff.mp h).1
  have e : ixN xs.length (j : Int) = some j := by
    unfold ixN
    rw [if_pos (by omega), if_pos (by omega)]; simp
  unfold atI; rw [e]; exact h
def PlainIx (b : Expr) : Prop := ∀ o i, subscripted b false o i = operate [o, i] (getItem o i)
def IxR (X : Cx) (r : R2) : Prop :=
  ∀ (value slice : Expr) (pins : List (Addr × Obj)) (s : Shared) (σ : St) (H : Hp) (x y : V) (v u : Value) (Q : VK), Inv X pins σ H s → RelV x v → RelV y u → r x y H Q →
    subscripted slice false v u = operate [v, u] (getItem v u) → wpAny (model X.prog X.w) X.A (subscriptTail value slice v u) (EP X pins σ Q) X.xe s
def MtR (X : Cx) (id : String) (r : V → List V → Hp → VK → Prop) : Prop :=
  ∀ (pins : List (Addr × Obj)) (s : Shared) (σ : St) (H : Hp) (x : V) (xs : List V) (v : Value) (us : List Value) (Q : VK), Inv X pins σ H s → RelV x v → Vals xs us → r x xs H Q →
    wpAny (model X.prog X.w) X.A (call (.builtin id) (v :: us)) (EP X pins σ Q) X.xe s
section
variable {X : Cx} {a b : Expr} {ta tb : TE} {pos : Pos}
theorem IxR.or {r r' : R2} (h : IxR X r) (h' : IxR X r') : IxR X (fun x y H Q => r x y H Q ∨ r' x y H Q) := by
  intro value slice pins s σ H x y v u Q I rx ry q hs
  rcases q with q | q
  · exact h value slice pins s σ H x y v u Q I rx ry q hs
  · exact h' value slice pins s σ H x y v u Q I rx ry q hs
theorem MtR.or {id : String} {r r' : V → List V → Hp → VK → Prop} (h : MtR X id r) (h' : MtR X id r') : MtR X id (fun x xs H Q => r x xs H Q ∨ r' x xs H Q) := by
  intro pins s σ H x xs v us Q I rx rs q
  rcases q with q | q
  · exact h pins s σ H x xs v us Q I rx rs q
  · exact h' pins s σ H x xs v us Q I rx rs q
theorem pe_ix {r : R2} (hr : IxR X r) (ha : PE X a ta) (hb : PE X b tb) (hs : PlainIx b) : PE X (.Subscript a b pos) (tOp r ta tb) := by
  intro pins s σ H Q I h
  exact Subscript_ (binT ha hb I h fun v u s2 x y H2 I2 rx ry q => hr a b pins s2 σ H2 x y v u Q I2 rx ry q (hs _ _))
def rIxL (K : PySem.W.Frag) : R2 := fun x y H Q => ∃ p xs i v, x = .ref p ∧ y = .int i ∧ SqL K H p xs ∧ atI xs i = some v ∧ Q v H
def rIxT (K : PySem.W.Frag) : R2 := fun x y H Q => ∃ p xs i v, x = .ref p ∧ y = .int i ∧ SqT K H p xs ∧ atI xs i = some v ∧ Q v H
theorem ix_list : IxR X (rIxL X.K) := by
  intro value slice pins s σ H x y v u Q I rx ry h hs
  obtain ⟨p, xs, i, z, rfl, rfl, hq, he, q⟩ := h
  cases rx
  obtain ⟨t, rfl⟩ := ry
  obtain ⟨its, r, pl, hz⟩ := I.list hq
  obtain ⟨j, h1, h2, h3, h4, h5⟩ := atI_get he
  obtain ⟨w, ew, rw'⟩ := r.get h2
  have hl := r.length
  have hn := line63
  have fin : EP X pins σ Q w s := ⟨z, H, I, rw', q⟩
  by_cases h0 : 0 ≤ i
  · have hj : i.toNat = j := by
      rw [seqIndex_of h0 h5] at h1
      exact Option.some.inj h1
    exact item_listR pl.isList h0 (by omega) (by rw [hj]; simpa using ew) fin hs
  · have hj : (i + (its.toArray.size : Int)).toNat = j := by
      rw [seqIndex_neg (by omega) h4] at h1
      rw [List.size_toArray, ← hl]
      exact Option.some.inj h1
    exact subscriptTail_builtinR (x := w) pl.isList.typeIs slot_list_getitem.lookup
      (wpAny_getItem_list_neg (Q := fun r s' => r = w ∧ EP X pins σ Q r s') pl.isList (by omega) (by rw [List.size_toArray] <;> omega) (by omega) (by rw [hj]; simpa using ew) ⟨rfl, fin⟩) hs
theorem ix_tup : IxR X (rIxT X.K) := by
  intro value slice pins s σ H x y v u Q I rx ry h hs
  obtain ⟨p, xs, i, z, rfl, rfl, hq, he, q⟩ := h
  cases rx
  obtain ⟨t, rfl⟩ := ry
  obtain ⟨its, r, pl, hz⟩ := I.tuple hq
  obtain ⟨j, h1, h2, h3, h4, h5⟩ := atI_get he
  obtain ⟨w, ew, rw'⟩ := r.get h2
  have hl := r.length
  have hn := line63
  have fin : EP X pins σ Q w s := ⟨z, H, I, rw', q⟩
  exact subscriptTail_builtinR (x := w) pl.typeIs slot_tuple_getitem.lookup
    (getItem_tuple (j := j) (Q := fun r s' => r = w ∧ EP X pins σ Q r s') pl (by omega) (by omega) (by rw [List.size_toArray, ← hl]; exact h1) (by simpa using ew) ⟨rfl, fin⟩) hs
theorem mapSeq_set (its : List Value) (n j : Nat) (u : Value) : Obj.mapSeq (·.setIfInBounds j u) { cls := .type "list", data := .seq its.toArray n } = { cls := .type "list", data := .seq (its.set j u).toArray n } := by
  simp [Obj.mapSeq]
theorem Inv.lst {pins : List (Addr × Obj)} {σ : St} {H : Hp} {s : Shared} {p : Addr} {xs : List V} (I : Inv X pins σ H s) (h : H p = some (.lst xs)) :
    ∃ (its : List Value) (n : Nat), Vals xs its ∧ s.heap.get? p = some { cls := .type "list", data := .seq its.toArray n } ∧ xs.length ≤ sizeLine := by
  obtain ⟨z, its, n, r, e⟩ := I.hok p _ h
  exact ⟨its, n, r, e, z⟩
theorem Inv.lstUpd {pins : List (Addr × Obj)} {σ : St} {H : Hp} {s : Shared} {p : Addr} {xs ys : List V} {its its' : List Value} {n n' : Nat} {f : Obj → Obj} (I : Inv X pins σ H s) (h : H p = some (.lst xs))
    (ho : s.heap.get? p = some { cls := .type "list", data := .seq its.toArray n }) (hf : f { cls := .type "list", data := .seq its.toArray n } = { cls := .type "list", data := .seq its'.toArray n' }) (r : Vals ys its') (hz : ys.length ≤ sizeLine) (t : Nat) :
    Inv X pins σ (upd H p (.lst ys)) { s with heap := s.heap.update p f, toks := t } := by
  have e : (s.heap.update p f).get? p = some { cls := .type "list", data := .seq its'.toArray n' } := by
    rw [Heap.get?_update_self f ho (by rw [hf] <;> rfl), hf]
  refine I.write (x := p) (e := p) (by rw [h]; trivial) (.inl rfl) (fun b u hb q => (Heap.get?_update_other _ _ (Ne.symm hb)).trans q) ⟨_, e⟩ ?_
  exact ⟨hz, its', n', r, e⟩
def rSetL : V → V → V → Hp → (Hp → Prop) → Prop := fun o i v H Q => ∃ p xs k j, o = .ref p ∧ i = .int k ∧ H p = some (.lst xs) ∧ ixN xs.length k = some j ∧ Q (upd H p (.lst (xs.set j v)))
theorem set_list : PSet X rSetL := by
  intro pins s σ H o i v ov iv u Q I ro ri rv h
  obtain ⟨p, xs, k, j, rfl, rfl, hp, hj, q⟩ := h
  cases ro
  obtain ⟨t, rfl⟩ := ri
  obtain ⟨its, n, r, ho, hz⟩ := I.lst hp
  obtain ⟨h1, h2, h3, h4⟩ := ixN_seq hj
  have hl := r.length
  have hn := line63
  have I' : Inv X pins σ (upd H p (.lst (xs.set j v))) { s with heap := s.heap.update p (Obj.mapSeq (·.setIfInBounds j u)) } :=
    I.lstUpd hp ho (mapSeq_set its n j u) (r.set rv j) (by rw [List.length_set]; exact hz) s.toks
  by_cases h0 : 0 ≤ k
  · have hk : k.toNat = j := by
      rw [seqIndex_of h0 h4] at h1
      exact Option.some.inj h1
    exact PySem.W.ki_setAt ho h0 (by omega) (by rw [List.size_toArray, ← hl]; exact h4) (by rw [hk]; exact ⟨_, I', q⟩)
  · have hk : (k + (its.toArray.size : Int)).toNat = j := by
      rw [seqIndex_neg (by omega) h3] at h1
      rw [List.size_toArray, ← hl]
      exact Option.some.inj h1
    exact PySem.W.ki_setBack ho (by omega) (by rw [List.size_toArray, ← hl]; exact h3) (by omega) (by rw [hk]; exact ⟨_, I', q⟩)
theorem slice_bounds (lo hi : Option Int) (n : Nat) : (sliceBounds lo hi none n).1 = ((HT.sIx n 0 lo : Nat) : Int) ∧ (sliceBounds lo hi none n).2.1 = ((HT.sIx n n hi : Nat) : Int) ∧ (sliceBounds lo hi none n).2.2 = 1 := by
  refine ⟨?_, ?_, rfl⟩
  · cases lo with
    | none => simp [sliceBounds, HT.sIx]
    | some i =>
      simp only [sliceBounds, HT.sIx, Option.getD_none, show (1 : Int) > 0 by decide, if_true]
      by_cases h : i < 0
      · simp only [h, if_true] <;> omega
      · simp only [h, if_false] <;> omega
  · cases hi with
    | none => simp [sliceBounds, HT.sIx]
    | some i =>
      simp only [sliceBounds, HT.sIx, Option.getD_none, show (1 : Int) > 0 by decide, if_true]
      by_cases h : i < 0
      · simp only [h, if_true] <;> omega
      · simp only [h, if_false] <;> omega
theorem slicePick_cut (its : List Value) (lo hi : Option Int) : slicePick its.toArray lo hi none = ((its.drop (HT.sIx its.length 0 lo)).take (HT.sIx its.length its.length hi - HT.sIx its.length 0 lo)).toArray := by
  obtain ⟨h1, h2, h3⟩ := slice_bounds lo hi its.toArray.size
  unfold slicePick
  rw [h1, h2, h3]
  simp only [sliceRange_one, pick_run, List.size_toArray] <;> rfl
def rSlL (K : PySem.W.Frag) : V → Option Int → Option Int → Hp → VK → Prop := fun x lo hi H Q => ∃ a xs, x = .ref a ∧ SqL K H a xs ∧ ∀ p, H p = none → Q (.ref p) (upd H p (.lst (cutV xs lo hi)))
theorem sl_list : SlR X (rSlL X.K) := by
  intro pins s σ H x v vl vu lo hi sl Q I rx hs pl pu h
  obtain ⟨a, xs, rfl, hx, q⟩ := h
  cases rx
  obtain ⟨its, r, ht, hz⟩ := I.list hx
  have hlen := r.length
  refine ⟨"list", _, slot_list_getitem.lookup, ht.isList.typeIs, ?_⟩
  refine wpAny_getItem_list_slice ht.isList hs pl pu .none (by simp) ?_ (by rw [List.size_toArray] <;> omega)
  rw [slicePick_cut, ← hlen]
  refine ⟨.ref s.heap.objs.size, _, I.laid (t' := s.toks) (o := .lst (cutV xs lo hi)) (fun b ob q => Heap.get?_push_of_some _ q) (Nat.le_refl _) ?_, rfl, q _ (I.hok.fresh (Nat.le_refl _))⟩
  exact ⟨Nat.le_trans (cutV_length xs lo hi) hz, _, 0, (r.drop (HT.sIx xs.length 0 lo)).take (HT.sIx xs.length xs.length hi - HT.sIx xs.length 0 lo), Heap.get?_push_size _ rfl⟩
def flatV : V → Bool
  | .non => true
  | .bl _ => true
  | .int _ => true
  | .str _ => true
  | _ => false
theorem CallR.or {f : Value} {r r' : List V → Hp → VK → Prop} (h : CallR X f r) (h' : CallR X f r') : CallR X f (fun xs H Q => r xs H Q ∨ r' xs H Q) := by
  intro pins s σ H xs us Q I rs q
  rcases q with q | q
  · exact h pins s σ H xs us Q I rs q
  · exact h' pins s σ H xs us Q I rs q
theorem call_list_of : CallR X (.type "list") (fun xs H Q => ∃ p ys, xs = [.ref p] ∧ (SqL X.K H p ys ∨ SqT X.K H p ys) ∧ ∀ l, H l = none → Q (.ref l) (upd H l (.lst ys))) := by
  intro pins s σ H xs us Q I r h
  obtain ⟨p, ys, rfl, hq, q⟩ := h
  obtain ⟨u, rfl, rx⟩ := vals1 r
  cases rx
  have fin : ∀ (its : List Value), Vals ys its → ys.length ≤ sizeLine → ∀ (h' : Heap) (c' : Nat), (∀ b o', s.heap.get? b = some o' → h'.get? b = some o') →
      h'.get? s.heap.objs.size = some { cls := .type "list", dict := none, data := .seq its.toArray c', slots := #[] } → EP X pins σ Q (.ref s.heap.objs.size) { s with heap := h' } := fun its r' hz h' c' kp e =>
    ⟨.ref s.heap.objs.size, _, I.laid (t' := s.toks) kp (Nat.le_refl _) (show ObjOk X.prog X.w _ h' _ (.lst ys) from ⟨hz, its, c', r', e⟩), rfl, q _ (I.hok.fresh (Nat.le_refl _))⟩
  rcases hq with hq | hq
  · obtain ⟨its, r', pl, hz⟩ := I.list hq
    have hlen := r'.length
    obtain ⟨o, ho, hc, n, hd⟩ := pl.isList
    exact call_list_seq p (.inl rfl) ho hc hd (fun h' c' kp e => fin its r' hz h' c' kp e) (by simp only [List.size_toArray] <;> omega)
  · obtain ⟨its, r', pl, hz⟩ := I.tuple hq
    have hlen := r'.length
    obtain ⟨o, ho, hc, n, hd⟩ := pl
    exact call_list_seq p (.inr rfl) ho hc hd (fun h' c' kp e => fin its r' hz h' c' kp e) (by simp only [List.size_toArray] <;> omega)
def tyV (K : PySem.W.Frag) (T : String) (x : V) (H : Hp) : Prop := match x with
  | .str _ => T = "str"
  | .int _ => T = "int"
  | .ref p => (T = "list" ∧ ∃ xs, SqL K H p xs) ∨ (T = "tuple" ∧ ∃ o, K.lookup p = some o ∧ o.cls = .type "tuple" ∧ o.dict = none) ∨
      (T = "dict" ∧ ((∃ kvs, H p = some (.dK kvs)) ∨ ∃ kvs, H p = some (.dT kvs))) ∨ (T = "set" ∧ ∃ S n, H p = some (.set S n))
  | _ => False
theorem tyV_is {pins : List (Addr × Obj)} {σ : St} {H : Hp} {s : Shared} {T : String} {x : V} {v : Value} (I : Inv X pins σ H s) (r : RelV x v) (ty : tyV X.K T x H) :
    s.TypeIs v T ∧ ∀ a, v = .ref a → ∃ ob, s.heap.get? a = some ob ∧ ob.dict = none := by
  cases x with
  | str z =>
    obtain ⟨t, rfl⟩ := r
    cases (show T = "str" from ty)
    exact ⟨typeIs_str s z t, fun _ e => nomatch e⟩
  | int i =>
    obtain ⟨t, rfl⟩ := r
    cases (show T = "int" from ty)
    exact ⟨typeIs_int s i t, fun _ e => nomatch e⟩
  | ref p =>
    cases r
    rcases ty with ⟨rfl, xs, hq⟩ | ⟨rfl, o, hk, hc, hd⟩ | ⟨rfl, hk⟩ | ⟨rfl, S, n, hk⟩
    · obtain ⟨its, _, pl, _⟩ := I.list hq
      refine ⟨pl.isList.typeIs, fun a e => ?_⟩
      cases e
      obtain ⟨o, n, e, c, hd, _⟩ := pl
      exact ⟨o, e, hd⟩
    · refine ⟨⟨o, I.kIn p o hk, hc⟩, fun a e => ?_⟩
      cases e
      exact ⟨o, I.kIn _ o hk, hd⟩
    · have z : ∃ o, s.heap.get? p = some o ∧ o.ExactDict := by
        rcases hk with ⟨kvs, hk⟩ | ⟨kvs, hk⟩
        · obtain ⟨_, _, _, _, o, _, _, e, ex, _⟩ := I.hok p _ hk
          exact ⟨o, e, ex⟩
        · obtain ⟨_, _, _, _, o, _, _, e, ex, _⟩ := I.hok p _ hk
          exact ⟨o, e, ex⟩
      obtain ⟨o, e, ex⟩ := z
      refine ⟨⟨o, e, ex.1⟩, fun a e2 => ?_⟩
      cases e2
      exact ⟨o, e, ex.2.1⟩
    · obtain ⟨o, _, _, _, e, ex, _⟩ := I.hok p _ hk
      refine ⟨⟨o, e, ex.1⟩, fun a e2 => ?_⟩
      cases e2
      exact ⟨o, e, ex.2.1⟩
  | _ => exact False.elim ty
def tBM0 (K : PySem.W.Frag) (T : String) (r : V → List V → Hp → VK → Prop) (to : TE) : TE := fun σ H Q => to σ H fun x H1 => tyV K T x H1 ∧ r x [] H1 Q
def tBM (K : PySem.W.Frag) (T : String) (r : V → List V → Hp → VK → Prop) (to : TE) (t : TA) : TE := fun σ H Q => to σ H fun x H1 => tyV K T x H1 ∧ t σ H1 fun xs H2 => r x xs H2 Q
variable {o e : Expr} {es : List Expr} {to : TE} {t : TA} {name : Str} {apos cpos : Pos} {T id : String} {r : V → List V → Hp → VK → Prop}
theorem pe_bm0 (pa : PlainAttrs T) (slot : Slot T name id) (hty : typeOf (.builtin id) = pure (.type "method_descriptor")) (hm : MtR X id r) (ho : PE X o to)
    (hbase : attributeBase o name X.env (eval o X.env) = eval o X.env := by rfl) (hline : (apos.endLine == cpos.line) = true := by rfl) : PE X (.Call (.Attribute o name apos) [] [] cpos) (tBM0 X.K T r to) := by
  intro pins s σ H Q I h
  refine wpAny_Call_method0_late hbase hline (thn (ho pins s σ H _ I h) fun v s1 ⟨x, H1, I1, r1, ty, q1⟩ => ?_)
  obtain ⟨h1, h2⟩ := tyV_is I1 r1 ty
  exact ⟨T, id, pa, slot, hty, h1, h2, Calls.callWith_builtin rfl (PySem.evalArgs_none (hm pins s1 σ H1 x [] v [] Q I1 r1 .nil q1))⟩
theorem pe_bm (pa : PlainAttrs T) (slot : Slot T name id) (hty : typeOf (.builtin id) = pure (.type "method_descriptor")) (hm : MtR X id r) (ho : PE X o to) (ha : PA X (e :: es) t)
    (hbase : attributeBase o name X.env (eval o X.env) = eval o X.env := by rfl)
    (hfew : ((backTo cpos (starEach (e :: es) X.env)).all (fun x => !x.1) && (backToKw cpos (keywordEach [] X.env)).all (fun x => x.1.isSome)
      && decide ((e :: es).length + ([] : List Keyword).length + (if ([] : List Keyword).isEmpty then 0 else 1) < 30)) = true := by rfl)
    (hline : (apos.endLine == cpos.line) = true := by rfl) (hs : starEach (e :: es) X.env = (false, eval e X.env) :: starEach es X.env := by rfl) (hplain : (backTo cpos (starEach es X.env)).any (·.1) = false := by rfl) :
    PE X (.Call (.Attribute o name apos) (e :: es) [] cpos) (tBM X.K T r to t) := by
  intro pins s σ H Q I h
  refine wpAny_Call_method_late hbase hfew hline rfl (thn (ho pins s σ H _ I h) fun v s1 ⟨x, H1, I1, r1, ty, q1⟩ => ?_)
  obtain ⟨h1, h2⟩ := tyV_is I1 r1 ty
  refine ⟨T, id, pa, slot, hty, h1, h2, ?_⟩
  have hA := ha cpos pins s1 σ H1 _ I1 q1
  rw [hs] at hA ⊢
  refine Calls.callWith_builtin (by show (false || (backTo cpos (starEach es X.env)).any (·.1)) = false; rw [hplain] <;> rfl) (Calls.evalArgs_plain ?_)
  exact thn hA fun us s2 ⟨vs, H2, I2, r2, q2⟩ => hm pins s2 σ H2 x vs v us Q I2 r1 r2 q2
end
end L2
namespace L2
open PySem PySem.Spec PyProof.Rows
def MtM (X : Cx) (id : String) (r : V → List V → Hp → VK → Prop) : Prop :=
  ∀ (pins : List (Addr × Obj)) (s : Shared) (σ : St) (H : Hp) (x : V) (xs : List V) (v : Value) (us : List Value) (Q : VK), Inv X pins σ H s → RelV x v → Vals xs us → r x xs H Q →
    wpAny (model X.prog X.w) X.A (call (.builtin id) (v :: us)) (EP X pins σ Q) X.xe s
theorem Vals.one : ∀ {x : V} {us : List Value}, Vals [x] us → ∃ u, us = [u] ∧ RelV x u
  | _, _, .cons r .nil => ⟨_, rfl, r⟩
theorem Vals.two : ∀ {x y : V} {us : List Value}, Vals [x, y] us → ∃ u v, us = [u, v] ∧ RelV x u ∧ RelV y v
  | _, _, _, .cons r (.cons q .nil) => ⟨_, _, rfl, r, q⟩
theorem Vals.zero : ∀ {us : List Value}, Vals [] us → us = []
  | _, .nil => rfl
theorem Vals.dropLast {xs : List V} {us : List Value} (h : Vals xs us) : Vals xs.dropLast us.dropLast := by
  induction h with
  | nil => exact .nil
  | cons r t ih =>
    cases t with
    | nil => exact .nil
    | cons q t' => exact .cons r ih
theorem Vals.rep {xs : List V} {us : List Value} (h : Vals xs us) : ∀ k : Nat, Vals (List.replicate k xs).flatten (List.replicate k us).flatten
  | 0 => .nil
  | k + 1 => by
    rw [List.replicate_succ, List.replicate_succ, List.flatten_cons, List.flatten_cons]
    exact Vals.append h (Vals.rep h k)
theorem erase_last {α : Type} (l : List α) : l.eraseIdx (l.length - 1) = l.dropLast := by
  induction l with
  | nil => rfl
  | cons a r ih =>
    cases r with
    | nil => rfl
    | cons b r =>
      have e : (a :: b :: r).length - 1 = ((b :: r).length - 1) + 1 := by
        have h1 : (a :: b :: r).length = r.length + 2 := rfl
        have h2 : (b :: r).length = r.length + 1 := rfl
        omega
      rw [e, List.eraseIdx_cons_succ, ih]
      all_goals rfl
theorem foldl_rep (its : List Value) : ∀ (k : Nat) (acc : List Value),
    List.foldl (fun x1 x2 => x1 ++ x2) acc.toArray (List.replicate k its.toArray) = (acc ++ (List.replicate k its).flatten).toArray
  | 0, acc => by simp
  | k + 1, acc => by
    have e : acc.toArray ++ its.toArray = (acc ++ its).toArray := by simp
    have e2 : (acc ++ its) ++ (List.replicate k its).flatten = acc ++ (List.replicate (k + 1) its).flatten := by
      rw [List.replicate_succ, List.flatten_cons, List.append_assoc]
    rw [← e2, ← foldl_rep its k (acc ++ its), ← e, List.replicate_succ, List.foldl_cons]
section
variable {X : Cx} {pins : List (Addr × Obj)} {σ : St} {H : Hp} {s : Shared} {l b : Addr} {xs ys zs : List V}
theorem Inv.lset {its its' : List Value} {n : Nat} {f : Array Value → Array Value} {t' : Nat} (I : Inv X pins σ H s) (hH : H l = some (.lst xs))
    (e : s.heap.get? l = some { cls := .type "list", data := .seq its.toArray n }) (hf : f its.toArray = its'.toArray) (hv : Vals ys its') (hz : ys.length ≤ sizeLine) :
    Inv X pins σ (upd H l (.lst ys)) { s with heap := s.heap.update l (Obj.mapSeq f), toks := t' } := by
  have q := PySem.IsL.update e f
  rw [hf] at q
  refine I.write (x := l) (e := l) (by rw [hH]; exact trivial) (.inl rfl) (fun b' u hb hu => (Heap.get?_update_other s.heap (Obj.mapSeq f) (Ne.symm hb)).trans hu) ⟨_, q⟩ ?_
  exact ⟨hz, its', _, hv, q⟩
theorem Inv.lnew {its : List Value} {t' : Nat} (I : Inv X pins σ H s) (hv : Vals ys its) (hz : ys.length ≤ sizeLine) :
    Inv X pins σ (upd H s.heap.objs.size (.lst ys)) { s with heap := s.heap.push { cls := .type "list", data := .seq its.toArray }, toks := t' } :=
  I.laid (fun _ _ q => Heap.get?_push_of_some _ q) (Nat.le_refl _) ⟨hz, its, 0, hv, Heap.get?_push_size _ rfl⟩
theorem Inv.fresh (I : Inv X pins σ H s) : H s.heap.objs.size = none := I.hok.fresh (Nat.le_refl _)
theorem Inv.lstM (I : Inv X pins σ H s) (hH : H l = some (.lst xs)) : xs.length ≤ sizeLine ∧ ∃ (its : List Value) (n : Nat), Vals xs its ∧ xs.length = its.length ∧ s.heap.get? l = some { cls := .type "list", data := .seq its.toArray n } := by
  obtain ⟨z, its, n, r, e⟩ := I.hok l _ hH
  exact ⟨z, its, n, r, r.length, e⟩
theorem notLongL {n : Nat} (h : n ≤ sizeLine) : Builtin.List.listTooLong n = false := by
  unfold Builtin.List.listTooLong
  exact decide_eq_false (by omega)
end
section
variable {X : Cx}
def rAppend : V → List V → Hp → VK → Prop := fun x vs H Q => ∃ l xs y, x = .ref l ∧ vs = [y] ∧ H l = some (.lst xs) ∧ xs.length < sizeLine ∧ Q .non (upd H l (.lst (xs ++ [y])))
theorem mt_append : MtM X "list.append" rAppend := by
  intro pins s σ H x vs v us Q I rx rv h
  obtain ⟨l, xs, y, rfl, rfl, hH, hz, q⟩ := h
  cases rx
  obtain ⟨u, rfl, ru⟩ := rv.one
  obtain ⟨z, its, n, r, hl, e⟩ := I.lstM hH
  refine call_meets F.slot_list_append ⟨_, e, rfl⟩ F.entry_list_append (F.args_list_append_2 _ _) (PySem.list_append l its.toArray n u (by rw [List.size_toArray]; omega)) ⟨e, ?_⟩
  refine ⟨.non, _, I.lset (its' := its ++ [u]) hH e (by simp) (r.append (.cons ru .nil)) ?_, rfl, q⟩
  rw [List.length_append, List.length_singleton]
  omega
def rExtend : V → List V → Hp → VK → Prop := fun x vs H Q => ∃ l b xs zs, x = .ref l ∧ vs = [.ref b] ∧ H l = some (.lst xs) ∧ H b = some (.lst zs) ∧ xs.length + zs.length ≤ sizeLine ∧ Q .non (upd H l (.lst (xs ++ zs)))
theorem mt_extend : MtM X "list.extend" rExtend := by
  intro pins s σ H x vs v us Q I rx rv h
  obtain ⟨l, b, xs, zs, rfl, rfl, hH, hB, hz, q⟩ := h
  cases rx
  obtain ⟨u, rfl, ru⟩ := rv.one
  cases ru
  obtain ⟨z, its, n, r, hl, e⟩ := I.lstM hH
  obtain ⟨z2, its2, n2, r2, hl2, e2⟩ := I.lstM hB
  have hsz : its.toArray.size + its2.toArray.size ≤ sizeLine := by rw [List.size_toArray, List.size_toArray]; omega
  have hlong : ¬ (!its.toArray.isEmpty && Builtin.List.listTooLong (its.toArray.size + its2.toArray.size)) = true := by
    rw [notLongL hsz, Bool.and_false]
    exact Bool.false_ne_true
  refine call_meets F.slot_list_extend ⟨_, e, rfl⟩ F.entry_list_extend (F.args_list_extend_2 _ _)
    (AutoSeq1.list_extend_list_list_0 l its.toArray n b its2.toArray n2 hlong (by rw [List.size_toArray]; omega) (by omega)) ⟨e, e2, ?_⟩
  refine ⟨.non, _, I.lset (its' := its ++ its2) hH e (by simp) (r.append r2) ?_, rfl, q⟩
  rw [List.length_append]
  omega
def rPop : V → List V → Hp → VK → Prop := fun x vs H Q => ∃ l xs y, x = .ref l ∧ vs = [] ∧ H l = some (.lst xs) ∧ xs[xs.length - 1]? = some y ∧ Q y (upd H l (.lst xs.dropLast))
theorem mt_pop : MtM X "list.pop" rPop := by
  intro pins s σ H x vs v us Q I rx rv h
  obtain ⟨l, xs, y, rfl, rfl, hH, hy, q⟩ := h
  cases rx
  have hus := rv.zero
  subst hus
  obtain ⟨z, its, n, r, hl, e⟩ := I.lstM hH
  obtain ⟨u, hu, ru⟩ := r.get hy
  have hy' : its.toArray[its.toArray.size - 1]? = some u := by
    show its.toArray[its.length - 1]? = some u
    rw [← Array.getElem?_toList, ← hl]
    exact hu
  refine call_meets F.slot_list_pop ⟨_, e, rfl⟩ F.entry_list_pop (F.args_list_pop_1 _) (MeetsSeq.list_pop_last l its.toArray n u hy' (by rw [List.size_toArray]; omega)) ⟨e, ?_⟩
  refine ⟨y, _, I.lset (its' := its.dropLast) hH e ?_ r.dropLast ?_, ru, q⟩
  · show its.toArray.eraseIdxIfInBounds (its.toArray.size - 1) = its.dropLast.toArray
    rw [List.size_toArray, List.eraseIdxIfInBounds_toArray, erase_last]
  · rw [List.length_dropLast]
    omega
def rCat : R2 := fun x y H Q => ∃ l b xs zs, x = .ref l ∧ y = .ref b ∧ H l = some (.lst xs) ∧ H b = some (.lst zs) ∧ xs.length + zs.length ≤ sizeLine ∧ ∀ p, H p = none → Q (.ref p) (upd H p (.lst (xs ++ zs)))
theorem op_cat : OpR X (binaryOp .Add) rCat := by
  intro pins s σ H x y v u Q I rx ry h
  obtain ⟨l, b, xs, zs, rfl, rfl, hH, hB, hz, q⟩ := h
  cases rx
  cases ry
  obtain ⟨z, its, n, r, hl, e⟩ := I.lstM hH
  obtain ⟨z2, its2, n2, r2, hl2, e2⟩ := I.lstM hB
  refine PySem.P.add_list e e2 ?_ (by rw [List.size_toArray, List.size_toArray]; omega)
  have ea : its.toArray ++ its2.toArray = (its ++ its2).toArray := by simp
  rw [ea]
  exact ⟨.ref _, _, I.lnew (t' := s.toks) (r.append r2) (by rw [List.length_append]; omega), rfl, q _ I.fresh⟩
def rRep : R2 := fun x y H Q => ∃ l k xs, x = .ref l ∧ y = .int k ∧ H l = some (.lst xs) ∧ -(2 ^ 63) ≤ k ∧ k < 2 ^ 63 ∧ xs.length * k.toNat ≤ sizeLine ∧
  ∀ p, H p = none → Q (.ref p) (upd H p (.lst (List.replicate k.toNat xs).flatten))
theorem len_rep {α : Type} (xs : List α) (k : Nat) : (List.replicate k xs).flatten.length = k * xs.length := by
  induction k with
  | zero => simp
  | succ k ih => rw [List.replicate_succ, List.flatten_cons, List.length_append, ih, Nat.succ_mul, Nat.add_comm]
theorem op_rep : OpR X (binaryOp .Mult) rRep := by
  intro pins s σ H x y v u Q I rx ry h
  obtain ⟨l, k, xs, rfl, rfl, hH, h1, h2, hz, q⟩ := h
  cases rx
  obtain ⟨t, rfl⟩ := ry
  obtain ⟨z, its, n, r, hl, e⟩ := I.lstM hH
  have hlen : its.toArray.size * k.toNat ≤ sizeLine := by rw [List.size_toArray, ← hl]; exact hz
  have hcap : ¬ its.toArray.size * k.toNat > (2 ^ 63 - 1) / 8 := by
    have : (sizeLine : Nat) ≤ (2 ^ 63 - 1) / 8 := by decide
    omega
  have hfit : ¬ (!Builtin.List.listFitsIndex k) = true := by
    rw [fitsIndex_both h1 h2]
    exact Bool.false_ne_true
  have hlong : ¬ Builtin.List.listTooLong (its.toArray.size * k.toNat) = true := by
    rw [notLongL hlen]
    exact Bool.false_ne_true
  have hnew : List.foldl (fun x1 x2 => x1 ++ x2) #[] (List.replicate (if its.toArray.isEmpty = true then 0 else k.toNat) its.toArray) = (List.replicate k.toNat its).flatten.toArray := by
    have f0 : ∀ m : Nat, List.foldl (fun x1 x2 => x1 ++ x2) #[] (List.replicate m its.toArray) = (List.replicate m its).flatten.toArray := fun m => by
      have := foldl_rep its m []
      rw [List.nil_append] at this
      exact this
    rw [f0]
    cases its with
    | nil => simp
    | cons a r' => rw [if_neg (by simp)]
  refine wpAny_binaryOp_repeat_ref (T := "list") (U := "int") (by decide) ⟨_, e, rfl⟩ (fun s' => typeIs_int s' k t) noFill_list_mul F.fills_int_mul F.slot_int_rmul repeat_list F.slot_int_index.lookup
    (call_meets F.slot_int_rmul (typeIs_int s k t) F.entry_int_rmul (F.args_int_rmul_2 _ _) (int___rmul___int_list k t l its.toArray n)
      ⟨e, rfl, ⟨_, e, rfl⟩, call_meets F.slot_list_mul ⟨_, e, rfl⟩ F.entry_list_mul (F.args_list_mul_2 _ _) (AutoListH.list___mul___list_int_3 l its.toArray n k t hfit hcap hlong) ⟨e, ?_⟩⟩)
  rw [hnew]
  exact ⟨.ref _, _, I.lnew (t' := s.toks) (r.rep k.toNat) (by rw [len_rep, Nat.mul_comm]; exact hz), rfl, q _ I.fresh⟩
end
section
variable {prog : Program} {w : World} {A : Around} {E : Value → Shared → Prop} {s : Shared}
end
section
variable {X : Cx}
end
end L2
namespace L2
open PySem PySem.Spec PyProof.Rows
section
variable {κ : Type} [DecidableEq κ]
def valV (kvs : List (κ × V)) (k : κ) : Option V := (kvs.find? fun kv => decide (kv.1 = k)).map (·.2)
def putK (kvs : List (κ × V)) (k : κ) (v : V) : List (κ × V) :=
  if (kvs.any fun kv => decide (kv.1 = k)) = true then kvs.map (fun kv => if kv.1 = k then (kv.1, v) else kv) else kvs ++ [(k, v)]
def dropK (kvs : List (κ × V)) (k : κ) : List (κ × V) := kvs.filter fun kv => decide (kv.1 ≠ k)
theorem valV_pos {p : κ × V} {r : List (κ × V)} {k : κ} (e : p.1 = k) : valV (p :: r) k = some p.2 := by simp [valV, List.find?_cons, e]
theorem valV_neg {p : κ × V} {r : List (κ × V)} {k : κ} (e : ¬ p.1 = k) : valV (p :: r) k = valV r k := by simp [valV, List.find?_cons, e]
theorem valV_any (k : κ) : ∀ kvs : List (κ × V), (kvs.any fun kv => decide (kv.1 = k)) = (valV kvs k).isSome
  | [] => rfl
  | p :: r => by
    rw [List.any_cons]
    by_cases e : p.1 = k
    · simp only [valV_pos e, decide_eq_true e, Bool.true_or, Option.isSome_some]
    · rw [valV_neg e, decide_eq_false e, Bool.false_or]; exact valV_any k r
theorem valV_map (k j : κ) (y : V) : ∀ kvs : List (κ × V), valV (kvs.map fun kv => if kv.1 = k then (kv.1, y) else kv) j = (valV kvs j).map fun x => if j = k then y else x
  | [] => rfl
  | p :: r => by
    have ih := valV_map k j y r
    rw [List.map_cons]
    by_cases h : p.1 = k
    · rw [if_pos h]
      by_cases e : p.1 = j
      · rw [valV_pos (p := (p.1, y)) e, valV_pos e, Option.map_some, if_pos (e.symm.trans h)]
      · rw [valV_neg (p := (p.1, y)) e, valV_neg e, ih]
    · rw [if_neg h]
      by_cases e : p.1 = j
      · rw [valV_pos (p := p) e, valV_pos e, Option.map_some, if_neg (fun z => h (e.trans z))]
      · rw [valV_neg (p := p) e, valV_neg e, ih]
theorem valV_snoc (k j : κ) (y : V) : ∀ kvs : List (κ × V), valV kvs k = none → valV (kvs ++ [(k, y)]) j = if j = k then some y else valV kvs j
  | [], _ => by
    by_cases e : k = j
    · rw [if_pos e.symm]; exact valV_pos (p := (k, y)) e
    · rw [if_neg (fun z => e z.symm)]; exact valV_neg (p := (k, y)) e
  | p :: r, hn => by
    rw [List.cons_append]
    have hk : ¬ p.1 = k := fun z => by rw [valV_pos z] at hn; cases hn
    rw [valV_neg hk] at hn
    have ih := valV_snoc k j y r hn
    by_cases e : p.1 = j
    · rw [valV_pos e, valV_pos e, if_neg (fun z => hk (e.trans z))]
    · rw [valV_neg e, valV_neg e, ih]
theorem valV_put (kvs : List (κ × V)) (k j : κ) (y : V) : valV (putK kvs k y) j = if j = k then some y else valV kvs j := by
  unfold putK
  by_cases a : (kvs.any fun kv => decide (kv.1 = k)) = true
  · rw [if_pos a, valV_map]
    rw [valV_any] at a
    by_cases e : j = k
    · obtain ⟨x, hx⟩ := Option.isSome_iff_exists.mp a
      rw [if_pos e, e, hx, Option.map_some, if_pos rfl]
    · rw [if_neg e]
      cases valV kvs j with
      | none => rfl
      | some x => rw [Option.map_some, if_neg e]
  · rw [if_neg a]
    refine valV_snoc k j y kvs ?_
    rw [valV_any] at a
    cases q : valV kvs k with
    | none => rfl
    | some x => rw [q] at a; exact (a rfl).elim
theorem length_putK (kvs : List (κ × V)) (k : κ) (v : V) : (putK kvs k v).length ≤ kvs.length + 1 := by
  unfold putK
  split
  · rw [List.length_map]; omega
  · rw [List.length_append, List.length_cons, List.length_nil]; omega
theorem putK_new {kvs : List (κ × V)} {k : κ} (v : V) (h : valV kvs k = none) : putK kvs k v = kvs ++ [(k, v)] := by
  unfold putK
  rw [valV_any, h]
  exact if_neg (by decide)
theorem RelO.isSome_eq {o : Option V} {u : Option Value} (r : RelO o u) : o.isSome = u.isSome := by
  cases o with
  | none => cases u with
    | none => rfl
    | some _ => exact (show False from r).elim
  | some _ => cases u with
    | none => exact (show False from r).elim
    | some _ => rfl
theorem RelO.getD {o : Option V} {u : Option Value} {d : V} {d' : Value} (r : RelO o u) (rd : RelV d d') : RelV (o.getD d) (u.getD d') := by
  cases o with
  | none => cases u with
    | none => exact rd
    | some _ => exact (show False from r).elim
  | some _ => cases u with
    | none => exact (show False from r).elim
    | some _ => exact r
theorem KV.val {kvs : List (κ × V)} {vs : List (κ × Value)} (r : KV kvs vs) (k : κ) : RelO (valV kvs k) (valueAt vs k) := by
  unfold KV at r
  induction r with
  | nil => exact True.intro
  | @cons p q ps qs h t ih =>
    obtain ⟨h1, h2⟩ := h
    by_cases e : p.1 = k
    · have e' : q.1 = k := h1.symm.trans e
      have b : valueAt (q :: qs) k = some q.2 := by simp [valueAt, List.find?_cons, e']
      rw [valV_pos e, b]; exact h2
    · have e' : ¬ q.1 = k := fun z => e (h1.trans z)
      have b : valueAt (q :: qs) k = valueAt qs k := by simp [valueAt, List.find?_cons, e']
      rw [valV_neg e, b]; exact ih
theorem KV.any {kvs : List (κ × V)} {vs : List (κ × Value)} (r : KV kvs vs) (k : κ) : (kvs.any fun kv => decide (kv.1 = k)) = vs.any fun kv => decide (kv.1 = k) := by
  unfold KV at r
  induction r with
  | nil => rfl
  | cons h t ih => rw [List.any_cons, List.any_cons, ih, h.1]
theorem KV.repl {kvs : List (κ × V)} {vs : List (κ × Value)} (r : KV kvs vs) (k : κ) {y : V} {u : Value} (ry : RelV y u) :
    KV (kvs.map fun kv => if kv.1 = k then (kv.1, y) else kv) (vs.map fun kv => if kv.1 = k then (kv.1, u) else kv) := by
  unfold KV at r ⊢
  induction r with
  | nil => exact .nil
  | @cons p q ps qs h t ih =>
    rw [List.map_cons, List.map_cons]
    refine .cons ?_ ih
    obtain ⟨h1, h2⟩ := h
    by_cases e : p.1 = k
    · rw [if_pos e, if_pos (h1.symm.trans e)]; exact ⟨h1, ry⟩
    · rw [if_neg e, if_neg (fun z => e (h1.trans z))]; exact ⟨h1, h2⟩
theorem KV.put {kvs : List (κ × V)} {vs : List (κ × Value)} (r : KV kvs vs) (k : κ) {y : V} {u : Value} (ry : RelV y u) : KV (putK kvs k y) (stored vs k u) := by
  unfold putK stored
  rw [r.any k]
  by_cases e : (vs.any fun kv => decide (kv.1 = k)) = true
  · rw [if_pos e, if_pos e]; exact r.repl k ry
  · rw [if_neg e, if_neg e]; exact Paired.snoc r ⟨rfl, ry⟩
theorem KV.drop {kvs : List (κ × V)} {vs : List (κ × Value)} (r : KV kvs vs) (k : κ) : KV (dropK kvs k) (without vs k) := by
  unfold KV at r ⊢
  unfold dropK without
  induction r with
  | nil => exact .nil
  | @cons p q ps qs h t ih =>
    obtain ⟨h1, h2⟩ := h
    rw [List.filter_cons, List.filter_cons]
    by_cases e : p.1 = k
    · have a : ¬ decide (p.1 ≠ k) = true := by simp [e]
      have b : ¬ decide (q.1 ≠ k) = true := by simp [h1.symm.trans e]
      rw [if_neg a, if_neg b]; exact ih
    · have e' : ¬ q.1 = k := fun z => e (h1.trans z)
      have a : decide (p.1 ≠ k) = true := by simp [e]
      have b : decide (q.1 ≠ k) = true := by simp [e']
      rw [if_pos a, if_pos b]; exact .cons ⟨h1, h2⟩ ih
theorem KV.length {kvs : List (κ × V)} {vs : List (κ × Value)} (r : KV kvs vs) : kvs.length = vs.length := Paired.length r
end
theorem kV_is {P : Program} {w : World} {k : Key} {u : Value} (r : RelV (kV k) u) : (mixKind P w).is k u = true := by
  cases k with
  | inl i => obtain ⟨t, e⟩ := (show ∃ t, u = Value.int i t from r); subst e; exact mixKind_int P w i t
  | inr x => obtain ⟨t, e⟩ := (show ∃ t, u = Value.str x t from r); subst e; exact mixKind_str P w x t
theorem items_are {P : Program} {w : World} : ∀ {ks : List Key} {us : List Value}, Vals (ks.map kV) us → ItemsAre (mixKind P w) ks us
  | [], _, r => by rw [List.map_nil] at r; cases r; exact .nil
  | k :: ks, _, r => by
    rw [List.map_cons] at r
    cases r with
    | cons h t => exact .cons (kV_is h) (items_are t)
abbrev KT (H : Hp) : List (List Key × V) → List (List Key × Addr × Value) → Prop := Paired fun p q => p.1 = q.1 ∧ H q.2.1 = some (.tup (p.1.map kV)) ∧ RelV p.2 q.2.2
theorem KT.val {H : Hp} {kvs : List (List Key × V)} {xs : List (List Key × Addr × Value)} (r : KT H kvs xs) (k : List Key) : RelO (valV kvs k) ((atKey xs k).map (·.2)) := by
  induction r with
  | nil => exact True.intro
  | @cons p q ps qs h t ih =>
    obtain ⟨h1, _, h2⟩ := h
    by_cases e : p.1 = k
    · have e' : q.1 = k := h1.symm.trans e
      have b : atKey (q :: qs) k = some q.2 := by simp [atKey, List.find?_cons, e']
      rw [valV_pos e, b]; exact h2
    · have e' : ¬ q.1 = k := fun z => e (h1.trans z)
      have b : atKey (q :: qs) k = atKey qs k := by simp [atKey, List.find?_cons, e']
      rw [valV_neg e, b]; exact ih
theorem KT.repl {H : Hp} {kvs : List (List Key × V)} {xs : List (List Key × Addr × Value)} (r : KT H kvs xs) (k : List Key) {y : V} {u : Value} (ry : RelV y u) :
    KT H (kvs.map fun kv => if kv.1 = k then (kv.1, y) else kv) (xs.map (putAt k u)) := by
  induction r with
  | nil => exact .nil
  | @cons p q ps qs h t ih =>
    rw [List.map_cons, List.map_cons]
    refine .cons ?_ ih
    obtain ⟨h1, h2, h3⟩ := h
    unfold putAt
    by_cases e : p.1 = k
    · rw [if_pos e, if_pos (h1.symm.trans e)]; exact ⟨h1, h2, ry⟩
    · rw [if_neg e, if_neg (fun z => e (h1.trans z))]; exact ⟨h1, h2, h3⟩
theorem KT.put {H : Hp} {kvs : List (List Key × V)} {xs : List (List Key × Addr × Value)} (r : KT H kvs xs) (k : List Key) {b : Addr} {y : V} {u : Value} (hb : H b = some (.tup (k.map kV))) (ry : RelV y u) :
    KT H (putK kvs k y) (storedH xs k b u) := by
  have e : (kvs.any fun kv => decide (kv.1 = k)) = (atKey xs k).isSome := by
    rw [valV_any, (r.val k).isSome_eq, Option.isSome_map]
  unfold putK storedH
  rw [e]
  by_cases q : (atKey xs k).isSome = true
  · rw [if_pos q, if_pos q]; exact r.repl k ry
  · rw [if_neg q, if_neg q]; exact Paired.snoc r ⟨rfl, hb, ry⟩
theorem KT.keeps {H H' : Hp} {kvs : List (List Key × V)} {xs : List (List Key × Addr × Value)} (r : KT H kvs xs) (ht : ∀ b ys, H b = some (.tup ys) → H' b = some (.tup ys)) : KT H' kvs xs :=
  Paired.mapP r fun _ _ z => ⟨z.1, ht _ _ z.2.1, z.2.2⟩
section
variable {P : Program} {w : World} {H : Hp} {h : Heap} {a : Addr}
theorem rd_of {u : HO} (ok : HOk P w H h) (e : Rd H a u) : ObjOk P w H h a u := e.ok ok
theorem dk_rd {kvs : List (Key × V)} (ok : HOk P w H h) (e : Rd H a (.dK kvs)) : kvs.length ≤ sizeLine ∧ (a == sysModules) = false ∧ ∃ vs, KV kvs vs ∧ h.DictOf (mixKind P w) a vs :=
  show ObjOk P w H h a (.dK kvs) from rd_of ok e
theorem dk_of {kvs : List (Key × V)} (ok : HOk P w H h) (e : H a = some (.dK kvs)) : kvs.length ≤ sizeLine ∧ (a == sysModules) = false ∧ ∃ vs, KV kvs vs ∧ h.DictOf (mixKind P w) a vs := dk_rd ok (.inl e)
theorem key_of {ks : List Key} (ok : HOk P w H h) (e : H a = some (.tup (ks.map kV))) : (tupleKind (mixKind P w)).is h ks a := by
  obtain ⟨_, its, r, o, h1, h2, n, h3⟩ := (show ObjOk P w H h a (.tup (ks.map kV)) from ok a _ e)
  exact ⟨o, its.toArray, n, h1, h2, h3, by simpa using items_are r⟩
theorem dt_rd {kvs : List (List Key × V)} (ok : HOk P w H h) (e : Rd H a (.dT kvs)) : kvs.length ≤ sizeLine ∧ (a == sysModules) = false ∧
    ∃ xs, KT H kvs xs ∧ h.DictOfH (tupleKind (mixKind P w)) a xs := by
  obtain ⟨z, y, xs, r, o, es, ep, h1, h2, h3, h4, h5⟩ := (show ObjOk P w H h a (.dT kvs) from rd_of ok e)
  refine ⟨z, y, xs, r, o, es, ep, h1, h2, h3, h4, fun x hx => ?_, h5⟩
  have all : ∀ {l : List (List Key × V)} {m : List (List Key × Addr × Value)}, KT H l m → ∀ x ∈ m, (tupleKind (mixKind P w)).is h x.1 x.2.1 := by
    intro l m q
    induction q with
    | nil => intro x hx; exact nomatch hx
    | @cons p q ps qs hq t ih =>
      intro x hx
      rcases List.mem_cons.mp hx with e | hx
      · subst e
        exact key_of ok (by rw [← hq.1]; exact hq.2.1)
      · exact ih x hx
  exact all r x hx
theorem dt_of {kvs : List (List Key × V)} (ok : HOk P w H h) (e : H a = some (.dT kvs)) : kvs.length ≤ sizeLine ∧ (a == sysModules) = false ∧
    ∃ xs, KT H kvs xs ∧ h.DictOfH (tupleKind (mixKind P w)) a xs := dt_rd ok (.inl e)
end
def DGet (H : Hp) (a : Addr) (y : V) (r : Option V) : Prop :=
  (∃ kvs k, Rd H a (.dK kvs) ∧ y = kV k ∧ r = valV kvs k) ∨ ∃ kvs k b, Rd H a (.dT kvs) ∧ y = .ref b ∧ H b = some (.tup (k.map kV)) ∧ r = valV kvs k
def DPut (H : Hp) (a : Addr) (y v : V) (H' : Hp) : Prop :=
  (∃ kvs k, H a = some (.dK kvs) ∧ y = kV k ∧ kvs.length < sizeLine ∧ H' = upd H a (.dK (putK kvs k v))) ∨
  ∃ kvs k b, H a = some (.dT kvs) ∧ y = .ref b ∧ H b = some (.tup (k.map kV)) ∧ kvs.length < sizeLine ∧ H' = upd H a (.dT (putK kvs k v))
theorem DGet.k {H : Hp} {a : Addr} {kvs : List (Key × V)} {k : Key} (e : H a = some (.dK kvs)) : DGet H a (kV k) (valV kvs k) := .inl ⟨kvs, k, .inl e, rfl, rfl⟩
theorem DGet.t {H : Hp} {a b : Addr} {kvs : List (List Key × V)} {k : List Key} (e : H a = some (.dT kvs)) (eb : H b = some (.tup (k.map kV))) : DGet H a (.ref b) (valV kvs k) := .inr ⟨kvs, k, b, .inl e, rfl, eb, rfl⟩
theorem DPut.k {H : Hp} {a : Addr} {kvs : List (Key × V)} {k : Key} {v : V} (e : H a = some (.dK kvs)) (hl : kvs.length < sizeLine) : DPut H a (kV k) v (upd H a (.dK (putK kvs k v))) := .inl ⟨kvs, k, e, rfl, hl, rfl⟩
theorem DPut.t {H : Hp} {a b : Addr} {kvs : List (List Key × V)} {k : List Key} {v : V} (e : H a = some (.dT kvs)) (eb : H b = some (.tup (k.map kV))) (hl : kvs.length < sizeLine) :
    DPut H a (.ref b) v (upd H a (.dT (putK kvs k v))) := .inr ⟨kvs, k, b, e, rfl, eb, hl, rfl⟩
section
variable {X : Cx} {pins : List (Addr × Obj)} {σ : St} {H : Hp} {s : Shared} {a : Addr} {y v : V} {u r : Value} {o : Option V} {A : Around} {E : Value → Shared → Prop}
theorem Inv.big (I : Inv X pins σ H s) : sysModules < s.heap.objs.size := by
  have h : mainGlobals < s.heap.objs.size := (I.mod.glob.keeps I.bk).lt
  exact Nat.lt_trans (by decide) h
theorem d_getItem {Q : Value → Shared → Prop} (hu : A.units + 1 < cLine) (I : Inv X pins σ H s) (g : DGet H a y (some v)) (ry : RelV y u) (h : ∀ w' s', Inv X pins σ H s' → RelV v w' → Q w' s') :
    wpAny (model X.prog X.w) A (getItem (.ref a) u) Q E s := by
  rcases g with ⟨kvs, k, e, ey, l⟩ | ⟨kvs, k, b, e, ey, eb, l⟩
  · subst ey
    obtain ⟨z, hd, vs, rel, dd⟩ := dk_rd I.hok e
    obtain ⟨w', hw, rw'⟩ := RelO.some_of (v := v) (o := valueAt vs k) (by rw [l]; exact rel.val k)
    exact wpAny_getItem_of (kV_is ry) dd.mapOf hw (h w' _ (I.tok _) rw')
  · subst ey
    cases (show u = Value.ref b from ry)
    obtain ⟨z, hd, xs, rel, dd⟩ := dt_rd I.hok e
    obtain ⟨w', hw, rw'⟩ := RelO.some_of (v := v) (o := (atKey xs k).map (·.2)) (by rw [l]; exact rel.val k)
    obtain ⟨p, hp, hp2⟩ := Option.map_eq_some_iff.mp hw
    refine wpAny_getItem_heap (tupleKind_room_in1 hu) (key_of I.hok eb) dd hp ?_
    rw [hp2]
    exact h w' _ (I.tok _) rw'
theorem d_in {Q : Value → Shared → Prop} (hu : A.units + 1 < cLine) (I : Inv X pins σ H s) (g : DGet H a y o) (ry : RelV y u) (h : ∀ s', Inv X pins σ H s' → Q (.bool o.isSome) s') :
    wpAny (model X.prog X.w) A (compareOp .In u (.ref a)) Q E s := by
  rcases g with ⟨kvs, k, e, ey, l⟩ | ⟨kvs, k, b, e, ey, eb, l⟩
  · subst ey
    obtain ⟨z, hd, vs, rel, dd⟩ := dk_rd I.hok e
    refine wpAny_in_of (kV_is ry) hd dd.mapOf ?_
    rw [← (rel.val k).isSome_eq, ← l]
    exact h _ (I.tok _)
  · subst ey
    cases (show u = Value.ref b from ry)
    obtain ⟨z, hd, xs, rel, dd⟩ := dt_rd I.hok e
    refine wpAny_in_heap (tupleKind_room_in1 hu) (key_of I.hok eb) hd dd ?_
    have q := (rel.val k).isSome_eq
    rw [Option.isSome_map] at q
    rw [← q, ← l]
    exact h _ (I.tok _)
theorem d_notIn {Q : Value → Shared → Prop} (hu : A.units + 1 < cLine) (I : Inv X pins σ H s) (g : DGet H a y o) (ry : RelV y u) (h : ∀ s', Inv X pins σ H s' → Q (.bool (!o.isSome)) s') :
    wpAny (model X.prog X.w) A (compareOp .NotIn u (.ref a)) Q E s := by
  rcases g with ⟨kvs, k, e, ey, l⟩ | ⟨kvs, k, b, e, ey, eb, l⟩
  · subst ey
    obtain ⟨z, hd, vs, rel, dd⟩ := dk_rd I.hok e
    refine wpAny_notIn_of (kV_is ry) hd dd.mapOf ?_
    rw [← (rel.val k).isSome_eq, ← l]
    exact h _ (I.tok _)
  · subst ey
    cases (show u = Value.ref b from ry)
    obtain ⟨z, hd, xs, rel, dd⟩ := dt_rd I.hok e
    refine wpAny_notIn_heap (tupleKind_room_in1 hu) (key_of I.hok eb) hd dd ?_
    have q := (rel.val k).isSome_eq
    rw [Option.isSome_map] at q
    rw [← q, ← l]
    exact h _ (I.tok _)
theorem d_write {h' : Heap} {t' : Nat} {ob : HO} (I : Inv X pins σ H s) (mu : Mut (H a)) (hs : Heap.SameBut a s.heap h') (he : ∃ q, h'.get? a = some q) (new : ObjOk X.prog X.w (upd H a ob) h' a ob) :
    Inv X pins σ (upd H a ob) { s with heap := h', toks := t' } :=
  I.write (x := a) (e := a) mu (.inl rfl) (fun b q hb z => (hs.2 b hb).trans z) he new
theorem dk_new {P : Program} {w : World} {H' : Hp} {h' : Heap} {kvs : List (Key × V)} {vs : List (Key × Value)} (z : kvs.length ≤ sizeLine) (hd : (a == sysModules) = false) (rel : KV kvs vs) (dd : h'.DictOf (mixKind P w) a vs) :
    ObjOk P w H' h' a (.dK kvs) := ⟨z, hd, vs, rel, dd⟩
theorem d_setItem {H' : Hp} {Q : Unit → Shared → Prop} (hu : A.units + 1 < cLine) (I : Inv X pins σ H s) (g : DPut H a y v H') (ry : RelV y u) (rv : RelV v r) (h : ∀ s', Inv X pins σ H' s' → Q () s') :
    wpAny (model X.prog X.w) A (setItem (.ref a) u r) Q E s := by
  rcases g with ⟨kvs, k, e, ey, l, eH⟩ | ⟨kvs, k, b, e, ey, eb, l, eH⟩
  · subst ey eH
    obtain ⟨z, hd, vs, rel, dd⟩ := dk_of I.hok e
    have hz : vs.length ≤ sizeLine := by rw [← rel.length]; exact z
    have hl : (putK kvs k v).length ≤ sizeLine := by have := length_putK kvs k v; omega
    refine wpAny_setItem_pairs (hsz := hz) (kV_is ry) dd fun h' dd' hs => h _ ?_
    have he : ∃ q, h'.get? a = some q := let ⟨q, _, _, hq, _⟩ := dd'; ⟨q, hq⟩
    exact d_write I (by rw [e]; exact True.intro) hs he (dk_new hl hd (rel.put k rv) dd')
  · subst ey eH
    cases (show u = Value.ref b from ry)
    obtain ⟨z, hd, xs, rel, dd⟩ := dt_of I.hok e
    have hz : xs.length ≤ sizeLine := by rw [← Paired.length rel]; exact z
    have hl : (putK kvs k v).length ≤ sizeLine := by have := length_putK kvs k v; omega
    refine wpAny_setItem_heap (hsz := hz) (tupleKind_room_in1 hu) (key_of I.hok eb) dd fun h' dd' hs => h _ ?_
    obtain ⟨q, es, ep, hq, h2, h3, h4, _, h5⟩ := dd'
    refine d_write I (by rw [e]; exact True.intro) hs ⟨q, hq⟩ ⟨hl, hd, _, (rel.put k eb rv).keeps fun c ys ec => ?_, q, es, ep, hq, h2, h3, h4, h5⟩
    rw [upd_ne (ne_of ec e (fun z => nomatch z))]
    exact ec
end
section
variable {X : Cx} {pins : List (Addr × Obj)} {σ : St} {H : Hp} {s : Shared} {a : Addr} {kvs : List (Key × V)} {k : Key} {u : Value} {A : Around} {E : Value → Shared → Prop}
theorem d_len {Q : Value → Shared → Prop} (I : Inv X pins σ H s) (e : Rd H a (.dK kvs)) (h : ∀ t s', Inv X pins σ H s' → Q (.int kvs.length t) s') : wpAny (model X.prog X.w) A (call (.builtin "len") [.ref a]) Q E s := by
  obtain ⟨z, hd, vs, rel, dd⟩ := dk_rd I.hok e
  refine call_len_dict hd dd (by rw [← rel.length]; rw [sizeLine_eq] at z; omega) ?_
  rw [← rel.length]
  exact h _ _ (I.tok _)
end
def NoSl (i : Expr) : Prop := ∀ ov iv, subscripted i false ov iv = operate [ov, iv] (getItem ov iv)
theorem subD_of {prog : Program} {w : World} {A : Around} {E : Value → Shared → Prop} {s : Shared} {env : Env} {value slice : Expr} {pos : Pos} {T id : String} {Q : Value → Shared → Prop}
    (hl : typeLookup (.type T) "__getitem__" = pure (some (.builtin id))) (hs : NoSl slice)
    (h : wpAny (model prog w) A (eval value env) (fun o s₁ => wpAny (model prog w) A (eval slice env) (fun i s₂ => s₂.TypeIs o T ∧ wpAny (model prog w) A (getItem o i) Q E s₂) E s₁) E s) :
    wpAny (model prog w) A (eval (.Subscript value slice pos) env) Q E s := by
  refine Subscript_ (wpAny_mono h (fun o s₁ h₁ => wpAny_mono h₁ (fun i s₂ h₂ => ?_) fun _ _ x => x) fun _ _ x => x)
  obtain ⟨hT, h₂⟩ := h₂
  unfold subscriptTail
  refine wpAny_bind ?_
  rw [getitemInPython_of_ne hT.not_modules]
  refine wpAny_bind (wpAny_specialOf hT hl ?_)
  have fin : wpAny (model prog w) A (subscripted slice false o i) (fun r s₃ => wpAny (model prog w) A (letTemporaryGo value o r >>= fun _ => pure r) Q E s₃) E s₂ := by
    rw [hs o i]
    exact wpAny_operating (wpAny_mono h₂ (fun r s₃ h₃ => wpAny_bind (wpAny_letTemporaryGo (wpAny_pure h₃))) fun _ _ x => x)
  first
    | exact wpAny_pure (wpAny_bind fin)
    | exact wpAny_bind (wpAny_pure (wpAny_bind fin))
    | exact wpAny_bind fin
theorem dict_typeIs {X : Cx} {pins : List (Addr × Obj)} {σ : St} {H : Hp} {s : Shared} {a : Addr} {y : V} {o : Option V} (I : Inv X pins σ H s) (g : DGet H a y o) : s.TypeIs (.ref a) "dict" := by
  rcases g with ⟨kvs, k, e, _, _⟩ | ⟨kvs, k, b, e, _, _, _⟩
  · obtain ⟨_, _, vs, _, dd⟩ := dk_rd I.hok e
    exact dd.typeIs
  · obtain ⟨_, _, xs, _, dd⟩ := dt_rd I.hok e
    exact dd.typeIs
def tDGet (td ty : TE) : TE := fun σ H Q => td σ H fun x H1 => ty σ H1 fun y H2 => ∃ a v, x = .ref a ∧ DGet H2 a y (some v) ∧ Q v H2
def tDIn (ty td : TE) : TE := fun σ H Q => ty σ H fun y H1 => td σ H1 fun x H2 => ∃ a o, x = .ref a ∧ DGet H2 a y o ∧ Q (.bl o.isSome) H2
def tDNotIn (ty td : TE) : TE := fun σ H Q => ty σ H fun y H1 => td σ H1 fun x H2 => ∃ a o, x = .ref a ∧ DGet H2 a y o ∧ Q (.bl (!o.isSome)) H2
def sDPut (td ty tv : TE) : TS := fun D σ H => tv σ H fun v H1 => td σ H1 fun x H2 => ty σ H2 fun y H3 => ∃ a H4, x = .ref a ∧ DPut H3 a y v H4 ∧ D.nx σ H4
section
variable {X : Cx} {o i e value : Expr} {pos pos' tpos : Pos} {td ty tv : TE}
theorem pe_dget (hu : X.A.units + 1 < cLine) (ho : PE X o td) (hi : PE X i ty) (hs : NoSl i) : PE X (.Subscript o i pos) (tDGet td ty) := by
  intro pins s σ H Q I h
  refine subD_of PySem.F.slot_dict_getitem.lookup hs (thn (ho pins s σ H _ I h) fun u s1 ⟨x, H1, I1, rx, q1⟩ => thn (hi pins s1 σ H1 _ I1 q1) fun iv s2 ⟨y, H2, I2, ry, a, v, ex, g, q2⟩ => ?_)
  subst ex
  obtain rfl : u = Value.ref a := rx
  exact ⟨dict_typeIs I2 g, d_getItem hu I2 g ry fun w' s3 I3 rw' => ⟨v, H2, I3, rw', q2⟩⟩
theorem pc_din (hu : X.A.units + 1 < cLine) (hi : PE X i ty) (ho : PE X o td) : PC X .In i o (tDIn ty td) := by
  intro pins s σ H Q I h
  refine thn (hi pins s σ H _ I h) fun iv s1 ⟨y, H1, I1, ry, q1⟩ => thn (ho pins s1 σ H1 _ I1 q1) fun u s2 ⟨x, H2, I2, rx, a, ov, ex, g, q2⟩ => ?_
  subst ex
  obtain rfl : u = Value.ref a := rx
  exact d_in hu I2 g ry fun s3 I3 => ⟨.bl ov.isSome, H2, I3, rfl, q2⟩
theorem pc_dnotin (hu : X.A.units + 1 < cLine) (hi : PE X i ty) (ho : PE X o td) : PC X .NotIn i o (tDNotIn ty td) := by
  intro pins s σ H Q I h
  refine thn (hi pins s σ H _ I h) fun iv s1 ⟨y, H1, I1, ry, q1⟩ => thn (ho pins s1 σ H1 _ I1 q1) fun u s2 ⟨x, H2, I2, rx, a, ov, ex, g, q2⟩ => ?_
  subst ex
  obtain rfl : u = Value.ref a := rx
  exact d_notIn hu I2 g ry fun s3 I3 => ⟨.bl (!ov.isSome), H2, I3, rfl, q2⟩
theorem ps_dput (hu : X.A.units + 1 < cLine) (ho : PE X o td) (hi : PE X i ty) (hv : PE X value tv) (hs : swapsWith value (some (.Subscript o i pos')) pos.line X.env = pure false) :
    PS X (.Assign [.Subscript o i pos'] value pos) (sDPut td ty tv) := by
  intro pins s σ H D I h
  refine wpAny_Assign_Subscript (thn (hv pins s σ H _ I h) fun r s1 ⟨v, H1, I1, rv, q1⟩ => thn (ho pins s1 σ H1 _ I1 q1) fun u s2 ⟨x, H2, I2, rx, q2⟩ => thn (hi pins s2 σ H2 _ I2 q2) fun iv s3 ⟨y, H3, I3, ry, a, H4, ex, g, q3⟩ => ?_) hs
  subst ex
  obtain rfl : u = Value.ref a := rx
  exact d_setItem hu I3 g ry rv fun s4 I4 => ⟨σ, H4, I4, q3⟩
end
theorem dk_empty {P : Program} {w : World} {H : Hp} (h : Heap) (hb : sysModules < h.objs.size) : ObjOk P w H (h.push { cls := .type "dict", data := .dict #[] }) h.objs.size (.dK []) :=
  ⟨Nat.zero_le _, beq_eq_false_iff_ne.mpr (Ne.symm (Nat.ne_of_lt hb)), [], .nil, Heap.DictOf.new h⟩
def tDNewK : TE := fun _ H Q => ∀ p, H p = none → Q (.ref p) (upd H p (.dK []))
section
variable {X : Cx} {pos : Pos}
theorem pe_dnewK : PE X (.Dict [] [] pos) tDNewK := fun pins s σ H Q I h =>
  wpAny_Dict_empty ⟨.ref s.heap.objs.size, _, I.laid (a := s.heap.objs.size) (o := .dK []) (t' := s.toks) (fun _ _ q => Heap.get?_push_of_some _ q) (Nat.le_refl _) (dk_empty s.heap I.big), rfl, h _ (I.hok.fresh (Nat.le_refl _))⟩
end
structure M1 (X : Cx) (o : Expr) (m : Str) (apos : Pos) (e : Expr) (cpos : Pos) : Prop where
  base : attributeBase o m X.env (eval o X.env) = eval o X.env
  few : ((backTo cpos (starEach [e] X.env)).all (fun x => !x.1) && (backToKw cpos (keywordEach [] X.env)).all (fun x => x.1.isSome)
    && decide (([e] : List Expr).length + ([] : List Keyword).length + (if ([] : List Keyword).isEmpty then 0 else 1) < 30)) = true
  line : (apos.endLine == cpos.line) = true
  trees : backTo cpos (starEach [e] X.env) = [(false, eval e X.env)]
structure M2 (X : Cx) (o : Expr) (m : Str) (apos : Pos) (e f : Expr) (cpos : Pos) : Prop where
  base : attributeBase o m X.env (eval o X.env) = eval o X.env
  few : ((backTo cpos (starEach [e, f] X.env)).all (fun x => !x.1) && (backToKw cpos (keywordEach [] X.env)).all (fun x => x.1.isSome)
    && decide (([e, f] : List Expr).length + ([] : List Keyword).length + (if ([] : List Keyword).isEmpty then 0 else 1) < 30)) = true
  line : (apos.endLine == cpos.line) = true
  trees : backTo cpos (starEach [e, f] X.env) = [(false, eval e X.env), (false, eval f X.env)]
def IsD (H : Hp) (a : Addr) : Prop := (∃ kvs, Rd H a (.dK kvs)) ∨ ∃ kvs, Rd H a (.dT kvs)
theorem isD_at {X : Cx} {pins : List (Addr × Obj)} {σ : St} {H : Hp} {s : Shared} {a : Addr} (I : Inv X pins σ H s) (d : IsD H a) :
    s.TypeIs (.ref a) "dict" ∧ (∀ b, Value.ref a = .ref b → ∃ ob, s.heap.get? b = some ob ∧ ob.dict = none) ∧ (a == sysModules) = false := by
  rcases d with ⟨kvs, e⟩ | ⟨kvs, e⟩
  · obtain ⟨_, hd, vs, _, dd⟩ := dk_rd I.hok e
    refine ⟨dd.typeIs, fun b q => ?_, hd⟩
    cases q
    obtain ⟨ob, _, _, h1, h2, _⟩ := dd
    exact ⟨ob, h1, h2.2.1⟩
  · obtain ⟨_, hd, xs, _, dd⟩ := dt_rd I.hok e
    refine ⟨dd.typeIs, fun b q => ?_, hd⟩
    cases q
    obtain ⟨ob, _, _, h1, h2, _⟩ := dd
    exact ⟨ob, h1, h2.2.1⟩
section
variable {X : Cx} {pins : List (Addr × Obj)} {σ : St} {H : Hp} {s : Shared} {a : Addr} {y d : V} {u r : Value} {o : Option V} {A : Around} {E : Value → Shared → Prop}
theorem d_get1 {Q : Value → Shared → Prop} (hu : A.units + 1 < cLine) (I : Inv X pins σ H s) (g : DGet H a y o) (ry : RelV y u) (h : ∀ w' s', Inv X pins σ H s' → RelV (o.getD .non) w' → Q w' s') :
    wpAny (model X.prog X.w) A (call (.builtin "dict.get") [.ref a, u]) Q E s := by
  rcases g with ⟨kvs, k, e, ey, l⟩ | ⟨kvs, k, b, e, ey, eb, l⟩
  · subst ey
    obtain ⟨z, hd, vs, rel, dd⟩ := dk_rd I.hok e
    refine call_meetsIn PySem.F.slot_dict_get dd.typeIs PySem.F.entry_dict_get (PySem.F.args_dict_get_2 _ _) (meets_dict_get (mixKind X.prog X.w) a (kV_is ry) hd) ⟨_, dd.mapOf, h _ _ (I.tok _) ?_⟩
    rw [l]
    exact (rel.val k).getD rfl
  · subst ey
    cases (show u = Value.ref b from ry)
    obtain ⟨z, hd, xs, rel, dd⟩ := dt_rd I.hok e
    refine call_meetsIn PySem.F.slot_dict_get dd.typeIs PySem.F.entry_dict_get (PySem.F.args_dict_get_2 _ _) (meetsH_dict_get (tupleKind (mixKind X.prog X.w)) a b hd) ⟨tupleKind_room_in1 hu, k, xs, key_of I.hok eb, dd, h _ _ (I.tok _) ?_⟩
    rw [l]
    exact (rel.val k).getD rfl
theorem d_get2 {Q : Value → Shared → Prop} (hu : A.units + 1 < cLine) (I : Inv X pins σ H s) (g : DGet H a y o) (ry : RelV y u) (rd : RelV d r) (h : ∀ w' s', Inv X pins σ H s' → RelV (o.getD d) w' → Q w' s') :
    wpAny (model X.prog X.w) A (call (.builtin "dict.get") [.ref a, u, r]) Q E s := by
  rcases g with ⟨kvs, k, e, ey, l⟩ | ⟨kvs, k, b, e, ey, eb, l⟩
  · subst ey
    obtain ⟨z, hd, vs, rel, dd⟩ := dk_rd I.hok e
    refine call_meetsIn PySem.F.slot_dict_get dd.typeIs PySem.F.entry_dict_get (PySem.F.args_dict_get_3 _ _ _) (meets_dict_get_default (mixKind X.prog X.w) a (kV_is ry) hd r) ⟨_, dd.mapOf, h _ _ (I.tok _) ?_⟩
    rw [l]
    exact (rel.val k).getD rd
  · subst ey
    cases (show u = Value.ref b from ry)
    obtain ⟨z, hd, xs, rel, dd⟩ := dt_rd I.hok e
    refine call_meetsIn PySem.F.slot_dict_get dd.typeIs PySem.F.entry_dict_get (PySem.F.args_dict_get_3 _ _ _) (meetsH_dict_get_default (tupleKind (mixKind X.prog X.w)) a b hd r) ⟨tupleKind_room_in1 hu, k, xs, key_of I.hok eb, dd, h _ _ (I.tok _) ?_⟩
    rw [l]
    exact (rel.val k).getD rd
end
def tDGet1 (td ty : TE) : TE := fun σ H Q => td σ H fun x H1 => ∃ a, x = .ref a ∧ IsD H1 a ∧ ty σ H1 fun y H2 => ∃ o, DGet H2 a y o ∧ Q (o.getD .non) H2
def tDGet2 (td ty tx : TE) : TE := fun σ H Q => td σ H fun x H1 => ∃ a, x = .ref a ∧ IsD H1 a ∧ ty σ H1 fun y H2 => tx σ H2 fun z H3 => ∃ o, DGet H3 a y o ∧ Q (o.getD z) H3
section
variable {X : Cx} {o e f : Expr} {apos cpos : Pos} {td ty tx : TE}
theorem pe_dget1 (hu : X.A.units + 1 < cLine) (ho : PE X o td) (he : PE X e ty) (m : M1 X o "get" apos e cpos) : PE X (.Call (.Attribute o "get" apos) [e] [] cpos) (tDGet1 td ty) := by
  intro pins s σ H Q I h
  refine wpAny_Call_method m.base m.few m.line PySem.F.plainAttrs_dict PySem.F.slot_dict_get PySem.F.type_dict_get (thn (ho pins s σ H _ I h) fun u s1 ⟨x, H1, I1, rx, a, ex, d, q1⟩ => ?_)
  subst ex
  obtain rfl : u = Value.ref a := rx
  obtain ⟨t1, t2, _⟩ := isD_at I1 d
  refine ⟨t1, t2, ?_⟩
  rw [m.trees]
  refine Calls.callWith_builtin rfl (Calls.evalArgs_plain (Calls.spliced_cons (thn (he pins s1 σ H1 _ I1 q1) fun iv s2 ⟨y, H2, I2, ry, ov, g, q2⟩ => Calls.spliced_nil ?_)))
  exact d_get1 hu I2 g ry fun w' s3 I3 rw' => ⟨_, H2, I3, rw', q2⟩
theorem pe_dget2 (hu : X.A.units + 1 < cLine) (ho : PE X o td) (he : PE X e ty) (hf : PE X f tx) (m : M2 X o "get" apos e f cpos) : PE X (.Call (.Attribute o "get" apos) [e, f] [] cpos) (tDGet2 td ty tx) := by
  intro pins s σ H Q I h
  refine wpAny_Call_method m.base m.few m.line PySem.F.plainAttrs_dict PySem.F.slot_dict_get PySem.F.type_dict_get (thn (ho pins s σ H _ I h) fun u s1 ⟨x, H1, I1, rx, a, ex, d, q1⟩ => ?_)
  subst ex
  obtain rfl : u = Value.ref a := rx
  obtain ⟨t1, t2, _⟩ := isD_at I1 d
  refine ⟨t1, t2, ?_⟩
  rw [m.trees]
  refine Calls.callWith_builtin rfl (Calls.evalArgs_plain (Calls.spliced_cons (thn (he pins s1 σ H1 _ I1 q1) fun iv s2 ⟨y, H2, I2, ry, q2⟩ =>
    Calls.spliced_cons (thn (hf pins s2 σ H2 _ I2 q2) fun fv s3 ⟨z, H3, I3, rz, ov, g, q3⟩ => Calls.spliced_nil ?_))))
  exact d_get2 hu I3 g ry rz fun w' s4 I4 rw' => ⟨_, H3, I4, rw', q3⟩
end
section
variable {X : Cx} {pins : List (Addr × Obj)} {σ : St} {H : Hp} {s : Shared} {a : Addr} {kvs : List (Key × V)} {A : Around} {E : Value → Shared → Prop}
end
section
variable {X : Cx} {pins : List (Addr × Obj)} {σ : St} {H : Hp} {s : Shared} {a : Addr} {y : V} {u : Value} {A : Around} {E : Value → Shared → Prop}
end
end L2
namespace Att
open PySem PySem.W PySem.Calls PyProof.Rows
theorem ints_of_wellAll {P : Params} {h : Heap} : ∀ (ns : List Int) (vs : List Value), WellAll P h vs (ns.map WData.int) → IntsAre vs ns := by
  intro ns
  induction ns with
  | nil =>
    intro vs w
    rw [List.map_nil] at w
    cases w
    exact .nil
  | cons n ns ih =>
    intro vs w
    rw [List.map_cons] at w
    cases w with
    | cons a b =>
      cases a
      exact .cons _ _ (ih _ b)
theorem script_of {l : OpenLaw} {n : Nat} (hn : l.most = some n) {P : Params} {h : Heap} {args : List WData} {vals : List Value}
    (hpre : l.row.toRowW.claim.pre args = true) (hwl : WellAll P h vals args) :
    ∃ a vs ns, vals = [Value.ref a] ∧ args = [WData.list (ns.map WData.int)] ∧ h.get? a = some { cls := .type "list", data := .seq vs.toArray } ∧ IntsAre vs ns ∧ ns.length ≤ n := by
  have hsh : WShape.hasAll [] args [.list .int] = true := (pre_splitW hpre).1
  have hc : l.pre.holds [] { args := args } = true := (pre_splitW hpre).2
  obtain ⟨d, r, rfl, h1, h2⟩ := hasAllW_cons hsh
  obtain rfl := hasAllW_nil h2
  obtain ⟨xs, rfl, h3⟩ := hasW_list h1
  obtain ⟨ns, rfl⟩ := items_int h3
  have hlen : ns.length ≤ n := by
    unfold OpenLaw.pre at hc
    have h4 : (WTm.not (.lt (.lit (.int (n : Int))) (.len (.arg 0)))).holds [] { args := [.list (ns.map .int)] } = true := by
      have h4 := (holds_andW hc).1
      rw [hn] at h4
      exact h4
    have h5 := condW_of h4 (w_not (w_lt w_lit (w_len_list (w_arg rfl))))
    rw [List.length_map] at h5
    refine Nat.le_of_not_lt fun q => ?_
    have q' : (n : Int) < ((ns.length : Nat) : Int) := by omega
    first
      | (rw [decide_eq_true q'] at h5; exact absurd h5 (by decide))
      | (simp at h5; omega)
  cases hwl with
  | cons w1 w2 =>
    cases w2
    cases w1 with
    | list ho hall => exact ⟨_, _, ns, rfl, rfl, ho, ints_of_wellAll ns _ hall, hlen⟩
theorem post_true (l : OpenLaw) (args : List WData) : l.row.toRowW.claim.post args (.bool true) args = true :=
  postW_of (r := l.row.toRowW) (X := (true == true))
    (show WShape.has [] (.bool true) .bool = true by first | rfl | decide | simp [WShape.has, WShape.arms, WShape.armsAll])
    (show (WTm.eq .res (.lit (.bool true))).value [] { args := args, res := some (.bool true), after := args } = some (.bool (true == true)) from w_eq_bool (w_res rfl) w_lit) rfl
theorem attach_call {l : OpenLaw} {n : Nat} {q : Program} {loose : List Str} {XP : (Str → Option Value) → Heap → Prop} {YP : World → Heap → Prop} {d : DefRec}
    (hn : l.most = some n) (hdf : d.params.defaults = [])
    (call : ∀ (w : World) (s₀ s₁ : Shared) (mg mb : Str → Option Value) (fa : Addr) (o : Obj) (pm cd doc : Value) (a : Addr) (vs : List Value) (ns : List Int),
      Ground q loose [] XP w s₀ mg mb s₁.heap → YP w s₁.heap →
      s₁.heap.get? fa = some o → o.data = .func (docDef d.name d.params d.body d.scope pm cd doc) → s₁.heap.CodeRec cd d.name → mg d.name = some (.ref fa) →
      s₁.heap.get? a = some { cls := .type "list", data := .seq vs.toArray } → IntsAre vs ns → ns.length ≤ n → s₁.gens = #[] →
      codeAny (model l.prog w) callerA (.call (.ref fa) ⟨[.ref a], []⟩) (fun r s' => r = .ok (.ret (.bool true)) ∧ OldK s₁.heap s'.heap ∧ s'.os = s₁.os ∧ AllBare s'.gens) s₁) :
    WalkO q loose XP YP l.row.toRowW d [] (fun f vs => PySem.call f vs) := by
  intro w s₀ s₁ mg mb G Y fa o pm cd doc dV kV ho hd hcd hD hmg hg args vals as hpre hlay hrd hwl hlo
  obtain rfl : dV = .none := Dflts.none hD hdf
  obtain rfl : kV = .none := Dflts.noKw hD
  obtain ⟨a, vs, ns, rfl, rfl, hobj, hints, hlen⟩ := script_of hn hpre hwl
  refine enter_call (codeAny_mono (call w s₀ s₁ mg mb fa o pm cd doc a vs ns G Y ho (fd_plain hd) hcd hmg hobj hints hlen hg) fun r s' hq => ?_)
  obtain ⟨rfl, h2, h3, h4⟩ := hq
  exact ⟨.inl ⟨.bool true, .bool true, [], rfl, fun _ => rfl, .bool true, post_true l _, fun _ => ⟨List.Pairwise.nil, fun _ hm => (nomatch hm)⟩⟩, h2, h3, h4⟩
section
variable {prog : Program} {w : World} {A : Around} {E : Value → Shared → Prop} {s : Shared} {K : Frag}
def ledger (h : Heap) (L d : Addr) : List (Addr × Obj) := (List.range h.objs.size).filterMap fun a => if a = L ∨ a = d then none else (h.get? a).map fun o => (a, o)
end
end Att
namespace L2
open PySem PySem.Spec PyProof.Rows
theorem vals_ints : ∀ {vs : List Value} {ns : List Int}, IntsAre vs ns → Vals (ns.map V.int) vs
  | _, _, .nil => .nil
  | _, _, .cons n t h => .cons ⟨t, rfl⟩ (vals_ints h)
def Only (H : Hp) : Prop := ∀ b, H b = none ∨ ∃ o xs, H b = some (.frz o (.lst xs))
theorem law_call {P : Program} {w : World} {K : PySem.W.Frag} {mg mb : Str → Option Value} {CX : CXT} {k : Nat} {fa a : Addr} {fd : FuncData} {x : Str} {sp : Sp} {s₁ : Shared} {vs : List Value} {ns : List Int}
    (KX : K.In s₁.heap) (hns : s₁.heap.Ns mainGlobals mg) (hb : s₁.heap.Ns builtinsNs mb) (hbb : ∀ x : Str, x ≠ "__name__" → mb x = bootBuiltins x) (hlim : s₁.heap.NoLimit) (hg : s₁.gens = #[])
    (ha : s₁.heap.get? a = some { cls := .type "list", data := .seq vs.toArray }) (hi : IntsAre vs ns) (hl : ns.length ≤ sizeLine) (hr : Room k callerA)
    (F : ∀ base : Heap, K.In base → base.Ns mainGlobals mg → FnOk P w K mg base CX k fa fd [x] sp) (hbind : ∀ (s : Shared) (u : Value), BindsTo s fd ⟨[u], []⟩ [(x, u)])
    (hsp : ∀ H : Hp, Only H → SqL K H a (ns.map V.int) → sp [.ref a] H (fun v _ => v = .bl true) fun _ _ _ => False)
    (hCX : ∀ H e s', CX [] H s₁ (fun _ _ _ => False) e s' → False) :
    codeAny (model P w) callerA (.call (.ref fa) ⟨[.ref a], []⟩) (fun r s' => r = .ok (.ret (.bool true)) ∧ OldK s₁.heap s'.heap ∧ s'.os = s₁.os ∧ AllBare s'.gens) s₁ := by
  have rv := vals_ints hi
  have lenV := hi.length
  have core : ∀ H : Hp, Only H → SqL K H a (ns.map V.int) → HOk P w H s₁.heap → (∀ b, H b ≠ none → b = a) → (H a ≠ none → K.lookup a = none) →
      codeAny (model P w) callerA (.call (.ref fa) ⟨[.ref a], []⟩) (fun r s' => r = .ok (.ret (.bool true)) ∧ OldK s₁.heap s'.heap ∧ s'.os = s₁.os ∧ AllBare s'.gens) s₁ := by
    intro H hO hS hok hA hK
    have base_of : ∀ {b : Addr} {o : Obj}, s₁.heap.get? b = some o → H b = none → (hidT s₁.heap H).get? b = some o := fun e n => hidT_get e n
    have noA : ∀ {b : Addr} {o : Obj} {es : Array DictEntry} {ep : Nat}, s₁.heap.get? b = some o → o.data = .dict es ep → H b = none := fun {b o es ep} e d => by
      cases q : H b with
      | none => rfl
      | some u =>
        have e' : b = a := hA b (by rw [q]; simp)
        subst e'
        rw [ha] at e; cases e
        have d' : Data.seq vs.toArray _ = Data.dict es ep := d
        cases d'
    have nsK : ∀ {b : Addr} {m : Str → Option Value}, s₁.heap.Ns b m → (hidT s₁.heap H).Ns b m := fun {b m} ⟨o, es, ep, e, d, r⟩ => ⟨o, es, ep, base_of e (noA e d), d, r⟩
    have hKb : K.In (hidT s₁.heap H) := fun b o e => base_of (KX b o e) (by
      cases q : H b with
      | none => rfl
      | some u =>
        have e' : b = a := hA b (by rw [q]; simp)
        subst e'
        rw [hK (by rw [q]; simp)] at e; cases e)
    have hM : Mod K mg (hidT s₁.heap H) := ⟨hKb, nsK hns, ⟨mb, nsK hb, hbb⟩, let ⟨mc, h1, h2⟩ := hlim; ⟨mc, nsK h1, h2⟩⟩
    have e0 : Env0 P w K mg (hidT s₁.heap H) callerA [] s₁ H := ⟨rfl, hM, fun b o e => of_hidT e, Nat.le_of_eq (hidT_size _ _), trivial, fun b hb => absurd (show b ∈ ([] : List Addr) from hb) (by simp), hok, .of_eq hg⟩
    refine codeAny_mono ((F _ hKb (nsK hns)).run callerA [] s₁ H ⟨[.ref a], []⟩ [.ref a] [.ref a] _ _ hr e0 (hbind s₁ (.ref a)) (.cons rfl .nil) (hsp H hO hS)) fun r s' h => ?_
    cases r with
    | error e => exact (hCX H e s' h).elim
    | ok fl =>
      cases fl with
      | next => exact False.elim h
      | brk => exact False.elim h
      | cont => exact False.elim h
      | ret u =>
        obtain ⟨v, H', os, bare, un, hok', r', q⟩ := h
        have q' : v = .bl true := q
        subst q'
        obtain rfl : u = Value.bool true := r'
        refine ⟨rfl, OldK.of_keep fun b o e => ?_, os, bare⟩
        cases q : H b with
        | none => exact un.keep b o e q (by intro z; exact absurd (show b ∈ ([] : List Addr) from z) (by simp)) (by simp)
        | some u =>
          rcases hO b with z | ⟨ob, xs, z⟩
          · rw [q] at z; cases z
          · have z2 := un.frzs b ob _ z
            obtain ⟨e1, _⟩ := hok b _ z
            obtain ⟨e2, _⟩ := hok' b _ z2
            rw [e] at e1; cases e1
            exact e2
  cases hk : K.lookup a with
  | some o =>
    have e := KX a o hk
    rw [ha] at e
    cases e
    refine core (fun _ => none) (fun _ => .inl rfl) (.inr ⟨_, vs.toArray, _, hk, rfl, rfl, rfl, by rw [List.size_toArray, lenV]; exact hl, by simpa using rv⟩) (fun b u z => by have z' : (none : Option HO) = some u := z; cases z') (fun b z => absurd rfl z) fun z => absurd rfl z
  | none =>
    refine core (fun b => if b = a then some (.frz { cls := .type "list", data := .seq vs.toArray } (.lst (ns.map V.int))) else none) (fun b => ?_) (.inl (.inr ⟨{ cls := .type "list", data := .seq vs.toArray }, if_pos rfl⟩)) (fun b u z => ?_) (fun b z => ?_) fun _ => hk
    · by_cases hb : b = a
      · exact .inr ⟨_, _, if_pos hb⟩
      · exact .inl (if_neg hb)
    · by_cases hb : b = a
      · have z' := (if_pos hb).symm.trans z
        cases z'
        subst hb
        exact ⟨ha, by rw [List.length_map]; exact hl, vs, _, rv, ha⟩
      · have z' := (if_neg hb).symm.trans z
        cases z'
    · by_cases hb : b = a
      · exact hb
      · exact absurd (if_neg hb) z
end L2
namespace L2
open PySem PySem.Spec PyProof.Rows
theorem walk_of {l : PySem.W.OpenLaw} {n k : Nat} {q : Program} {loose : List Str} {XP : (Str → Option Value) → Heap → Prop} {YP : World → Heap → Prop} {d : DefRec} {K : Params → PySem.W.Frag} {CX : World → CXT} {sp : World → Sp} {x : Str}
    (hn : l.most = some n) (hn2 : n ≤ sizeLine) (hdf : d.params.defaults = []) (hr : Room k callerA)
    (hY : ∀ (w : World) (h : Heap), YP w h → (K w.params).In h)
    (F : ∀ (w : World) (mg : Str → Option Value) (fa : Addr) (h : Heap), (K w.params).In h → h.Ns mainGlobals mg → mg d.name = some (.ref fa) →
      ∃ fd : FuncData, (∀ (s : Shared) (u : Value), BindsTo s fd ⟨[u], []⟩ [(x, u)]) ∧
        ∀ base : Heap, (K w.params).In base → base.Ns mainGlobals mg → FnOk l.prog w (K w.params) mg base (CX w) k fa fd [x] (sp w))
    (hsp : ∀ (w : World) (H : Hp) (a : Addr) (ns : List Int), ns.length ≤ n → Only H → SqL (K w.params) H a (ns.map V.int) → sp w [.ref a] H (fun v _ => v = .bl true) fun _ _ _ => False)
    (hCX : ∀ (w : World) (H : Hp) (s : Shared) (e : Value) (s' : Shared), CX w [] H s (fun _ _ _ => False) e s' → False) :
    PySem.W.WalkO q loose XP YP l.row.toRowW d [] (fun f vs => PySem.call f vs) := by
  refine Att.attach_call hn hdf fun w s₀ s₁ mg mb fa o pm cd doc a vs ns G Y ho hd hcd hmg hobj hints hlen hg => ?_
  have KX := hY w _ Y
  obtain ⟨fd, hb, hF⟩ := F w mg fa _ KX G.T.g hmg
  exact law_call KX G.T.g G.T.b G.T.builtins G.T.nolimit hg hobj hints (Nat.le_trans hlen hn2) hr hF hb (fun H hO hS => hsp w H a ns hlen hO hS) fun H e s' => hCX w H s₁ e s'
end L2
namespace L2
open PySem PySem.Spec PyProof.Rows
def inClass (s : Stmt) (j : Nat) : Stmt := match s with
  | .ClassDef _ _ _ body _ _ _ _ _ _ _ => body.getD j (.Pass ⟨0, 0, 0, 0⟩)
  | _ => .Pass ⟨0, 0, 0, 0⟩
def defArgs (s : Stmt) : Arguments := match s with
  | .FunctionDef _ a _ _ _ _ _ _ _ _ => a
  | _ => { posonlyargs := [], args := [], vararg := none, kwonlyargs := [], kw_defaults := [], kwarg := none, defaults := [] }
def defBody (s : Stmt) : List Stmt := match s with
  | .FunctionDef _ _ b _ _ _ _ _ _ _ => b
  | _ => []
def defScope (s : Stmt) : Scope := match s with
  | .FunctionDef _ _ _ _ _ _ sc _ _ _ => sc
  | _ => { kind := .function, names := [], isGenerator := false, isCoroutine := false }
abbrev CX0 : CXT := fun _ _ _ _ _ _ => False
structure Fun (K : PySem.W.Frag) (x qual : Str) (st : Stmt) (f : Addr) (fd : FuncData) : Prop where
  ex : ∃ (oc : Value) (od : Option Addr) (kV doc pm : Value) (an : Option Addr) (cdv ct : Value) (osl : Array (Option Value)),
    fd = PySem.W.fnOf x qual (defArgs st) (defBody st) (defScope st) .none kV doc pm an cdv ct ∧ K.lookup f = some ⟨oc, od, .func fd, osl⟩ ∧ PySem.W.codeIn K cdv qual = true
  kp : PySem.W.keepIn K (.ref f) = true
section
variable {P : Program} {w : World} {K : PySem.W.Frag} {mg : Str → Option Value} {base : Heap}
theorem Fun.ok {x qual : Str} {st : Stmt} {f : Addr} {fd : FuncData} {N ps : List Str} {k : Nat} {sp : Sp} (F : Fun K x qual st f fd) (S : FnScope N ps (defScope st)) (len : ∀ vs H Q E, sp vs H Q E → vs.length = ps.length)
    (hbody : ∀ (cdv : Value) (A : Around) (outer : List Env) (s : Shared) (H : Hp) (vs : List V) (Q : VK) (E : XK), Room k (A.deeper (envOfC qual (defScope st) s.heap.objs.size f cdv)) → sp vs H Q E →
      ∃ t, PSs (cxOf CX0 P w K mg base N qual (defScope st) f cdv A outer s H E).nox (defBody st) t ∧ t { nx := fun _ H' => Q .non H', rt := Q } (start N vs) H) : FnOk P w K mg base CX0 (k + 1) f fd ps sp := by
  obtain ⟨oc, od, kV, doc, pm, an, cdv, ct, osl, rfl, lk, hcd⟩ := F.ex
  refine fn_of lk hcd S len fun A outer s H vs Q E hr hsp => ?_
  obtain ⟨t, h, q⟩ := hbody cdv A outer s H vs Q E hr hsp
  exact ⟨t, h.nox, q⟩
theorem Fun.binds {x qual : Str} {st : Stmt} {f : Addr} {fd : FuncData} {ps : List Str} (F : Fun K x qual st f fd)
    (h : ∀ (kV doc pm : Value) (an : Option Addr) (cdv ct : Value) (us : List Value), us.length = ps.length → bindArgs (PySem.W.fnOf x qual (defArgs st) (defBody st) (defScope st) .none kV doc pm an cdv ct) ⟨us, []⟩ = pure (ps.zip us)) : Binds K fd ps [] := by
  obtain ⟨oc, od, kV, doc, pm, an, cdv, ct, osl, rfl, lk, hcd⟩ := F.ex
  exact .all (h kV doc pm an cdv ct)
theorem fun_mk {x qual : Str} {st : Stmt} {f : Addr} {oc : Value} {od an : Option Addr} {osl : Array (Option Value)} {kV doc pm cdv ct : Value} (l : K.lookup f = some ⟨oc, od, .func (PySem.W.fnOf x qual (defArgs st) (defBody st) (defScope st) .none kV doc pm an cdv ct), osl⟩)
    (c : PySem.W.codeIn K cdv qual = true) (k : PySem.W.keepIn K (.ref f) = true) : Fun K x qual st f (PySem.W.fnOf x qual (defArgs st) (defBody st) (defScope st) .none kV doc pm an cdv ct) := ⟨⟨oc, od, kV, doc, pm, an, cdv, ct, osl, rfl, l, c⟩, k⟩
end
theorem hu_of {A : Around} {k : Nat} (hr : Room k A) : A.units + 1 < cLine := Nat.lt_of_le_of_lt (Nat.add_le_add_left (by decide : 1 ≤ 64) _) hr.units
section
variable {X : Cx}
theorem call_lenD : CallR X (.builtin "len") (fun xs H Q => ∃ a kvs, xs = [V.ref a] ∧ H a = some (.dK kvs) ∧ Q (.int kvs.length) H) := by
  intro pins s σ H xs us Q I r h
  obtain ⟨a, kvs, rfl, ha, q⟩ := h
  obtain ⟨u, rfl, ru⟩ := vals1 r
  cases ru
  exact d_len I (.inl ha) fun t s' I' => ⟨.int kvs.length, H, I', ⟨t, rfl⟩, q⟩
end
theorem iteF {A B : Prop} (h : B) : if false = true then A else B := by
  rw [if_neg Bool.false_ne_true]
  exact h
theorem iteT {A B : Prop} (h : A) : if true = true then A else B := by
  rw [if_pos rfl]
  exact h
theorem ite2 {c A B : Prop} [Decidable c] (h1 : c → A) (h2 : ¬ c → B) : if c then A else B := by
  by_cases h : c
  · rw [if_pos h]
    exact h1 h
  · rw [if_neg h]
    exact h2 h
def Same (H H' : Hp) : Prop := ∀ b o, H b = some o → H' b = some o
theorem Same.trans {H H1 H2 : Hp} (a : Same H H1) (b : Same H1 H2) : Same H H2 := fun c o h => b c o (a c o h)
theorem Same.free {H H' : Hp} (e : Same H H') {l : Addr} (h : H' l = Option.none) : H l = Option.none := by
  cases q : H l with
  | none => rfl
  | some o =>
    rw [e l o q] at h
    cases h
theorem Same.seq {K : PySem.W.Frag} {H H' : Hp} {a : Addr} {xs : List V} (e : Same H H') (h : SqL K H a xs) : SqL K H' a xs := by
  rcases h with (h | ⟨o, h⟩) | h
  · exact .inl (.inl (e _ _ h))
  · exact .inl (.inr ⟨o, e _ _ h⟩)
  · exact .inr h
section
variable {κ : Type} [DecidableEq κ]
theorem valV_not {kvs : List (κ × V)} {k : κ} (h : valV kvs k = none) : ¬ k ∈ kvs.map (·.1) := by
  intro m
  obtain ⟨p, hp, e⟩ := List.mem_map.mp m
  have q : (kvs.any fun kv => decide (kv.1 = k)) = true := List.any_eq_true.mpr ⟨p, hp, decide_eq_true e⟩
  rw [valV_any, h] at q
  exact absurd q (by simp)
theorem valV_in {kvs : List (κ × V)} {k : κ} {v : V} (h : valV kvs k = some v) : k ∈ kvs.map (·.1) := by
  have q : (kvs.any fun kv => decide (kv.1 = k)) = true := by
    rw [valV_any, h]
    all_goals rfl
  obtain ⟨p, hp, e⟩ := List.any_eq_true.mp q
  exact List.mem_map.mpr ⟨p, hp, of_decide_eq_true e⟩
end
end L2
set_option maxHeartbeats 4000000
namespace L2
open PySem PySem.Spec PyProof.Rows

structure Fly (B : Heap) (l : List Env) (h : Heap) (H H' : Hp) (h' : Heap) (ea : Addr) (cls : Value) : Prop where
  fl : ∃ a0, Heap.FlyingW B l ea cls a0 h'
  trk : ∀ b u, H' b = some u → ∃ o, B.get? b = some o
  kept : ∀ b o, h.get? b = some o → H b = none → b ∉ frs l → B.get? b = some o
  alive : ∀ b o, h.get? b = some o → b ∉ frs l → ∃ o', B.get? b = some o'
def CXe (P : Program) (w : World) : CXT := fun outer H s E e s' => ∃ ea cls H' B, e = .ref ea ∧ s'.os = s.os ∧ AllBare s'.gens ∧ Un (frs outer) [] H H' s.heap s'.heap ∧ HOk P w H' s'.heap ∧ Fly B outer s.heap H H' s'.heap ea cls ∧ E cls none H'
abbrev XKs := Value → St → Hp → Prop
def XW (X : Cx) (K : XKs) : Prop := ∀ (pins : List (Addr × Obj)) (σ : St) (H : Hp) (s s' : Shared) (ea : Addr) (cls : Value) (H' : Hp) (B : Heap), Inv X pins σ H s → s'.os = s.os → AllBare s'.gens →
  Un (frs X.stack) [] H H' s.heap s'.heap → HOk X.prog X.w H' s'.heap → Fly B X.stack s.heap H H' s'.heap ea cls → K cls σ H' → X.xe (.ref ea) s'

theorem frs_cons {env : Env} {l : List Env} {L : Addr} (h : env.frame = some L) : frs (env :: l) = L :: frs l := by
  unfold frs; rw [List.filterMap_cons, h]

theorem HOk.flown {P : Program} {w : World} {H : Hp} {B h h' : Heap} (x : HOk P w H h) (t : ∀ b u, H b = some u → ∃ o, B.get? b = some o) (s : B.StaysIn h) (s' : B.StaysIn h') : HOk P w H h' := fun a o e =>
  (x a o e).stay (fun b u hb q => by
    have hB : ∃ o, B.get? b = some o := by
      rcases hb with rfl | hb
      · exact t _ _ e
      · exact t _ _ hb
    obtain ⟨o', ho⟩ := hB
    have e1 := s b o' ho
    rw [q] at e1; cases e1
    exact s' b _ ho) (fun _ q => q) fun _ _ q => q

theorem xw_def {P : Program} {w : World} {K : PySem.W.Frag} {mg : Str → Option Value} {base : Heap} {N : List Str} {qual : Str} {scope : Scope} {f : Addr} {cd : Value} {A : Around} {outer : List Env} {s0 : Shared} {H0 : Hp} {E : XK} :
    XW (cxOf (CXe P w) P w K mg base N qual scope f cd A outer s0 H0 E) (fun c _ H' => E c none H') := by
  intro pins σ H s s' ea cls H' B I os bare un hok fly hK
  have I' := I.call' (s' := s') (ch := []) os un hok bare (fun b z => absurd z (by simp))
  have hfr := I.ok.frames
  have hstk : (cxOf (CXe P w) P w K mg base N qual scope f cd A outer s0 H0 E).stack = envOfC qual scope s0.heap.objs.size f cd :: outer := rfl
  rw [hstk] at hfr
  obtain ⟨a0, hfl⟩ := fly.fl
  have hf : (envOfC qual scope s0.heap.objs.size f cd).frame = some s0.heap.objs.size := rfl
  show wpAny _ _ (leaving (envOfC qual scope s0.heap.objs.size f cd) (.ref ea)) _ _ s'
  refine wpAny_leaves_onW hfr hf hfl fun h' fl' up => ?_
  have hfs : frs (envOfC qual scope s0.heap.objs.size f cd :: outer) = s0.heap.objs.size :: frs outer := frs_cons hf
  have nf : ∀ b o, s0.heap.get? b = some o → b ∉ frs outer → b ∉ frs (envOfC qual scope s0.heap.objs.size f cd :: outer) := fun b o e n z => by
    rw [hfs] at z
    rcases List.mem_cons.mp z with z | z
    · exact absurd (Heap.lt_size e) (by rw [z]; exact Nat.lt_irrefl _)
    · exact n z
  have stay : ∀ b o, s0.heap.get? b = some o → H0 b = none → b ∉ frs outer → B.get? b = some o := fun b o e n hb =>
    fly.kept b o (I.base.keep b o e n hb (by intro z; exact absurd z (by simp [cxOf]))) (I.base.free b o e n (by intro z; exact absurd z (by simp [cxOf]))) (nf b o e hb)
  have live : ∀ b o, s0.heap.get? b = some o → b ∉ frs outer → ∃ o', B.get? b = some o' := fun b o e hb => by
    obtain ⟨o1, e1⟩ := I.base.there b o e (by intro z; exact absurd z (by simp [cxOf]))
    exact fly.alive b o1 e1 (nf b o e hb)
  refine ⟨ea, cls, H', B, rfl, I'.os, bare, ?_, hok.flown fly.trk hfl.1 fl'.1, ⟨⟨a0, fl'⟩, fly.trk, stay, live⟩, hK⟩
  have noA : ∀ b : Addr, b ∉ (cxOf (CXe P w) P w K mg base N qual scope f cd A outer s0 H0 E).ex := fun b z => absurd z (by simp [cxOf])
  have slotOf : ∀ b, b ∈ frs outer → ∀ o, s'.heap.get? b = some o → ∃ sl, h'.get? b = some { o with slots := sl } := fun b hb o e => by
    have hm : b ∈ frs (envOfC qual scope s0.heap.objs.size f cd :: outer) := by rw [hfs]; exact List.mem_cons_of_mem _ hb
    obtain ⟨_, o', ho', hd⟩ := hfl.2.2.1.mem hm
    rw [e] at ho'; cases ho'
    exact up b o e hd
  refine ⟨fun b o e n hb _ => fl'.1 b o (stay b o e n hb), fun b o e n hb _ => ?_, fun b o e n _ => I'.base.free b o e n (noA b), fun b o e _ => ?_, I'.base.tups, I'.base.frzs, I'.base.tbls⟩
  · obtain ⟨sl, e1⟩ := I'.base.slot b o e n hb (noA b)
    obtain ⟨sl', e2⟩ := slotOf b hb _ e1
    exact ⟨sl', e2⟩
  · by_cases hb : b ∈ frs outer
    · obtain ⟨o1, e1⟩ := I'.base.there b o e (noA b)
      obtain ⟨sl, e2⟩ := slotOf b hb _ e1
      exact ⟨_, e2⟩
    · obtain ⟨o1, e1⟩ := live b o e hb
      exact ⟨o1, fl'.1 b o1 e1⟩

def Have (P : Program) (w : World) (K : PySem.W.Frag) (mg : Str → Option Value) (base : Heap) (x : Str) (k : Nat) (ps : List Str) (dvs : List V) (sp : Sp) : Prop :=
  ∃ f fd ds, mg x = some (.ref f) ∧ PySem.W.keepIn K (.ref f) = true ∧ Binds K fd ps ds ∧ Vals dvs ds ∧ FnOk P w K mg base (CXe P w) k f fd ps sp
def HaveM (P : Program) (w : World) (K : PySem.W.Frag) (mg : Str → Option Value) (base : Heap) (C : Addr) (m : Str) (k : Nat) (ps : List Str) (dvs : List V) (sp : Sp) : Prop :=
  ∃ f fd ds, Meth K C m f ∧ Binds K fd ps ds ∧ Vals dvs ds ∧ FnOk P w K mg base (CXe P w) k f fd ps sp
def HaveI (P : Program) (w : World) (K : PySem.W.Frag) (mg : Str → Option Value) (base : Heap) (x : Str) (C : Addr) (k : Nat) (ps : List Str) (dvs : List V) (sp : Sp) : Prop :=
  ∃ f fd ds, mg x = some (.ref C) ∧ Mk K C f ∧ Binds K fd ps ds ∧ Vals dvs ds ∧ FnOk P w K mg base (CXe P w) k f fd ps sp
def tCallE (Kx : XKs) (sp : Sp) (dvs : List V) (t : TA) : TE := fun σ H Q => t σ H fun vs H1 => sp (vs ++ dvs) H1 Q (fun c _ H' => Kx c σ H')
def tMethE (Kx : XKs) (C : Addr) (m : Str) (sp : Sp) (dvs : List V) (ta : TE) (t : TA) : TE := fun σ H Q => ta σ H fun x H1 => ∃ a dx fs, x = .ref a ∧ H1 a = some (.ins C dx fs) ∧ fs.lookup m = none ∧
  t σ H1 fun vs H2 => sp (x :: (vs ++ dvs)) H2 Q (fun c _ H' => Kx c σ H')
def tMakeE (Kx : XKs) (C : Addr) (sp : Sp) (dvs : List V) (t : TA) : TE := fun σ H Q => t σ H fun vs H1 => ∀ x dx, H1 x = none → H1 dx = none → dx ≠ x →
  sp (.ref x :: (vs ++ dvs)) (upd (upd H1 dx (.own x)) x (.ins C dx [])) (fun v H2 => v = .non ∧ Q (.ref x) H2) (fun c _ H' => Kx c σ H')
section
variable {X : Cx} {Kx : XKs} {k : Nat} {f C : Addr} {fd : FuncData} {ps : List Str} {sp : Sp} {dvs : List V} {ds : List Value} {x m : Str} {p pos apos : Pos} {e o : Expr} {es : List Expr} {ta : TE} {t : TA}
theorem run_fnE {pins : List (Addr × Obj)} {σ : St} {H : Hp} {s : Shared} {Q : VK} {us : List Value} {vs : List V} (F : FnOk X.prog X.w X.K X.mg X.base (CXe X.prog X.w) k f fd ps sp) (hr : Room k X.A) (hb : Binds X.K fd ps ds) (hd : Vals dvs ds) (hx : XW X Kx)
    (I : Inv X pins σ H s) (r : Vals vs us) (h : sp (vs ++ dvs) H Q (fun c _ H' => Kx c σ H')) : wpAny (model X.prog X.w) X.A (call (.ref f) us) (EP X pins σ Q) X.xe s := by
  have r2 : Vals (vs ++ dvs) (us ++ ds) := r.append hd
  have hl : (us ++ ds).length = ps.length := by rw [← r2.length]; exact F.len _ _ _ _ h
  refine wpAny_call (codeAny_mono (F.run X.A X.stack s H ⟨us, []⟩ (us ++ ds) (vs ++ dvs) Q _ hr I.env0 (hb s us I.kIn hl) r2 h) fun r s' hq => ?_)
  cases r with
  | error e =>
    obtain ⟨ea, cls, H', B, rfl, os, bare, un, hok, fly, hK⟩ := hq
    exact hx pins σ H s s' ea cls H' B I os bare un hok fly hK
  | ok fl =>
    cases fl with
    | ret u => exact I.after hq
    | next => exact False.elim hq
    | brk => exact False.elim hq
    | cont => exact False.elim hq
theorem pe_callE (F : Have X.prog X.w X.K X.mg X.base x k ps dvs sp) (hr : Room k X.A) (hx : XW X Kx) (ha : PA X (e :: es) t) (hg : Gl X x := by rfl) (hdb : (x == ("__debug__" : Str)) = false := by decide)
    (he : starEach (e :: es) X.env = (false, eval e X.env) :: starEach es X.env := by rfl) (hpl : (backTo pos (starEach es X.env)).any (·.1) = false := by rfl) :
    PE X (.Call (.Name x p) (e :: es) [] pos) (tCallE Kx sp dvs t) := by
  obtain ⟨f, fd, ds, hm, hk, hb, hd, F⟩ := F
  intro pins s σ H Q I h
  refine wpAny_Call_Name_kw (ld_glob I hg hm ?_ hdb)
  refine PySem.W.callWith_K (h₀ := X.base) I.ok.mod.kin hk (thn (ha pos pins s σ H _ I h) fun us s1 ⟨vs, H1, I1, r, q⟩ => ⟨I1.kIn, ?_⟩) he hpl
  exact run_fnE F hr hb hd hx I1 r q
theorem pe_methE {pl : Sem Bool} (ho : PE X o ta) (c : Cls X.K C) (F : HaveM X.prog X.w X.K X.mg X.base C m k ps dvs sp) (hr : Room k X.A) (hx : XW X Kx) (ha : PA X (e :: es) t)
    (hst : starEach (e :: es) X.env = (false, eval e X.env) :: starEach es X.env := by rfl) (hpl : (backTo pos (starEach es X.env)).any (·.1) = false := by rfl)
    (ht : eval (.Call (.Attribute o m apos) (e :: es) [] pos) X.env = (do
      let ov ← eval o X.env
      standAt apos.atName
      let (f, first) ← holding [ov] (getMethod ov m pl)
      callWith pos f first (backTo pos (starEach (e :: es) X.env)) (backToKw pos (keywordEach [] X.env))) := by rfl) :
    PE X (.Call (.Attribute o m apos) (e :: es) [] pos) (tMethE Kx C m sp dvs ta t) := by
  obtain ⟨f, fd, ds, hm, hb, hd, F⟩ := F
  intro pins s σ H Q I h
  refine PySem.W.methodCall_KW (pl := pl) (thn (ho pins s σ H _ I h) fun u s1 ⟨x, H1, I1, rx, a, dx, fs, ex, ea, l, q⟩ => ?_) ht
  subst ex
  obtain rfl : u = Value.ref a := rx
  refine getmeth_ok I1 ea c hm l ?_
  refine PySem.W.callWith_K (first := [.ref a]) (h₀ := X.base) I.ok.mod.kin hm.kp (thn (ha pos pins s1 σ H1 _ I1 q) fun us s2 ⟨vs, H2, I2, r, q2⟩ => ⟨I2.kIn, ?_⟩) hst hpl
  exact run_fnE (us := .ref a :: us) (vs := .ref a :: vs) F hr hb hd hx I2 (.cons rfl r) q2
theorem pe_methE0 {pl : Sem Bool} (ho : PE X o ta) (c : Cls X.K C) (F : HaveM X.prog X.w X.K X.mg X.base C m k ps dvs sp) (hr : Room k X.A) (hx : XW X Kx)
    (ht : eval (.Call (.Attribute o m apos) [] [] pos) X.env = (do
      let ov ← eval o X.env
      standAt apos.atName
      let (f, first) ← holding [ov] (getMethod ov m pl)
      callWith pos f first (backTo pos (starEach [] X.env)) (backToKw pos (keywordEach [] X.env))) := by rfl) :
    PE X (.Call (.Attribute o m apos) [] [] pos) (tMethE Kx C m sp dvs ta tNil) := by
  obtain ⟨f, fd, ds, hm, hb, hd, F⟩ := F
  intro pins s σ H Q I h
  refine PySem.W.methodCall_KW (pl := pl) (thn (ho pins s σ H _ I h) fun u s1 ⟨x, H1, I1, rx, a, dx, fs, ex, ea, l, q⟩ => ?_) ht
  subst ex
  obtain rfl : u = Value.ref a := rx
  refine getmeth_ok I1 ea c hm l ?_
  exact PySem.W.callWith_K0 (first := [.ref a]) I1.kIn hm.kp (run_fnE (us := [.ref a]) (vs := [.ref a]) F hr hb hd hx I1 (.cons rfl .nil) q)
theorem run_makeE {pins : List (Addr × Obj)} {σ : St} {H : Hp} {s : Shared} {Q : VK} {us : List Value} {vs : List V} (M : Mk X.K C f) (F : FnOk X.prog X.w X.K X.mg X.base (CXe X.prog X.w) k f fd ps sp) (hr : Room (k + 1) X.A) (hb : Binds X.K fd ps ds) (hd : Vals dvs ds)
    (hx : XW X Kx) (I : Inv X pins σ H s) (r : Vals vs us)
    (h : ∀ x dx, H x = none → H dx = none → dx ≠ x → sp (.ref x :: (vs ++ dvs)) (upd (upd H dx (.own x)) x (.ins C dx [])) (fun v H2 => v = .non ∧ Q (.ref x) H2) (fun c _ H' => Kx c σ H')) :
    wpAny (model X.prog X.w) X.A (call (.ref C) us) (EP X pins σ Q) X.xe s := by
  have hq := h (s.heap.objs.size + 1) s.heap.objs.size (I.hok.fresh (Nat.le_succ _)) (I.hok.fresh (Nat.le_refl _)) (Nat.ne_of_lt (Nat.lt_succ_self _))
  have I2 := Inv.made (C := C) I
  have r2 : Vals (V.ref (s.heap.objs.size + 1) :: (vs ++ dvs)) (Value.ref (s.heap.objs.size + 1) :: (us ++ ds)) := .cons rfl (r.append hd)
  have hl : (Value.ref (s.heap.objs.size + 1) :: us ++ ds).length = ps.length := by
    have e := r2.length
    rw [F.len _ _ _ _ hq] at e
    exact e.symm
  refine wpAny_call (make_map (f := f) I.kIn M.makes M.init (beq_iff_eq.mp M.fn) (codeAny_mono (F.run _ X.stack _ _ ⟨Value.ref (s.heap.objs.size + 1) :: us, []⟩ (Value.ref (s.heap.objs.size + 1) :: (us ++ ds)) _ _ _ (hr.make C us [])
    (I2.env0.make C us []) (hb _ (Value.ref (s.heap.objs.size + 1) :: us) I2.kIn hl) r2 hq) fun r s' hq' => ?_))
  cases r with
  | error e =>
    obtain ⟨ea, cls, H', B, rfl, os, bare, un, hok, fly, hK⟩ := hq'
    exact hx pins σ _ _ s' ea cls H' B I2 os bare un hok fly hK
  | ok fl =>
    cases fl with
    | ret u =>
      obtain ⟨v, H', I3, rv, ev, q3⟩ := I2.after hq'
      subst ev
      exact ⟨rv, ⟨V.ref (s.heap.objs.size + 1), H', I3, rfl, q3⟩⟩
    | next => exact False.elim hq'
    | brk => exact False.elim hq'
    | cont => exact False.elim hq'
theorem pe_makeE (F : HaveI X.prog X.w X.K X.mg X.base x C k ps dvs sp) (hr : Room (k + 1) X.A) (hx : XW X Kx) (ha : PA X (e :: es) t) (hg : Gl X x := by rfl) (hdb : (x == ("__debug__" : Str)) = false := by decide)
    (he : starEach (e :: es) X.env = (false, eval e X.env) :: starEach es X.env := by rfl) (hpl : (backTo pos (starEach es X.env)).any (·.1) = false := by rfl) :
    PE X (.Call (.Name x p) (e :: es) [] pos) (tMakeE Kx C sp dvs t) := by
  obtain ⟨f, fd, ds, hm, M, hb, hd, F⟩ := F
  intro pins s σ H Q I h
  refine wpAny_Call_Name_kw (ld_glob I hg hm ?_ hdb)
  refine PySem.W.callWith_K (h₀ := X.base) I.ok.mod.kin M.kp (thn (ha pos pins s σ H _ I h) fun us s1 ⟨vs, H1, I1, r, q⟩ => ⟨I1.kIn, ?_⟩) he hpl
  exact run_makeE M F hr hb hd hx I1 r q
theorem pe_makeE0 (F : HaveI X.prog X.w X.K X.mg X.base x C k ps dvs sp) (hr : Room (k + 1) X.A) (hx : XW X Kx) (hg : Gl X x := by rfl) (hdb : (x == ("__debug__" : Str)) = false := by decide) :
    PE X (.Call (.Name x p) [] [] pos) (tMakeE Kx C sp dvs tNil) := by
  obtain ⟨f, fd, ds, hm, M, hb, hd, F⟩ := F
  intro pins s σ H Q I h
  refine wpAny_Call_Name_kw (ld_glob I hg hm ?_ hdb)
  exact PySem.W.callWith_K0 I.kIn M.kp (run_makeE (us := []) M F hr hb hd hx I .nil h)
theorem pe_globE {v : V} (hg : Gl X x) (hm : ∃ u, X.mg x = some u ∧ RelV v u) (hd : (x == ("__debug__" : Str)) = false := by decide) : PE X (.Name x pos) (tC v) := by
  obtain ⟨u, hm, r⟩ := hm
  exact pe_glob hg hm r hd
theorem pe_bltnE {n : String} (hg : Gl X x) (hm : X.mg x = none) (hv : bootBuiltins x = some (.type n)) (hn : x ≠ "__name__" := by decide) (hd : (x == ("__debug__" : Str)) = false := by decide) : PE X (.Name x pos) (tC (.ty n)) := pe_bltn hg hm hv rfl hn hd
end
def Raw (K : PySem.W.Frag) (mg : Str → Option Value) (x qual : Str) (st : Stmt) (ps : List Str) (dvs : List V) : Prop := ∃ f fd ds, mg x = some (.ref f) ∧ Fun K x qual st f fd ∧ Binds K fd ps ds ∧ Vals dvs ds
def RawM (K : PySem.W.Frag) (C : Addr) (m qual : Str) (st : Stmt) (ps : List Str) (dvs : List V) : Prop := ∃ f fd ds, Meth K C m f ∧ Fun K m qual st f fd ∧ Binds K fd ps ds ∧ Vals dvs ds
def RawI (K : PySem.W.Frag) (mg : Str → Option Value) (x : Str) (C : Addr) (qual : Str) (st : Stmt) (ps : List Str) (dvs : List V) : Prop := ∃ f fd ds, mg x = some (.ref C) ∧ Mk K C f ∧ Fun K "__init__" qual st f fd ∧ Binds K fd ps ds ∧ Vals dvs ds
section
variable {P : Program} {w : World} {K : PySem.W.Frag} {mg : Str → Option Value} {base : Heap}
def Body (P : Program) (w : World) (K : PySem.W.Frag) (mg : Str → Option Value) (base : Heap) (qual : Str) (st : Stmt) (N : List Str) (k : Nat) (sp : Sp) : Prop :=
  ∀ (f : Addr) (cdv : Value) (A : Around) (outer : List Env) (s : Shared) (H : Hp) (vs : List V) (Q : VK) (E : XK), Room k (A.deeper (envOfC qual (defScope st) s.heap.objs.size f cdv)) → sp vs H Q E →
    ∃ t, PSs (cxOf (CXe P w) P w K mg base N qual (defScope st) f cdv A outer s H E) (defBody st) t ∧ t { nx := fun _ H' => Q .non H', rt := Q } (start N vs) H
theorem Fun.okE {x qual : Str} {st : Stmt} {f : Addr} {fd : FuncData} {N ps : List Str} {k : Nat} {sp : Sp} (F : Fun K x qual st f fd) (S : FnScope N ps (defScope st)) (len : ∀ vs H Q E, sp vs H Q E → vs.length = ps.length)
    (hbody : Body P w K mg base qual st N k sp) : FnOk P w K mg base (CXe P w) (k + 1) f fd ps sp := by
  obtain ⟨oc, od, kV, doc, pm, an, cdv, ct, osl, rfl, lk, hcd⟩ := F.ex
  exact fn_of lk hcd S len fun A outer s H vs Q E hr hsp => hbody f cdv A outer s H vs Q E hr hsp
theorem Raw.have {x qual : Str} {st : Stmt} {N ps : List Str} {dvs : List V} {k : Nat} {sp : Sp} (R : Raw K mg x qual st ps dvs) (S : FnScope N ps (defScope st)) (len : ∀ vs H Q E, sp vs H Q E → vs.length = ps.length)
    (hbody : Body P w K mg base qual st N k sp) : Have P w K mg base x (k + 1) ps dvs sp :=
  let ⟨f, fd, ds, hm, F, hb, hd⟩ := R
  ⟨f, fd, ds, hm, F.kp, hb, hd, F.okE S len hbody⟩
theorem RawM.have {C : Addr} {m qual : Str} {st : Stmt} {N ps : List Str} {dvs : List V} {k : Nat} {sp : Sp} (R : RawM K C m qual st ps dvs) (S : FnScope N ps (defScope st)) (len : ∀ vs H Q E, sp vs H Q E → vs.length = ps.length)
    (hbody : Body P w K mg base qual st N k sp) : HaveM P w K mg base C m (k + 1) ps dvs sp :=
  let ⟨f, fd, ds, hm, F, hb, hd⟩ := R
  ⟨f, fd, ds, hm, hb, hd, F.okE S len hbody⟩
theorem RawI.have {C : Addr} {x qual : Str} {st : Stmt} {N ps : List Str} {dvs : List V} {k : Nat} {sp : Sp} (R : RawI K mg x C qual st ps dvs) (S : FnScope N ps (defScope st)) (len : ∀ vs H Q E, sp vs H Q E → vs.length = ps.length)
    (hbody : Body P w K mg base qual st N k sp) : HaveI P w K mg base x C (k + 1) ps dvs sp :=
  let ⟨f, fd, ds, hm, M, F, hb, hd⟩ := R
  ⟨f, fd, ds, hm, M, hb, hd, F.okE S len hbody⟩
end
end L2
namespace L2
open PySem PySem.Spec PyProof.Rows

def XR (X : Cx) (K : XKs) : Prop := ∀ (pins : List (Addr × Obj)) (σ : St) (H : Hp) (s : Shared) (h' : Heap) (e : Addr) (cls : Value) (args : List Value), Inv X pins σ H s → Heap.MadeExcOf s.heap h' e cls args → K cls σ H → X.xe (.ref e) { s with heap := h' }

theorem HOk.alive {P : Program} {w : World} {H : Hp} {h : Heap} (x : HOk P w H h) {b : Addr} {u : HO} (e : H b = some u) : ∃ o, h.get? b = some o := by
  have q := x b u e
  cases u with
  | lst xs => obtain ⟨_, _, _, _, e⟩ := q; exact ⟨_, e⟩
  | tup xs => obtain ⟨_, _, _, ⟨o, e, _⟩⟩ := q; exact ⟨_, e⟩
  | dK kvs => obtain ⟨_, _, _, _, o, _, _, e, _⟩ := q; exact ⟨_, e⟩
  | dT kvs => obtain ⟨_, _, _, _, o, _, _, e, _⟩ := q; exact ⟨_, e⟩
  | set S n => obtain ⟨o, _, _, _, e, _⟩ := q; exact ⟨_, e⟩
  | ins C dx fs => obtain ⟨_, _, _, e, _⟩ := q; exact ⟨_, e⟩
  | own y => exact q
  | xd fs => obtain ⟨_, ⟨_, _, _, e, _⟩, _⟩ := q; exact ⟨_, e⟩
  | rng lo hi => obtain ⟨_, _, _, e⟩ := q; exact ⟨_, e⟩
  | frz ob u => obtain ⟨e, _⟩ := q; exact ⟨_, e⟩
  | tbl ps => exact ⟨_, q⟩
  | met f y => exact ⟨_, q⟩
  | ext φ => obtain ⟨_, e, _⟩ := q; exact e

theorem xr_def {P : Program} {w : World} {K : PySem.W.Frag} {mg : Str → Option Value} {base : Heap} {N : List Str} {qual : Str} {scope : Scope} {f : Addr} {cd : Value} {A : Around} {outer : List Env} {s0 : Shared} {H0 : Hp} {E : XK} :
    XR (cxOf (CXe P w) P w K mg base N qual scope f cd A outer s0 H0 E) (fun c _ H' => E c none H') := by
  intro pins σ H s h1 ea cls args I mk hK
  have hfr := I.ok.frames
  have hstk : (cxOf (CXe P w) P w K mg base N qual scope f cd A outer s0 H0 E).stack = envOfC qual scope s0.heap.objs.size f cd :: outer := rfl
  have hfun := I.stack
  have hfree := I.stkFree
  rw [hstk] at hfr hfun hfree
  have hf : (envOfC qual scope s0.heap.objs.size f cd).frame = some s0.heap.objs.size := rfl
  have hfs : frs (envOfC qual scope s0.heap.objs.size f cd :: outer) = s0.heap.objs.size :: frs outer := frs_cons hf
  have noA : ∀ b : Addr, b ∉ (cxOf (CXe P w) P w K mg base N qual scope f cd A outer s0 H0 E).ex := fun b z => absurd z (by simp [cxOf])
  have nf : ∀ b o, s0.heap.get? b = some o → b ∉ frs outer → b ∉ frs (envOfC qual scope s0.heap.objs.size f cd :: outer) := fun b o e n z => by
    rw [hfs] at z
    rcases List.mem_cons.mp z with z | z
    · exact absurd (Heap.lt_size e) (by rw [z]; exact Nat.lt_irrefl _)
    · exact n z
  show wpAny _ _ (leaving (envOfC qual scope s0.heap.objs.size f cd) (.ref ea)) _ _ _
  refine wpAny_leaves_madeW (base := PySem.W.hideAll s.heap (frs (envOfC qual scope s0.heap.objs.size f cd :: outer))) (h := s.heap) hfr hf (fun b o q => PySem.W.of_hideAll _ q)
    (PySem.W.funFrames_hide hfun fun env he b hb => List.mem_filterMap.mpr ⟨env, he, hb⟩) mk fun h' t fl' _ _ up => ?_
  have inB : ∀ b o, s.heap.get? b = some o → b ∉ frs (envOfC qual scope s0.heap.objs.size f cd :: outer) → (PySem.W.hideAll s.heap (frs (envOfC qual scope s0.heap.objs.size f cd :: outer))).get? b = some o := fun b o e n => PySem.W.hideAll_get _ e n
  have stay : ∀ b o, s0.heap.get? b = some o → H0 b = none → b ∉ frs outer → (PySem.W.hideAll s.heap (frs (envOfC qual scope s0.heap.objs.size f cd :: outer))).get? b = some o := fun b o e n hb =>
    inB b o (I.base.keep b o e n hb (noA b)) (nf b o e hb)
  have live : ∀ b o, s0.heap.get? b = some o → b ∉ frs outer → ∃ o', (PySem.W.hideAll s.heap (frs (envOfC qual scope s0.heap.objs.size f cd :: outer))).get? b = some o' := fun b o e hb => by
    obtain ⟨o1, e1⟩ := I.base.there b o e (noA b)
    exact ⟨o1, inB b o1 e1 (nf b o e hb)⟩
  have trk : ∀ b u, H b = some u → ∃ o, (PySem.W.hideAll s.heap (frs (envOfC qual scope s0.heap.objs.size f cd :: outer))).get? b = some o := fun b u e => by
    obtain ⟨o, ho⟩ := I.hok.alive e
    exact ⟨o, inB b o ho fun z => by rw [hfree b z] at e; cases e⟩
  have slotOf : ∀ b, b ∈ frs outer → ∀ o, s.heap.get? b = some o → ∃ sl, h'.get? b = some { o with slots := sl } := fun b hb o e => by
    have hm : b ∈ frs (envOfC qual scope s0.heap.objs.size f cd :: outer) := by rw [hfs]; exact List.mem_cons_of_mem _ hb
    obtain ⟨_, o', ho', hd⟩ := hfun.mem hm
    rw [e] at ho'; cases ho'
    exact up b o (mk.keeps b o e) hd
  refine ⟨ea, cls, H, _, rfl, I.os, I.bare, ?_, I.hok.flown trk (fun b o q => PySem.W.of_hideAll _ q) fl'.1, ⟨⟨_, fl'⟩, trk, stay, live⟩, hK⟩
  refine ⟨fun b o e n hb _ => fl'.1 b o (stay b o e n hb), fun b o e n hb _ => ?_, fun b o e n _ => I.base.free b o e n (noA b), fun b o e _ => ?_, I.base.tups, I.base.frzs, I.base.tbls⟩
  · obtain ⟨sl, e1⟩ := I.base.slot b o e n hb (noA b)
    obtain ⟨sl', e2⟩ := slotOf b hb _ e1
    exact ⟨sl', e2⟩
  · by_cases hb : b ∈ frs outer
    · obtain ⟨o1, e1⟩ := I.base.there b o e (noA b)
      obtain ⟨sl, e2⟩ := slotOf b hb _ e1
      exact ⟨_, e2⟩
    · obtain ⟨o1, e1⟩ := live b o e hb
      exact ⟨o1, fl'.1 b o1 e1⟩

abbrev mroVE : List Value := [.type "ValueError", .type "Exception", .type "BaseException", .type "object"]
structure XC (K : PySem.W.Frag) (mg : Str → Option Value) (x : Str) (C : Addr) : Prop where
  m : mg x = some (.ref C)
  ex : PySem.W.excIn K C mroVE "ValueError.__new__" = true
theorem exc_obj {K : PySem.W.Frag} {h : Heap} {C : Addr} {l : List Value} {id : String} (hin : K.In h) (q : PySem.W.excIn K C l id = true) :
    ∃ bm N nm qn bs hdct sn sub ab col dd k0 k1 k2 k3 k5 mN, h.get? C = some (excClassObj nm qn C N bs bm hdct sn sub ab col dd k0 k1 k2 k3 k5 id) ∧ h.Ns N mN ∧ mN "__init__" = none ∧ OwnTail h l bm := by
  unfold PySem.W.excIn at q
  split at q
  case h_2 => cases q
  case h_1 dd cd sl ho =>
    split at q
    case h_2 => cases q
    case h_1 C' bm k0 k1 k2 k3 n k5 hm hs =>
      rw [Bool.and_eq_true, Bool.and_eq_true, Bool.and_eq_true, Bool.and_eq_true, Bool.and_eq_true] at q
      obtain ⟨⟨⟨⟨⟨q1, q2⟩, q3⟩, q4⟩, q5⟩, q6⟩ := q
      have e1 := beq_iff_eq.mp q1
      have e2 := beq_iff_eq.mp q2
      have e6 := beq_iff_eq.mp q6
      subst e1 e2
      obtain ⟨nm, bs, mro, ns, qn, hd, sn, sub, ab, col, del⟩ := cd
      have e3 : del = false := by
        cases del with
        | false => rfl
        | true => cases q3
      have hm' : mro = .ref C' :: bm := hm
      subst e3 hm'
      obtain ⟨l'⟩ := sl
      have hs' : l' = [k0, k1, k2, k3, some (.builtin n), k5] := hs
      subst hs'
      exact ⟨bm, ns, nm, qn, bs, hd, sn, sub, ab, col, dd, k0, k1, k2, k3, k5, _, hin _ _ ho, .of_isNs (PySem.W.isNs_of_in hin q5), PySem.W.nsMap_none_of_in hin q5 e6, PySem.W.tail_of_in hin q4⟩
def tRaise (Kx : XKs) (C : Addr) (t : TA) : TS := fun _ σ H => t σ H fun vs H1 => vs.length ≤ sizeLine ∧ Kx (.ref C) σ H1
theorem ps_raise {X : Cx} {Kx : XKs} {C : Addr} {x : Str} {np cpos pos : Pos} {e : Expr} {es : List Expr} {t : TA} (hx : XR X Kx) (hc : X.calm = true) (c : XC X.K X.mg x C) (ha : PA X (e :: es) t) (hg : Gl X x := by rfl) (hd : (x == ("__debug__" : Str)) = false := by decide)
    (he : starEach (e :: es) X.env = (false, eval e X.env) :: starEach es X.env := by rfl) (hpl : (backTo cpos (starEach es X.env)).any (·.1) = false := by rfl) :
    PS X (.Raise (some (.Call (.Name x np) (e :: es) [] cpos)) none pos) (tRaise Kx C t) := by
  intro pins s σ H D I h
  obtain ⟨bm, N, nm, qn, bs, hdct, sn, sub, ab, col, dd, k0, k1, k2, k3, k5, mN, hC, hN, hni, T⟩ := exc_obj I.mod.kin c.ex
  refine wpAny_Raise_call_subT (C := C) (nm := nm) (q := qn) (N := N) (bs := bs) (bm := bm) (hdct := hdct) (sn := sn) (sub := sub) (ab := ab) (col := col) (dd := dd) (k0 := k0) (k1 := k1) (k2 := k2) (k3 := k3) (k5 := k5) (mN := mN) PySem.F.excBase_ValueError (T.hasType PySem.F.excBase_ValueError.hasBase) (I.ok.hd hc) (by rw [he]; show (false || (backTo cpos (starEach es X.env)).any (·.1)) = false; rw [hpl]; rfl) hni
    (ld_glob I hg c.m ⟨rfl, ?_⟩ hd)
  have q := ha cpos pins s σ H _ I h
  rw [he] at q ⊢
  refine Calls.evalArgs_plain (wpAny_mono q (fun us s2 hq => ?_) fun _ _ y => y)
  obtain ⟨vs, H1, I1, r, hl, hk⟩ := hq
  exact ⟨rfl, by rw [← r.length]; exact hl, I1.bk _ _ hC, hN.keeps I1.bk, T.keeps I1.bk, fun h' ea mk => hx pins σ H1 s2 h' ea (.ref C) us I1 mk hk⟩

end L2
namespace L2
open PySem PySem.Spec PyProof.Rows
def kdO : Option HO → String
  | some (.lst _) => "list"
  | some (.frz _ (.lst _)) => "list"
  | some (.tup _) => "tuple"
  | some (.dK _) => "dict"
  | some (.dT _) => "dict"
  | _ => ""
def kd (H : Hp) : V → String
  | .non => "NoneType"
  | .bl _ => "bool"
  | .int _ => "int"
  | .str _ => "str"
  | .ref a => kdO (H a)
  | _ => ""
def Kn (H : Hp) (x : V) : Prop := kd H x ≠ ""
def isTy (n : String) (H : Hp) (x : V) : Bool := kd H x == n || (kd H x == "bool" && n == "int")
theorem kd_ty {K : PySem.W.Frag} {H : Hp} {x : V} (h : Kn H x) : TyOf K H x (.type (kd H x)) := by
  cases x with
  | non => exact .non
  | bl b => exact .bl b
  | int i => exact .int i
  | str s => exact .str s
  | ref a =>
    have h : kdO (H a) ≠ "" := h
    show TyOf K H (.ref a) (.type (kdO (H a)))
    cases e : H a with
    | none => rw [e] at h; exact absurd rfl h
    | some o =>
      rw [e] at h
      cases o with
      | lst xs => exact .lst e
      | tup xs => exact .tup e
      | dK k => exact .dK e
      | dT k => exact .dT e
      | frz ob u =>
        cases u with
        | lst xs => exact .frz e
        | _ => exact absurd rfl h
      | _ => exact absurd rfl h
  | _ => exact absurd rfl h
theorem kdO_cases (o : Option HO) : kdO o = "" ∨ kdO o = "list" ∨ kdO o = "tuple" ∨ kdO o = "dict" := by
  unfold kdO
  split <;> simp
theorem Kn.cases {H : Hp} {x : V} (h : Kn H x) : kd H x = "NoneType" ∨ kd H x = "bool" ∨ kd H x = "int" ∨ kd H x = "str" ∨ kd H x = "list" ∨ kd H x = "tuple" ∨ kd H x = "dict" := by
  cases x with
  | ref a =>
    have h : kdO (H a) ≠ "" := h
    show kdO (H a) = _ ∨ kdO (H a) = _ ∨ kdO (H a) = _ ∨ kdO (H a) = _ ∨ kdO (H a) = _ ∨ kdO (H a) = _ ∨ kdO (H a) = _
    rcases kdO_cases (H a) with e | e | e | e
    · exact absurd e h
    · exact .inr (.inr (.inr (.inr (.inl e))))
    · exact .inr (.inr (.inr (.inr (.inr (.inl e)))))
    · exact .inr (.inr (.inr (.inr (.inr (.inr e)))))
  | non => exact .inl rfl
  | bl b => exact .inr (.inl rfl)
  | int i => exact .inr (.inr (.inl rfl))
  | str z => exact .inr (.inr (.inr (.inl rfl)))
  | _ => exact absurd rfl h
theorem kit_scal (K : PySem.W.Frag) : ∀ k ∈ ["NoneType", "bool", "int", "str", "list", "tuple", "dict"], ∀ n ∈ ["bool", "int", "str", "list", "tuple", "dict"], PySem.W.kitOne K (.type k) (.type n) = some (k == n || (k == "bool" && n == "int")) := by
  have e : ∀ k ∈ ["NoneType", "bool", "int", "str", "list", "tuple", "dict"], ∀ n ∈ ["bool", "int", "str", "list", "tuple", "dict"], (if (Value.type k == Value.type n) = true then some true else if PySem.W.kitMeta n = true then (fastBuiltinMro k).map (·.contains (.type n)) else none) = some (k == n || (k == "bool" && n == "int")) := by decide +kernel
  exact fun k hk n hn => e k hk n hn
theorem call_isi {X : Cx} : CallR X (.builtin "isinstance") (fun xs H Q => ∃ x n, xs = [x, .ty n] ∧ n ∈ ["bool", "int", "str", "list", "tuple", "dict"] ∧ Kn H x ∧ Q (.bl (isTy n H x)) H) := by
  intro pins s σ H xs us Q I r h
  obtain ⟨x, n, rfl, hn, hk, q⟩ := h
  cases r with
  | cons r1 rr =>
    cases rr with
    | cons r2 rr =>
      cases rr
      cases r2
      refine isinst_ok I r1 (kd_ty hk) (kit_scal X.K _ ?_ n hn) fun tk => ⟨.bl _, H, I.tok tk, rfl, q⟩
      rcases hk.cases with e | e | e | e | e | e | e <;> rw [e] <;> simp
theorem op_neg {X : Cx} : UnR X (unaryOp .USub) (rU fun i => .int (-i)) := by
  intro pins s σ H x v Q I rx h
  obtain ⟨i, rfl, q⟩ := h
  obtain ⟨t, rfl⟩ := rx
  exact neg_int ⟨.int _, H, I.tok _, ⟨_, rfl⟩, q⟩
end L2
namespace L2
open PySem PySem.Spec PyProof.Rows
theorem kn_int {H : Hp} {i : Int} : Kn H (.int i) ↔ True := ⟨fun _ => trivial, fun _ => (by decide : "int" ≠ "")⟩
theorem kn_lst {H : Hp} {a : Addr} {xs : List V} (h : H a = some (.lst xs)) : Kn H (.ref a) := fun z => by
  have z : kdO (H a) = "" := z
  rw [h] at z; exact absurd z (show "list" ≠ "" by decide)
theorem kn_tup {H : Hp} {a : Addr} {xs : List V} (h : H a = some (.tup xs)) : Kn H (.ref a) := fun z => by
  have z : kdO (H a) = "" := z
  rw [h] at z; exact absurd z (show "tuple" ≠ "" by decide)
theorem cxOf_K {CX : CXT} {P : Program} {w : World} {K : PySem.W.Frag} {mg : Str → Option Value} {base : Heap} {N : List Str} {qual : Str} {scope : Scope} {f : Addr} {cd : Value} {A : Around} {outer : List Env} {s : Shared} {H : Hp} {E : XK} :
    (cxOf CX P w K mg base N qual scope f cd A outer s H E).K = K := rfl
def whole : V → Bool
  | .int _ => true
  | _ => false
def within (x : V) (l h : Int) : Bool := match x with
  | .int i => decide (l ≤ i) && decide (i ≤ h)
  | _ => false
theorem within_int {i l h : Int} : within (.int i) l h = (decide (l ≤ i) && decide (i ≤ h)) := rfl
theorem isTy_whole {H : Hp} {x : V} (h : Kn H x) : (isTy "int" H x && !isTy "bool" H x) = whole x := by
  cases x with
  | ref a =>
    have h : kdO (H a) ≠ "" := h
    have e : kd H (.ref a) = kdO (H a) := rfl
    unfold isTy
    rw [e]
    rcases kdO_cases (H a) with e | e | e | e <;> rw [e] <;> first | rfl | exact absurd e h
  | _ => first | rfl | exact absurd rfl h
end L2
namespace L2
open PySem PySem.Spec PyProof.Rows
inductive Hid (t u : TS) : Type where
  | mk : Hid t u
def tCut (t u : TS) (_ : Hid t u) : TS := fun D σ H => ∃ M : St → Hp → Prop, t { D with nx := M } σ H ∧ ∀ σ' H', M σ' H' → u D σ' H'
theorem pss_cut {X : Cx} {st : Stmt} {rest : List Stmt} {t u : TS} (h1 : PS X st t) (h2 : PSs X rest u) : PSs X (st :: rest) (tCut t u .mk) := by
  intro pins s σ H D I h
  obtain ⟨M, h, hM⟩ := h
  refine wpAny_execs_cons (thn (h1 pins s σ H { D with nx := M } I h) fun f s1 q => ?_)
  cases f with
  | next =>
    obtain ⟨σ', H', I', q⟩ := q
    exact h2 pins s1 σ' H' D I' (hM σ' H' q)
  | ret v => exact q
  | brk => exact q
  | cont => exact q
def lstO : Option HO → Option (List V)
  | some (.lst xs) => some xs
  | some (.frz _ (.lst xs)) => some xs
  | _ => none
def tupO : Option HO → Option (List V)
  | some (.tup xs) => some xs
  | some (.frz _ (.tup xs)) => some xs
  | _ => none
theorem lstO_lst {xs : List V} : lstO (some (.lst xs)) = some xs := rfl
theorem tupO_tup {xs : List V} : tupO (some (.tup xs)) = some xs := rfl
theorem sq_lstO {K : PySem.W.Frag} {H : Hp} {a : Addr} {xs : List V} (h : lstO (H a) = some xs) : SqL K H a xs := by
  unfold lstO at h
  split at h
  · rename_i e; cases h; exact .inl (.inl e)
  · rename_i e; cases h; exact .inl (.inr ⟨_, e⟩)
  · cases h
def rIxH : R2 := fun x y H Q => ∃ p xs i v, x = .ref p ∧ y = .int i ∧ lstO (H p) = some xs ∧ atI xs i = some v ∧ Q v H
theorem ix_lst {X : Cx} : IxR X rIxH := by
  intro value slice pins s σ H x y v u Q I rx ry h hs
  obtain ⟨p, xs, i, w', e1, e2, e3, e4, q⟩ := h
  exact ix_list value slice pins s σ H x y v u Q I rx ry ⟨p, xs, i, w', e1, e2, sq_lstO e3, e4, q⟩ hs
theorem scal_ii {i j : Int} : scal (.int i) (.int j) = true := rfl
theorem scal_bb {i j : Bool} : scal (.bl i) (.bl j) = true := rfl
theorem scal_ss {i j : Str} : scal (.str i) (.str j) = true := rfl
theorem na10 : Int.natAbs 10 = 10 := rfl
theorem same_refl {H : Hp} : Same H H := fun _ _ h => h
theorem same_upd {H H' : Hp} {p : Addr} {o : HO} (s : Same H H') (h : H' p = none) : Same H (upd H' p o) := fun b u e => by
  have q := s b u e
  rw [upd_ne (ne_of_none q h)]
  exact q
end L2
namespace L2
open PySem PySem.Spec PyProof.Rows
end L2
namespace L2
open PySem PySem.Spec PyProof.Rows
inductive HidF (g : TG) (tb : TS) : Type where
  | mk : HidF g tb
def Loop (g : TG) (tb : TS) (_ : HidF g tb) (J : It) : TS := fun D σ H => ∃ W : Nat → Nat → St → Hp → Prop, (∃ m, W 0 m σ H) ∧ ∀ i m σ H, W i m σ H →
  (J.stop i H ∧ D.nx σ H) ∨ (J.go i H ∧ ∃ N : St → Hp → Prop, (∀ σ' H', N σ' H' → ∃ m', m' < m ∧ W (i + 1) m' σ' H') ∧ ∀ x H', J.yld i H x H' → g x σ H' fun σ2 H2 => tb { D with nx := N, ct := N, bk := D.nx } σ2 H2)
def tForE (wi : TI) (g : TG) (tb : TS) (h : HidF g tb) : TS := fun D σ H => wi σ H fun J H1 => Loop g tb h J D σ H1
theorem ps_forE {X : Cx} {tg iter : Expr} {body : List Stmt} {wi : TI} {g : TG} {tb : TS} {pos : Pos} (hp : PassesOwn (model X.prog X.w) X.A X.env X.xe) (hc : X.calm = true) (hi : PI X tg iter wi) (hg : PG X tg g) (hb : PSs X body tb)
    (hs : ∀ x, foldedSetIterable iter X.env x = pure x := by intro _; rfl) : PS X (.For tg iter body [] pos) (tForE wi g tb .mk) := ps_for hp hc hi hg hb hs
theorem loop_range {lo : Int} {n : Nat} {g : TG} {tb : TS} {h : HidF g tb} {D : Ends} {σ : St} {H : Hp} (Pv : Nat → St → Hp → Prop) (h0 : Pv 0 σ H)
    (hs : ∀ i σ H, i < n → Pv i σ H → g (.int (lo + i)) σ H fun σ2 H2 => tb { D with nx := Pv (i + 1), ct := Pv (i + 1), bk := D.nx } σ2 H2) (hd : ∀ σ H, Pv n σ H → D.nx σ H) : Loop g tb h (Itr lo n) D σ H := for_range Pv h0 hs hd
theorem loop_list {K : PySem.W.Frag} {a : Addr} {xs : List V} {g : TG} {tb : TS} {h : HidF g tb} {D : Ends} {σ : St} {H : Hp} (Pv : Nat → St → Hp → Prop) (h0 : Pv 0 σ H) (hl : ∀ i σ H, i ≤ xs.length → Pv i σ H → SqL K H a xs)
    (hs : ∀ i x σ H, xs[i]? = some x → Pv i σ H → g x σ H fun σ2 H2 => tb { D with nx := Pv (i + 1), ct := Pv (i + 1), bk := D.nx } σ2 H2) (hd : ∀ σ H, Pv xs.length σ H → D.nx σ H) : Loop g tb h (Itl K a) D σ H := for_list Pv h0 hl hs hd
def pw (n : Int) : Int := 2 ^ n.toNat
theorem pw_nat (n : Nat) : pw (n : Int) = 2 ^ n := by unfold pw; rw [Int.toNat_natCast]
theorem pw_succ (n : Nat) : pw ((n + 1 : Nat) : Int) = pw (n : Int) * 2 := by rw [pw_nat, pw_nat, Int.pow_succ]
theorem pw_pos (n : Int) : 1 ≤ pw n := by
  unfold pw
  generalize n.toNat = k
  induction k with
  | zero => decide
  | succ k ih => rw [Int.pow_succ]; omega
theorem pwN_le {n m : Nat} (h : n ≤ m) : pw (n : Int) ≤ pw (m : Int) := by
  induction m with
  | zero => have : n = 0 := by omega
            subst this; exact Int.le_refl _
  | succ k ih =>
    rcases (by omega : n ≤ k ∨ n = k + 1) with e | e
    · have := ih e; have := pw_pos k; rw [pw_succ]; omega
    · subst e; exact Int.le_refl _
theorem pw_le {n m : Int} (h : n ≤ m) (hm : 0 ≤ m) : pw n ≤ pw m := by
  have e1 : pw n = pw (n.toNat : Int) := by unfold pw; rw [Int.toNat_natCast]
  have e2 : pw m = pw (m.toNat : Int) := by unfold pw; rw [Int.toNat_natCast]
  rw [e1, e2]
  exact pwN_le (by omega)
theorem pw24 {n : Int} (h : n ≤ 24) : pw n ≤ 16777216 := pw_le (m := 24) h (by decide)
theorem pw4 {n : Int} (h : n ≤ 4) : pw n ≤ 16 := pw_le (m := 4) h (by decide)
theorem mul_24 {x y : Int} (h1 : 2 ≤ x) (h2 : x ≤ 3) (h3 : 1 ≤ y) (h4 : y ≤ 8) : 2 ≤ x * y ∧ x * y ≤ 24 := by
  rcases (by omega : x = 2 ∨ x = 3) with e | e <;> subst e <;> omega
end L2
namespace L2
open PySem PySem.Spec PyProof.Rows
theorem lt_putF {f : Str} {v : V} {n : Nat} : ∀ {fs : List (Str × V)}, fs.length < n → (putF f v fs).length < n + 1
  | [], _ => by show 1 < n + 1; rename_i h; simp at h; omega
  | (g, x) :: r, h => by
    unfold putF
    split
    · exact Nat.lt_succ_of_lt h
    · cases n with
      | zero => exact absurd h (Nat.not_lt_zero _)
      | succ m => exact Nat.succ_lt_succ (lt_putF (Nat.lt_of_succ_lt_succ h))
end L2
namespace L2
open PySem PySem.Spec PyProof.Rows
end L2
namespace L2
open PySem PySem.Spec PyProof.Rows
end L2
namespace L2
open PySem PySem.Spec PyProof.Rows
end L2
namespace L2
open PySem PySem.Spec PyProof.Rows
theorem isTy_tup {H : Hp} {a : Addr} {xs : List V} (h : H a = some (.tup xs)) : isTy "tuple" H (.ref a) = true := by
  unfold isTy
  rw [show kd H (.ref a) = kdO (H a) from rfl, h]; rfl
theorem isTy_lst {H : Hp} {a : Addr} {xs : List V} (h : H a = some (.lst xs)) : isTy "list" H (.ref a) = true := by
  unfold isTy
  rw [show kd H (.ref a) = kdO (H a) from rfl, h]; rfl
end L2
namespace L2
open PySem PySem.Spec PyProof.Rows
section
variable {X : Cx} {pins pins2 : List (Addr × Obj)} {σ : St} {H : Hp} {s : Shared} {E' : Value → Shared → Prop}
end
end L2
namespace PySem.W
open PySem PySem.Spec PySem.Calls PyProof.Rows
open Builtin Builtin.ObjectAttr Builtin.Getset_descriptor
def ExcAt (e C : Addr) (h : Heap) : Prop := ∃ o, h.get? e = some o ∧ o.cls = .ref C
section
variable {K : Frag} {e C : Addr}
theorem ExcAt.ty {M : Model} {h : Heap} (p : ExcAt e C h) : Looks M h (typeOf (.ref e)) (.ref C) := by
  obtain ⟨o, h1, h2⟩ := p
  exact h2 ▸ (Looks.ld h1).andThen .now
variable {prog : Program} {w : World} {A : Around} {E : Value → Shared → Prop} {s : Shared}
end
end PySem.W
namespace L2
open PySem PySem.Spec PyProof.Rows
def clsV : V → Value
  | .ref a => .ref a
  | .ty n => .type n
  | _ => .none
theorem clsV_ref {a : Addr} : clsV (.ref a) = .ref a := rfl
theorem clsV_ty {n : String} : clsV (.ty n) = .type n := rfl
end L2
namespace L2
open PySem PySem.Spec PyProof.Rows
inductive Dv where
  | leaf (v : V)
  | seq (t : Bool) (ds : List Dv)
mutual
def Sees (K : PySem.W.Frag) (H : Hp) : Dv → V → Prop
  | .leaf v, x => x = v ∧ flatV v = true
  | .seq t ds, x => ∃ a xs, x = .ref a ∧ (if t = true then SqT K H a xs else SqL K H a xs) ∧ SeesL K H ds xs
def SeesL (K : PySem.W.Frag) (H : Hp) : List Dv → List V → Prop
  | [], xs => xs = []
  | d :: ds, xs => ∃ x r, xs = x :: r ∧ Sees K H d x ∧ SeesL K H ds r
end
theorem SeesL.length {K : PySem.W.Frag} {H : Hp} : ∀ {ds : List Dv} {xs : List V}, SeesL K H ds xs → ds.length = xs.length
  | [], xs, h => by unfold SeesL at h; subst h; rfl
  | d :: ds, xs, h => by
    unfold SeesL at h
    obtain ⟨x, r, rfl, _, h⟩ := h
    simp [h.length]
theorem SeesL.get {K : PySem.W.Frag} {H : Hp} : ∀ {ds : List Dv} {xs : List V} {j : Nat} {d : Dv}, SeesL K H ds xs → ds[j]? = some d → ∃ x, xs[j]? = some x ∧ Sees K H d x
  | [], xs, j, d, h, e => by simp at e
  | d' :: ds, xs, 0, d, h, e => by
    unfold SeesL at h
    obtain ⟨x, r, rfl, hx, h⟩ := h
    simp at e; subst e
    exact ⟨x, rfl, hx⟩
  | d' :: ds, xs, j + 1, d, h, e => by
    unfold SeesL at h
    obtain ⟨x, r, rfl, hx, h⟩ := h
    obtain ⟨y, e1, e2⟩ := SeesL.get (j := j) h (by simpa using e)
    exact ⟨y, by simpa using e1, e2⟩
end L2
namespace L2
open PySem PySem.Spec PyProof.Rows
def compChk (sc : Scope) (env : Env) (x : Str) (fs : List Str) : Bool :=
  sc.kind == .function && sc.names.all (fun y => y.2 != .cell && (y.2 != .local || sc.names.lookup y.1 == some .local) && (y.2 != .free || env.kindOf y.1 == some .cell || env.kindOf y.1 == some .free)) &&
    sc.names.lookup x == some .local && fs.all (fun f => sc.names.lookup f == some .free)
structure CompSc (sc : Scope) (env : Env) (x : Str) (fs : List Str) : Prop where
  kind : sc.kind = .function
  nocell : ∀ y ∈ sc.names, y.2 ≠ .cell
  own : ∀ y ∈ sc.names, y.2 = .local → sc.names.lookup y.1 = some .local
  fr : ∀ y ∈ sc.names, y.2 = .free → env.kindOf y.1 = some .cell ∨ env.kindOf y.1 = some .free
  x : sc.names.lookup x = some .local
  fs : ∀ f ∈ fs, sc.names.lookup f = some .free
theorem CompSc.of {sc : Scope} {env : Env} {x : Str} {fs : List Str} (h : compChk sc env x fs = true) : CompSc sc env x fs := by
  unfold compChk at h
  simp only [Bool.and_eq_true, beq_iff_eq, List.all_eq_true, Bool.or_eq_true, bne_iff_ne, ne_eq] at h
  obtain ⟨⟨⟨h1, h2⟩, h3⟩, h4⟩ := h
  refine ⟨h1, fun y hy => (h2 y hy).1.1, fun y hy e => ?_, fun y hy e => ?_, h3, h4⟩
  · rcases (h2 y hy).1.2 with z | z
    · exact absurd e z
    · exact z
  · rcases (h2 y hy).2 with (z | z) | z
    · exact absurd e z
    · exact .inl z
    · exact .inr z
theorem closure_ex {env : Env} : ∀ (names : List (Str × NameKind)) (acc : List (Str × Addr)), (∀ n, (n, NameKind.free) ∈ names → ∃ c, env.cells.lookup n = some c) →
    ∃ cl, (forIn names acc fun y r => (do if (y.2 == NameKind.free) = true then do let c ← cellOf env y.1; pure (ForInStep.yield ((y.1, c) :: r)) else pure (ForInStep.yield r) : Sem (ForInStep (List (Str × Addr))))) = pure cl ∧
      (∀ n c, cl.lookup n = some c → acc.lookup n = some c ∨ env.cells.lookup n = some c) ∧ ∀ n, (∃ c, acc.lookup n = some c) ∨ (n, NameKind.free) ∈ names → ∃ c, cl.lookup n = some c
  | [], acc, _ => ⟨acc, rfl, fun _ _ e => .inl e, fun n h => h.elim id fun z => nomatch z⟩
  | (n, k) :: r, acc, h => by
    have hr : ∀ m, (m, NameKind.free) ∈ r → ∃ c, env.cells.lookup m = some c := fun m hm => h m (List.mem_cons_of_mem _ hm)
    by_cases hk : k = .free
    · subst hk
      obtain ⟨c, hc⟩ := h n List.mem_cons_self
      obtain ⟨cl, e, h1, h2⟩ := closure_ex r ((n, c) :: acc) hr
      refine ⟨cl, ?_, fun m c' hm => ?_, fun m hm => h2 m ?_⟩
      · rw [List.forIn_cons]
        simp only [beq_self_eq_true, if_true, cellOf, hc, pure_bind]
        exact e
      · rcases h1 m c' hm with z | z
        · rw [List.lookup_cons] at z
          cases q : m == n with
          | true =>
            rw [q] at z
            cases z
            rw [beq_iff_eq.mp q]
            exact .inr hc
          | false => rw [q] at z; exact .inl z
        · exact .inr z
      · rw [List.lookup_cons]
        rcases hm with ⟨c', z⟩ | hm
        · cases q : m == n with
          | true => exact .inl ⟨c, rfl⟩
          | false => exact .inl ⟨c', z⟩
        · rcases List.mem_cons.mp hm with z | z
          · cases z
            rw [beq_self_eq_true]
            exact .inl ⟨c, rfl⟩
          · exact .inr z
    · obtain ⟨cl, e, h1, h2⟩ := closure_ex r acc hr
      refine ⟨cl, ?_, h1, fun m hm => h2 m ?_⟩
      · rw [List.forIn_cons]
        have hb : (k == NameKind.free) = false := by simpa using hk
        simp only [hb, Bool.false_eq_true, if_false, pure_bind]
        exact e
      · rcases hm with z | hm
        · exact .inl z
        · rcases List.mem_cons.mp hm with z | z
          · cases z; exact absurd rfl hk
          · exact .inr z
theorem closure_of {env : Env} {sc : Scope} (h : ∀ n, (n, NameKind.free) ∈ sc.names → ∃ c, env.cells.lookup n = some c) :
    ∃ cl, closureFor sc env = pure cl ∧ (∀ n c, cl.lookup n = some c → env.cells.lookup n = some c) ∧ ∀ n, (n, NameKind.free) ∈ sc.names → ∃ c, cl.lookup n = some c := by
  obtain ⟨cl, e, h1, h2⟩ := closure_ex sc.names [] h
  refine ⟨cl, ?_, fun n c z => (h1 n c z).elim (fun q => nomatch q) id, fun n hn => h2 n (.inr hn)⟩
  unfold closureFor
  simp only [bind_pure]
  exact e
theorem relabel_kind {env : Env} : ∀ {names : List (Str × NameKind)} {x : Str} {k : NameKind}, (names.map fun (n, k) => if (k == NameKind.free && env.scope.kind == .function && env.kindOf n == some .cell) then (n, NameKind.cell) else (n, k)).lookup x = some k →
    k = .cell ∨ k = .free → names.lookup x = some .free ∨ names.lookup x = some .cell
  | [], _, _, h, _ => by simp at h
  | (n, k0) :: r, x, k, h, hk => by
    have ih := @relabel_kind env r x k
    have h : List.lookup x ((if (k0 == NameKind.free && env.scope.kind == .function && env.kindOf n == some .cell) = true then (n, NameKind.cell) else (n, k0)) :: (r.map fun (n, k) => if (k == NameKind.free && env.scope.kind == .function && env.kindOf n == some .cell) then (n, NameKind.cell) else (n, k))) = some k := h
    by_cases hc : (k0 == NameKind.free && env.scope.kind == .function && env.kindOf n == some .cell) = true
    · rw [if_pos hc] at h
      simp only [List.lookup_cons] at h ⊢
      cases hx : x == n with
      | true =>
        simp only [Bool.and_eq_true, beq_iff_eq] at hc
        rw [hc.1.1]
        exact .inl rfl
      | false => rw [hx] at h; exact ih h hk
    · rw [if_neg hc] at h
      simp only [List.lookup_cons] at h ⊢
      cases hx : x == n with
      | true =>
        rw [hx] at h
        cases h
        rcases hk with rfl | rfl
        · exact .inr rfl
        · exact .inl rfl
      | false => rw [hx] at h; exact ih h hk
theorem relabel_free {env : Env} : ∀ {names : List (Str × NameKind)} {x : Str}, names.lookup x = some .free →
    (names.map fun (n, k) => if (k == NameKind.free && env.scope.kind == .function && env.kindOf n == some .cell) then (n, NameKind.cell) else (n, k)).lookup x = some .cell ∨ (names.map fun (n, k) => if (k == NameKind.free && env.scope.kind == .function && env.kindOf n == some .cell) then (n, NameKind.cell) else (n, k)).lookup x = some .free
  | [], _, h => by simp at h
  | (n, k0) :: r, x, h => by
    have ih := @relabel_free env r x
    show List.lookup x ((if (k0 == NameKind.free && env.scope.kind == .function && env.kindOf n == some .cell) = true then (n, NameKind.cell) else (n, k0)) :: _) = _ ∨ List.lookup x ((if (k0 == NameKind.free && env.scope.kind == .function && env.kindOf n == some .cell) = true then (n, NameKind.cell) else (n, k0)) :: _) = _
    simp only [List.lookup_cons] at h
    by_cases hc : (k0 == NameKind.free && env.scope.kind == .function && env.kindOf n == some .cell) = true
    · rw [if_pos hc]
      simp only [List.lookup_cons]
      cases hx : x == n with
      | true => exact .inl rfl
      | false => rw [hx] at h; exact ih h
    · rw [if_neg hc]
      simp only [List.lookup_cons]
      cases hx : x == n with
      | true => rw [hx] at h; exact .inr h
      | false => rw [hx] at h; exact ih h
def cxComp (X : Cx) (scope : Scope) (cl : List (Str × Addr)) (C : Addr) (N : List Str) (s₀ : Shared) (H₀ : Hp) (fp : List Addr) (xe : Value → Shared → Prop) : Cx :=
  { X with N := N, s₀ := s₀, H₀ := H₀, env := compEnvC scope cl C X.env, outer := X.stack, stack := X.stack, ex := fp, fn := fun _ => false, pn := [], xe := xe }
theorem xw_no {X : Cx} : XW X (fun _ _ _ => False) := fun _ _ _ _ _ _ _ _ _ _ _ _ _ _ _ h => h.elim
inductive HidC (g : TG) (tt : TT) (te : TE) : Type where
  | mk : HidC g tt te
def PF (X : Cx) (ifs : List Expr) (tt : TT) : Prop :=
  ∀ (pins : List (Addr × Obj)) (s : Shared) (σ : St) (H : Hp) (Q : Bool → Hp → Prop), Inv X pins σ H s → tt σ H Q →
    wpAny (model X.prog X.w) X.A (forIn ifs true fun c r => if r = true then do let ok ← isTrue c X.env (eval c X.env); pure (ForInStep.yield ok) else pure (ForInStep.yield r)) (TP X pins σ Q) X.xe s
def tYes : TT := fun _ H Q => Q true H
theorem pf_nil {X : Cx} : PF X [] tYes := fun _ _ _ H _ I h => by
  simp only [List.forIn_nil]
  exact wpAny_pure ⟨H, I, h⟩
theorem pf_one {X : Cx} {c : Expr} {tt : TT} (h : PT X c tt) : PF X [c] tt := fun pins s σ H Q I hw => wpAny_tests_one (h pins s σ H Q I hw)
def Comp (g : TG) (tt : TT) (te : TE) (_ : HidC g tt te) (J : It) (σ0 : St) (D : Addr) (Q : Hp → Prop) (H : Hp) : Prop :=
  ∃ W : Nat → Nat → List V → St → Hp → Prop, (∃ m, W 0 m [] σ0 (upd H D (.lst []))) ∧ ∀ i m ys σ H, W i m ys σ H →
    (J.stop i H ∧ Q H) ∨ (J.go i H ∧ ∃ N : List V → St → Hp → Prop, (∀ ys σ H, N ys σ H → ∃ m', m' < m ∧ W (i + 1) m' ys σ H) ∧
      ∀ y H', J.yld i H y H' → g y σ H' fun σ2 H2 => tt σ2 H2 fun b H2' => if b = true then te σ2 H2' fun v H3 => H3 D = some (.lst ys) ∧ ys.length < sizeLine ∧ N (ys ++ [v]) σ2 (upd H3 D (.lst (ys ++ [v]))) else N ys σ2 H2')
def tComp (wi : TI) (ix : List Nat) (g : TG) (tt : TT) (te : TE) (h : HidC g tt te) : TE := fun σ H Q => wi σ H fun J H1 => ∀ D, H1 D = none → Comp g tt te h J (none :: ix.map fun i => (σ[i]?).join) D (fun H' => Q (.ref D) H') H1
theorem comp_range {lo : Int} {n : Nat} {g : TG} {tt : TT} {te : TE} {h : HidC g tt te} {σ0 : St} {D : Addr} {Q : Hp → Prop} {H : Hp} (Pv : Nat → List V → St → Hp → Prop) (h0 : Pv 0 [] σ0 (upd H D (.lst [])))
    (hs : ∀ i ys σ H, i < n → Pv i ys σ H → g (.int (lo + i)) σ H fun σ2 H2 => tt σ2 H2 fun b H2' => if b = true then te σ2 H2' fun v H3 => H3 D = some (.lst ys) ∧ ys.length < sizeLine ∧ Pv (i + 1) (ys ++ [v]) σ2 (upd H3 D (.lst (ys ++ [v]))) else Pv (i + 1) ys σ2 H2') (hd : ∀ ys σ H, Pv n ys σ H → Q H) :
    Comp g tt te h (Itr lo n) σ0 D Q H := by
  refine ⟨fun i m ys σ H => i + m = n ∧ Pv i ys σ H, ⟨n, Nat.zero_add n, h0⟩, fun i m ys σ H ⟨e, p⟩ => ?_⟩
  by_cases hi : i < n
  · refine .inr ⟨hi, Pv (i + 1), fun ys σ H q => ⟨m - 1, by omega, by omega, q⟩, ?_⟩
    rintro y H' ⟨rfl, rfl⟩
    exact hs i ys σ H' hi p
  · have e' : i = n := by omega
    subst e'
    exact .inl ⟨Nat.le_refl _, hd ys σ H p⟩
theorem comp_list {K : PySem.W.Frag} {a : Addr} {xs : List V} {g : TG} {tt : TT} {te : TE} {h : HidC g tt te} {σ0 : St} {D : Addr} {Q : Hp → Prop} {H : Hp} (Pv : Nat → List V → St → Hp → Prop) (h0 : Pv 0 [] σ0 (upd H D (.lst []))) (hl : ∀ i ys σ H, i ≤ xs.length → Pv i ys σ H → SqL K H a xs)
    (hs : ∀ i x ys σ H, xs[i]? = some x → Pv i ys σ H → g x σ H fun σ2 H2 => tt σ2 H2 fun b H2' => if b = true then te σ2 H2' fun v H3 => H3 D = some (.lst ys) ∧ ys.length < sizeLine ∧ Pv (i + 1) (ys ++ [v]) σ2 (upd H3 D (.lst (ys ++ [v]))) else Pv (i + 1) ys σ2 H2') (hd : ∀ ys σ H, Pv xs.length ys σ H → Q H) :
    Comp g tt te h (Itl K a) σ0 D Q H := by
  refine ⟨fun i m ys σ H => i + m = xs.length ∧ Pv i ys σ H, ⟨xs.length, Nat.zero_add _, h0⟩, fun i m ys σ H ⟨e, p⟩ => ?_⟩
  have hq := hl i ys σ H (by omega) p
  by_cases hi : i < xs.length
  · have ex : xs[i]? = some xs[i] := List.getElem?_eq_getElem hi
    refine .inr ⟨⟨xs, _, hq, ex⟩, Pv (i + 1), fun ys σ H q => ⟨m - 1, by omega, by omega, q⟩, ?_⟩
    rintro y H' ⟨rfl, hy⟩
    exact hs i y ys σ H' (hy xs hq) p
  · have e' : i = xs.length := by omega
    subst e'
    exact .inl ⟨⟨xs, hq, Nat.le_refl _⟩, hd ys σ H p⟩
theorem compLoop_turn {prog : Program} {w : World} {A : Around} {R : Result → Shared → Prop} {s : Shared} {elt target iter : Expr} {ifs : List Expr} {scope : Scope} {pos : Pos} {it acc : Value} {env : Env} (I : Nat → Shared → Prop)
    (turn : ∀ n s, I n s → wpAny (model prog w) A (pyNext it) (fun r s₁ => match r with
      | none => R (.ok .next) s₁
      | some v => wpAny (model prog w) A (letOwnedTupleGo target it v) (fun _ s₁' => wpAny (model prog w) A (assign target env v) (fun _ s₂ =>
          wpAny (model prog w) A (forIn ifs true fun c r => if r = true then do let ok ← isTrue c env (eval c env); pure (ForInStep.yield ok) else pure (ForInStep.yield r)) (fun ok s₃ =>
            if ok = true then wpAny (model prog w) A (eval elt env) (fun x s₄ =>
              wpAny (model prog w) A (call (.builtin "list.append") [acc, x]) (fun _ s₅ => ∃ m, m < n ∧ I m s₅) (notedBy (model prog w) A env fun e s' => R (.error e) s') s₄) (notedBy (model prog w) A env fun e s' => R (.error e) s') s₃
            else ∃ m, m < n ∧ I m s₃) (notedBy (model prog w) A env fun e s' => R (.error e) s') s₂) (notedBy (model prog w) A env fun e s' => R (.error e) s') s₁') (notedBy (model prog w) A env fun e s' => R (.error e) s') s₁) (notedBy (model prog w) A env fun e s' => R (.error e) s') s)
    (n : Nat) (h : I n s) : codeAny (model prog w) A (.compLoop (.ListComp elt [⟨target, iter, ifs, 0⟩] scope pos) 0 it acc env) R s := by
  refine codeAny_loop rfl I (fun n s hI => ?_) n h
  show wpAny _ _ ((compTurn (.ListComp elt [⟨target, iter, ifs, 0⟩] scope pos) 0 it acc env).onRaise (fun x => do noteFrame x env; theTreesLotGoes x)) _ _ s
  refine wpAny_noted ?_
  rw [compTurn_list]
  refine wpAny_bind (wpAny_standAt (wpAny_bind (wpAny_mono (turn n s hI) (fun r s₁ h₁ => ?_) fun _ _ h' => h')))
  cases r with
  | none => exact wpAny_pure h₁
  | some v =>
    refine wpAny_bind (wpAny_mono h₁ (fun _ s₁' h₁' => ?_) fun _ _ h' => h')
    refine wpAny_bind (wpAny_mono h₁' (fun _ s₂ h₂ => wpAny_bind (wpAny_mono h₂ (fun ok s₃ h₃ => ?_) fun _ _ h' => h')) fun _ _ h' => h')
    cases ok with
    | false => exact wpAny_pure ⟨rfl, h₃⟩
    | true =>
      exact wpAny_bind (wpAny_bind (wpAny_mono h₃ (fun x s₄ h₄ => wpAny_bind (wpAny_mono h₄ (fun _ s₅ h₅ => wpAny_pure (wpAny_pure ⟨rfl, h₅⟩)) fun _ _ h' => h')) fun _ _ h' => h'))
section
variable {X : Cx}
theorem comp_block {pins : List (Addr × Obj)} {σ : St} {H2 : Hp} {s2 : Shared} {it : Addr} {fp : List Addr} {tn : Nat → Heap → Prop} {J : It} {tg iter elt : Expr} {ifs : List Expr} {scope : Scope} {cl : List (Str × Addr)} {pos : Pos} {x : Str} {fs : List Str} {ix : List Nat} {g : TG} {tt : TT} {te : TE}
    {Qf : Addr → Hp → Prop} {E : Value → Shared → Prop} {RR : Value → Addr → Result → Shared → Prop}
    (I2 : Inv X pins σ H2 s2) (T : Turn X.prog X.w X.K tg J fp it tn) (st2 : tn 0 s2.heap) (f2 : ∀ b ∈ fp, FpOk X pins H2 b) (hc : X.calm = true) (S : CompSc scope X.env x fs)
    (c1 : ∀ n c, cl.lookup n = some c → X.env.cells.lookup n = some c) (c2 : ∀ n, (n, NameKind.free) ∈ scope.names → ∃ c, cl.lookup n = some c) (hix : ix.map (X.N[·]?) = fs.map some)
    (hg : ∀ C s₀ H₀ xe, PG (cxComp X scope cl C (x :: fs) s₀ H₀ fp xe) tg g) (hf : ∀ C s₀ H₀ xe, PF (cxComp X scope cl C (x :: fs) s₀ H₀ fp xe) ifs tt) (he : ∀ C s₀ H₀ xe, PE (cxComp X scope cl C (x :: fs) s₀ H₀ fp xe) elt te)
    (h : ∀ D, H2 D = none → Comp g tt te .mk J (none :: ix.map fun i => (σ[i]?).join) D (Qf D) H2)
    (fin : ∀ D C H' s', Inv X pins σ H' s' → Qf D H' → (∃ m, s'.heap.Ns C m) → FpOk X pins H' C → RR (.ref D) C (.ok .next) s') :
    wpAny (model X.prog X.w) X.A (newList []) (fun acc s₃ => wpAny (model X.prog X.w) X.A (newFunctionEnv scope X.env.globals cl [] X.env.qual none .none (some X.env)) (fun cenv s₄ =>
      codeAny (model X.prog X.w) X.A (.compStart (.ListComp elt [⟨tg, iter, ifs, 0⟩] scope pos) 0 (.ref it) acc { cenv with scope := relabel scope X.env }) (RR acc cenv.locals) s₄) E s₃) E s2 := by
  have hD : H2 s2.heap.objs.size = none := I2.hok.fresh (Nat.le_refl _)
  obtain ⟨W, ⟨m0, w0⟩, turn⟩ := h _ hD
  refine wpAny_newObj_type (wpAny_newFunctionEnv S.nocell (by intro y hy; simp at hy) (fun h₁ hns₁ hsb₁ => ?_) S.kind)
  have I3 : Inv X pins σ (upd H2 s2.heap.objs.size (.lst [])) { s2 with heap := s2.heap.push { cls := .type "list", dict := none, data := .seq ([] : List Value).toArray } } :=
    I2.laid (t' := s2.toks) (fun b u e => Heap.get?_push_of_some _ e) (Nat.le_refl _) ⟨by decide, [], 0, .nil, Heap.get?_push_size _ rfl⟩
  obtain ⟨e3, he3⟩ : ∃ s3 : Shared, s3 = { s2 with heap := s2.heap.push { cls := .type "list", dict := none, data := .seq ([] : List Value).toArray } } := ⟨_, rfl⟩
  rw [← he3] at I3
  have hh3 : s2.heap.push { cls := .type "list", dict := none, data := .seq ([] : List Value).toArray } = e3.heap := by rw [he3]
  have sz3 : e3.heap.objs.size = s2.heap.objs.size + 1 := by rw [← hh3, Heap.size_push]
  dsimp only at hns₁ hsb₁ ⊢
  rw [hh3] at hns₁ hsb₁ ⊢
  generalize hH3 : upd H2 s2.heap.objs.size (.lst []) = H3 at *
  have live : ∀ b ∈ fp, b < s2.heap.objs.size := fun b hb => let ⟨_, e, _⟩ := T.obj _ _ st2 b hb; Heap.lt_size e
  have f3 : ∀ b ∈ fp, FpOk X pins H3 b := fun b hb => by
    refine ⟨?_, (f2 b hb).2⟩
    rw [← hH3, upd_ne (Nat.ne_of_lt (live b hb))]
    exact (f2 b hb).1
  have C0 : FpOk X pins H3 e3.heap.objs.size := I3.fpOk (Nat.le_refl _) (I3.hok.fresh (Nat.le_refl _))
  have old3 : ∀ b o, e3.heap.get? b = some o → h₁.get? b = some o := fun b o e => hsb₁.extBut b o (Nat.ne_of_lt (Heap.lt_size e)) (Heap.get?_push_of_some _ e)
  have nofs : ∀ b ∈ fp, b ∉ frs X.stack := fun b hb z => (List.mem_cons.mp (I3.stkSub b z)).elim (f3 b hb).2.1 (f3 b hb).2.2.1
  have hst1 : tn 0 h₁ := T.keep _ _ _ st2 fun b _ o e => old3 b o (by rw [← hh3]; exact Heap.get?_push_of_some _ e)
  have e0 := I3.env0
  have ok : ∀ xe, (cxComp X scope cl e3.heap.objs.size (x :: fs) e3 H3 fp xe).Ok := fun xe => by
    refine ⟨I3.ok.mod, S.kind, I3.ok.glob, I3.ok.blt, Nat.le_refl _, fun y z c h1 h2 => I3.ok.inj y z c (c1 _ _ h1) (c1 _ _ h2), fun y hy => ?_, fun y c z => ?_, I3.ok.hd, I3.ok.frames, .inl rfl, fun b hb => ⟨?_, fun y c e => (f3 b hb).2.2.2.2.1 y c (c1 _ _ e)⟩, e0.bs, e0.bsz, fun b o e hb => ?_, nofs, e0.funs, e0.frf⟩
    · have q : scope.names.lookup y = some .free ∨ scope.names.lookup y = some .cell := by
        rcases hy with hy | hy
        · exact relabel_kind hy (.inl rfl)
        · exact relabel_kind hy (.inr rfl)
      rcases q with q | q
      · exact c2 y (PySem.mem_of_lookup q)
      · exact absurd rfl (S.nocell _ (PySem.mem_of_lookup q))
    · cases z
    · exact Nat.ne_of_lt (Nat.lt_of_lt_of_le (live b hb) (by rw [sz3]; exact Nat.le_succ _))
    · rcases (f3 b hb).2.2.2.1 with z | z
      · exact I3.ok.noex b o e z
      · exact absurd (Nat.lt_of_lt_of_le (Heap.lt_size e) (Nat.le_trans I3.ok.bsz z)) (Nat.lt_irrefl _)
  have cellUp : ∀ c v, e3.heap.IsCell c v → h₁.IsCell c v := fun c v ⟨o, ho, hd⟩ => ⟨o, old3 _ _ ho, hd⟩
  have J0 : ∀ xe, Inv (cxComp X scope cl e3.heap.objs.size (x :: fs) e3 H3 fp xe) [] (none :: ix.map fun i => (σ[i]?).join) H3 { e3 with heap := h₁, toks := e3.toks + ([] : List (Str × Value)).length } := fun xe => by
    have hk : ∀ b o, e3.heap.get? b = some o → h₁.get? b = some o := old3
    refine ⟨ok xe, rfl, I3.bare, Un.kept hk, ⟨_, hns₁, fun i y v h1 h2 h3 => ?_⟩, fun y c e => ?_, I3.hok.fresh (Nat.le_refl _), fun y c e => I3.freeC y c (c1 _ _ e), fun p hp => absurd (show p ∈ ([] : List (Addr × Obj)) from hp) (by simp), I3.hok.kept hk, ?_⟩
    · cases i with
      | zero => cases h2
      | succ i =>
        have h1 : fs[i]? = some y := h1
        have h2 : (ix.map fun i => (σ[i]?).join)[i]? = some (some v) := h2
        have hy := S.fs y (List.mem_of_getElem? h1)
        rw [List.getElem?_map] at h2
        cases ej : ix[i]? with
        | none => rw [ej] at h2; cases h2
        | some j =>
          rw [ej] at h2
          have h2 : (σ[j]?).join = some v := Option.some.inj h2
          have hσ : σ[j]? = some (some v) := by
            cases q : σ[j]? with
            | none => rw [q] at h2; cases h2
            | some o => rw [q] at h2; cases o with
              | none => cases h2
              | some o => cases h2; rfl
          have hN : X.N[j]? = some y := by
            have z := congrArg (·[i]?) hix
            simp only [List.getElem?_map, ej, h1, Option.map_some] at z
            exact Option.some.inj z
          have kf := S.fr _ (PySem.mem_of_lookup hy) rfl
          obtain ⟨m, hn, hl⟩ := I3.loc
          obtain ⟨u, r, l⟩ := hl j y v hN hσ (by rcases kf with k | k; exact .inr (.inl k); exact .inr (.inr k))
          refine ⟨u, r, .inr ⟨relabel_free hy, ?_⟩⟩
          rcases l with ⟨l, _⟩ | ⟨_, c, e, z⟩
          · rcases kf with k | k <;> (rw [l] at k; cases k)
          · obtain ⟨c', e'⟩ := c2 y (PySem.mem_of_lookup hy)
            have q := c1 _ _ e'
            rw [e] at q; cases q
            exact ⟨c, e', cellUp _ _ z⟩
    · obtain ⟨v, z⟩ := I3.cell y c (c1 _ _ e)
      exact ⟨v, cellUp _ _ z⟩
    · have z := congrArg List.length hix
      simp only [List.length_map] at z
      show (none :: _ : St).length = (x :: fs).length
      simp only [List.length_cons, List.length_map, z]
  have back : ∀ {xe σ' H' s'}, Inv (cxComp X scope cl e3.heap.objs.size (x :: fs) e3 H3 fp xe) [] σ' H' s' → Inv X pins σ H' s' := fun {xe σ' H' s'} J =>
    I3.call' (s' := s') (ch := fp) J.os J.base J.hok J.bare fun b hb => ⟨(f3 b hb).2.2.2.1, (f3 b hb).2.1, (f3 b hb).2.2.2.2.1, (f3 b hb).2.2.2.2.2⟩
  have stat : ∀ {xe} {H' : Hp}, (∀ b ∈ fp, H' b = none) → ∀ b ∈ fp, FpOk (cxComp X scope cl e3.heap.objs.size (x :: fs) e3 H3 fp xe) [] H' b := fun {xe H'} hn b hb =>
    ⟨hn b hb, Nat.ne_of_lt (Nat.lt_of_lt_of_le (live b hb) (by rw [sz3]; exact Nat.le_succ _)), nofs b hb, .inl hb, fun y c e => (f3 b hb).2.2.2.2.1 y c (c1 _ _ e), fun p hp => absurd (show p ∈ ([] : List (Addr × Obj)) from hp) (by simp)⟩
  have loop : ∀ s4 : Shared, s4 = { e3 with heap := h₁, toks := e3.toks + ([] : List (Str × Value)).length } →
      codeAny (model X.prog X.w) X.A (.compLoop (.ListComp elt [⟨tg, iter, ifs, 0⟩] scope pos) 0 (.ref it) (.ref s2.heap.objs.size) (compEnvC scope cl e3.heap.objs.size X.env)) (RR (.ref s2.heap.objs.size) e3.heap.objs.size) s4 := by
    rintro s4 rfl
    let xe := notedBy (model X.prog X.w) X.A (compEnvC scope cl e3.heap.objs.size X.env) fun e s' => RR (.ref s2.heap.objs.size) e3.heap.objs.size (.error e) s'
    refine compLoop_turn (fun n s' => ∃ i ys σ' H', Inv (cxComp X scope cl e3.heap.objs.size (x :: fs) e3 H3 fp xe) [] σ' H' s' ∧ tn i s'.heap ∧ (∀ b ∈ fp, H' b = none) ∧ W i n ys σ' H') ?_ m0 ⟨0, [], _, _, J0 xe, hst1, fun b hb => (f3 b hb).1, w0⟩
    rintro n s5 ⟨i, ys, σ5, H5, J5, st5, fr5, w5⟩
    rcases turn i n ys σ5 H5 w5 with ⟨stop, qn⟩ | ⟨go, N, hN, step⟩
    · refine thn (T.done (cxComp X scope cl e3.heap.objs.size (x :: fs) e3 H3 fp xe) rfl rfl rfl hc i [] s5 σ5 H5 xe J5 (stat fr5) st5 stop) fun r s6 ⟨hr, J6⟩ => ?_
      subst hr
      obtain ⟨m, hn, _⟩ := J6.loc
      exact fin _ _ H5 s6 (back J6) qn ⟨m, hn⟩ ⟨J6.free, C0.2⟩
    · refine thn (T.item (cxComp X scope cl e3.heap.objs.size (x :: fs) e3 H3 fp xe) rfl rfl rfl hc i [] s5 σ5 H5 xe J5 (stat fr5) st5 go) fun r s6 ⟨u, hr, h6⟩ => ?_
      subst hr
      refine thn h6 fun _ s7 ⟨y, H7, J7, r7, y7, st7, fr7⟩ => ?_
      have J7' := J7.pinned (stat fr7) (T.obj _ _ st7)
      refine thn (hg _ _ _ xe _ s7 σ5 H7 y u _ J7' r7 (step y H7 y7)) fun _ s8 ⟨σ8, H8, J8, q8⟩ => ?_
      refine thn (hf _ _ _ xe _ s8 σ8 H8 _ J8 q8) fun ok s8' ⟨H8', J8', q8'⟩ => ?_
      cases ok with
      | false =>
        obtain ⟨m', hm', w9⟩ := hN _ _ _ (by simpa using q8')
        refine ⟨m', hm', i + 1, ys, σ8, _, J8'.unpinned, T.keep _ _ _ st7 fun b hb o e => (J8'.pin (b, o) (List.mem_append_right _ (List.mem_append_right _ (mem_pinsAt hb e)))).1, fun b hb => ?_, w9⟩
        obtain ⟨o, e, d⟩ := T.obj _ _ st7 b hb
        exact (J8'.pin (b, o) (List.mem_append_right _ (List.mem_append_right _ (mem_pinsAt hb e)))).2.1
      | true =>
      rw [if_pos rfl] at q8' ⊢
      refine thn (he _ _ _ xe _ s8' σ8 H8' _ J8' q8') fun uv s9 ⟨v, H9, J9, r9, hD9, hl9, n9⟩ => ?_
      obtain ⟨m', hm', w9⟩ := hN _ _ _ n9
      refine thn (mt_append (X := cxComp X scope cl e3.heap.objs.size (x :: fs) e3 H3 fp xe) _ s9 σ8 H9 (.ref s2.heap.objs.size) [v] _ [uv] (fun _ H' => H' = upd H9 s2.heap.objs.size (.lst (ys ++ [v]))) J9 rfl (.cons r9 .nil) ⟨_, ys, v, rfl, rfl, hD9, hl9, rfl⟩) fun _ s10 ⟨_, H10, J10, _, eH⟩ => ?_
      subst eH
      refine ⟨m', hm', i + 1, ys ++ [v], σ8, _, J10.unpinned, T.keep _ _ _ st7 fun b hb o e => (J10.pin (b, o) (List.mem_append_right _ (List.mem_append_right _ (mem_pinsAt hb e)))).1, fun b hb => ?_, w9⟩
      obtain ⟨o, e, d⟩ := T.obj _ _ st7 b hb
      exact (J10.pin (b, o) (List.mem_append_right _ (List.mem_append_right _ (mem_pinsAt hb e)))).2.1
  subst he3
  exact codeAny_compStart_list (loop _ rfl) (T.self X.A 0 _ _ _ hst1 (loop _ rfl))
theorem CompSc.clos {pins : List (Addr × Obj)} {σ : St} {H : Hp} {s : Shared} {scope : Scope} {x : Str} {fs : List Str} (S : CompSc scope X.env x fs) (I : Inv X pins σ H s) :
    ∃ cl, closureFor scope X.env = pure cl ∧ (∀ n c, cl.lookup n = some c → X.env.cells.lookup n = some c) ∧ ∀ n, (n, NameKind.free) ∈ scope.names → ∃ c, cl.lookup n = some c :=
  closure_of fun n hn => I.ok.has n (S.fr _ hn rfl)
theorem pe_comp {tg iter elt : Expr} {ifs : List Expr} {scope : Scope} {pos : Pos} {x : Str} {fs : List Str} {ix : List Nat} {wi : TI} {g : TG} {tt : TT} {te : TE} (hc : X.calm = true) (hi : PI X tg iter wi) (hk : compChk scope X.env x fs = true) (hix : ix.map (X.N[·]?) = fs.map some)
    (hg : ∀ cl C s₀ H₀ fp xe, PG (cxComp X scope cl C (x :: fs) s₀ H₀ fp xe) tg g) (hf : ∀ cl C s₀ H₀ fp xe, PF (cxComp X scope cl C (x :: fs) s₀ H₀ fp xe) ifs tt) (he : ∀ cl C s₀ H₀ fp xe, PE (cxComp X scope cl C (x :: fs) s₀ H₀ fp xe) elt te) (hs : ∀ x, foldedSetIterable iter X.env x = pure x := by intro _; rfl) :
    PE X (.ListComp elt [⟨tg, iter, ifs, 0⟩] scope pos) (tComp wi ix g tt te .mk) := by
  intro pins s σ H Q I h
  have S := CompSc.of hk
  obtain ⟨cl, hcl, c1, c2⟩ := S.clos I
  rw [eval_ListComp]
  refine wpAny_comprehension_free (use := none) rfl hs hcl S.kind S.own (thn (hi pins s σ H _ I h) fun v s1 h1 => thn h1 fun itv s2 h2 => ?_)
  obtain ⟨it, fp, tn, J, H2, e, I2, T, st2, f2, q⟩ := h2
  subst e
  refine comp_block (RR := fun acc C => compPost (model X.prog X.w) X.A X.xe none (EP X pins σ Q) acc C) I2 T st2 f2 hc S c1 c2 hix (fun C s₀ H₀ xe => hg cl C s₀ H₀ fp xe) (fun C s₀ H₀ xe => hf cl C s₀ H₀ fp xe) (fun C s₀ H₀ xe => he cl C s₀ H₀ fp xe) q fun D C H' s' I' q' ⟨m, hn⟩ ⟨f0, f1, _, f3, f4, f5⟩ => ?_
  exact ⟨m, hn, fun h' hs' => ⟨.ref D, H', I'.turned (t' := s'.toks) (fun b o hb e => (hs'.2 b hb).trans e) f0 f1 f3 f4 f5, rfl, q'⟩⟩
theorem ps_setC {tg iter elt : Expr} {ifs : List Expr} {scope : Scope} {pos spos py : Pos} {x y : Str} {i : Nat} {fs : List Str} {ix : List Nat} {wi : TI} {g : TG} {tt : TT} {te : TE} (hN : X.N.Nodup) (hy : X.N[i]? = some y) (hl : X.env.kindOf y = some .local) (hc : X.calm = true) (hi : PI X tg iter wi)
    (hk : compChk scope X.env x fs = true) (hix : ix.map (X.N[·]?) = fs.map some)
    (hg : ∀ cl C s₀ H₀ fp xe, PG (cxComp X scope cl C (x :: fs) s₀ H₀ fp xe) tg g) (hf : ∀ cl C s₀ H₀ fp xe, PF (cxComp X scope cl C (x :: fs) s₀ H₀ fp xe) ifs tt) (he : ∀ cl C s₀ H₀ fp xe, PE (cxComp X scope cl C (x :: fs) s₀ H₀ fp xe) elt te)
    (hsw : swapsWith (.ListComp elt [⟨tg, iter, ifs, 0⟩] scope pos) (some (.Name y py)) spos.line X.env = pure true := by rfl) (hs : ∀ x, foldedSetIterable iter X.env x = pure x := by intro _; rfl) :
    PS X (.Assign [.Name y py] (.ListComp elt [⟨tg, iter, ifs, 0⟩] scope pos) spos) (tAsg (tComp wi ix g tt te .mk) (gName i)) := by
  intro pins s σ H D I h
  have S := CompSc.of hk
  obtain ⟨cl, hcl, c1, c2⟩ := S.clos I
  rw [exec_Assign_Name_used _ _ _ _ hsw]
  refine wpAny_bind (wpAny_standAt (wpAny_bind ?_))
  show wpAny _ X.A (do let _ ← comprehension (.ListComp elt [⟨tg, iter, ifs, 0⟩] scope pos) scope X.env _ (newList []) false (eval iter X.env) (some (assign (.Name y py) X.env))) _ _ s
  refine wpAny_bind (wpAny_mono (wpAny_comprehension_free (use := some (assign (.Name y py) X.env)) (Q := fun _ s' => SP X pins D .next s') rfl hs hcl S.kind S.own
    (thn (hi pins s σ H _ I h) fun v s1 h1 => thn h1 fun itv s2 h2 => ?_)) (fun _ s' hq => wpAny_pure (wpAny_pure hq)) fun _ _ e => e)
  obtain ⟨it, fp, tn, J, H2, e, I2, T, st2, f2, q⟩ := h2
  subst e
  refine comp_block (RR := fun acc C => compPost (model X.prog X.w) X.A X.xe (some (assign (.Name y py) X.env)) (fun _ s' => SP X pins D .next s') acc C) I2 T st2 f2 hc S c1 c2 hix (fun C s₀ H₀ xe => hg cl C s₀ H₀ fp xe) (fun C s₀ H₀ xe => hf cl C s₀ H₀ fp xe) (fun C s₀ H₀ xe => he cl C s₀ H₀ fp xe) q
    fun D' C H' s' I' q' ⟨m, hn⟩ ⟨f0, f1, _, f3, f4, f5⟩ => ?_
  show wpAny _ X.A (assign (.Name y py) X.env (.ref D')) _ _ _
  refine wpAny_assign_Name (store_ok2 (v := .ref D') I' hN hy (.inl hl) rfl (fun s'' I'' ⟨a, sb, ha⟩ => ?_) (.inr hl))
  have hne : C ≠ a := by
    rcases ha with ha | ha
    · rw [ha]; exact f1
    · exact fun z => f4 _ _ ha z.symm
  exact ⟨m, hn.sameBut sb hne, fun h' hs' => ⟨_, H', I''.turned (t' := s''.toks) (fun b o hb e => (hs'.2 b hb).trans e) f0 f1 f3 f4 f5, q'⟩⟩
end
end L2
namespace L2
open PySem PySem.Spec PyProof.Rows
section
variable {X : Cx} {pins : List (Addr × Obj)} {σ : List (Option V)} {H H' : Hp} {s : Shared} {h' : Heap}
end
section
variable {X : Cx}
end
end L2
namespace L2
open PySem PySem.Spec PyProof.Rows
section
variable {X : Cx} {pins : List (Addr × Obj)} {σ : St} {H : Hp} {s : Shared} {a : Addr} {kvs : List (Key × V)} {k : Key} {u r : Value} {z : V} {A : Around} {E : Value → Shared → Prop}
end
section
variable {X : Cx} {o e f : Expr} {apos cpos : Pos} {td ty tx : TE}
end
inductive HidW (c : TT) (tb : TS) : Type where
  | mk : HidW c tb
inductive HidB (tb : TS) : Type where
  | mk : HidB tb
def LoopW (c : TT) (tb : TS) (_ : HidW c tb) : TS := tWhile c tb
def TurnW (tb : TS) (_ : HidB tb) (Pv : Nat → St → Hp → Prop) (m : Nat) (D : Ends) (σ : St) (H : Hp) : Prop :=
  ∃ N : St → Hp → Prop, (∀ σ' H', N σ' H' → ∃ m', m' < m ∧ Pv m' σ' H') ∧ tb { D with nx := N, ct := N, bk := D.nx } σ H
theorem ps_whileE {X : Cx} {c : Expr} {body : List Stmt} {tc : TT} {tb : TS} {pos : Pos} (hp : PassesOwn (model X.prog X.w) X.A X.env X.xe) (hc : PT X c tc) (hb : PSs X body tb) : PS X (.While c body [] pos) (LoopW tc tb .mk) := ps_while hp hc hb
theorem loop_while {c : TT} {tb : TS} {h : HidW c tb} {D : Ends} {σ : St} {H : Hp} (Pv : Nat → St → Hp → Prop) (m0 : Nat) (h0 : Pv m0 σ H)
    (hs : ∀ m σ H, Pv m σ H → c σ H fun b H1 => if b = true then TurnW tb .mk Pv m D σ H1 else D.nx σ H1) : LoopW c tb h D σ H := ⟨Pv, ⟨m0, h0⟩, hs⟩
theorem turnW {tb : TS} {h : HidB tb} {Pv : Nat → St → Hp → Prop} {m : Nat} {D : Ends} {σ : St} {H : Hp}
    (q : tb { D with nx := fun σ' H' => ∃ m', m' < m ∧ Pv m' σ' H', ct := fun σ' H' => ∃ m', m' < m ∧ Pv m' σ' H', bk := D.nx } σ H) : TurnW tb h Pv m D σ H := ⟨_, fun _ _ h => h, q⟩
end L2
namespace L2
open PySem PySem.Spec PyProof.Rows
section
variable {X : Cx} {pins : List (Addr × Obj)} {σ : List (Option V)} {H : Hp} {s : Shared} {a : Addr}
end
end L2
namespace L2
open PySem PySem.Spec PyProof.Rows
end L2
namespace L2
open PySem PySem.Spec PyProof.Rows
end L2
namespace L2
open PySem PySem.Spec PyProof.Rows
end L2
namespace L2
open PySem PySem.Spec PyProof.Rows
theorem ix_tupC {X : Cx} {K : PySem.W.Frag} (h : X.K = K) : IxR X (rIxT K) := h ▸ ix_tup
end L2
namespace L2
open PySem PySem.Spec PyProof.Rows
structure FunD (K : PySem.W.Frag) (x qual : Str) (st : Stmt) (f : Addr) (fd : FuncData) : Prop where
  ex : ∃ (oc : Value) (od : Option Addr) (dV kV doc pm : Value) (an : Option Addr) (cdv ct : Value) (osl : Array (Option Value)),
    fd = PySem.W.fnOf x qual (defArgs st) (defBody st) (defScope st) dV kV doc pm an cdv ct ∧ K.lookup f = some ⟨oc, od, .func fd, osl⟩ ∧ PySem.W.codeIn K cdv qual = true
  kp : PySem.W.keepIn K (.ref f) = true
section
variable {P : Program} {w : World} {K : PySem.W.Frag} {mg : Str → Option Value} {base : Heap}
theorem fund_mk {x qual : Str} {st : Stmt} {f : Addr} {oc : Value} {od an : Option Addr} {osl : Array (Option Value)} {dV kV doc pm cdv ct : Value} (l : K.lookup f = some ⟨oc, od, .func (PySem.W.fnOf x qual (defArgs st) (defBody st) (defScope st) dV kV doc pm an cdv ct), osl⟩)
    (c : PySem.W.codeIn K cdv qual = true) (k : PySem.W.keepIn K (.ref f) = true) : FunD K x qual st f (PySem.W.fnOf x qual (defArgs st) (defBody st) (defScope st) dV kV doc pm an cdv ct) := ⟨⟨oc, od, dV, kV, doc, pm, an, cdv, ct, osl, rfl, l, c⟩, k⟩
theorem FunD.okE {x qual : Str} {st : Stmt} {f : Addr} {fd : FuncData} {N ps : List Str} {k : Nat} {sp : Sp} (F : FunD K x qual st f fd) (S : FnScope N ps (defScope st)) (len : ∀ vs H Q E, sp vs H Q E → vs.length = ps.length)
    (hbody : Body P w K mg base qual st N k sp) : FnOk P w K mg base (CXe P w) (k + 1) f fd ps sp := by
  obtain ⟨oc, od, dV, kV, doc, pm, an, cdv, ct, osl, rfl, lk, hcd⟩ := F.ex
  exact fn_of lk hcd S len fun A outer s H vs Q E hr hsp => hbody f cdv A outer s H vs Q E hr hsp
def RawMD (K : PySem.W.Frag) (C : Addr) (m qual : Str) (st : Stmt) (ps : List Str) (dvs : List V) : Prop := ∃ f fd ds, Meth K C m f ∧ FunD K m qual st f fd ∧ Binds K fd ps ds ∧ Vals dvs ds
def RawID (K : PySem.W.Frag) (mg : Str → Option Value) (x : Str) (C : Addr) (qual : Str) (st : Stmt) (ps : List Str) (dvs : List V) : Prop := ∃ f fd ds, mg x = some (.ref C) ∧ Mk K C f ∧ FunD K "__init__" qual st f fd ∧ Binds K fd ps ds ∧ Vals dvs ds
theorem RawMD.have {C : Addr} {m qual : Str} {st : Stmt} {N ps : List Str} {dvs : List V} {k : Nat} {sp : Sp} (R : RawMD K C m qual st ps dvs) (S : FnScope N ps (defScope st)) (len : ∀ vs H Q E, sp vs H Q E → vs.length = ps.length)
    (hbody : Body P w K mg base qual st N k sp) : HaveM P w K mg base C m (k + 1) ps dvs sp :=
  let ⟨f, fd, ds, hm, F, hb, hd⟩ := R
  ⟨f, fd, ds, hm, hb, hd, F.okE S len hbody⟩
theorem RawID.have {C : Addr} {x qual : Str} {st : Stmt} {N ps : List Str} {dvs : List V} {k : Nat} {sp : Sp} (R : RawID K mg x C qual st ps dvs) (S : FnScope N ps (defScope st)) (len : ∀ vs H Q E, sp vs H Q E → vs.length = ps.length)
    (hbody : Body P w K mg base qual st N k sp) : HaveI P w K mg base x C (k + 1) ps dvs sp :=
  let ⟨f, fd, ds, hm, M, F, hb, hd⟩ := R
  ⟨f, fd, ds, hm, M, hb, hd, F.okE S len hbody⟩
end
end L2
namespace L2
open PySem PySem.Spec PyProof.Rows
theorem binds_d {K : PySem.W.Frag} {fd : FuncData} {ps : List Str} {ds : List Value} (n : Nat) (hn : ps.length = n + ds.length) (h : ∀ (s : Shared) (us : List Value), K.In s.heap → us.length = n → BindsTo s fd ⟨us, []⟩ (ps.zip (us ++ ds))) : Binds K fd ps ds :=
  fun s us X hl => h s us X (by rw [List.length_append, hn] at hl; omega)
end L2
namespace L2
open PySem PySem.Spec PyProof.Rows
end L2
namespace L2
open PySem PySem.Spec PyProof.Rows
section
variable {X : Cx}
end
theorem Vals.at {xs : List V} {us : List Value} (r : Vals xs us) (m : Nat) (h1 : m < xs.length) (h2 : m < us.length) : RelV xs[m] us[m] := by
  obtain ⟨u, hu, ru⟩ := r.get (List.getElem?_eq_getElem h1)
  rw [List.getElem?_eq_getElem h2] at hu
  cases hu
  exact ru
end L2
namespace L2
open PySem PySem.Spec PyProof.Rows
end L2
namespace L2
open PySem PySem.Spec PyProof.Rows
section
variable {prog : Program} {w : World} {K : Type} [DecidableEq K] {knd : HeapKind prog w K} {A : Around} {E : Value → Shared → Prop} {s : Shared}
end
end L2
namespace L2
open PySem PySem.Spec PyProof.Rows
def RawD (h : Heap) (d : Addr) (es : Array DictEntry) (ep : Nat) : Prop := ∃ o, h.get? d = some o ∧ o.ExactDict ∧ o.data = .dict es ep
theorem RawD.ty {s : Shared} {d : Addr} {es : Array DictEntry} {ep : Nat} (r : RawD s.heap d es ep) : s.TypeIs (.ref d) "dict" := let ⟨o, ho, hc, _⟩ := r; ⟨o, ho, hc.1⟩
section
variable {prog : Program} {w : World} {A : Around} {E : Value → Shared → Prop} {s : Shared} {d it : Addr} {es : Array DictEntry} {ep i : Nat}
end
end L2
namespace L2
open PySem PySem.Spec PyProof.Rows
def tCompM (wi : TI) (k : Nat) (ix : List Nat) (g : TG) (tt : TT) (te : TE) (h : HidC g tt te) : TE := fun σ H Q => wi σ H fun J H1 => ∀ D, H1 D = none → Comp g tt te h J (List.replicate k none ++ ix.map fun i => (σ[i]?).join) D (fun H' => Q (.ref D) H') H1
section
variable {X : Cx}
theorem comp_blockM {pins : List (Addr × Obj)} {σ : St} {H2 : Hp} {s2 : Shared} {it : Addr} {fp : List Addr} {tn : Nat → Heap → Prop} {J : It} {tg iter elt : Expr} {ifs : List Expr} {scope : Scope} {cl : List (Str × Addr)} {pos : Pos} {x : Str} {xs fs : List Str} {ix : List Nat} {g : TG} {tt : TT} {te : TE}
    {Qf : Addr → Hp → Prop} {E : Value → Shared → Prop} {RR : Value → Addr → Result → Shared → Prop}
    (I2 : Inv X pins σ H2 s2) (T : Turn X.prog X.w X.K tg J fp it tn) (st2 : tn 0 s2.heap) (f2 : ∀ b ∈ fp, FpOk X pins H2 b) (hc : X.calm = true) (S : CompSc scope X.env x fs)
    (c1 : ∀ n c, cl.lookup n = some c → X.env.cells.lookup n = some c) (c2 : ∀ n, (n, NameKind.free) ∈ scope.names → ∃ c, cl.lookup n = some c) (hix : ix.map (X.N[·]?) = fs.map some)
    (hg : ∀ C s₀ H₀ xe, PG (cxComp X scope cl C (xs ++ fs) s₀ H₀ fp xe) tg g) (hf : ∀ C s₀ H₀ xe, PF (cxComp X scope cl C (xs ++ fs) s₀ H₀ fp xe) ifs tt) (he : ∀ C s₀ H₀ xe, PE (cxComp X scope cl C (xs ++ fs) s₀ H₀ fp xe) elt te)
    (h : ∀ D, H2 D = none → Comp g tt te .mk J (List.replicate xs.length none ++ ix.map fun i => (σ[i]?).join) D (Qf D) H2)
    (fin : ∀ D C H' s', Inv X pins σ H' s' → Qf D H' → (∃ m, s'.heap.Ns C m) → FpOk X pins H' C → RR (.ref D) C (.ok .next) s') :
    wpAny (model X.prog X.w) X.A (newList []) (fun acc s₃ => wpAny (model X.prog X.w) X.A (newFunctionEnv scope X.env.globals cl [] X.env.qual none .none (some X.env)) (fun cenv s₄ =>
      codeAny (model X.prog X.w) X.A (.compStart (.ListComp elt [⟨tg, iter, ifs, 0⟩] scope pos) 0 (.ref it) acc { cenv with scope := relabel scope X.env }) (RR acc cenv.locals) s₄) E s₃) E s2 := by
  have hD : H2 s2.heap.objs.size = none := I2.hok.fresh (Nat.le_refl _)
  obtain ⟨W, ⟨m0, w0⟩, turn⟩ := h _ hD
  refine wpAny_newObj_type (wpAny_newFunctionEnv S.nocell (by intro y hy; simp at hy) (fun h₁ hns₁ hsb₁ => ?_) S.kind)
  have I3 : Inv X pins σ (upd H2 s2.heap.objs.size (.lst [])) { s2 with heap := s2.heap.push { cls := .type "list", dict := none, data := .seq ([] : List Value).toArray } } :=
    I2.laid (t' := s2.toks) (fun b u e => Heap.get?_push_of_some _ e) (Nat.le_refl _) ⟨by decide, [], 0, .nil, Heap.get?_push_size _ rfl⟩
  obtain ⟨e3, he3⟩ : ∃ s3 : Shared, s3 = { s2 with heap := s2.heap.push { cls := .type "list", dict := none, data := .seq ([] : List Value).toArray } } := ⟨_, rfl⟩
  rw [← he3] at I3
  have hh3 : s2.heap.push { cls := .type "list", dict := none, data := .seq ([] : List Value).toArray } = e3.heap := by rw [he3]
  have sz3 : e3.heap.objs.size = s2.heap.objs.size + 1 := by rw [← hh3, Heap.size_push]
  dsimp only at hns₁ hsb₁ ⊢
  rw [hh3] at hns₁ hsb₁ ⊢
  generalize hH3 : upd H2 s2.heap.objs.size (.lst []) = H3 at *
  have live : ∀ b ∈ fp, b < s2.heap.objs.size := fun b hb => let ⟨_, e, _⟩ := T.obj _ _ st2 b hb; Heap.lt_size e
  have f3 : ∀ b ∈ fp, FpOk X pins H3 b := fun b hb => by
    refine ⟨?_, (f2 b hb).2⟩
    rw [← hH3, upd_ne (Nat.ne_of_lt (live b hb))]
    exact (f2 b hb).1
  have C0 : FpOk X pins H3 e3.heap.objs.size := I3.fpOk (Nat.le_refl _) (I3.hok.fresh (Nat.le_refl _))
  have old3 : ∀ b o, e3.heap.get? b = some o → h₁.get? b = some o := fun b o e => hsb₁.extBut b o (Nat.ne_of_lt (Heap.lt_size e)) (Heap.get?_push_of_some _ e)
  have nofs : ∀ b ∈ fp, b ∉ frs X.stack := fun b hb z => (List.mem_cons.mp (I3.stkSub b z)).elim (f3 b hb).2.1 (f3 b hb).2.2.1
  have hst1 : tn 0 h₁ := T.keep _ _ _ st2 fun b _ o e => old3 b o (by rw [← hh3]; exact Heap.get?_push_of_some _ e)
  have e0 := I3.env0
  have ok : ∀ xe, (cxComp X scope cl e3.heap.objs.size (xs ++ fs) e3 H3 fp xe).Ok := fun xe => by
    refine ⟨I3.ok.mod, S.kind, I3.ok.glob, I3.ok.blt, Nat.le_refl _, fun y z c h1 h2 => I3.ok.inj y z c (c1 _ _ h1) (c1 _ _ h2), fun y hy => ?_, fun y c z => ?_, I3.ok.hd, I3.ok.frames, .inl rfl, fun b hb => ⟨?_, fun y c e => (f3 b hb).2.2.2.2.1 y c (c1 _ _ e)⟩, e0.bs, e0.bsz, fun b o e hb => ?_, nofs, e0.funs, e0.frf⟩
    · have q : scope.names.lookup y = some .free ∨ scope.names.lookup y = some .cell := by
        rcases hy with hy | hy
        · exact relabel_kind hy (.inl rfl)
        · exact relabel_kind hy (.inr rfl)
      rcases q with q | q
      · exact c2 y (PySem.mem_of_lookup q)
      · exact absurd rfl (S.nocell _ (PySem.mem_of_lookup q))
    · cases z
    · exact Nat.ne_of_lt (Nat.lt_of_lt_of_le (live b hb) (by rw [sz3]; exact Nat.le_succ _))
    · rcases (f3 b hb).2.2.2.1 with z | z
      · exact I3.ok.noex b o e z
      · exact absurd (Nat.lt_of_lt_of_le (Heap.lt_size e) (Nat.le_trans I3.ok.bsz z)) (Nat.lt_irrefl _)
  have cellUp : ∀ c v, e3.heap.IsCell c v → h₁.IsCell c v := fun c v ⟨o, ho, hd⟩ => ⟨o, old3 _ _ ho, hd⟩
  have J0 : ∀ xe, Inv (cxComp X scope cl e3.heap.objs.size (xs ++ fs) e3 H3 fp xe) [] (List.replicate xs.length none ++ ix.map fun i => (σ[i]?).join) H3 { e3 with heap := h₁, toks := e3.toks + ([] : List (Str × Value)).length } := fun xe => by
    have hk : ∀ b o, e3.heap.get? b = some o → h₁.get? b = some o := old3
    refine ⟨ok xe, rfl, I3.bare, Un.kept hk, ⟨_, hns₁, fun i y v h1 h2 h3 => ?_⟩, fun y c e => ?_, I3.hok.fresh (Nat.le_refl _), fun y c e => I3.freeC y c (c1 _ _ e), fun p hp => absurd (show p ∈ ([] : List (Addr × Obj)) from hp) (by simp), I3.hok.kept hk, ?_⟩
    · by_cases hlt : i < xs.length
      · have h2 : (List.replicate xs.length (none : Option V) ++ ix.map fun i => (σ[i]?).join)[i]? = some (some v) := h2
        rw [List.getElem?_append_left (by rw [List.length_replicate]; exact hlt)] at h2
        have z := List.eq_of_mem_replicate (List.mem_of_getElem? h2)
        cases z
      · have h1 : (xs ++ fs)[i]? = some y := h1
        have h2 : (List.replicate xs.length (none : Option V) ++ ix.map fun i => (σ[i]?).join)[i]? = some (some v) := h2
        rw [List.getElem?_append_right (by omega)] at h1
        rw [List.getElem?_append_right (by rw [List.length_replicate]; omega), List.length_replicate] at h2
        generalize i - xs.length = i at h1 h2
        have hy := S.fs y (List.mem_of_getElem? h1)
        rw [List.getElem?_map] at h2
        cases ej : ix[i]? with
        | none => rw [ej] at h2; cases h2
        | some j =>
          rw [ej] at h2
          have h2 : (σ[j]?).join = some v := Option.some.inj h2
          have hσ : σ[j]? = some (some v) := by
            cases q : σ[j]? with
            | none => rw [q] at h2; cases h2
            | some o => rw [q] at h2; cases o with
              | none => cases h2
              | some o => cases h2; rfl
          have hN : X.N[j]? = some y := by
            have z := congrArg (·[i]?) hix
            simp only [List.getElem?_map, ej, h1, Option.map_some] at z
            exact Option.some.inj z
          have kf := S.fr _ (PySem.mem_of_lookup hy) rfl
          obtain ⟨m, hn, hl⟩ := I3.loc
          obtain ⟨u, r, l⟩ := hl j y v hN hσ (by rcases kf with k | k; exact .inr (.inl k); exact .inr (.inr k))
          refine ⟨u, r, .inr ⟨relabel_free hy, ?_⟩⟩
          rcases l with ⟨l, _⟩ | ⟨_, c, e, z⟩
          · rcases kf with k | k <;> (rw [l] at k; cases k)
          · obtain ⟨c', e'⟩ := c2 y (PySem.mem_of_lookup hy)
            have q := c1 _ _ e'
            rw [e] at q; cases q
            exact ⟨c, e', cellUp _ _ z⟩
    · obtain ⟨v, z⟩ := I3.cell y c (c1 _ _ e)
      exact ⟨v, cellUp _ _ z⟩
    · have z := congrArg List.length hix
      simp only [List.length_map] at z
      show (List.replicate xs.length none ++ _ : St).length = (xs ++ fs).length
      rw [List.length_append, List.length_append, List.length_replicate, List.length_map, z]
  have back : ∀ {xe σ' H' s'}, Inv (cxComp X scope cl e3.heap.objs.size (xs ++ fs) e3 H3 fp xe) [] σ' H' s' → Inv X pins σ H' s' := fun {xe σ' H' s'} J =>
    I3.call' (s' := s') (ch := fp) J.os J.base J.hok J.bare fun b hb => ⟨(f3 b hb).2.2.2.1, (f3 b hb).2.1, (f3 b hb).2.2.2.2.1, (f3 b hb).2.2.2.2.2⟩
  have stat : ∀ {xe} {H' : Hp}, (∀ b ∈ fp, H' b = none) → ∀ b ∈ fp, FpOk (cxComp X scope cl e3.heap.objs.size (xs ++ fs) e3 H3 fp xe) [] H' b := fun {xe H'} hn b hb =>
    ⟨hn b hb, Nat.ne_of_lt (Nat.lt_of_lt_of_le (live b hb) (by rw [sz3]; exact Nat.le_succ _)), nofs b hb, .inl hb, fun y c e => (f3 b hb).2.2.2.2.1 y c (c1 _ _ e), fun p hp => absurd (show p ∈ ([] : List (Addr × Obj)) from hp) (by simp)⟩
  have loop : ∀ s4 : Shared, s4 = { e3 with heap := h₁, toks := e3.toks + ([] : List (Str × Value)).length } →
      codeAny (model X.prog X.w) X.A (.compLoop (.ListComp elt [⟨tg, iter, ifs, 0⟩] scope pos) 0 (.ref it) (.ref s2.heap.objs.size) (compEnvC scope cl e3.heap.objs.size X.env)) (RR (.ref s2.heap.objs.size) e3.heap.objs.size) s4 := by
    rintro s4 rfl
    let xe := notedBy (model X.prog X.w) X.A (compEnvC scope cl e3.heap.objs.size X.env) fun e s' => RR (.ref s2.heap.objs.size) e3.heap.objs.size (.error e) s'
    refine compLoop_turn (fun n s' => ∃ i ys σ' H', Inv (cxComp X scope cl e3.heap.objs.size (xs ++ fs) e3 H3 fp xe) [] σ' H' s' ∧ tn i s'.heap ∧ (∀ b ∈ fp, H' b = none) ∧ W i n ys σ' H') ?_ m0 ⟨0, [], _, _, J0 xe, hst1, fun b hb => (f3 b hb).1, w0⟩
    rintro n s5 ⟨i, ys, σ5, H5, J5, st5, fr5, w5⟩
    rcases turn i n ys σ5 H5 w5 with ⟨stop, qn⟩ | ⟨go, N, hN, step⟩
    · refine thn (T.done (cxComp X scope cl e3.heap.objs.size (xs ++ fs) e3 H3 fp xe) rfl rfl rfl hc i [] s5 σ5 H5 xe J5 (stat fr5) st5 stop) fun r s6 ⟨hr, J6⟩ => ?_
      subst hr
      obtain ⟨m, hn, _⟩ := J6.loc
      exact fin _ _ H5 s6 (back J6) qn ⟨m, hn⟩ ⟨J6.free, C0.2⟩
    · refine thn (T.item (cxComp X scope cl e3.heap.objs.size (xs ++ fs) e3 H3 fp xe) rfl rfl rfl hc i [] s5 σ5 H5 xe J5 (stat fr5) st5 go) fun r s6 ⟨u, hr, h6⟩ => ?_
      subst hr
      refine thn h6 fun _ s7 ⟨y, H7, J7, r7, y7, st7, fr7⟩ => ?_
      have J7' := J7.pinned (stat fr7) (T.obj _ _ st7)
      refine thn (hg _ _ _ xe _ s7 σ5 H7 y u _ J7' r7 (step y H7 y7)) fun _ s8 ⟨σ8, H8, J8, q8⟩ => ?_
      refine thn (hf _ _ _ xe _ s8 σ8 H8 _ J8 q8) fun ok s8' ⟨H8', J8', q8'⟩ => ?_
      cases ok with
      | false =>
        obtain ⟨m', hm', w9⟩ := hN _ _ _ (by simpa using q8')
        refine ⟨m', hm', i + 1, ys, σ8, _, J8'.unpinned, T.keep _ _ _ st7 fun b hb o e => (J8'.pin (b, o) (List.mem_append_right _ (List.mem_append_right _ (mem_pinsAt hb e)))).1, fun b hb => ?_, w9⟩
        obtain ⟨o, e, d⟩ := T.obj _ _ st7 b hb
        exact (J8'.pin (b, o) (List.mem_append_right _ (List.mem_append_right _ (mem_pinsAt hb e)))).2.1
      | true =>
      rw [if_pos rfl] at q8' ⊢
      refine thn (he _ _ _ xe _ s8' σ8 H8' _ J8' q8') fun uv s9 ⟨v, H9, J9, r9, hD9, hl9, n9⟩ => ?_
      obtain ⟨m', hm', w9⟩ := hN _ _ _ n9
      refine thn (mt_append (X := cxComp X scope cl e3.heap.objs.size (xs ++ fs) e3 H3 fp xe) _ s9 σ8 H9 (.ref s2.heap.objs.size) [v] _ [uv] (fun _ H' => H' = upd H9 s2.heap.objs.size (.lst (ys ++ [v]))) J9 rfl (.cons r9 .nil) ⟨_, ys, v, rfl, rfl, hD9, hl9, rfl⟩) fun _ s10 ⟨_, H10, J10, _, eH⟩ => ?_
      subst eH
      refine ⟨m', hm', i + 1, ys ++ [v], σ8, _, J10.unpinned, T.keep _ _ _ st7 fun b hb o e => (J10.pin (b, o) (List.mem_append_right _ (List.mem_append_right _ (mem_pinsAt hb e)))).1, fun b hb => ?_, w9⟩
      obtain ⟨o, e, d⟩ := T.obj _ _ st7 b hb
      exact (J10.pin (b, o) (List.mem_append_right _ (List.mem_append_right _ (mem_pinsAt hb e)))).2.1
  subst he3
  exact codeAny_compStart_list (loop _ rfl) (T.self X.A 0 _ _ _ hst1 (loop _ rfl))
theorem pe_compM {tg iter elt : Expr} {ifs : List Expr} {scope : Scope} {pos : Pos} {x : Str} {xs fs : List Str} {ix : List Nat} {wi : TI} {g : TG} {tt : TT} {te : TE} (hc : X.calm = true) (hi : PI X tg iter wi) (hk : compChk scope X.env x fs = true) (hix : ix.map (X.N[·]?) = fs.map some)
    (hg : ∀ cl C s₀ H₀ fp xe, PG (cxComp X scope cl C (xs ++ fs) s₀ H₀ fp xe) tg g) (hf : ∀ cl C s₀ H₀ fp xe, PF (cxComp X scope cl C (xs ++ fs) s₀ H₀ fp xe) ifs tt) (he : ∀ cl C s₀ H₀ fp xe, PE (cxComp X scope cl C (xs ++ fs) s₀ H₀ fp xe) elt te) (hs : ∀ x, foldedSetIterable iter X.env x = pure x := by intro _; rfl) :
    PE X (.ListComp elt [⟨tg, iter, ifs, 0⟩] scope pos) (tCompM wi xs.length ix g tt te .mk) := by
  intro pins s σ H Q I h
  have S := CompSc.of hk
  obtain ⟨cl, hcl, c1, c2⟩ := S.clos I
  rw [eval_ListComp]
  refine wpAny_comprehension_free (use := none) rfl hs hcl S.kind S.own (thn (hi pins s σ H _ I h) fun v s1 h1 => thn h1 fun itv s2 h2 => ?_)
  obtain ⟨it, fp, tn, J, H2, e, I2, T, st2, f2, q⟩ := h2
  subst e
  refine comp_blockM (xs := xs) (RR := fun acc C => compPost (model X.prog X.w) X.A X.xe none (EP X pins σ Q) acc C) I2 T st2 f2 hc S c1 c2 hix (fun C s₀ H₀ xe => hg cl C s₀ H₀ fp xe) (fun C s₀ H₀ xe => hf cl C s₀ H₀ fp xe) (fun C s₀ H₀ xe => he cl C s₀ H₀ fp xe) q fun D C H' s' I' q' ⟨m, hn⟩ ⟨f0, f1, _, f3, f4, f5⟩ => ?_
  exact ⟨m, hn, fun h' hs' => ⟨.ref D, H', I'.turned (t' := s'.toks) (fun b o hb e => (hs'.2 b hb).trans e) f0 f1 f3 f4 f5, rfl, q'⟩⟩
end
theorem pg_tupC {X : Cx} {K : PySem.W.Frag} {es : List Expr} {k : Nat} {pos : Pos} {t : TGs} {n : Nat} (h : X.K = K) (hc : X.calm = true) (hs : PGs X es t) (hn : (assignEach es X.env).length = n := by rfl) (hst : (assignEach es X.env).findIdx? (·.1) = none := by rfl) : PG X (.Tuple es k pos) (gTup K n t) := h ▸ pg_tup hc hs hn hst
end L2
namespace L2
open PySem PySem.Spec PyProof.Rows
end L2
namespace L2
open PySem PySem.Spec PyProof.Rows
end L2
namespace L2
open PySem PySem.Spec PyProof.Rows
section
variable {prog : Program} {w : World} {A : Around} {E : Value → Shared → Prop} {s : Shared}
end
end L2
namespace L2
open PySem PySem.Spec PyProof.Rows
def tVarM (i : Nat) : TE := fun σ H Q => match σ[i]? with
  | some (some v) => Q v H
  | _ => False
theorem tVarM_le {i : Nat} {σ : St} {H : Hp} {Q : VK} (h : tVarM i σ H Q) : tVar i σ H Q := by
  unfold tVarM at h
  split at h
  · rename_i v e; exact ⟨v, e, h⟩
  · exact h.elim
theorem pvM {X : Cx} (i : Nat) {x : Str} {pos : Pos} (hN : X.N[i]? = some x := by rfl) (hv : Vis X.env.scope x := by first | exact Or.inl rfl | exact Or.inr (Or.inl rfl) | exact Or.inr (Or.inr rfl)) (hd : (x == ("__debug__" : Str)) = false := by decide)
    (hcd : (x == ("__classdict__" : Str)) = false := by decide) : PE X (.Name x pos) (tVarM i) := fun pins s σ H Q I h => pe_var hN hv hd hcd pins s σ H Q I (tVarM_le h)
theorem rI0_ii {g : Int → Int → V} {i j : Int} {H : Hp} {Q : VK} : rI0 g (.int i) (.int j) H Q = Q (g i j) H := propext ⟨fun ⟨_, _, e1, e2, h⟩ => by cases e1; cases e2; exact h, fun h => ⟨_, _, rfl, rfl, h⟩⟩
theorem rI_ii {C : Int → Int → Prop} {g : Int → Int → V} {i j : Int} {H : Hp} {Q : VK} : rI C g (.int i) (.int j) H Q = (C i j ∧ Q (g i j) H) := propext ⟨fun ⟨_, _, e1, e2, h⟩ => by cases e1; cases e2; exact h, fun h => ⟨_, _, rfl, rfl, h⟩⟩
theorem ex_int {c : Int} {P : Int → Prop} : (∃ i, V.int c = V.int i ∧ P i) = P c := propext ⟨fun ⟨_, e, h⟩ => by cases e; exact h, fun h => ⟨_, rfl, h⟩⟩
theorem ex_bl {c : Bool} {P : Bool → Prop} : (∃ i, V.bl c = V.bl i ∧ P i) = P c := propext ⟨fun ⟨_, e, h⟩ => by cases e; exact h, fun h => ⟨_, rfl, h⟩⟩
theorem ex_ref {c : Addr} {P : Addr → Prop} : (∃ i, V.ref c = V.ref i ∧ P i) = P c := propext ⟨fun ⟨_, e, h⟩ => by cases e; exact h, fun h => ⟨_, rfl, h⟩⟩
end L2
namespace L2
open PySem PySem.Spec PyProof.Rows
section
open PySem.Builtin PySem.Builtin.Str
end
end L2
namespace Hd
open PySem PySem.W PySem.Calls PyProof.Rows
def runT (tb : String → Option Builtin) (p : Program) (w : World) (n0 : Nat) (ann : Option Value) : Nat → SharedT → Thread → Option SharedT
  | 0, _, _ => none
  | n + 1, s, t => match through t with
    | true => some s
    | false => match stepOk n0 ann t with
      | false => none
      | true => match stepT (denote tb) p w s t with
        | some (s', t') => runT tb p w n0 ann n s' t'
        | none => none
theorem runT_of {tb : String → Option Builtin} {p : Program} {w : World} {n0 : Nat} {ann : Option Value} : ∀ {n : Nat} {s r : SharedT} {t : Thread}, runT tb p w n0 ann n s t = some r → topRun tb p w n0 ann n s.abs t = some r.abs
  | 0, _, _, _, h => by cases h
  | n + 1, s, r, t, h => by
    unfold runT at h
    unfold topRun
    cases he : through t with
    | true => rw [he] at h; cases h; rfl
    | false =>
      rw [he] at h
      cases hk : stepOk n0 ann t with
      | false => rw [hk] at h; cases h
      | true =>
        rw [hk] at h
        cases hs : stepT (denote tb) p w s t with
        | none => rw [hs] at h; cases h
        | some x => obtain ⟨s2, t2⟩ := x; rw [hs] at h; rw [stepT_spec hs]; exact runT_of h
def grow : List Obj → Nat → BT → BT
  | [], _, t => t
  | o :: l, n, t => grow l (n + 1) (t.ins n o)
noncomputable def bootT (P : Params) : BT := grow (boot_heap P).objs.toList 0 .nil
noncomputable def bootS (w : World) (os : OsState) : SharedT := ⟨bootT w.params, (boot_heap w.params).objs.size, (boot_heap w.params).life, #[], boot_drawn, boot_toks, os⟩
theorem boot_abs (w : World) (os : OsState) : (bootS w os).abs = ⟨boot_heap w.params, #[], boot_drawn, boot_toks, os⟩ := by kernel_rfl
theorem boot_size (w : World) : ((boot_heap w.params).isNs mainGlobals && (#[] : Array GenState).size == 0) = true := by kernel_rfl
noncomputable abbrev ann0 (w : World) : Option Value := (boot_heap w.params).nsMap mainGlobals "__annotations__"
def look {α : Type} (p : Program) (Yf : Shared → α) (H0 : Heap) (s : Shared) : Bool × α :=
  (staticsOk (importedModules p.main.body) H0 s.heap && namesBound p s.heap && gensDone s && laidKept H0 s.heap, Yf s)
noncomputable def ran (p : Program) (N : Nat) (w : World) (os : OsState) : Option SharedT := runT treeTable p w (boot_heap w.params).objs.size (ann0 w) N (bootS w os) (topStub p)
noncomputable def once {α : Type} (p : Program) (Yf : Shared → α) (N : Nat) (w : World) (os : OsState) := (ran p N w os).map fun s => look p Yf (boot_heap w.params) s.abs
noncomputable def seen (p q : Program) (loose : List Str) (Xt : Shared → Bool) (N : Nat) (w : World) (os : OsState) := (ran p N w os).map fun s => openSeen q loose (importedModules p.main.body) Xt true s.abs
end Hd
namespace Hd
open PySem PySem.W
def dig : Nat → Nat → List Nat
  | 0, _ => []
  | k + 1, n => match Nat.beq n 0 with
    | true => []
    | false => Nat.sub (n % 256) 1 :: dig k (n / 256)
def S (n : Nat) : Str := ⟨⟨dig 200 n⟩⟩
def ent (P : Params) (x : Str) (t : Nat) (v : Value) : DictEntry := ⟨PyData.keyHash P x, .str x t, v⟩
def dO (n : Nat) (l : List DictEntry) : Obj := ⟨.type "dict", none, .dict ⟨l⟩ n, #[]⟩
def tO (l : List Value) : Obj := ⟨.type "tuple", none, .seq ⟨l⟩ 0, #[]⟩
def cO (l : List Value) : Obj := ⟨.type "code", none, .fields ⟨l⟩, #[]⟩
end Hd
namespace Hd
open PySem PySem.W PySem.Calls PyProof.Rows
def goT (tb : String → Option Builtin) (p : Program) (w : World) (n0 : Nat) (ann : Option Value) : Nat → SharedT → Thread → Option (SharedT × Thread)
  | 0, s, t => some (s, t)
  | n + 1, s, t => match through t with
    | true => none
    | false => match stepOk n0 ann t with
      | false => none
      | true => match stepT (denote tb) p w s t with
        | some (s', t') => goT tb p w n0 ann n s' t'
        | none => none
theorem goT_of {tb : String → Option Builtin} {p : Program} {w : World} {n0 : Nat} {ann : Option Value} : ∀ {n : Nat} {s s' : SharedT} {t t' : Thread}, goT tb p w n0 ann n s t = some (s', t') → topGo tb p w n0 ann n s.abs t = some (s'.abs, t')
  | 0, _, _, _, _, h => by cases h; rfl
  | n + 1, s, s', t, t', h => by
    unfold goT at h
    unfold topGo
    cases he : through t with
    | true => rw [he] at h; cases h
    | false =>
      rw [he] at h
      cases hk : stepOk n0 ann t with
      | false => rw [hk] at h; cases h
      | true =>
        rw [hk] at h
        cases hs : stepT (denote tb) p w s t with
        | none => rw [hs] at h; cases h
        | some x => obtain ⟨s2, t2⟩ := x; rw [hs] at h; rw [stepT_spec hs]; exact goT_of h
theorem seg_on {tb : String → Option Builtin} {p : Program} {w : World} {n0 : Nat} {ann : Option Value} {env : Env} {q : Pos} {n N i : Nat} {s s' : SharedT} {r : Shared} {l : List Stmt} {c : Code} {pos p' : Pos} (h : segRunT tb p w n0 ann 1 n s (piecesOf (l.take i) env c pos [topFrame q]) = some (.next, s', c, p'))
    (k : topRun tb p w n0 ann N s'.abs (restOf (l.drop i) env c p' [topFrame q]) = some r) : topRun tb p w n0 ann (n + N) s.abs (restOf l env c pos [topFrame q]) = some r := by
  have := piece_app (segRun_of h) k
  rwa [List.take_append_drop] at this
theorem left_lead {p q : Program} {loose : List Str} {Xt : Shared → Bool} {α : Type} {Yf : Shared → α} {Ya : World → α} {N Nl : Nat} {S : World → OsState → SharedT} {t : Thread}
    (e : opening p = plainProg p.main.scope.names) (hN : Nat.ble 600 N = true) (f : ∀ s, fenceModules? p s = some s)
    (lead : ∀ (w : World) (os : OsState) (r : Shared), topRun treeTable p w (boot_heap w.params).objs.size (ann0 w) Nl (S w os).abs t = some r → topRun treeTable p w (boot_heap w.params).objs.size (ann0 w) N (bootS w os).abs (topStub p) = some r)
    (one : ∀ (w : World) (os : OsState), (runT treeTable p w (boot_heap w.params).objs.size (ann0 w) Nl (S w os) t).map (fun s => look p Yf (boot_heap w.params) s.abs) = some (true, Ya w))
    (two : ∀ (w : World) (os : OsState), (runT treeTable p w (boot_heap w.params).objs.size (ann0 w) Nl (S w os) t).map (fun s => openSeen q loose (importedModules p.main.body) Xt true s.abs) = some (openGood q loose)) : LeftO p q loose Xt Yf Ya N := fun w => by
  obtain ⟨⟨h, gs, d, k, os⟩, e1, e2⟩ := Option.map_eq_some_iff.mp (boot_open e hN f w)
  obtain ⟨rfl, rfl, rfl, rfl⟩ : h = boot_heap w.params ∧ gs = #[] ∧ d = boot_drawn ∧ k = boot_toks := by simpa using e2
  obtain ⟨sT, r, l⟩ := Option.map_eq_some_iff.mp (one w os)
  obtain ⟨sT', r', l2⟩ := Option.map_eq_some_iff.mp (two w os)
  obtain rfl : sT = sT' := Option.some.inj (r.symm.trans r')
  have r := lead w os _ (runT_of r)
  rw [boot_abs] at r
  obtain ⟨l1, l3⟩ : _ ∧ _ := by simpa only [look, Prod.mk.injEq] using l
  have t : topFrom treeTable p w N ⟨boot_heap w.params, #[], boot_drawn, boot_toks, os⟩ = some sT.abs := by
    unfold topFrom
    dsimp only
    rw [boot_size w, r]
    show (match staticsOk (importedModules p.main.body) (boot_heap w.params) sT.abs.heap && namesBound p sT.abs.heap && gensDone sT.abs && laidKept (boot_heap w.params) sT.abs.heap with | true => _ | false => _) = _
    rw [l1]
  unfold openEnds
  rw [e1]
  show (topFrom treeTable p w N _).map _ = _
  rw [t]
  exact congrArg some (Prod.ext l2 l3)
end Hd
namespace Hd
open PySem PySem.W PySem.Calls PyProof.Rows
theorem tw_run : (fun (_ : (String → Option Builtin) → Program → World → Nat → Option Value → Nat → SharedT → Thread → Option SharedT) => true) runT = true := by k_qdec
theorem tw_go : (fun (_ : (String → Option Builtin) → Program → World → Nat → Option Value → Nat → SharedT → Thread → Option (SharedT × Thread)) => true) goT = true := by k_qdec
theorem tw_boot : (fun (_ : World → OsState → SharedT) (_ : World → Option Value) => true) bootS ann0 = true := by k_qdec
theorem tw_look : (fun (_ : {α : Type} → Program → (Shared → α) → Heap → Shared → Bool × α) => true) @look = true := by k_qdec
theorem tw_once : (fun (_ : {α : Type} → Program → (Shared → α) → Nat → World → OsState → Option (Bool × α)) => true) @once = true := by k_qdec
theorem tw_seen : (fun (_ : Program → Program → List Str → (Shared → Bool) → Nat → World → OsState → Option _) => true) seen = true := by k_qdec
end Hd
namespace L2
open PySem PySem.Spec PyProof.Rows
structure RoomH (k : Nat) (A : Around) : Prop where
  dp : A.depth + 3 * k + 5 < recursionLimit
  un : A.units + 16 * k + 200 < cLine
theorem Room.h {k : Nat} {A : Around} (r : Room k A) : RoomH k A := ⟨r.dp, r.un⟩
theorem RoomH.deeper {k : Nat} {A : Around} (r : RoomH (k + 1) A) (env : Env) : RoomH k (A.deeper env) :=
  ⟨by have := r.dp; show A.depth + 1 + 3 * k + 5 < _; omega, by have := r.un; show A.units + 3 + 16 * k + 200 < _; omega⟩
def cxOfH (P : Program) (w : World) (K : PySem.W.Frag) (mg : Str → Option Value) (base : Heap) (N : List Str) (qual : Str) (scope : Scope) (f : Addr) (cd : Value) (A : Around) (outer : List Env) (s : Shared) (H : Hp) (E : XK) : Cx :=
  { cxOf (CXe P w) P w K mg base N qual scope f cd A outer s H E with calm := false }
theorem cxOfH_K {P : Program} {w : World} {K : PySem.W.Frag} {mg : Str → Option Value} {base : Heap} {N : List Str} {qual : Str} {scope : Scope} {f : Addr} {cd : Value} {A : Around} {outer : List Env} {s : Shared} {H : Hp} {E : XK} : (cxOfH P w K mg base N qual scope f cd A outer s H E).K = K := rfl
end L2
namespace L2
open PySem PySem.Spec PyProof.Rows
def BindsK (K : PySem.W.Frag) (fd : FuncData) (ps ks : List Str) : Prop := ∀ (s : Shared) (us : List Value) (a b : Value), K.In s.heap → us.length + 2 = ps.length → BindsTo s fd ⟨us, ks.zip [a, b]⟩ (ps.zip (us ++ [b, a]))
def RawMK (K : PySem.W.Frag) (C : Addr) (m qual : Str) (st : Stmt) (ps ks : List Str) : Prop := ∃ f fd, Meth K C m f ∧ FunD K m qual st f fd ∧ BindsK K fd ps ks
def HaveMK (P : Program) (w : World) (K : PySem.W.Frag) (mg : Str → Option Value) (base : Heap) (C : Addr) (m : Str) (k : Nat) (ps ks : List Str) (sp : Sp) : Prop :=
  ∃ f fd, Meth K C m f ∧ BindsK K fd ps ks ∧ FnOk P w K mg base (CXe P w) k f fd ps sp
theorem RawMK.have {P : Program} {w : World} {K : PySem.W.Frag} {mg : Str → Option Value} {base : Heap} {C : Addr} {m qual : Str} {st : Stmt} {N ps ks : List Str} {k : Nat} {sp : Sp} (R : RawMK K C m qual st ps ks) (S : FnScope N ps (defScope st)) (len : ∀ vs H Q E, sp vs H Q E → vs.length = ps.length)
    (hbody : Body P w K mg base qual st N k sp) : HaveMK P w K mg base C m (k + 1) ps ks sp :=
  let ⟨f, fd, hm, F, hb⟩ := R
  ⟨f, fd, hm, hb, F.okE S len hbody⟩
end L2
namespace L2
open PySem PySem.Spec PyProof.Rows
end L2
namespace L2
open PySem PySem.Spec PyProof.Rows
end L2
set_option hygiene false in
local macro_rules | `(tactic| walk_at "wp") => `(tactic| simp only [↓L2.rI0_ii, ↓L2.rI_ii, ↓L2.ex_int, ↓L2.ex_bl, ↓L2.ex_ref, L2.tSeq, L2.tNext, L2.tAsg, L2.gName, L2.tRet, L2.tDrop, L2.tIfS, L2.tIf, L2.tTest, L2.tB, L2.tOp, L2.tUn, L2.tVar, L2.tVarM, L2.tC, L2.rI, L2.rI0, L2.rU, L2.tAnd, L2.tOr, L2.tNot, L2.tAndV, L2.tNotV, L2.tCallE, L2.tMethE, L2.tMakeE, L2.tCB, L2.tCons, L2.tNil, L2.tChain, L2.tLst, L2.tTup, L2.rIxL, L2.rIxT, L2.tFld, L2.sFld, L2.tRaise, L2.rEq, L2.rNe, L2.start, L2.CDiv, L2.CPow, L2.CMul, L2.kn_int, L2.cxOf_K, L2.cxOfH_K, L2.scal_ii, L2.scal_bb, L2.scal_ss, L2.rIxH, L2.lstO_lst, L2.tupO_tup, L2.upd_same, L2.upd_upd, L2.HO.ins.injEq, L2.rCat, L2.rSlL, L2.tSl, L2.tPart, L2.tNoPart, L2.clsV_ref, L2.clsV_ty, L2.tForE, L2.iRng1, L2.iRng2, L2.iList, L2.gTup, L2.gNil, L2.gCons, L2.tDNewK, L2.tBM, L2.tBM0, L2.rAppend, L2.rPop, L2.gSub, L2.rSetL, L2.tComp, L2.tCompM, L2.tYes, Option.join_some, Option.join_none, PySem.sizeLine_eq, Nat.reduceLeDiff, eq_self, decide_eq_true_eq, 
  List.map_cons, List.map_nil, List.length_cons, List.length_nil, List.cons_append, List.nil_append, List.append_nil, List.replicate, Nat.reduceSub, Nat.reduceAdd, List.getElem?_cons_zero, List.getElem?_cons_succ, List.set_cons_zero, List.set_cons_succ,
  Option.some.injEq, List.cons.injEq, L2.V.int.injEq, L2.V.bl.injEq, L2.V.ref.injEq, L2.V.ty.injEq, L2.V.str.injEq, exists_eq_left, exists_eq_left', exists_and_left, exists_eq', exists_const, and_assoc, and_true, true_and, ↓reduceIte, Int.reduceLE, Int.reduceLT, Nat.reducePow, Int.reducePow, Int.reduceNeg, L2.na10, Nat.reduceLT, Int.reduceToNat, Int.reduceAdd, Int.reduceMul, Int.reduceSub, true_or, or_true, decide_true, decide_false])
namespace Pf
open PySem L2
def top (i : Nat) : Stmt := PySem.Challenge.pw_frameland_k51_own_boxes.main.body.getD i (.Pass ⟨0, 0, 0, 0⟩)
abbrev s_is_whole : Stmt := top 16
theorem sc_is_whole : FnScope ["thing"] ["thing"] (defScope s_is_whole) := ⟨rfl, rfl, rfl, by decide +kernel, rfl, by decide +kernel, by decide +kernel⟩
abbrev s_is_within : Stmt := top 17
theorem sc_is_within : FnScope ["thing", "low", "high"] ["thing", "low", "high"] (defScope s_is_within) := ⟨rfl, rfl, rfl, by decide +kernel, rfl, by decide +kernel, by decide +kernel⟩
abbrev s_power_of_two : Stmt := top 34
theorem sc_power_of_two : FnScope ["exponent", "power", "doubling"] ["exponent"] (defScope s_power_of_two) := ⟨rfl, rfl, rfl, by decide +kernel, rfl, by decide +kernel, by decide +kernel⟩
abbrev s_check_measures : Stmt := top 35
theorem sc_check_measures : FnScope ["levels", "fan", "grain"] ["levels", "fan", "grain"] (defScope s_check_measures) := ⟨rfl, rfl, rfl, by decide +kernel, rfl, by decide +kernel, by decide +kernel⟩
abbrev s_Shape_init : Stmt := inClass (top 36) 0
theorem sc_Shape_init : FnScope ["self", "levels", "fan", "grain"] ["self", "levels", "fan", "grain"] (defScope s_Shape_init) := ⟨rfl, rfl, rfl, by decide +kernel, rfl, by decide +kernel, by decide +kernel⟩
abbrev s_Shape_sheet_size : Stmt := inClass (top 36) 1
theorem sc_Shape_sheet_size : FnScope ["self"] ["self"] (defScope s_Shape_sheet_size) := ⟨rfl, rfl, rfl, by decide +kernel, rfl, by decide +kernel, by decide +kernel⟩
abbrev s_Shape_has_page : Stmt := inClass (top 36) 3
theorem sc_Shape_has_page : FnScope ["self", "page"] ["self", "page"] (defScope s_Shape_has_page) := ⟨rfl, rfl, rfl, by decide +kernel, rfl, by decide +kernel, by decide +kernel⟩
abbrev s_Shape_has_address : Stmt := inClass (top 36) 5
theorem sc_Shape_has_address : FnScope ["self", "address"] ["self", "address"] (defScope s_Shape_has_address) := ⟨rfl, rfl, rfl, by decide +kernel, rfl, by decide +kernel, by decide +kernel⟩
abbrev s_Shape_parted : Stmt := inClass (top 36) 6
theorem sc_Shape_parted : FnScope ["self", "address"] ["self", "address"] (defScope s_Shape_parted) := ⟨rfl, rfl, rfl, by decide +kernel, rfl, by decide +kernel, by decide +kernel⟩
abbrev s_Shape_fits : Stmt := inClass (top 36) 10
theorem sc_Shape_fits : FnScope ["self", "first", "many"] ["self", "first", "many"] (defScope s_Shape_fits) := ⟨rfl, rfl, rfl, by decide +kernel, rfl, by decide +kernel, by decide +kernel⟩
abbrev s_check_rights : Stmt := top 20
theorem sc_check_rights : FnScope ["rights"] ["rights"] (defScope s_check_rights) := ⟨rfl, rfl, rfl, by decide +kernel, rfl, by decide +kernel, by decide +kernel⟩
abbrev s_end_of : Stmt := top 21
theorem sc_end_of : FnScope ["run"] ["run"] (defScope s_end_of) := ⟨rfl, rfl, rfl, by decide +kernel, rfl, by decide +kernel, by decide +kernel⟩
abbrev s_tie_from : Stmt := top 22
theorem sc_tie_from : FnScope ["run", "page", "tie"] ["run", "page"] (defScope s_tie_from) := ⟨rfl, rfl, rfl, by decide +kernel, rfl, by decide +kernel, by decide +kernel⟩
abbrev s_part_of : Stmt := top 23
theorem sc_part_of : FnScope ["run", "low", "high", "first"] ["run", "low", "high"] (defScope s_part_of) := ⟨rfl, rfl, rfl, by decide +kernel, rfl, by decide +kernel, by decide +kernel⟩
abbrev s_goes_on : Stmt := top 24
theorem sc_goes_on : FnScope ["run", "later"] ["run", "later"] (defScope s_goes_on) := ⟨rfl, rfl, rfl, by decide +kernel, rfl, by decide +kernel, by decide +kernel⟩
abbrev s_joined : Stmt := top 25
theorem sc_joined : FnScope ["runs", "fewer", "run", "last"] ["runs"] (defScope s_joined) := ⟨rfl, rfl, rfl, by decide +kernel, rfl, by decide +kernel, by decide +kernel⟩
abbrev s_Stretches_init : Stmt := inClass (top 26) 0
theorem sc_Stretches_init : FnScope ["self"] ["self"] (defScope s_Stretches_init) := ⟨rfl, rfl, rfl, by decide +kernel, rfl, by decide +kernel, by decide +kernel⟩
abbrev s_Stretches_put : Stmt := inClass (top 26) 1
theorem sc_Stretches_put : FnScope ["self", "first", "many", "rights", "tie"] ["self", "first", "many", "rights", "tie"] (defScope s_Stretches_put) := ⟨rfl, rfl, rfl, by decide +kernel, rfl, by decide +kernel, by decide +kernel⟩
abbrev s_Stretches_rights_at : Stmt := inClass (top 26) 5
theorem sc_Stretches_rights_at : FnScope ["self", "page", "part"] ["self", "page"] (defScope s_Stretches_rights_at) := ⟨rfl, rfl, rfl, by decide +kernel, rfl, by decide +kernel, by decide +kernel⟩
abbrev s_Stretches_tie_at : Stmt := inClass (top 26) 6
theorem sc_Stretches_tie_at : FnScope ["self", "page", "part"] ["self", "page"] (defScope s_Stretches_tie_at) := ⟨rfl, rfl, rfl, by decide +kernel, rfl, by decide +kernel, by decide +kernel⟩
abbrev s_Stretches_is_free : Stmt := inClass (top 26) 7
theorem sc_Stretches_is_free : FnScope ["self", "first", "many"] ["self", "first", "many"] (defScope s_Stretches_is_free) := ⟨rfl, rfl, rfl, by decide +kernel, rfl, by decide +kernel, by decide +kernel⟩
abbrev s_Stretches_place_behind : Stmt := inClass (top 26) 12
theorem sc_Stretches_place_behind : FnScope ["self", "page", "low", "high", "middle"] ["self", "page"] (defScope s_Stretches_place_behind) := ⟨rfl, rfl, rfl, by decide +kernel, rfl, by decide +kernel, by decide +kernel⟩
abbrev s_Stretches_parts_amid : Stmt := inClass (top 26) 13
theorem sc_Stretches_parts_amid : FnScope ["self", "first", "many", "end", "near"] ["self", "first", "many"] (defScope s_Stretches_parts_amid) := ⟨rfl, rfl, rfl, by decide +kernel, rfl, by decide +kernel, by decide +kernel⟩
abbrev s_Stretches_part_at : Stmt := inClass (top 26) 14
theorem sc_Stretches_part_at : FnScope ["self", "page", "parts"] ["self", "page"] (defScope s_Stretches_part_at) := ⟨rfl, rfl, rfl, by decide +kernel, rfl, by decide +kernel, by decide +kernel⟩
abbrev s_Stretches_lay_amid : Stmt := inClass (top 26) 15
theorem sc_Stretches_lay_amid : FnScope ["self", "first", "many", "parts", "end", "low", "high", "near", "ahead", "behind"] ["self", "first", "many", "parts"] (defScope s_Stretches_lay_amid) := ⟨rfl, rfl, rfl, by decide +kernel, rfl, by decide +kernel, by decide +kernel⟩
abbrev s_Stretches_told : Stmt := inClass (top 26) 10
theorem sc_Stretches_told : FnScope ["self"] ["self"] (defScope s_Stretches_told) := ⟨rfl, rfl, rfl, by decide +kernel, rfl, by decide +kernel, by decide +kernel⟩
abbrev s_least_free : Stmt := top 28
theorem sc_least_free : FnScope ["numbers", "number"] ["numbers"] (defScope s_least_free) := ⟨rfl, rfl, rfl, by decide +kernel, rfl, by decide +kernel, by decide +kernel⟩
abbrev s_House_init : Stmt := inClass (top 29) 0
theorem sc_House_init : FnScope ["self", "shape"] ["self", "shape"] (defScope s_House_init) := ⟨rfl, rfl, rfl, by decide +kernel, rfl, by decide +kernel, by decide +kernel⟩
abbrev s_House_new_task : Stmt := inClass (top 29) 1
theorem sc_House_new_task : FnScope ["self", "task"] ["self"] (defScope s_House_new_task) := ⟨rfl, rfl, rfl, by decide +kernel, rfl, by decide +kernel, by decide +kernel⟩
abbrev s_House_lay : Stmt := inClass (top 29) 6
theorem sc_House_lay : FnScope ["self", "task", "first", "many", "rights", "bank", "start", "tie"] ["self", "task", "first", "many", "rights", "bank", "start"] (defScope s_House_lay) := ⟨rfl, rfl, rfl, by decide +kernel, rfl, by decide +kernel, by decide +kernel⟩
abbrev s_House_asked : Stmt := inClass (top 29) 9
theorem sc_House_asked : FnScope ["self", "task", "address", "want", "parts", "rights"] ["self", "task", "address", "want"] (defScope s_House_asked) := ⟨rfl, rfl, rfl, by decide +kernel, rfl, by decide +kernel, by decide +kernel⟩
abbrev s_House_tie_at : Stmt := inClass (top 29) 15
theorem sc_House_tie_at : FnScope ["self", "task", "page"] ["self", "task", "page"] (defScope s_House_tie_at) := ⟨rfl, rfl, rfl, by decide +kernel, rfl, by decide +kernel, by decide +kernel⟩
abbrev s_House_stretches_of : Stmt := inClass (top 29) 13
theorem sc_House_stretches_of : FnScope ["self", "task"] ["self", "task"] (defScope s_House_stretches_of) := ⟨rfl, rfl, rfl, by decide +kernel, rfl, by decide +kernel, by decide +kernel⟩
abbrev s_House_pages_of : Stmt := inClass (top 29) 16
theorem sc_House_pages_of : FnScope ["self", "task", "mapped", "run"] ["self", "task"] (defScope s_House_pages_of) := ⟨rfl, rfl, rfl, by decide +kernel, rfl, by decide +kernel, by decide +kernel⟩
abbrev s_House_check_task : Stmt := inClass (top 29) 17
theorem sc_House_check_task : FnScope ["self", "task"] ["self", "task"] (defScope s_House_check_task) := ⟨rfl, rfl, rfl, by decide +kernel, rfl, by decide +kernel, by decide +kernel⟩
abbrev s_House_check_bank : Stmt := inClass (top 29) 18
abbrev s_House_check_stretch : Stmt := inClass (top 29) 19
theorem sc_House_check_stretch : FnScope ["self", "task", "first", "many"] ["self", "task", "first", "many"] (defScope s_House_check_stretch) := ⟨rfl, rfl, rfl, by decide +kernel, rfl, by decide +kernel, by decide +kernel⟩
abbrev s_House_check_part_of_bank : Stmt := inClass (top 29) 20
theorem sc_House_check_part_of_bank : FnScope ["self", "bank", "start", "many"] ["self", "bank", "start", "many"] (defScope s_House_check_part_of_bank) := ⟨rfl, rfl, rfl, by decide +kernel, rfl, by decide +kernel, by decide +kernel⟩
abbrev s_Rooms_init : Stmt := inClass (top 31) 0
theorem sc_Rooms_init : FnScope ["self", "shape", "most"] ["self", "shape", "most"] (defScope s_Rooms_init) := ⟨rfl, rfl, rfl, by decide +kernel, rfl, by decide +kernel, by decide +kernel⟩
abbrev s_Rooms_new_task : Stmt := inClass (top 31) 1
theorem sc_Rooms_new_task : FnScope ["self", "task"] ["self"] (defScope s_Rooms_new_task) := ⟨rfl, rfl, rfl, by decide +kernel, rfl, by decide +kernel, by decide +kernel⟩
abbrev s_Rooms_lay : Stmt := inClass (top 31) 6
theorem sc_Rooms_lay : FnScope ["self", "task", "first", "many", "rights", "bank", "start"] ["self", "task", "first", "many", "rights", "bank", "start"] (defScope s_Rooms_lay) := ⟨rfl, rfl, rfl, by decide +kernel, rfl, by decide +kernel, by decide +kernel⟩
abbrev s_Rooms_read : Stmt := inClass (top 31) 9
theorem sc_Rooms_read : FnScope ["self", "task", "address", "parts"] ["self", "task", "address"] (defScope s_Rooms_read) := ⟨rfl, rfl, rfl, by decide +kernel, rfl, by decide +kernel, by decide +kernel⟩
abbrev s_Rooms_write : Stmt := inClass (top 31) 10
theorem sc_Rooms_write : FnScope ["self", "task", "address", "value", "parts"] ["self", "task", "address", "value"] (defScope s_Rooms_write) := ⟨rfl, rfl, rfl, by decide +kernel, rfl, by decide +kernel, by decide +kernel⟩
abbrev s_Rooms_seen_by : Stmt := inClass (top 31) 15
theorem sc_Rooms_seen_by : FnScope ["self", "task"] ["self", "task"] (defScope s_Rooms_seen_by) := ⟨rfl, rfl, rfl, by decide +kernel, rfl, by decide +kernel, by decide +kernel⟩
abbrev s_Rooms_live_sheets : Stmt := inClass (top 31) 16
theorem sc_Rooms_live_sheets : FnScope ["self"] ["self"] (defScope s_Rooms_live_sheets) := ⟨rfl, rfl, rfl, by decide +kernel, rfl, by decide +kernel, by decide +kernel⟩
abbrev s_Rooms_shown : Stmt := inClass (top 31) 17
theorem sc_Rooms_shown : FnScope ["self", "task", "page", "tie", "pages", "number"] ["self", "task", "page", "tie"] (defScope s_Rooms_shown) := ⟨rfl, rfl, rfl, by decide +kernel, rfl, by decide +kernel, by decide +kernel⟩
abbrev s_Rooms_noughts : Stmt := inClass (top 31) 18
theorem sc_Rooms_noughts : FnScope ["self"] ["self"] (defScope s_Rooms_noughts) := ⟨rfl, rfl, rfl, by decide +kernel, rfl, by decide +kernel, by decide +kernel⟩
abbrev s_Rooms_sheet_to_read : Stmt := inClass (top 31) 19
theorem sc_Rooms_sheet_to_read : FnScope ["self", "task", "page", "tie"] ["self", "task", "page"] (defScope s_Rooms_sheet_to_read) := ⟨rfl, rfl, rfl, by decide +kernel, rfl, by decide +kernel, by decide +kernel⟩
abbrev s_Rooms_sheet_to_write : Stmt := inClass (top 31) 20
theorem sc_Rooms_sheet_to_write : FnScope ["self", "task", "page", "pages", "number"] ["self", "task", "page"] (defScope s_Rooms_sheet_to_write) := ⟨rfl, rfl, rfl, by decide +kernel, rfl, by decide +kernel, by decide +kernel⟩
abbrev s_Rooms_sheet_there : Stmt := inClass (top 31) 21
theorem sc_Rooms_sheet_there : FnScope ["self", "pages", "page"] ["self", "pages", "page"] (defScope s_Rooms_sheet_there) := ⟨rfl, rfl, rfl, by decide +kernel, rfl, by decide +kernel, by decide +kernel⟩
abbrev s_Rooms_new_sheet : Stmt := inClass (top 31) 23
theorem sc_Rooms_new_sheet : FnScope ["self", "boxes", "number"] ["self", "boxes"] (defScope s_Rooms_new_sheet) := ⟨rfl, rfl, rfl, by decide +kernel, rfl, by decide +kernel, by decide +kernel⟩
abbrev s_Rooms_let_page_go : Stmt := inClass (top 31) 24
theorem sc_Rooms_let_page_go : FnScope ["self", "pages", "page", "number"] ["self", "pages", "page"] (defScope s_Rooms_let_page_go) := ⟨rfl, rfl, rfl, by decide +kernel, rfl, by decide +kernel, by decide +kernel⟩
abbrev s_l_cell_at : Stmt := top 38
theorem sc_l_cell_at : FnScope ["_law_script", "_law_k"] ["_law_script", "_law_k"] (defScope s_l_cell_at) := ⟨rfl, rfl, rfl, by decide +kernel, rfl, by decide +kernel, by decide +kernel⟩
abbrev s_l_part : Stmt := top 39
theorem sc_l_part : FnScope ["_law_cell", "_law_place", "_law_many", "_law_prime"] ["_law_cell", "_law_place", "_law_many"] (defScope s_l_part) := ⟨rfl, rfl, rfl, by decide +kernel, rfl, by decide +kernel, by decide +kernel⟩
abbrev s_l_whole : Stmt := top 40
theorem sc_l_whole : FnScope ["_law_found", "_law_due"] ["_law_found", "_law_due"] (defScope s_l_whole) := ⟨rfl, rfl, rfl, by decide +kernel, rfl, by decide +kernel, by decide +kernel⟩
abbrev s_l_seen : Stmt := top 41
theorem sc_l_seen : FnScope ["_law_told", "_law_first", "_law_many", "_law_size", "_law_boxes", "_law_k", "_law_row", "_law_box"] ["_law_told", "_law_first", "_law_many", "_law_size", "_law_boxes"] (defScope s_l_seen) := ⟨rfl, rfl, rfl, by decide +kernel, rfl, by decide +kernel, by decide +kernel⟩
abbrev s_l_access : Stmt := top 42
theorem sc_l_access : FnScope ["_law_rooms", "_law_task", "_law_address", "_law_boxes", "_law_cell", "_law_value"] ["_law_rooms", "_law_task", "_law_address", "_law_boxes", "_law_cell"] (defScope s_l_access) := ⟨rfl, rfl, rfl, by decide +kernel, rfl, by decide +kernel, by decide +kernel⟩
abbrev s_l_wide : Stmt := top 43
theorem sc_l_wide : FnScope ["_law_cell", "_law_rooms", "_law_task", "_law_size", "_law_k"] ["_law_cell"] (defScope s_l_wide) := ⟨rfl, rfl, rfl, by decide +kernel, rfl, by decide +kernel, by decide +kernel⟩
abbrev s_law : Stmt := top 44
theorem sc_law : FnScope ["_law_script", "_law_levels", "_law_fan", "_law_grain", "_law_size", "_law_count", "_law_many", "_law_first", "_law_rooms", "_law_task", "_law_beside", "_law_boxes", "_law_touched", "_law_cell", "_law_page", "_law_address", "_law_told"] ["_law_script"] (defScope s_law) := ⟨rfl, rfl, rfl, by decide +kernel, rfl, by decide +kernel, by decide +kernel⟩
structure Adr where
  C_Stretches : Addr
  C_House : Addr
  C_Rooms : Addr
  C_Shape : Addr
  C_NoShape : Addr
  C_OutOfRoom : Addr
  C_BadRights : Addr
  C_NoTask : Addr
  C_NoBank : Addr
  C_OutOfBank : Addr
  C_Taken : Addr
  C_NotMapped : Addr
  C_NoRight : Addr
  C_NoRoom : Addr
structure Txt (K : PySem.W.Frag) (mg : Str → Option Value) (A : Adr) : Prop where
  b_bool : mg "bool" = none
  b_int : mg "int" = none
  b_isinstance : mg "isinstance" = none
  b_len : mg "len" = none
  b_list : mg "list" = none
  b_max : mg "max" = none
  b_min : mg "min" = none
  b_range : mg "range" = none
  b_tuple : mg "tuple" = none
  c_READ : ∃ u, mg "READ" = some u ∧ RelV (.int 1) u
  c_WRITE : ∃ u, mg "WRITE" = some u ∧ RelV (.int 2) u
  c_MOST_RIGHTS : ∃ u, mg "MOST_RIGHTS" = some u ∧ RelV (.int 3) u
  c_MOST_IN_STRETCH : ∃ u, mg "MOST_IN_STRETCH" = some u ∧ RelV (.int 64) u
  r_is_whole : Raw K mg "is_whole" "is_whole" s_is_whole ["thing"] []
  r_is_within : Raw K mg "is_within" "is_within" s_is_within ["thing", "low", "high"] []
  r_power_of_two : Raw K mg "power_of_two" "power_of_two" s_power_of_two ["exponent"] []
  r_check_measures : Raw K mg "check_measures" "check_measures" s_check_measures ["levels", "fan", "grain"] []
  r_check_rights : Raw K mg "check_rights" "check_rights" s_check_rights ["rights"] []
  r_end_of : Raw K mg "end_of" "end_of" s_end_of ["run"] []
  r_tie_from : Raw K mg "tie_from" "tie_from" s_tie_from ["run", "page"] []
  r_part_of : Raw K mg "part_of" "part_of" s_part_of ["run", "low", "high"] []
  r_goes_on : Raw K mg "goes_on" "goes_on" s_goes_on ["run", "later"] []
  r_joined : Raw K mg "joined" "joined" s_joined ["runs"] []
  r_least_free : Raw K mg "least_free" "least_free" s_least_free ["numbers"] []
  r_l_cell_at : Raw K mg "_law_cell_at" "_law_cell_at" s_l_cell_at ["_law_script", "_law_k"] []
  r_l_part : Raw K mg "_law_part" "_law_part" s_l_part ["_law_cell", "_law_place", "_law_many"] []
  r_l_whole : Raw K mg "_law_whole" "_law_whole" s_l_whole ["_law_found", "_law_due"] []
  r_l_seen : Raw K mg "_law_seen" "_law_seen" s_l_seen ["_law_told", "_law_first", "_law_many", "_law_size", "_law_boxes"] []
  r_l_access : Raw K mg "_law_access" "_law_access" s_l_access ["_law_rooms", "_law_task", "_law_address", "_law_boxes", "_law_cell"] []
  r_l_wide : Raw K mg "_law_wide" "_law_wide" s_l_wide ["_law_cell"] []
  cl_Stretches : Cls K A.C_Stretches
  na_Stretches_runs : NoAttr K A.C_Stretches "runs"
  r_Stretches_init : RawI K mg "Stretches" A.C_Stretches "Stretches.__init__" s_Stretches_init ["self"] []
  r_Stretches_put : RawMD K A.C_Stretches "put" "Stretches.put" s_Stretches_put ["self", "first", "many", "rights", "tie"] []
  r1_Stretches_put : RawMD K A.C_Stretches "put" "Stretches.put" s_Stretches_put ["self", "first", "many", "rights", "tie"] [.non]
  r_Stretches_rights_at : RawM K A.C_Stretches "rights_at" "Stretches.rights_at" s_Stretches_rights_at ["self", "page"] []
  r_Stretches_tie_at : RawM K A.C_Stretches "tie_at" "Stretches.tie_at" s_Stretches_tie_at ["self", "page"] []
  r_Stretches_is_free : RawM K A.C_Stretches "is_free" "Stretches.is_free" s_Stretches_is_free ["self", "first", "many"] []
  r_Stretches_place_behind : RawM K A.C_Stretches "place_behind" "Stretches.place_behind" s_Stretches_place_behind ["self", "page"] []
  r_Stretches_parts_amid : RawM K A.C_Stretches "parts_amid" "Stretches.parts_amid" s_Stretches_parts_amid ["self", "first", "many"] []
  r_Stretches_part_at : RawM K A.C_Stretches "part_at" "Stretches.part_at" s_Stretches_part_at ["self", "page"] []
  r_Stretches_lay_amid : RawM K A.C_Stretches "lay_amid" "Stretches.lay_amid" s_Stretches_lay_amid ["self", "first", "many", "parts"] []
  r_Stretches_told : RawM K A.C_Stretches "told" "Stretches.told" s_Stretches_told ["self"] []
  cl_House : Cls K A.C_House
  na_House_shape : NoAttr K A.C_House "shape"
  na_House_tasks : NoAttr K A.C_House "tasks"
  na_House_banks : NoAttr K A.C_House "banks"
  r_House_init : RawI K mg "House" A.C_House "House.__init__" s_House_init ["self", "shape"] []
  r_House_new_task : RawM K A.C_House "new_task" "House.new_task" s_House_new_task ["self"] []
  r_House_lay : RawMD K A.C_House "lay" "House.lay" s_House_lay ["self", "task", "first", "many", "rights", "bank", "start"] []
  r1_House_lay : RawMD K A.C_House "lay" "House.lay" s_House_lay ["self", "task", "first", "many", "rights", "bank", "start"] [.int 0]
  r2_House_lay : RawMD K A.C_House "lay" "House.lay" s_House_lay ["self", "task", "first", "many", "rights", "bank", "start"] [.non, .int 0]
  r_House_asked : RawM K A.C_House "asked" "House.asked" s_House_asked ["self", "task", "address", "want"] []
  r_House_tie_at : RawM K A.C_House "tie_at" "House.tie_at" s_House_tie_at ["self", "task", "page"] []
  r_House_stretches_of : RawM K A.C_House "stretches_of" "House.stretches_of" s_House_stretches_of ["self", "task"] []
  r_House_pages_of : RawM K A.C_House "pages_of" "House.pages_of" s_House_pages_of ["self", "task"] []
  r_House_check_task : RawM K A.C_House "check_task" "House.check_task" s_House_check_task ["self", "task"] []
  r_House_check_bank : RawM K A.C_House "check_bank" "House.check_bank" s_House_check_bank ["self", "bank"] []
  r_House_check_stretch : RawM K A.C_House "check_stretch" "House.check_stretch" s_House_check_stretch ["self", "task", "first", "many"] []
  r_House_check_part_of_bank : RawM K A.C_House "check_part_of_bank" "House.check_part_of_bank" s_House_check_part_of_bank ["self", "bank", "start", "many"] []
  cl_Rooms : Cls K A.C_Rooms
  na_Rooms_shape : NoAttr K A.C_Rooms "shape"
  na_Rooms_most : NoAttr K A.C_Rooms "most"
  na_Rooms_house : NoAttr K A.C_Rooms "house"
  na_Rooms_sheets : NoAttr K A.C_Rooms "sheets"
  na_Rooms_havers : NoAttr K A.C_Rooms "havers"
  na_Rooms_made : NoAttr K A.C_Rooms "made"
  na_Rooms_private : NoAttr K A.C_Rooms "private"
  na_Rooms_banked : NoAttr K A.C_Rooms "banked"
  r_Rooms_init : RawI K mg "Rooms" A.C_Rooms "Rooms.__init__" s_Rooms_init ["self", "shape", "most"] []
  r_Rooms_new_task : RawM K A.C_Rooms "new_task" "Rooms.new_task" s_Rooms_new_task ["self"] []
  r_Rooms_lay : RawMD K A.C_Rooms "lay" "Rooms.lay" s_Rooms_lay ["self", "task", "first", "many", "rights", "bank", "start"] []
  r1_Rooms_lay : RawMD K A.C_Rooms "lay" "Rooms.lay" s_Rooms_lay ["self", "task", "first", "many", "rights", "bank", "start"] [.int 0]
  r2_Rooms_lay : RawMD K A.C_Rooms "lay" "Rooms.lay" s_Rooms_lay ["self", "task", "first", "many", "rights", "bank", "start"] [.non, .int 0]
  r_Rooms_read : RawM K A.C_Rooms "read" "Rooms.read" s_Rooms_read ["self", "task", "address"] []
  r_Rooms_write : RawM K A.C_Rooms "write" "Rooms.write" s_Rooms_write ["self", "task", "address", "value"] []
  r_Rooms_seen_by : RawM K A.C_Rooms "seen_by" "Rooms.seen_by" s_Rooms_seen_by ["self", "task"] []
  r_Rooms_live_sheets : RawM K A.C_Rooms "live_sheets" "Rooms.live_sheets" s_Rooms_live_sheets ["self"] []
  r_Rooms_shown : RawM K A.C_Rooms "shown" "Rooms.shown" s_Rooms_shown ["self", "task", "page", "tie"] []
  r_Rooms_noughts : RawM K A.C_Rooms "noughts" "Rooms.noughts" s_Rooms_noughts ["self"] []
  r_Rooms_sheet_to_read : RawM K A.C_Rooms "sheet_to_read" "Rooms.sheet_to_read" s_Rooms_sheet_to_read ["self", "task", "page"] []
  r_Rooms_sheet_to_write : RawM K A.C_Rooms "sheet_to_write" "Rooms.sheet_to_write" s_Rooms_sheet_to_write ["self", "task", "page"] []
  r_Rooms_sheet_there : RawM K A.C_Rooms "sheet_there" "Rooms.sheet_there" s_Rooms_sheet_there ["self", "pages", "page"] []
  r_Rooms_new_sheet : RawM K A.C_Rooms "new_sheet" "Rooms.new_sheet" s_Rooms_new_sheet ["self", "boxes"] []
  r_Rooms_let_page_go : RawM K A.C_Rooms "let_page_go" "Rooms.let_page_go" s_Rooms_let_page_go ["self", "pages", "page"] []
  cl_Shape : Cls K A.C_Shape
  na_Shape_levels : NoAttr K A.C_Shape "levels"
  na_Shape_fan : NoAttr K A.C_Shape "fan"
  na_Shape_grain : NoAttr K A.C_Shape "grain"
  na_Shape_ways : NoAttr K A.C_Shape "ways"
  na_Shape_boxes : NoAttr K A.C_Shape "boxes"
  na_Shape_pages : NoAttr K A.C_Shape "pages"
  r_Shape_init : RawI K mg "Shape" A.C_Shape "Shape.__init__" s_Shape_init ["self", "levels", "fan", "grain"] []
  r_Shape_sheet_size : RawM K A.C_Shape "sheet_size" "Shape.sheet_size" s_Shape_sheet_size ["self"] []
  r_Shape_has_page : RawM K A.C_Shape "has_page" "Shape.has_page" s_Shape_has_page ["self", "page"] []
  r_Shape_has_address : RawM K A.C_Shape "has_address" "Shape.has_address" s_Shape_has_address ["self", "address"] []
  r_Shape_parted : RawM K A.C_Shape "parted" "Shape.parted" s_Shape_parted ["self", "address"] []
  r_Shape_fits : RawM K A.C_Shape "fits" "Shape.fits" s_Shape_fits ["self", "first", "many"] []
  m_NoShape : ∃ u, mg "NoShape" = some u ∧ RelV (.ref A.C_NoShape) u
  x_NoShape : XC K mg "NoShape" A.C_NoShape
  m_OutOfRoom : ∃ u, mg "OutOfRoom" = some u ∧ RelV (.ref A.C_OutOfRoom) u
  x_OutOfRoom : XC K mg "OutOfRoom" A.C_OutOfRoom
  m_BadRights : ∃ u, mg "BadRights" = some u ∧ RelV (.ref A.C_BadRights) u
  x_BadRights : XC K mg "BadRights" A.C_BadRights
  m_NoTask : ∃ u, mg "NoTask" = some u ∧ RelV (.ref A.C_NoTask) u
  x_NoTask : XC K mg "NoTask" A.C_NoTask
  m_NoBank : ∃ u, mg "NoBank" = some u ∧ RelV (.ref A.C_NoBank) u
  x_NoBank : XC K mg "NoBank" A.C_NoBank
  m_OutOfBank : ∃ u, mg "OutOfBank" = some u ∧ RelV (.ref A.C_OutOfBank) u
  x_OutOfBank : XC K mg "OutOfBank" A.C_OutOfBank
  m_Taken : ∃ u, mg "Taken" = some u ∧ RelV (.ref A.C_Taken) u
  x_Taken : XC K mg "Taken" A.C_Taken
  m_NotMapped : ∃ u, mg "NotMapped" = some u ∧ RelV (.ref A.C_NotMapped) u
  x_NotMapped : XC K mg "NotMapped" A.C_NotMapped
  m_NoRight : ∃ u, mg "NoRight" = some u ∧ RelV (.ref A.C_NoRight) u
  x_NoRight : XC K mg "NoRight" A.C_NoRight
  m_NoRoom : ∃ u, mg "NoRoom" = some u ∧ RelV (.ref A.C_NoRoom) u
  x_NoRoom : XC K mg "NoRoom" A.C_NoRoom
  r_law : ∃ f fd, mg "law" = some (.ref f) ∧ Fun K "law" "law" s_law f fd ∧ ∀ (s : Shared) (u : Value), BindsTo s fd ⟨[u], []⟩ [("_law_script", u)]
theorem el1 {P : List Value → Prop} (h : ∀ a0, P [a0]) : ∀ us : List Value, us.length = 1 → P us
  | [a0], _ => h a0
theorem el2 {P : List Value → Prop} (h : ∀ a0 a1, P [a0, a1]) : ∀ us : List Value, us.length = 2 → P us
  | [a0, a1], _ => h a0 a1
theorem el3 {P : List Value → Prop} (h : ∀ a0 a1 a2, P [a0, a1, a2]) : ∀ us : List Value, us.length = 3 → P us
  | [a0, a1, a2], _ => h a0 a1 a2
theorem el4 {P : List Value → Prop} (h : ∀ a0 a1 a2 a3, P [a0, a1, a2, a3]) : ∀ us : List Value, us.length = 4 → P us
  | [a0, a1, a2, a3], _ => h a0 a1 a2 a3
theorem el5 {P : List Value → Prop} (h : ∀ a0 a1 a2 a3 a4, P [a0, a1, a2, a3, a4]) : ∀ us : List Value, us.length = 5 → P us
  | [a0, a1, a2, a3, a4], _ => h a0 a1 a2 a3 a4
theorem txt_mk {K : PySem.W.Frag} {h : Heap} {mg : Str → Option Value} (X : K.In h) (G : h.Ns mainGlobals mg)
    {C_NoRoom : Addr}
    {C_NoRight : Addr}
    {C_NotMapped : Addr}
    {C_Taken : Addr}
    {C_OutOfBank : Addr}
    {C_NoBank : Addr}
    {C_NoTask : Addr}
    {C_BadRights : Addr}
    {C_OutOfRoom : Addr}
    {C_NoShape : Addr}
    {C_Shape : Addr}
    {C_Rooms : Addr}
    {C_House : Addr}
    {C_Stretches : Addr}
    {t_READ : Tok}
    {t_WRITE : Tok}
    {t_MOST_RIGHTS : Tok}
    {t_MOST_IN_STRETCH : Tok}
    {f_0 : Addr} {od_0 an_0 : Option Addr} {sl_0 : Array (Option Value)} {oc_0 kV_0 dc_0 pm_0 cd_0 ct_0 : Value}
    {f_1 : Addr} {od_1 an_1 : Option Addr} {sl_1 : Array (Option Value)} {oc_1 kV_1 dc_1 pm_1 cd_1 ct_1 : Value}
    {f_2 : Addr} {od_2 an_2 : Option Addr} {sl_2 : Array (Option Value)} {oc_2 kV_2 dc_2 pm_2 cd_2 ct_2 : Value}
    {f_3 : Addr} {od_3 an_3 : Option Addr} {sl_3 : Array (Option Value)} {oc_3 kV_3 dc_3 pm_3 cd_3 ct_3 : Value}
    {f_4 : Addr} {od_4 an_4 : Option Addr} {sl_4 : Array (Option Value)} {oc_4 kV_4 dc_4 pm_4 cd_4 ct_4 : Value}
    {f_5 : Addr} {od_5 an_5 : Option Addr} {sl_5 : Array (Option Value)} {oc_5 kV_5 dc_5 pm_5 cd_5 ct_5 : Value}
    {f_6 : Addr} {od_6 an_6 : Option Addr} {sl_6 : Array (Option Value)} {oc_6 kV_6 dc_6 pm_6 cd_6 ct_6 : Value}
    {f_7 : Addr} {od_7 an_7 : Option Addr} {sl_7 : Array (Option Value)} {oc_7 kV_7 dc_7 pm_7 cd_7 ct_7 : Value}
    {f_8 : Addr} {od_8 an_8 : Option Addr} {sl_8 : Array (Option Value)} {oc_8 kV_8 dc_8 pm_8 cd_8 ct_8 : Value}
    {f_9 : Addr} {od_9 an_9 : Option Addr} {sl_9 : Array (Option Value)} {oc_9 kV_9 dc_9 pm_9 cd_9 ct_9 : Value}
    {f_10 : Addr} {od_10 an_10 : Option Addr} {sl_10 : Array (Option Value)} {oc_10 kV_10 dc_10 pm_10 cd_10 ct_10 : Value}
    {f_11 : Addr} {od_11 an_11 : Option Addr} {sl_11 : Array (Option Value)} {oc_11 kV_11 dc_11 pm_11 cd_11 ct_11 : Value}
    {f_12 : Addr} {od_12 an_12 : Option Addr} {sl_12 : Array (Option Value)} {oc_12 kV_12 dc_12 pm_12 cd_12 ct_12 : Value}
    {f_13 : Addr} {od_13 an_13 : Option Addr} {sl_13 : Array (Option Value)} {oc_13 kV_13 dc_13 pm_13 cd_13 ct_13 : Value}
    {f_14 : Addr} {od_14 an_14 : Option Addr} {sl_14 : Array (Option Value)} {oc_14 kV_14 dc_14 pm_14 cd_14 ct_14 : Value}
    {f_15 : Addr} {od_15 an_15 : Option Addr} {sl_15 : Array (Option Value)} {oc_15 kV_15 dc_15 pm_15 cd_15 ct_15 : Value}
    {f_16 : Addr} {od_16 an_16 : Option Addr} {sl_16 : Array (Option Value)} {oc_16 kV_16 dc_16 pm_16 cd_16 ct_16 : Value}
    {f_17 : Addr} {od_17 an_17 : Option Addr} {sl_17 : Array (Option Value)} {oc_17 kV_17 dc_17 pm_17 cd_17 ct_17 : Value}
    {f_18 tu_18 : Addr} {od_18 an_18 ud_18 : Option Addr} {sl_18 us_18 : Array (Option Value)} {oc_18 kV_18 dc_18 pm_18 cd_18 ct_18 uo_18 : Value} {un_18 : Nat}
    {f_19 : Addr} {od_19 an_19 : Option Addr} {sl_19 : Array (Option Value)} {oc_19 kV_19 dc_19 pm_19 cd_19 ct_19 : Value}
    {f_20 : Addr} {od_20 an_20 : Option Addr} {sl_20 : Array (Option Value)} {oc_20 kV_20 dc_20 pm_20 cd_20 ct_20 : Value}
    {f_21 : Addr} {od_21 an_21 : Option Addr} {sl_21 : Array (Option Value)} {oc_21 kV_21 dc_21 pm_21 cd_21 ct_21 : Value}
    {f_22 : Addr} {od_22 an_22 : Option Addr} {sl_22 : Array (Option Value)} {oc_22 kV_22 dc_22 pm_22 cd_22 ct_22 : Value}
    {f_23 : Addr} {od_23 an_23 : Option Addr} {sl_23 : Array (Option Value)} {oc_23 kV_23 dc_23 pm_23 cd_23 ct_23 : Value}
    {f_24 : Addr} {od_24 an_24 : Option Addr} {sl_24 : Array (Option Value)} {oc_24 kV_24 dc_24 pm_24 cd_24 ct_24 : Value}
    {f_25 : Addr} {od_25 an_25 : Option Addr} {sl_25 : Array (Option Value)} {oc_25 kV_25 dc_25 pm_25 cd_25 ct_25 : Value}
    {f_26 : Addr} {od_26 an_26 : Option Addr} {sl_26 : Array (Option Value)} {oc_26 kV_26 dc_26 pm_26 cd_26 ct_26 : Value}
    {f_27 : Addr} {od_27 an_27 : Option Addr} {sl_27 : Array (Option Value)} {oc_27 kV_27 dc_27 pm_27 cd_27 ct_27 : Value}
    {f_28 : Addr} {od_28 an_28 : Option Addr} {sl_28 : Array (Option Value)} {oc_28 kV_28 dc_28 pm_28 cd_28 ct_28 : Value}
    {f_29 tu_29 : Addr} {od_29 an_29 ud_29 : Option Addr} {sl_29 us_29 : Array (Option Value)} {oc_29 kV_29 dc_29 pm_29 cd_29 ct_29 uo_29 : Value} {un_29 : Nat} {td1_House_lay : Tok}
    {f_30 : Addr} {od_30 an_30 : Option Addr} {sl_30 : Array (Option Value)} {oc_30 kV_30 dc_30 pm_30 cd_30 ct_30 : Value}
    {f_31 : Addr} {od_31 an_31 : Option Addr} {sl_31 : Array (Option Value)} {oc_31 kV_31 dc_31 pm_31 cd_31 ct_31 : Value}
    {f_32 : Addr} {od_32 an_32 : Option Addr} {sl_32 : Array (Option Value)} {oc_32 kV_32 dc_32 pm_32 cd_32 ct_32 : Value}
    {f_33 : Addr} {od_33 an_33 : Option Addr} {sl_33 : Array (Option Value)} {oc_33 kV_33 dc_33 pm_33 cd_33 ct_33 : Value}
    {f_34 : Addr} {od_34 an_34 : Option Addr} {sl_34 : Array (Option Value)} {oc_34 kV_34 dc_34 pm_34 cd_34 ct_34 : Value}
    {f_35 : Addr} {od_35 an_35 : Option Addr} {sl_35 : Array (Option Value)} {oc_35 kV_35 dc_35 pm_35 cd_35 ct_35 : Value}
    {f_36 : Addr} {od_36 an_36 : Option Addr} {sl_36 : Array (Option Value)} {oc_36 kV_36 dc_36 pm_36 cd_36 ct_36 : Value}
    {f_37 : Addr} {od_37 an_37 : Option Addr} {sl_37 : Array (Option Value)} {oc_37 kV_37 dc_37 pm_37 cd_37 ct_37 : Value}
    {f_38 : Addr} {od_38 an_38 : Option Addr} {sl_38 : Array (Option Value)} {oc_38 kV_38 dc_38 pm_38 cd_38 ct_38 : Value}
    {f_39 : Addr} {od_39 an_39 : Option Addr} {sl_39 : Array (Option Value)} {oc_39 kV_39 dc_39 pm_39 cd_39 ct_39 : Value}
    {f_40 tu_40 : Addr} {od_40 an_40 ud_40 : Option Addr} {sl_40 us_40 : Array (Option Value)} {oc_40 kV_40 dc_40 pm_40 cd_40 ct_40 uo_40 : Value} {un_40 : Nat} {td1_Rooms_lay : Tok}
    {f_41 : Addr} {od_41 an_41 : Option Addr} {sl_41 : Array (Option Value)} {oc_41 kV_41 dc_41 pm_41 cd_41 ct_41 : Value}
    {f_42 : Addr} {od_42 an_42 : Option Addr} {sl_42 : Array (Option Value)} {oc_42 kV_42 dc_42 pm_42 cd_42 ct_42 : Value}
    {f_43 : Addr} {od_43 an_43 : Option Addr} {sl_43 : Array (Option Value)} {oc_43 kV_43 dc_43 pm_43 cd_43 ct_43 : Value}
    {f_44 : Addr} {od_44 an_44 : Option Addr} {sl_44 : Array (Option Value)} {oc_44 kV_44 dc_44 pm_44 cd_44 ct_44 : Value}
    {f_45 : Addr} {od_45 an_45 : Option Addr} {sl_45 : Array (Option Value)} {oc_45 kV_45 dc_45 pm_45 cd_45 ct_45 : Value}
    {f_46 : Addr} {od_46 an_46 : Option Addr} {sl_46 : Array (Option Value)} {oc_46 kV_46 dc_46 pm_46 cd_46 ct_46 : Value}
    {f_47 : Addr} {od_47 an_47 : Option Addr} {sl_47 : Array (Option Value)} {oc_47 kV_47 dc_47 pm_47 cd_47 ct_47 : Value}
    {f_48 : Addr} {od_48 an_48 : Option Addr} {sl_48 : Array (Option Value)} {oc_48 kV_48 dc_48 pm_48 cd_48 ct_48 : Value}
    {f_49 : Addr} {od_49 an_49 : Option Addr} {sl_49 : Array (Option Value)} {oc_49 kV_49 dc_49 pm_49 cd_49 ct_49 : Value}
    {f_50 : Addr} {od_50 an_50 : Option Addr} {sl_50 : Array (Option Value)} {oc_50 kV_50 dc_50 pm_50 cd_50 ct_50 : Value}
    {f_51 : Addr} {od_51 an_51 : Option Addr} {sl_51 : Array (Option Value)} {oc_51 kV_51 dc_51 pm_51 cd_51 ct_51 : Value}
    {f_52 : Addr} {od_52 an_52 : Option Addr} {sl_52 : Array (Option Value)} {oc_52 kV_52 dc_52 pm_52 cd_52 ct_52 : Value}
    {f_53 : Addr} {od_53 an_53 : Option Addr} {sl_53 : Array (Option Value)} {oc_53 kV_53 dc_53 pm_53 cd_53 ct_53 : Value}
    {f_54 : Addr} {od_54 an_54 : Option Addr} {sl_54 : Array (Option Value)} {oc_54 kV_54 dc_54 pm_54 cd_54 ct_54 : Value}
    {f_55 : Addr} {od_55 an_55 : Option Addr} {sl_55 : Array (Option Value)} {oc_55 kV_55 dc_55 pm_55 cd_55 ct_55 : Value}
    {f_56 : Addr} {od_56 an_56 : Option Addr} {sl_56 : Array (Option Value)} {oc_56 kV_56 dc_56 pm_56 cd_56 ct_56 : Value}
    {f_57 : Addr} {od_57 an_57 : Option Addr} {sl_57 : Array (Option Value)} {oc_57 kV_57 dc_57 pm_57 cd_57 ct_57 : Value}
    {f_58 : Addr} {od_58 an_58 : Option Addr} {sl_58 : Array (Option Value)} {oc_58 kV_58 dc_58 pm_58 cd_58 ct_58 : Value}
    (a_NoRoom : PySem.W.nsIn K mainGlobals "NoRoom" = some (some (.ref C_NoRoom)))
    (a_NoRight : PySem.W.nsIn K mainGlobals "NoRight" = some (some (.ref C_NoRight)))
    (a_NotMapped : PySem.W.nsIn K mainGlobals "NotMapped" = some (some (.ref C_NotMapped)))
    (a_Taken : PySem.W.nsIn K mainGlobals "Taken" = some (some (.ref C_Taken)))
    (a_OutOfBank : PySem.W.nsIn K mainGlobals "OutOfBank" = some (some (.ref C_OutOfBank)))
    (a_NoBank : PySem.W.nsIn K mainGlobals "NoBank" = some (some (.ref C_NoBank)))
    (a_NoTask : PySem.W.nsIn K mainGlobals "NoTask" = some (some (.ref C_NoTask)))
    (a_BadRights : PySem.W.nsIn K mainGlobals "BadRights" = some (some (.ref C_BadRights)))
    (a_OutOfRoom : PySem.W.nsIn K mainGlobals "OutOfRoom" = some (some (.ref C_OutOfRoom)))
    (a_NoShape : PySem.W.nsIn K mainGlobals "NoShape" = some (some (.ref C_NoShape)))
    (a_Shape : PySem.W.nsIn K mainGlobals "Shape" = some (some (.ref C_Shape)))
    (a_Rooms : PySem.W.nsIn K mainGlobals "Rooms" = some (some (.ref C_Rooms)))
    (a_House : PySem.W.nsIn K mainGlobals "House" = some (some (.ref C_House)))
    (a_Stretches : PySem.W.nsIn K mainGlobals "Stretches" = some (some (.ref C_Stretches)))
    (zb_bool : PySem.W.nsIn K mainGlobals "bool" = some none)
    (zb_int : PySem.W.nsIn K mainGlobals "int" = some none)
    (zb_isinstance : PySem.W.nsIn K mainGlobals "isinstance" = some none)
    (zb_len : PySem.W.nsIn K mainGlobals "len" = some none)
    (zb_list : PySem.W.nsIn K mainGlobals "list" = some none)
    (zb_max : PySem.W.nsIn K mainGlobals "max" = some none)
    (zb_min : PySem.W.nsIn K mainGlobals "min" = some none)
    (zb_range : PySem.W.nsIn K mainGlobals "range" = some none)
    (zb_tuple : PySem.W.nsIn K mainGlobals "tuple" = some none)
    (zc_READ : PySem.W.nsIn K mainGlobals "READ" = some (some (.int 1 t_READ)))
    (zc_WRITE : PySem.W.nsIn K mainGlobals "WRITE" = some (some (.int 2 t_WRITE)))
    (zc_MOST_RIGHTS : PySem.W.nsIn K mainGlobals "MOST_RIGHTS" = some (some (.int 3 t_MOST_RIGHTS)))
    (zc_MOST_IN_STRETCH : PySem.W.nsIn K mainGlobals "MOST_IN_STRETCH" = some (some (.int 64 t_MOST_IN_STRETCH)))
    (a_0_ : PySem.W.nsIn K mainGlobals "is_whole" = some (some (.ref f_0)))
    (l_0_ : K.lookup f_0 = some ⟨oc_0, od_0, .func (PySem.W.fnOf "is_whole" "is_whole" (defArgs s_is_whole) (defBody s_is_whole) (defScope s_is_whole) .none kV_0 dc_0 pm_0 an_0 cd_0 ct_0), sl_0⟩)
    (c_0_ : PySem.W.codeIn K cd_0 "is_whole" = true)
    (k_0_ : PySem.W.keepIn K (.ref f_0) = true)
    (a_1_ : PySem.W.nsIn K mainGlobals "is_within" = some (some (.ref f_1)))
    (l_1_ : K.lookup f_1 = some ⟨oc_1, od_1, .func (PySem.W.fnOf "is_within" "is_within" (defArgs s_is_within) (defBody s_is_within) (defScope s_is_within) .none kV_1 dc_1 pm_1 an_1 cd_1 ct_1), sl_1⟩)
    (c_1_ : PySem.W.codeIn K cd_1 "is_within" = true)
    (k_1_ : PySem.W.keepIn K (.ref f_1) = true)
    (a_2_ : PySem.W.nsIn K mainGlobals "power_of_two" = some (some (.ref f_2)))
    (l_2_ : K.lookup f_2 = some ⟨oc_2, od_2, .func (PySem.W.fnOf "power_of_two" "power_of_two" (defArgs s_power_of_two) (defBody s_power_of_two) (defScope s_power_of_two) .none kV_2 dc_2 pm_2 an_2 cd_2 ct_2), sl_2⟩)
    (c_2_ : PySem.W.codeIn K cd_2 "power_of_two" = true)
    (k_2_ : PySem.W.keepIn K (.ref f_2) = true)
    (a_3_ : PySem.W.nsIn K mainGlobals "check_measures" = some (some (.ref f_3)))
    (l_3_ : K.lookup f_3 = some ⟨oc_3, od_3, .func (PySem.W.fnOf "check_measures" "check_measures" (defArgs s_check_measures) (defBody s_check_measures) (defScope s_check_measures) .none kV_3 dc_3 pm_3 an_3 cd_3 ct_3), sl_3⟩)
    (c_3_ : PySem.W.codeIn K cd_3 "check_measures" = true)
    (k_3_ : PySem.W.keepIn K (.ref f_3) = true)
    (a_4_ : PySem.W.nsIn K mainGlobals "check_rights" = some (some (.ref f_4)))
    (l_4_ : K.lookup f_4 = some ⟨oc_4, od_4, .func (PySem.W.fnOf "check_rights" "check_rights" (defArgs s_check_rights) (defBody s_check_rights) (defScope s_check_rights) .none kV_4 dc_4 pm_4 an_4 cd_4 ct_4), sl_4⟩)
    (c_4_ : PySem.W.codeIn K cd_4 "check_rights" = true)
    (k_4_ : PySem.W.keepIn K (.ref f_4) = true)
    (a_5_ : PySem.W.nsIn K mainGlobals "end_of" = some (some (.ref f_5)))
    (l_5_ : K.lookup f_5 = some ⟨oc_5, od_5, .func (PySem.W.fnOf "end_of" "end_of" (defArgs s_end_of) (defBody s_end_of) (defScope s_end_of) .none kV_5 dc_5 pm_5 an_5 cd_5 ct_5), sl_5⟩)
    (c_5_ : PySem.W.codeIn K cd_5 "end_of" = true)
    (k_5_ : PySem.W.keepIn K (.ref f_5) = true)
    (a_6_ : PySem.W.nsIn K mainGlobals "tie_from" = some (some (.ref f_6)))
    (l_6_ : K.lookup f_6 = some ⟨oc_6, od_6, .func (PySem.W.fnOf "tie_from" "tie_from" (defArgs s_tie_from) (defBody s_tie_from) (defScope s_tie_from) .none kV_6 dc_6 pm_6 an_6 cd_6 ct_6), sl_6⟩)
    (c_6_ : PySem.W.codeIn K cd_6 "tie_from" = true)
    (k_6_ : PySem.W.keepIn K (.ref f_6) = true)
    (a_7_ : PySem.W.nsIn K mainGlobals "part_of" = some (some (.ref f_7)))
    (l_7_ : K.lookup f_7 = some ⟨oc_7, od_7, .func (PySem.W.fnOf "part_of" "part_of" (defArgs s_part_of) (defBody s_part_of) (defScope s_part_of) .none kV_7 dc_7 pm_7 an_7 cd_7 ct_7), sl_7⟩)
    (c_7_ : PySem.W.codeIn K cd_7 "part_of" = true)
    (k_7_ : PySem.W.keepIn K (.ref f_7) = true)
    (a_8_ : PySem.W.nsIn K mainGlobals "goes_on" = some (some (.ref f_8)))
    (l_8_ : K.lookup f_8 = some ⟨oc_8, od_8, .func (PySem.W.fnOf "goes_on" "goes_on" (defArgs s_goes_on) (defBody s_goes_on) (defScope s_goes_on) .none kV_8 dc_8 pm_8 an_8 cd_8 ct_8), sl_8⟩)
    (c_8_ : PySem.W.codeIn K cd_8 "goes_on" = true)
    (k_8_ : PySem.W.keepIn K (.ref f_8) = true)
    (a_9_ : PySem.W.nsIn K mainGlobals "joined" = some (some (.ref f_9)))
    (l_9_ : K.lookup f_9 = some ⟨oc_9, od_9, .func (PySem.W.fnOf "joined" "joined" (defArgs s_joined) (defBody s_joined) (defScope s_joined) .none kV_9 dc_9 pm_9 an_9 cd_9 ct_9), sl_9⟩)
    (c_9_ : PySem.W.codeIn K cd_9 "joined" = true)
    (k_9_ : PySem.W.keepIn K (.ref f_9) = true)
    (a_10_ : PySem.W.nsIn K mainGlobals "least_free" = some (some (.ref f_10)))
    (l_10_ : K.lookup f_10 = some ⟨oc_10, od_10, .func (PySem.W.fnOf "least_free" "least_free" (defArgs s_least_free) (defBody s_least_free) (defScope s_least_free) .none kV_10 dc_10 pm_10 an_10 cd_10 ct_10), sl_10⟩)
    (c_10_ : PySem.W.codeIn K cd_10 "least_free" = true)
    (k_10_ : PySem.W.keepIn K (.ref f_10) = true)
    (a_11_ : PySem.W.nsIn K mainGlobals "_law_cell_at" = some (some (.ref f_11)))
    (l_11_ : K.lookup f_11 = some ⟨oc_11, od_11, .func (PySem.W.fnOf "_law_cell_at" "_law_cell_at" (defArgs s_l_cell_at) (defBody s_l_cell_at) (defScope s_l_cell_at) .none kV_11 dc_11 pm_11 an_11 cd_11 ct_11), sl_11⟩)
    (c_11_ : PySem.W.codeIn K cd_11 "_law_cell_at" = true)
    (k_11_ : PySem.W.keepIn K (.ref f_11) = true)
    (a_12_ : PySem.W.nsIn K mainGlobals "_law_part" = some (some (.ref f_12)))
    (l_12_ : K.lookup f_12 = some ⟨oc_12, od_12, .func (PySem.W.fnOf "_law_part" "_law_part" (defArgs s_l_part) (defBody s_l_part) (defScope s_l_part) .none kV_12 dc_12 pm_12 an_12 cd_12 ct_12), sl_12⟩)
    (c_12_ : PySem.W.codeIn K cd_12 "_law_part" = true)
    (k_12_ : PySem.W.keepIn K (.ref f_12) = true)
    (a_13_ : PySem.W.nsIn K mainGlobals "_law_whole" = some (some (.ref f_13)))
    (l_13_ : K.lookup f_13 = some ⟨oc_13, od_13, .func (PySem.W.fnOf "_law_whole" "_law_whole" (defArgs s_l_whole) (defBody s_l_whole) (defScope s_l_whole) .none kV_13 dc_13 pm_13 an_13 cd_13 ct_13), sl_13⟩)
    (c_13_ : PySem.W.codeIn K cd_13 "_law_whole" = true)
    (k_13_ : PySem.W.keepIn K (.ref f_13) = true)
    (a_14_ : PySem.W.nsIn K mainGlobals "_law_seen" = some (some (.ref f_14)))
    (l_14_ : K.lookup f_14 = some ⟨oc_14, od_14, .func (PySem.W.fnOf "_law_seen" "_law_seen" (defArgs s_l_seen) (defBody s_l_seen) (defScope s_l_seen) .none kV_14 dc_14 pm_14 an_14 cd_14 ct_14), sl_14⟩)
    (c_14_ : PySem.W.codeIn K cd_14 "_law_seen" = true)
    (k_14_ : PySem.W.keepIn K (.ref f_14) = true)
    (a_15_ : PySem.W.nsIn K mainGlobals "_law_access" = some (some (.ref f_15)))
    (l_15_ : K.lookup f_15 = some ⟨oc_15, od_15, .func (PySem.W.fnOf "_law_access" "_law_access" (defArgs s_l_access) (defBody s_l_access) (defScope s_l_access) .none kV_15 dc_15 pm_15 an_15 cd_15 ct_15), sl_15⟩)
    (c_15_ : PySem.W.codeIn K cd_15 "_law_access" = true)
    (k_15_ : PySem.W.keepIn K (.ref f_15) = true)
    (a_16_ : PySem.W.nsIn K mainGlobals "_law_wide" = some (some (.ref f_16)))
    (l_16_ : K.lookup f_16 = some ⟨oc_16, od_16, .func (PySem.W.fnOf "_law_wide" "_law_wide" (defArgs s_l_wide) (defBody s_l_wide) (defScope s_l_wide) .none kV_16 dc_16 pm_16 an_16 cd_16 ct_16), sl_16⟩)
    (c_16_ : PySem.W.codeIn K cd_16 "_law_wide" = true)
    (k_16_ : PySem.W.keepIn K (.ref f_16) = true)
    (pg_Stretches : PySem.W.plainGet K C_Stretches Str.empty = true)
    (hd_Stretches : PySem.W.hasDictIn K C_Stretches = true)
    (po_Stretches : PySem.W.plainOver K C_Stretches = true)
    (sa_Stretches : PySem.W.findIn K (.ref C_Stretches) "__setattr__" = some (some (.builtin "object.__setattr__")))
    (zn_Stretches_runs : PySem.W.findIn K (.ref C_Stretches) "runs" = some none)
    (mk_Stretches : PySem.W.makesIn K C_Stretches = true)
    (kc_Stretches : PySem.W.keepIn K (.ref C_Stretches) = true)
    (a_17_ : PySem.W.findIn K (.ref C_Stretches) "__init__" = some (some (.ref f_17)))
    (i_17_ : PySem.W.isFn K (.ref f_17) = true)
    (l_17_ : K.lookup f_17 = some ⟨oc_17, od_17, .func (PySem.W.fnOf "__init__" "Stretches.__init__" (defArgs s_Stretches_init) (defBody s_Stretches_init) (defScope s_Stretches_init) .none kV_17 dc_17 pm_17 an_17 cd_17 ct_17), sl_17⟩)
    (c_17_ : PySem.W.codeIn K cd_17 "Stretches.__init__" = true)
    (k_17_ : PySem.W.keepIn K (.ref f_17) = true)
    (a_18_ : PySem.W.findIn K (.ref C_Stretches) "put" = some (some (.ref f_18)))
    (i_18_ : PySem.W.isFn K (.ref f_18) = true)
    (l_18_ : K.lookup f_18 = some ⟨oc_18, od_18, .func (PySem.W.fnOf "put" "Stretches.put" (defArgs s_Stretches_put) (defBody s_Stretches_put) (defScope s_Stretches_put) (.ref tu_18) kV_18 dc_18 pm_18 an_18 cd_18 ct_18), sl_18⟩)
    (u_18_ : K.lookup tu_18 = some ⟨uo_18, ud_18, .seq #[.none] un_18, us_18⟩)
    (c_18_ : PySem.W.codeIn K cd_18 "Stretches.put" = true)
    (k_18_ : PySem.W.keepIn K (.ref f_18) = true)
    (a_19_ : PySem.W.findIn K (.ref C_Stretches) "rights_at" = some (some (.ref f_19)))
    (i_19_ : PySem.W.isFn K (.ref f_19) = true)
    (l_19_ : K.lookup f_19 = some ⟨oc_19, od_19, .func (PySem.W.fnOf "rights_at" "Stretches.rights_at" (defArgs s_Stretches_rights_at) (defBody s_Stretches_rights_at) (defScope s_Stretches_rights_at) .none kV_19 dc_19 pm_19 an_19 cd_19 ct_19), sl_19⟩)
    (c_19_ : PySem.W.codeIn K cd_19 "Stretches.rights_at" = true)
    (k_19_ : PySem.W.keepIn K (.ref f_19) = true)
    (a_20_ : PySem.W.findIn K (.ref C_Stretches) "tie_at" = some (some (.ref f_20)))
    (i_20_ : PySem.W.isFn K (.ref f_20) = true)
    (l_20_ : K.lookup f_20 = some ⟨oc_20, od_20, .func (PySem.W.fnOf "tie_at" "Stretches.tie_at" (defArgs s_Stretches_tie_at) (defBody s_Stretches_tie_at) (defScope s_Stretches_tie_at) .none kV_20 dc_20 pm_20 an_20 cd_20 ct_20), sl_20⟩)
    (c_20_ : PySem.W.codeIn K cd_20 "Stretches.tie_at" = true)
    (k_20_ : PySem.W.keepIn K (.ref f_20) = true)
    (a_21_ : PySem.W.findIn K (.ref C_Stretches) "is_free" = some (some (.ref f_21)))
    (i_21_ : PySem.W.isFn K (.ref f_21) = true)
    (l_21_ : K.lookup f_21 = some ⟨oc_21, od_21, .func (PySem.W.fnOf "is_free" "Stretches.is_free" (defArgs s_Stretches_is_free) (defBody s_Stretches_is_free) (defScope s_Stretches_is_free) .none kV_21 dc_21 pm_21 an_21 cd_21 ct_21), sl_21⟩)
    (c_21_ : PySem.W.codeIn K cd_21 "Stretches.is_free" = true)
    (k_21_ : PySem.W.keepIn K (.ref f_21) = true)
    (a_22_ : PySem.W.findIn K (.ref C_Stretches) "place_behind" = some (some (.ref f_22)))
    (i_22_ : PySem.W.isFn K (.ref f_22) = true)
    (l_22_ : K.lookup f_22 = some ⟨oc_22, od_22, .func (PySem.W.fnOf "place_behind" "Stretches.place_behind" (defArgs s_Stretches_place_behind) (defBody s_Stretches_place_behind) (defScope s_Stretches_place_behind) .none kV_22 dc_22 pm_22 an_22 cd_22 ct_22), sl_22⟩)
    (c_22_ : PySem.W.codeIn K cd_22 "Stretches.place_behind" = true)
    (k_22_ : PySem.W.keepIn K (.ref f_22) = true)
    (a_23_ : PySem.W.findIn K (.ref C_Stretches) "parts_amid" = some (some (.ref f_23)))
    (i_23_ : PySem.W.isFn K (.ref f_23) = true)
    (l_23_ : K.lookup f_23 = some ⟨oc_23, od_23, .func (PySem.W.fnOf "parts_amid" "Stretches.parts_amid" (defArgs s_Stretches_parts_amid) (defBody s_Stretches_parts_amid) (defScope s_Stretches_parts_amid) .none kV_23 dc_23 pm_23 an_23 cd_23 ct_23), sl_23⟩)
    (c_23_ : PySem.W.codeIn K cd_23 "Stretches.parts_amid" = true)
    (k_23_ : PySem.W.keepIn K (.ref f_23) = true)
    (a_24_ : PySem.W.findIn K (.ref C_Stretches) "part_at" = some (some (.ref f_24)))
    (i_24_ : PySem.W.isFn K (.ref f_24) = true)
    (l_24_ : K.lookup f_24 = some ⟨oc_24, od_24, .func (PySem.W.fnOf "part_at" "Stretches.part_at" (defArgs s_Stretches_part_at) (defBody s_Stretches_part_at) (defScope s_Stretches_part_at) .none kV_24 dc_24 pm_24 an_24 cd_24 ct_24), sl_24⟩)
    (c_24_ : PySem.W.codeIn K cd_24 "Stretches.part_at" = true)
    (k_24_ : PySem.W.keepIn K (.ref f_24) = true)
    (a_25_ : PySem.W.findIn K (.ref C_Stretches) "lay_amid" = some (some (.ref f_25)))
    (i_25_ : PySem.W.isFn K (.ref f_25) = true)
    (l_25_ : K.lookup f_25 = some ⟨oc_25, od_25, .func (PySem.W.fnOf "lay_amid" "Stretches.lay_amid" (defArgs s_Stretches_lay_amid) (defBody s_Stretches_lay_amid) (defScope s_Stretches_lay_amid) .none kV_25 dc_25 pm_25 an_25 cd_25 ct_25), sl_25⟩)
    (c_25_ : PySem.W.codeIn K cd_25 "Stretches.lay_amid" = true)
    (k_25_ : PySem.W.keepIn K (.ref f_25) = true)
    (a_26_ : PySem.W.findIn K (.ref C_Stretches) "told" = some (some (.ref f_26)))
    (i_26_ : PySem.W.isFn K (.ref f_26) = true)
    (l_26_ : K.lookup f_26 = some ⟨oc_26, od_26, .func (PySem.W.fnOf "told" "Stretches.told" (defArgs s_Stretches_told) (defBody s_Stretches_told) (defScope s_Stretches_told) .none kV_26 dc_26 pm_26 an_26 cd_26 ct_26), sl_26⟩)
    (c_26_ : PySem.W.codeIn K cd_26 "Stretches.told" = true)
    (k_26_ : PySem.W.keepIn K (.ref f_26) = true)
    (pg_House : PySem.W.plainGet K C_House Str.empty = true)
    (hd_House : PySem.W.hasDictIn K C_House = true)
    (po_House : PySem.W.plainOver K C_House = true)
    (sa_House : PySem.W.findIn K (.ref C_House) "__setattr__" = some (some (.builtin "object.__setattr__")))
    (zn_House_shape : PySem.W.findIn K (.ref C_House) "shape" = some none)
    (zn_House_tasks : PySem.W.findIn K (.ref C_House) "tasks" = some none)
    (zn_House_banks : PySem.W.findIn K (.ref C_House) "banks" = some none)
    (mk_House : PySem.W.makesIn K C_House = true)
    (kc_House : PySem.W.keepIn K (.ref C_House) = true)
    (a_27_ : PySem.W.findIn K (.ref C_House) "__init__" = some (some (.ref f_27)))
    (i_27_ : PySem.W.isFn K (.ref f_27) = true)
    (l_27_ : K.lookup f_27 = some ⟨oc_27, od_27, .func (PySem.W.fnOf "__init__" "House.__init__" (defArgs s_House_init) (defBody s_House_init) (defScope s_House_init) .none kV_27 dc_27 pm_27 an_27 cd_27 ct_27), sl_27⟩)
    (c_27_ : PySem.W.codeIn K cd_27 "House.__init__" = true)
    (k_27_ : PySem.W.keepIn K (.ref f_27) = true)
    (a_28_ : PySem.W.findIn K (.ref C_House) "new_task" = some (some (.ref f_28)))
    (i_28_ : PySem.W.isFn K (.ref f_28) = true)
    (l_28_ : K.lookup f_28 = some ⟨oc_28, od_28, .func (PySem.W.fnOf "new_task" "House.new_task" (defArgs s_House_new_task) (defBody s_House_new_task) (defScope s_House_new_task) .none kV_28 dc_28 pm_28 an_28 cd_28 ct_28), sl_28⟩)
    (c_28_ : PySem.W.codeIn K cd_28 "House.new_task" = true)
    (k_28_ : PySem.W.keepIn K (.ref f_28) = true)
    (a_29_ : PySem.W.findIn K (.ref C_House) "lay" = some (some (.ref f_29)))
    (i_29_ : PySem.W.isFn K (.ref f_29) = true)
    (l_29_ : K.lookup f_29 = some ⟨oc_29, od_29, .func (PySem.W.fnOf "lay" "House.lay" (defArgs s_House_lay) (defBody s_House_lay) (defScope s_House_lay) (.ref tu_29) kV_29 dc_29 pm_29 an_29 cd_29 ct_29), sl_29⟩)
    (u_29_ : K.lookup tu_29 = some ⟨uo_29, ud_29, .seq #[.none, (.int 0 td1_House_lay)] un_29, us_29⟩)
    (c_29_ : PySem.W.codeIn K cd_29 "House.lay" = true)
    (k_29_ : PySem.W.keepIn K (.ref f_29) = true)
    (a_30_ : PySem.W.findIn K (.ref C_House) "asked" = some (some (.ref f_30)))
    (i_30_ : PySem.W.isFn K (.ref f_30) = true)
    (l_30_ : K.lookup f_30 = some ⟨oc_30, od_30, .func (PySem.W.fnOf "asked" "House.asked" (defArgs s_House_asked) (defBody s_House_asked) (defScope s_House_asked) .none kV_30 dc_30 pm_30 an_30 cd_30 ct_30), sl_30⟩)
    (c_30_ : PySem.W.codeIn K cd_30 "House.asked" = true)
    (k_30_ : PySem.W.keepIn K (.ref f_30) = true)
    (a_31_ : PySem.W.findIn K (.ref C_House) "tie_at" = some (some (.ref f_31)))
    (i_31_ : PySem.W.isFn K (.ref f_31) = true)
    (l_31_ : K.lookup f_31 = some ⟨oc_31, od_31, .func (PySem.W.fnOf "tie_at" "House.tie_at" (defArgs s_House_tie_at) (defBody s_House_tie_at) (defScope s_House_tie_at) .none kV_31 dc_31 pm_31 an_31 cd_31 ct_31), sl_31⟩)
    (c_31_ : PySem.W.codeIn K cd_31 "House.tie_at" = true)
    (k_31_ : PySem.W.keepIn K (.ref f_31) = true)
    (a_32_ : PySem.W.findIn K (.ref C_House) "stretches_of" = some (some (.ref f_32)))
    (i_32_ : PySem.W.isFn K (.ref f_32) = true)
    (l_32_ : K.lookup f_32 = some ⟨oc_32, od_32, .func (PySem.W.fnOf "stretches_of" "House.stretches_of" (defArgs s_House_stretches_of) (defBody s_House_stretches_of) (defScope s_House_stretches_of) .none kV_32 dc_32 pm_32 an_32 cd_32 ct_32), sl_32⟩)
    (c_32_ : PySem.W.codeIn K cd_32 "House.stretches_of" = true)
    (k_32_ : PySem.W.keepIn K (.ref f_32) = true)
    (a_33_ : PySem.W.findIn K (.ref C_House) "pages_of" = some (some (.ref f_33)))
    (i_33_ : PySem.W.isFn K (.ref f_33) = true)
    (l_33_ : K.lookup f_33 = some ⟨oc_33, od_33, .func (PySem.W.fnOf "pages_of" "House.pages_of" (defArgs s_House_pages_of) (defBody s_House_pages_of) (defScope s_House_pages_of) .none kV_33 dc_33 pm_33 an_33 cd_33 ct_33), sl_33⟩)
    (c_33_ : PySem.W.codeIn K cd_33 "House.pages_of" = true)
    (k_33_ : PySem.W.keepIn K (.ref f_33) = true)
    (a_34_ : PySem.W.findIn K (.ref C_House) "check_task" = some (some (.ref f_34)))
    (i_34_ : PySem.W.isFn K (.ref f_34) = true)
    (l_34_ : K.lookup f_34 = some ⟨oc_34, od_34, .func (PySem.W.fnOf "check_task" "House.check_task" (defArgs s_House_check_task) (defBody s_House_check_task) (defScope s_House_check_task) .none kV_34 dc_34 pm_34 an_34 cd_34 ct_34), sl_34⟩)
    (c_34_ : PySem.W.codeIn K cd_34 "House.check_task" = true)
    (k_34_ : PySem.W.keepIn K (.ref f_34) = true)
    (a_35_ : PySem.W.findIn K (.ref C_House) "check_bank" = some (some (.ref f_35)))
    (i_35_ : PySem.W.isFn K (.ref f_35) = true)
    (l_35_ : K.lookup f_35 = some ⟨oc_35, od_35, .func (PySem.W.fnOf "check_bank" "House.check_bank" (defArgs s_House_check_bank) (defBody s_House_check_bank) (defScope s_House_check_bank) .none kV_35 dc_35 pm_35 an_35 cd_35 ct_35), sl_35⟩)
    (c_35_ : PySem.W.codeIn K cd_35 "House.check_bank" = true)
    (k_35_ : PySem.W.keepIn K (.ref f_35) = true)
    (a_36_ : PySem.W.findIn K (.ref C_House) "check_stretch" = some (some (.ref f_36)))
    (i_36_ : PySem.W.isFn K (.ref f_36) = true)
    (l_36_ : K.lookup f_36 = some ⟨oc_36, od_36, .func (PySem.W.fnOf "check_stretch" "House.check_stretch" (defArgs s_House_check_stretch) (defBody s_House_check_stretch) (defScope s_House_check_stretch) .none kV_36 dc_36 pm_36 an_36 cd_36 ct_36), sl_36⟩)
    (c_36_ : PySem.W.codeIn K cd_36 "House.check_stretch" = true)
    (k_36_ : PySem.W.keepIn K (.ref f_36) = true)
    (a_37_ : PySem.W.findIn K (.ref C_House) "check_part_of_bank" = some (some (.ref f_37)))
    (i_37_ : PySem.W.isFn K (.ref f_37) = true)
    (l_37_ : K.lookup f_37 = some ⟨oc_37, od_37, .func (PySem.W.fnOf "check_part_of_bank" "House.check_part_of_bank" (defArgs s_House_check_part_of_bank) (defBody s_House_check_part_of_bank) (defScope s_House_check_part_of_bank) .none kV_37 dc_37 pm_37 an_37 cd_37 ct_37), sl_37⟩)
    (c_37_ : PySem.W.codeIn K cd_37 "House.check_part_of_bank" = true)
    (k_37_ : PySem.W.keepIn K (.ref f_37) = true)
    (pg_Rooms : PySem.W.plainGet K C_Rooms Str.empty = true)
    (hd_Rooms : PySem.W.hasDictIn K C_Rooms = true)
    (po_Rooms : PySem.W.plainOver K C_Rooms = true)
    (sa_Rooms : PySem.W.findIn K (.ref C_Rooms) "__setattr__" = some (some (.builtin "object.__setattr__")))
    (zn_Rooms_shape : PySem.W.findIn K (.ref C_Rooms) "shape" = some none)
    (zn_Rooms_most : PySem.W.findIn K (.ref C_Rooms) "most" = some none)
    (zn_Rooms_house : PySem.W.findIn K (.ref C_Rooms) "house" = some none)
    (zn_Rooms_sheets : PySem.W.findIn K (.ref C_Rooms) "sheets" = some none)
    (zn_Rooms_havers : PySem.W.findIn K (.ref C_Rooms) "havers" = some none)
    (zn_Rooms_made : PySem.W.findIn K (.ref C_Rooms) "made" = some none)
    (zn_Rooms_private : PySem.W.findIn K (.ref C_Rooms) "private" = some none)
    (zn_Rooms_banked : PySem.W.findIn K (.ref C_Rooms) "banked" = some none)
    (mk_Rooms : PySem.W.makesIn K C_Rooms = true)
    (kc_Rooms : PySem.W.keepIn K (.ref C_Rooms) = true)
    (a_38_ : PySem.W.findIn K (.ref C_Rooms) "__init__" = some (some (.ref f_38)))
    (i_38_ : PySem.W.isFn K (.ref f_38) = true)
    (l_38_ : K.lookup f_38 = some ⟨oc_38, od_38, .func (PySem.W.fnOf "__init__" "Rooms.__init__" (defArgs s_Rooms_init) (defBody s_Rooms_init) (defScope s_Rooms_init) .none kV_38 dc_38 pm_38 an_38 cd_38 ct_38), sl_38⟩)
    (c_38_ : PySem.W.codeIn K cd_38 "Rooms.__init__" = true)
    (k_38_ : PySem.W.keepIn K (.ref f_38) = true)
    (a_39_ : PySem.W.findIn K (.ref C_Rooms) "new_task" = some (some (.ref f_39)))
    (i_39_ : PySem.W.isFn K (.ref f_39) = true)
    (l_39_ : K.lookup f_39 = some ⟨oc_39, od_39, .func (PySem.W.fnOf "new_task" "Rooms.new_task" (defArgs s_Rooms_new_task) (defBody s_Rooms_new_task) (defScope s_Rooms_new_task) .none kV_39 dc_39 pm_39 an_39 cd_39 ct_39), sl_39⟩)
    (c_39_ : PySem.W.codeIn K cd_39 "Rooms.new_task" = true)
    (k_39_ : PySem.W.keepIn K (.ref f_39) = true)
    (a_40_ : PySem.W.findIn K (.ref C_Rooms) "lay" = some (some (.ref f_40)))
    (i_40_ : PySem.W.isFn K (.ref f_40) = true)
    (l_40_ : K.lookup f_40 = some ⟨oc_40, od_40, .func (PySem.W.fnOf "lay" "Rooms.lay" (defArgs s_Rooms_lay) (defBody s_Rooms_lay) (defScope s_Rooms_lay) (.ref tu_40) kV_40 dc_40 pm_40 an_40 cd_40 ct_40), sl_40⟩)
    (u_40_ : K.lookup tu_40 = some ⟨uo_40, ud_40, .seq #[.none, (.int 0 td1_Rooms_lay)] un_40, us_40⟩)
    (c_40_ : PySem.W.codeIn K cd_40 "Rooms.lay" = true)
    (k_40_ : PySem.W.keepIn K (.ref f_40) = true)
    (a_41_ : PySem.W.findIn K (.ref C_Rooms) "read" = some (some (.ref f_41)))
    (i_41_ : PySem.W.isFn K (.ref f_41) = true)
    (l_41_ : K.lookup f_41 = some ⟨oc_41, od_41, .func (PySem.W.fnOf "read" "Rooms.read" (defArgs s_Rooms_read) (defBody s_Rooms_read) (defScope s_Rooms_read) .none kV_41 dc_41 pm_41 an_41 cd_41 ct_41), sl_41⟩)
    (c_41_ : PySem.W.codeIn K cd_41 "Rooms.read" = true)
    (k_41_ : PySem.W.keepIn K (.ref f_41) = true)
    (a_42_ : PySem.W.findIn K (.ref C_Rooms) "write" = some (some (.ref f_42)))
    (i_42_ : PySem.W.isFn K (.ref f_42) = true)
    (l_42_ : K.lookup f_42 = some ⟨oc_42, od_42, .func (PySem.W.fnOf "write" "Rooms.write" (defArgs s_Rooms_write) (defBody s_Rooms_write) (defScope s_Rooms_write) .none kV_42 dc_42 pm_42 an_42 cd_42 ct_42), sl_42⟩)
    (c_42_ : PySem.W.codeIn K cd_42 "Rooms.write" = true)
    (k_42_ : PySem.W.keepIn K (.ref f_42) = true)
    (a_43_ : PySem.W.findIn K (.ref C_Rooms) "seen_by" = some (some (.ref f_43)))
    (i_43_ : PySem.W.isFn K (.ref f_43) = true)
    (l_43_ : K.lookup f_43 = some ⟨oc_43, od_43, .func (PySem.W.fnOf "seen_by" "Rooms.seen_by" (defArgs s_Rooms_seen_by) (defBody s_Rooms_seen_by) (defScope s_Rooms_seen_by) .none kV_43 dc_43 pm_43 an_43 cd_43 ct_43), sl_43⟩)
    (c_43_ : PySem.W.codeIn K cd_43 "Rooms.seen_by" = true)
    (k_43_ : PySem.W.keepIn K (.ref f_43) = true)
    (a_44_ : PySem.W.findIn K (.ref C_Rooms) "live_sheets" = some (some (.ref f_44)))
    (i_44_ : PySem.W.isFn K (.ref f_44) = true)
    (l_44_ : K.lookup f_44 = some ⟨oc_44, od_44, .func (PySem.W.fnOf "live_sheets" "Rooms.live_sheets" (defArgs s_Rooms_live_sheets) (defBody s_Rooms_live_sheets) (defScope s_Rooms_live_sheets) .none kV_44 dc_44 pm_44 an_44 cd_44 ct_44), sl_44⟩)
    (c_44_ : PySem.W.codeIn K cd_44 "Rooms.live_sheets" = true)
    (k_44_ : PySem.W.keepIn K (.ref f_44) = true)
    (a_45_ : PySem.W.findIn K (.ref C_Rooms) "shown" = some (some (.ref f_45)))
    (i_45_ : PySem.W.isFn K (.ref f_45) = true)
    (l_45_ : K.lookup f_45 = some ⟨oc_45, od_45, .func (PySem.W.fnOf "shown" "Rooms.shown" (defArgs s_Rooms_shown) (defBody s_Rooms_shown) (defScope s_Rooms_shown) .none kV_45 dc_45 pm_45 an_45 cd_45 ct_45), sl_45⟩)
    (c_45_ : PySem.W.codeIn K cd_45 "Rooms.shown" = true)
    (k_45_ : PySem.W.keepIn K (.ref f_45) = true)
    (a_46_ : PySem.W.findIn K (.ref C_Rooms) "noughts" = some (some (.ref f_46)))
    (i_46_ : PySem.W.isFn K (.ref f_46) = true)
    (l_46_ : K.lookup f_46 = some ⟨oc_46, od_46, .func (PySem.W.fnOf "noughts" "Rooms.noughts" (defArgs s_Rooms_noughts) (defBody s_Rooms_noughts) (defScope s_Rooms_noughts) .none kV_46 dc_46 pm_46 an_46 cd_46 ct_46), sl_46⟩)
    (c_46_ : PySem.W.codeIn K cd_46 "Rooms.noughts" = true)
    (k_46_ : PySem.W.keepIn K (.ref f_46) = true)
    (a_47_ : PySem.W.findIn K (.ref C_Rooms) "sheet_to_read" = some (some (.ref f_47)))
    (i_47_ : PySem.W.isFn K (.ref f_47) = true)
    (l_47_ : K.lookup f_47 = some ⟨oc_47, od_47, .func (PySem.W.fnOf "sheet_to_read" "Rooms.sheet_to_read" (defArgs s_Rooms_sheet_to_read) (defBody s_Rooms_sheet_to_read) (defScope s_Rooms_sheet_to_read) .none kV_47 dc_47 pm_47 an_47 cd_47 ct_47), sl_47⟩)
    (c_47_ : PySem.W.codeIn K cd_47 "Rooms.sheet_to_read" = true)
    (k_47_ : PySem.W.keepIn K (.ref f_47) = true)
    (a_48_ : PySem.W.findIn K (.ref C_Rooms) "sheet_to_write" = some (some (.ref f_48)))
    (i_48_ : PySem.W.isFn K (.ref f_48) = true)
    (l_48_ : K.lookup f_48 = some ⟨oc_48, od_48, .func (PySem.W.fnOf "sheet_to_write" "Rooms.sheet_to_write" (defArgs s_Rooms_sheet_to_write) (defBody s_Rooms_sheet_to_write) (defScope s_Rooms_sheet_to_write) .none kV_48 dc_48 pm_48 an_48 cd_48 ct_48), sl_48⟩)
    (c_48_ : PySem.W.codeIn K cd_48 "Rooms.sheet_to_write" = true)
    (k_48_ : PySem.W.keepIn K (.ref f_48) = true)
    (a_49_ : PySem.W.findIn K (.ref C_Rooms) "sheet_there" = some (some (.ref f_49)))
    (i_49_ : PySem.W.isFn K (.ref f_49) = true)
    (l_49_ : K.lookup f_49 = some ⟨oc_49, od_49, .func (PySem.W.fnOf "sheet_there" "Rooms.sheet_there" (defArgs s_Rooms_sheet_there) (defBody s_Rooms_sheet_there) (defScope s_Rooms_sheet_there) .none kV_49 dc_49 pm_49 an_49 cd_49 ct_49), sl_49⟩)
    (c_49_ : PySem.W.codeIn K cd_49 "Rooms.sheet_there" = true)
    (k_49_ : PySem.W.keepIn K (.ref f_49) = true)
    (a_50_ : PySem.W.findIn K (.ref C_Rooms) "new_sheet" = some (some (.ref f_50)))
    (i_50_ : PySem.W.isFn K (.ref f_50) = true)
    (l_50_ : K.lookup f_50 = some ⟨oc_50, od_50, .func (PySem.W.fnOf "new_sheet" "Rooms.new_sheet" (defArgs s_Rooms_new_sheet) (defBody s_Rooms_new_sheet) (defScope s_Rooms_new_sheet) .none kV_50 dc_50 pm_50 an_50 cd_50 ct_50), sl_50⟩)
    (c_50_ : PySem.W.codeIn K cd_50 "Rooms.new_sheet" = true)
    (k_50_ : PySem.W.keepIn K (.ref f_50) = true)
    (a_51_ : PySem.W.findIn K (.ref C_Rooms) "let_page_go" = some (some (.ref f_51)))
    (i_51_ : PySem.W.isFn K (.ref f_51) = true)
    (l_51_ : K.lookup f_51 = some ⟨oc_51, od_51, .func (PySem.W.fnOf "let_page_go" "Rooms.let_page_go" (defArgs s_Rooms_let_page_go) (defBody s_Rooms_let_page_go) (defScope s_Rooms_let_page_go) .none kV_51 dc_51 pm_51 an_51 cd_51 ct_51), sl_51⟩)
    (c_51_ : PySem.W.codeIn K cd_51 "Rooms.let_page_go" = true)
    (k_51_ : PySem.W.keepIn K (.ref f_51) = true)
    (pg_Shape : PySem.W.plainGet K C_Shape Str.empty = true)
    (hd_Shape : PySem.W.hasDictIn K C_Shape = true)
    (po_Shape : PySem.W.plainOver K C_Shape = true)
    (sa_Shape : PySem.W.findIn K (.ref C_Shape) "__setattr__" = some (some (.builtin "object.__setattr__")))
    (zn_Shape_levels : PySem.W.findIn K (.ref C_Shape) "levels" = some none)
    (zn_Shape_fan : PySem.W.findIn K (.ref C_Shape) "fan" = some none)
    (zn_Shape_grain : PySem.W.findIn K (.ref C_Shape) "grain" = some none)
    (zn_Shape_ways : PySem.W.findIn K (.ref C_Shape) "ways" = some none)
    (zn_Shape_boxes : PySem.W.findIn K (.ref C_Shape) "boxes" = some none)
    (zn_Shape_pages : PySem.W.findIn K (.ref C_Shape) "pages" = some none)
    (mk_Shape : PySem.W.makesIn K C_Shape = true)
    (kc_Shape : PySem.W.keepIn K (.ref C_Shape) = true)
    (a_52_ : PySem.W.findIn K (.ref C_Shape) "__init__" = some (some (.ref f_52)))
    (i_52_ : PySem.W.isFn K (.ref f_52) = true)
    (l_52_ : K.lookup f_52 = some ⟨oc_52, od_52, .func (PySem.W.fnOf "__init__" "Shape.__init__" (defArgs s_Shape_init) (defBody s_Shape_init) (defScope s_Shape_init) .none kV_52 dc_52 pm_52 an_52 cd_52 ct_52), sl_52⟩)
    (c_52_ : PySem.W.codeIn K cd_52 "Shape.__init__" = true)
    (k_52_ : PySem.W.keepIn K (.ref f_52) = true)
    (a_53_ : PySem.W.findIn K (.ref C_Shape) "sheet_size" = some (some (.ref f_53)))
    (i_53_ : PySem.W.isFn K (.ref f_53) = true)
    (l_53_ : K.lookup f_53 = some ⟨oc_53, od_53, .func (PySem.W.fnOf "sheet_size" "Shape.sheet_size" (defArgs s_Shape_sheet_size) (defBody s_Shape_sheet_size) (defScope s_Shape_sheet_size) .none kV_53 dc_53 pm_53 an_53 cd_53 ct_53), sl_53⟩)
    (c_53_ : PySem.W.codeIn K cd_53 "Shape.sheet_size" = true)
    (k_53_ : PySem.W.keepIn K (.ref f_53) = true)
    (a_54_ : PySem.W.findIn K (.ref C_Shape) "has_page" = some (some (.ref f_54)))
    (i_54_ : PySem.W.isFn K (.ref f_54) = true)
    (l_54_ : K.lookup f_54 = some ⟨oc_54, od_54, .func (PySem.W.fnOf "has_page" "Shape.has_page" (defArgs s_Shape_has_page) (defBody s_Shape_has_page) (defScope s_Shape_has_page) .none kV_54 dc_54 pm_54 an_54 cd_54 ct_54), sl_54⟩)
    (c_54_ : PySem.W.codeIn K cd_54 "Shape.has_page" = true)
    (k_54_ : PySem.W.keepIn K (.ref f_54) = true)
    (a_55_ : PySem.W.findIn K (.ref C_Shape) "has_address" = some (some (.ref f_55)))
    (i_55_ : PySem.W.isFn K (.ref f_55) = true)
    (l_55_ : K.lookup f_55 = some ⟨oc_55, od_55, .func (PySem.W.fnOf "has_address" "Shape.has_address" (defArgs s_Shape_has_address) (defBody s_Shape_has_address) (defScope s_Shape_has_address) .none kV_55 dc_55 pm_55 an_55 cd_55 ct_55), sl_55⟩)
    (c_55_ : PySem.W.codeIn K cd_55 "Shape.has_address" = true)
    (k_55_ : PySem.W.keepIn K (.ref f_55) = true)
    (a_56_ : PySem.W.findIn K (.ref C_Shape) "parted" = some (some (.ref f_56)))
    (i_56_ : PySem.W.isFn K (.ref f_56) = true)
    (l_56_ : K.lookup f_56 = some ⟨oc_56, od_56, .func (PySem.W.fnOf "parted" "Shape.parted" (defArgs s_Shape_parted) (defBody s_Shape_parted) (defScope s_Shape_parted) .none kV_56 dc_56 pm_56 an_56 cd_56 ct_56), sl_56⟩)
    (c_56_ : PySem.W.codeIn K cd_56 "Shape.parted" = true)
    (k_56_ : PySem.W.keepIn K (.ref f_56) = true)
    (a_57_ : PySem.W.findIn K (.ref C_Shape) "fits" = some (some (.ref f_57)))
    (i_57_ : PySem.W.isFn K (.ref f_57) = true)
    (l_57_ : K.lookup f_57 = some ⟨oc_57, od_57, .func (PySem.W.fnOf "fits" "Shape.fits" (defArgs s_Shape_fits) (defBody s_Shape_fits) (defScope s_Shape_fits) .none kV_57 dc_57 pm_57 an_57 cd_57 ct_57), sl_57⟩)
    (c_57_ : PySem.W.codeIn K cd_57 "Shape.fits" = true)
    (k_57_ : PySem.W.keepIn K (.ref f_57) = true)
    (ze_NoShape : PySem.W.excIn K C_NoShape mroVE "ValueError.__new__" = true)
    (ze_OutOfRoom : PySem.W.excIn K C_OutOfRoom mroVE "ValueError.__new__" = true)
    (ze_BadRights : PySem.W.excIn K C_BadRights mroVE "ValueError.__new__" = true)
    (ze_NoTask : PySem.W.excIn K C_NoTask mroVE "ValueError.__new__" = true)
    (ze_NoBank : PySem.W.excIn K C_NoBank mroVE "ValueError.__new__" = true)
    (ze_OutOfBank : PySem.W.excIn K C_OutOfBank mroVE "ValueError.__new__" = true)
    (ze_Taken : PySem.W.excIn K C_Taken mroVE "ValueError.__new__" = true)
    (ze_NotMapped : PySem.W.excIn K C_NotMapped mroVE "ValueError.__new__" = true)
    (ze_NoRight : PySem.W.excIn K C_NoRight mroVE "ValueError.__new__" = true)
    (ze_NoRoom : PySem.W.excIn K C_NoRoom mroVE "ValueError.__new__" = true)
    (a_58_ : PySem.W.nsIn K mainGlobals "law" = some (some (.ref f_58)))
    (l_58_ : K.lookup f_58 = some ⟨oc_58, od_58, .func (PySem.W.fnOf "law" "law" (defArgs s_law) (defBody s_law) (defScope s_law) .none kV_58 dc_58 pm_58 an_58 cd_58 ct_58), sl_58⟩)
    (c_58_ : PySem.W.codeIn K cd_58 "law" = true)
    (k_58_ : PySem.W.keepIn K (.ref f_58) = true)
    : ∃ A : Adr, Txt K mg A := ⟨⟨C_Stretches, C_House, C_Rooms, C_Shape, C_NoShape, C_OutOfRoom, C_BadRights, C_NoTask, C_NoBank, C_OutOfBank, C_Taken, C_NotMapped, C_NoRight, C_NoRoom⟩, {
      b_bool := PySem.W.mg_none_of X G zb_bool
      b_int := PySem.W.mg_none_of X G zb_int
      b_isinstance := PySem.W.mg_none_of X G zb_isinstance
      b_len := PySem.W.mg_none_of X G zb_len
      b_list := PySem.W.mg_none_of X G zb_list
      b_max := PySem.W.mg_none_of X G zb_max
      b_min := PySem.W.mg_none_of X G zb_min
      b_range := PySem.W.mg_none_of X G zb_range
      b_tuple := PySem.W.mg_none_of X G zb_tuple
      c_READ := ⟨_, PySem.W.mg_of X G zc_READ, ⟨_, rfl⟩⟩
      c_WRITE := ⟨_, PySem.W.mg_of X G zc_WRITE, ⟨_, rfl⟩⟩
      c_MOST_RIGHTS := ⟨_, PySem.W.mg_of X G zc_MOST_RIGHTS, ⟨_, rfl⟩⟩
      c_MOST_IN_STRETCH := ⟨_, PySem.W.mg_of X G zc_MOST_IN_STRETCH, ⟨_, rfl⟩⟩
      r_is_whole := ⟨_, _, _, PySem.W.mg_of X G a_0_, fun_mk (st := s_is_whole) l_0_ c_0_ k_0_, (fun_mk (st := s_is_whole) l_0_ c_0_ k_0_).binds (ps := ["thing"]) fun _ _ _ _ _ _ => el1 (fun _ => rfl), .nil⟩
      r_is_within := ⟨_, _, _, PySem.W.mg_of X G a_1_, fun_mk (st := s_is_within) l_1_ c_1_ k_1_, (fun_mk (st := s_is_within) l_1_ c_1_ k_1_).binds (ps := ["thing", "low", "high"]) fun _ _ _ _ _ _ => el3 (fun _ _ _ => rfl), .nil⟩
      r_power_of_two := ⟨_, _, _, PySem.W.mg_of X G a_2_, fun_mk (st := s_power_of_two) l_2_ c_2_ k_2_, (fun_mk (st := s_power_of_two) l_2_ c_2_ k_2_).binds (ps := ["exponent"]) fun _ _ _ _ _ _ => el1 (fun _ => rfl), .nil⟩
      r_check_measures := ⟨_, _, _, PySem.W.mg_of X G a_3_, fun_mk (st := s_check_measures) l_3_ c_3_ k_3_, (fun_mk (st := s_check_measures) l_3_ c_3_ k_3_).binds (ps := ["levels", "fan", "grain"]) fun _ _ _ _ _ _ => el3 (fun _ _ _ => rfl), .nil⟩
      r_check_rights := ⟨_, _, _, PySem.W.mg_of X G a_4_, fun_mk (st := s_check_rights) l_4_ c_4_ k_4_, (fun_mk (st := s_check_rights) l_4_ c_4_ k_4_).binds (ps := ["rights"]) fun _ _ _ _ _ _ => el1 (fun _ => rfl), .nil⟩
      r_end_of := ⟨_, _, _, PySem.W.mg_of X G a_5_, fun_mk (st := s_end_of) l_5_ c_5_ k_5_, (fun_mk (st := s_end_of) l_5_ c_5_ k_5_).binds (ps := ["run"]) fun _ _ _ _ _ _ => el1 (fun _ => rfl), .nil⟩
      r_tie_from := ⟨_, _, _, PySem.W.mg_of X G a_6_, fun_mk (st := s_tie_from) l_6_ c_6_ k_6_, (fun_mk (st := s_tie_from) l_6_ c_6_ k_6_).binds (ps := ["run", "page"]) fun _ _ _ _ _ _ => el2 (fun _ _ => rfl), .nil⟩
      r_part_of := ⟨_, _, _, PySem.W.mg_of X G a_7_, fun_mk (st := s_part_of) l_7_ c_7_ k_7_, (fun_mk (st := s_part_of) l_7_ c_7_ k_7_).binds (ps := ["run", "low", "high"]) fun _ _ _ _ _ _ => el3 (fun _ _ _ => rfl), .nil⟩
      r_goes_on := ⟨_, _, _, PySem.W.mg_of X G a_8_, fun_mk (st := s_goes_on) l_8_ c_8_ k_8_, (fun_mk (st := s_goes_on) l_8_ c_8_ k_8_).binds (ps := ["run", "later"]) fun _ _ _ _ _ _ => el2 (fun _ _ => rfl), .nil⟩
      r_joined := ⟨_, _, _, PySem.W.mg_of X G a_9_, fun_mk (st := s_joined) l_9_ c_9_ k_9_, (fun_mk (st := s_joined) l_9_ c_9_ k_9_).binds (ps := ["runs"]) fun _ _ _ _ _ _ => el1 (fun _ => rfl), .nil⟩
      r_least_free := ⟨_, _, _, PySem.W.mg_of X G a_10_, fun_mk (st := s_least_free) l_10_ c_10_ k_10_, (fun_mk (st := s_least_free) l_10_ c_10_ k_10_).binds (ps := ["numbers"]) fun _ _ _ _ _ _ => el1 (fun _ => rfl), .nil⟩
      r_l_cell_at := ⟨_, _, _, PySem.W.mg_of X G a_11_, fun_mk (st := s_l_cell_at) l_11_ c_11_ k_11_, (fun_mk (st := s_l_cell_at) l_11_ c_11_ k_11_).binds (ps := ["_law_script", "_law_k"]) fun _ _ _ _ _ _ => el2 (fun _ _ => rfl), .nil⟩
      r_l_part := ⟨_, _, _, PySem.W.mg_of X G a_12_, fun_mk (st := s_l_part) l_12_ c_12_ k_12_, (fun_mk (st := s_l_part) l_12_ c_12_ k_12_).binds (ps := ["_law_cell", "_law_place", "_law_many"]) fun _ _ _ _ _ _ => el3 (fun _ _ _ => rfl), .nil⟩
      r_l_whole := ⟨_, _, _, PySem.W.mg_of X G a_13_, fun_mk (st := s_l_whole) l_13_ c_13_ k_13_, (fun_mk (st := s_l_whole) l_13_ c_13_ k_13_).binds (ps := ["_law_found", "_law_due"]) fun _ _ _ _ _ _ => el2 (fun _ _ => rfl), .nil⟩
      r_l_seen := ⟨_, _, _, PySem.W.mg_of X G a_14_, fun_mk (st := s_l_seen) l_14_ c_14_ k_14_, (fun_mk (st := s_l_seen) l_14_ c_14_ k_14_).binds (ps := ["_law_told", "_law_first", "_law_many", "_law_size", "_law_boxes"]) fun _ _ _ _ _ _ => el5 (fun _ _ _ _ _ => rfl), .nil⟩
      r_l_access := ⟨_, _, _, PySem.W.mg_of X G a_15_, fun_mk (st := s_l_access) l_15_ c_15_ k_15_, (fun_mk (st := s_l_access) l_15_ c_15_ k_15_).binds (ps := ["_law_rooms", "_law_task", "_law_address", "_law_boxes", "_law_cell"]) fun _ _ _ _ _ _ => el5 (fun _ _ _ _ _ => rfl), .nil⟩
      r_l_wide := ⟨_, _, _, PySem.W.mg_of X G a_16_, fun_mk (st := s_l_wide) l_16_ c_16_ k_16_, (fun_mk (st := s_l_wide) l_16_ c_16_ k_16_).binds (ps := ["_law_cell"]) fun _ _ _ _ _ _ => el1 (fun _ => rfl), .nil⟩
      cl_Stretches := ⟨pg_Stretches, hd_Stretches, po_Stretches, sa_Stretches⟩
      na_Stretches_runs := zn_Stretches_runs
      r_Stretches_init := ⟨_, _, _, PySem.W.mg_of X G a_Stretches, ⟨mk_Stretches, a_17_, i_17_, kc_Stretches⟩, fun_mk (st := s_Stretches_init) l_17_ c_17_ k_17_, (fun_mk (st := s_Stretches_init) l_17_ c_17_ k_17_).binds (ps := ["self"]) fun _ _ _ _ _ _ => el1 (fun _ => rfl), .nil⟩
      r_Stretches_put := ⟨_, _, _, ⟨a_18_, i_18_, k_18_⟩, fund_mk (st := s_Stretches_put) l_18_ c_18_ k_18_, (binds_d 5 rfl fun _ us X_ hl => match us, hl with | [_, _, _, _, _], _ => BindsTo.of_defaults rfl (X_ _ _ u_18_) rfl rfl rfl), .nil⟩
      r1_Stretches_put := ⟨_, _, _, ⟨a_18_, i_18_, k_18_⟩, fund_mk (st := s_Stretches_put) l_18_ c_18_ k_18_, (binds_d 4 rfl fun _ us X_ hl => match us, hl with | [_, _, _, _], _ => BindsTo.of_defaults rfl (X_ _ _ u_18_) rfl rfl rfl), .cons rfl (.nil)⟩
      r_Stretches_rights_at := ⟨_, _, _, ⟨a_19_, i_19_, k_19_⟩, fun_mk (st := s_Stretches_rights_at) l_19_ c_19_ k_19_, (fun_mk (st := s_Stretches_rights_at) l_19_ c_19_ k_19_).binds (ps := ["self", "page"]) fun _ _ _ _ _ _ => el2 (fun _ _ => rfl), .nil⟩
      r_Stretches_tie_at := ⟨_, _, _, ⟨a_20_, i_20_, k_20_⟩, fun_mk (st := s_Stretches_tie_at) l_20_ c_20_ k_20_, (fun_mk (st := s_Stretches_tie_at) l_20_ c_20_ k_20_).binds (ps := ["self", "page"]) fun _ _ _ _ _ _ => el2 (fun _ _ => rfl), .nil⟩
      r_Stretches_is_free := ⟨_, _, _, ⟨a_21_, i_21_, k_21_⟩, fun_mk (st := s_Stretches_is_free) l_21_ c_21_ k_21_, (fun_mk (st := s_Stretches_is_free) l_21_ c_21_ k_21_).binds (ps := ["self", "first", "many"]) fun _ _ _ _ _ _ => el3 (fun _ _ _ => rfl), .nil⟩
      r_Stretches_place_behind := ⟨_, _, _, ⟨a_22_, i_22_, k_22_⟩, fun_mk (st := s_Stretches_place_behind) l_22_ c_22_ k_22_, (fun_mk (st := s_Stretches_place_behind) l_22_ c_22_ k_22_).binds (ps := ["self", "page"]) fun _ _ _ _ _ _ => el2 (fun _ _ => rfl), .nil⟩
      r_Stretches_parts_amid := ⟨_, _, _, ⟨a_23_, i_23_, k_23_⟩, fun_mk (st := s_Stretches_parts_amid) l_23_ c_23_ k_23_, (fun_mk (st := s_Stretches_parts_amid) l_23_ c_23_ k_23_).binds (ps := ["self", "first", "many"]) fun _ _ _ _ _ _ => el3 (fun _ _ _ => rfl), .nil⟩
      r_Stretches_part_at := ⟨_, _, _, ⟨a_24_, i_24_, k_24_⟩, fun_mk (st := s_Stretches_part_at) l_24_ c_24_ k_24_, (fun_mk (st := s_Stretches_part_at) l_24_ c_24_ k_24_).binds (ps := ["self", "page"]) fun _ _ _ _ _ _ => el2 (fun _ _ => rfl), .nil⟩
      r_Stretches_lay_amid := ⟨_, _, _, ⟨a_25_, i_25_, k_25_⟩, fun_mk (st := s_Stretches_lay_amid) l_25_ c_25_ k_25_, (fun_mk (st := s_Stretches_lay_amid) l_25_ c_25_ k_25_).binds (ps := ["self", "first", "many", "parts"]) fun _ _ _ _ _ _ => el4 (fun _ _ _ _ => rfl), .nil⟩
      r_Stretches_told := ⟨_, _, _, ⟨a_26_, i_26_, k_26_⟩, fun_mk (st := s_Stretches_told) l_26_ c_26_ k_26_, (fun_mk (st := s_Stretches_told) l_26_ c_26_ k_26_).binds (ps := ["self"]) fun _ _ _ _ _ _ => el1 (fun _ => rfl), .nil⟩
      cl_House := ⟨pg_House, hd_House, po_House, sa_House⟩
      na_House_shape := zn_House_shape
      na_House_tasks := zn_House_tasks
      na_House_banks := zn_House_banks
      r_House_init := ⟨_, _, _, PySem.W.mg_of X G a_House, ⟨mk_House, a_27_, i_27_, kc_House⟩, fun_mk (st := s_House_init) l_27_ c_27_ k_27_, (fun_mk (st := s_House_init) l_27_ c_27_ k_27_).binds (ps := ["self", "shape"]) fun _ _ _ _ _ _ => el2 (fun _ _ => rfl), .nil⟩
      r_House_new_task := ⟨_, _, _, ⟨a_28_, i_28_, k_28_⟩, fun_mk (st := s_House_new_task) l_28_ c_28_ k_28_, (fun_mk (st := s_House_new_task) l_28_ c_28_ k_28_).binds (ps := ["self"]) fun _ _ _ _ _ _ => el1 (fun _ => rfl), .nil⟩
      r_House_lay := ⟨_, _, _, ⟨a_29_, i_29_, k_29_⟩, fund_mk (st := s_House_lay) l_29_ c_29_ k_29_, (binds_d 7 rfl fun _ us X_ hl => match us, hl with | [_, _, _, _, _, _, _], _ => BindsTo.of_defaults rfl (X_ _ _ u_29_) rfl rfl rfl), .nil⟩
      r1_House_lay := ⟨_, _, _, ⟨a_29_, i_29_, k_29_⟩, fund_mk (st := s_House_lay) l_29_ c_29_ k_29_, (binds_d 6 rfl fun _ us X_ hl => match us, hl with | [_, _, _, _, _, _], _ => BindsTo.of_defaults rfl (X_ _ _ u_29_) rfl rfl rfl), .cons ⟨_, rfl⟩ (.nil)⟩
      r2_House_lay := ⟨_, _, _, ⟨a_29_, i_29_, k_29_⟩, fund_mk (st := s_House_lay) l_29_ c_29_ k_29_, (binds_d 5 rfl fun _ us X_ hl => match us, hl with | [_, _, _, _, _], _ => BindsTo.of_defaults rfl (X_ _ _ u_29_) rfl rfl rfl), .cons rfl (.cons ⟨_, rfl⟩ (.nil))⟩
      r_House_asked := ⟨_, _, _, ⟨a_30_, i_30_, k_30_⟩, fun_mk (st := s_House_asked) l_30_ c_30_ k_30_, (fun_mk (st := s_House_asked) l_30_ c_30_ k_30_).binds (ps := ["self", "task", "address", "want"]) fun _ _ _ _ _ _ => el4 (fun _ _ _ _ => rfl), .nil⟩
      r_House_tie_at := ⟨_, _, _, ⟨a_31_, i_31_, k_31_⟩, fun_mk (st := s_House_tie_at) l_31_ c_31_ k_31_, (fun_mk (st := s_House_tie_at) l_31_ c_31_ k_31_).binds (ps := ["self", "task", "page"]) fun _ _ _ _ _ _ => el3 (fun _ _ _ => rfl), .nil⟩
      r_House_stretches_of := ⟨_, _, _, ⟨a_32_, i_32_, k_32_⟩, fun_mk (st := s_House_stretches_of) l_32_ c_32_ k_32_, (fun_mk (st := s_House_stretches_of) l_32_ c_32_ k_32_).binds (ps := ["self", "task"]) fun _ _ _ _ _ _ => el2 (fun _ _ => rfl), .nil⟩
      r_House_pages_of := ⟨_, _, _, ⟨a_33_, i_33_, k_33_⟩, fun_mk (st := s_House_pages_of) l_33_ c_33_ k_33_, (fun_mk (st := s_House_pages_of) l_33_ c_33_ k_33_).binds (ps := ["self", "task"]) fun _ _ _ _ _ _ => el2 (fun _ _ => rfl), .nil⟩
      r_House_check_task := ⟨_, _, _, ⟨a_34_, i_34_, k_34_⟩, fun_mk (st := s_House_check_task) l_34_ c_34_ k_34_, (fun_mk (st := s_House_check_task) l_34_ c_34_ k_34_).binds (ps := ["self", "task"]) fun _ _ _ _ _ _ => el2 (fun _ _ => rfl), .nil⟩
      r_House_check_bank := ⟨_, _, _, ⟨a_35_, i_35_, k_35_⟩, fun_mk (st := s_House_check_bank) l_35_ c_35_ k_35_, (fun_mk (st := s_House_check_bank) l_35_ c_35_ k_35_).binds (ps := ["self", "bank"]) fun _ _ _ _ _ _ => el2 (fun _ _ => rfl), .nil⟩
      r_House_check_stretch := ⟨_, _, _, ⟨a_36_, i_36_, k_36_⟩, fun_mk (st := s_House_check_stretch) l_36_ c_36_ k_36_, (fun_mk (st := s_House_check_stretch) l_36_ c_36_ k_36_).binds (ps := ["self", "task", "first", "many"]) fun _ _ _ _ _ _ => el4 (fun _ _ _ _ => rfl), .nil⟩
      r_House_check_part_of_bank := ⟨_, _, _, ⟨a_37_, i_37_, k_37_⟩, fun_mk (st := s_House_check_part_of_bank) l_37_ c_37_ k_37_, (fun_mk (st := s_House_check_part_of_bank) l_37_ c_37_ k_37_).binds (ps := ["self", "bank", "start", "many"]) fun _ _ _ _ _ _ => el4 (fun _ _ _ _ => rfl), .nil⟩
      cl_Rooms := ⟨pg_Rooms, hd_Rooms, po_Rooms, sa_Rooms⟩
      na_Rooms_shape := zn_Rooms_shape
      na_Rooms_most := zn_Rooms_most
      na_Rooms_house := zn_Rooms_house
      na_Rooms_sheets := zn_Rooms_sheets
      na_Rooms_havers := zn_Rooms_havers
      na_Rooms_made := zn_Rooms_made
      na_Rooms_private := zn_Rooms_private
      na_Rooms_banked := zn_Rooms_banked
      r_Rooms_init := ⟨_, _, _, PySem.W.mg_of X G a_Rooms, ⟨mk_Rooms, a_38_, i_38_, kc_Rooms⟩, fun_mk (st := s_Rooms_init) l_38_ c_38_ k_38_, (fun_mk (st := s_Rooms_init) l_38_ c_38_ k_38_).binds (ps := ["self", "shape", "most"]) fun _ _ _ _ _ _ => el3 (fun _ _ _ => rfl), .nil⟩
      r_Rooms_new_task := ⟨_, _, _, ⟨a_39_, i_39_, k_39_⟩, fun_mk (st := s_Rooms_new_task) l_39_ c_39_ k_39_, (fun_mk (st := s_Rooms_new_task) l_39_ c_39_ k_39_).binds (ps := ["self"]) fun _ _ _ _ _ _ => el1 (fun _ => rfl), .nil⟩
      r_Rooms_lay := ⟨_, _, _, ⟨a_40_, i_40_, k_40_⟩, fund_mk (st := s_Rooms_lay) l_40_ c_40_ k_40_, (binds_d 7 rfl fun _ us X_ hl => match us, hl with | [_, _, _, _, _, _, _], _ => BindsTo.of_defaults rfl (X_ _ _ u_40_) rfl rfl rfl), .nil⟩
      r1_Rooms_lay := ⟨_, _, _, ⟨a_40_, i_40_, k_40_⟩, fund_mk (st := s_Rooms_lay) l_40_ c_40_ k_40_, (binds_d 6 rfl fun _ us X_ hl => match us, hl with | [_, _, _, _, _, _], _ => BindsTo.of_defaults rfl (X_ _ _ u_40_) rfl rfl rfl), .cons ⟨_, rfl⟩ (.nil)⟩
      r2_Rooms_lay := ⟨_, _, _, ⟨a_40_, i_40_, k_40_⟩, fund_mk (st := s_Rooms_lay) l_40_ c_40_ k_40_, (binds_d 5 rfl fun _ us X_ hl => match us, hl with | [_, _, _, _, _], _ => BindsTo.of_defaults rfl (X_ _ _ u_40_) rfl rfl rfl), .cons rfl (.cons ⟨_, rfl⟩ (.nil))⟩
      r_Rooms_read := ⟨_, _, _, ⟨a_41_, i_41_, k_41_⟩, fun_mk (st := s_Rooms_read) l_41_ c_41_ k_41_, (fun_mk (st := s_Rooms_read) l_41_ c_41_ k_41_).binds (ps := ["self", "task", "address"]) fun _ _ _ _ _ _ => el3 (fun _ _ _ => rfl), .nil⟩
      r_Rooms_write := ⟨_, _, _, ⟨a_42_, i_42_, k_42_⟩, fun_mk (st := s_Rooms_write) l_42_ c_42_ k_42_, (fun_mk (st := s_Rooms_write) l_42_ c_42_ k_42_).binds (ps := ["self", "task", "address", "value"]) fun _ _ _ _ _ _ => el4 (fun _ _ _ _ => rfl), .nil⟩
      r_Rooms_seen_by := ⟨_, _, _, ⟨a_43_, i_43_, k_43_⟩, fun_mk (st := s_Rooms_seen_by) l_43_ c_43_ k_43_, (fun_mk (st := s_Rooms_seen_by) l_43_ c_43_ k_43_).binds (ps := ["self", "task"]) fun _ _ _ _ _ _ => el2 (fun _ _ => rfl), .nil⟩
      r_Rooms_live_sheets := ⟨_, _, _, ⟨a_44_, i_44_, k_44_⟩, fun_mk (st := s_Rooms_live_sheets) l_44_ c_44_ k_44_, (fun_mk (st := s_Rooms_live_sheets) l_44_ c_44_ k_44_).binds (ps := ["self"]) fun _ _ _ _ _ _ => el1 (fun _ => rfl), .nil⟩
      r_Rooms_shown := ⟨_, _, _, ⟨a_45_, i_45_, k_45_⟩, fun_mk (st := s_Rooms_shown) l_45_ c_45_ k_45_, (fun_mk (st := s_Rooms_shown) l_45_ c_45_ k_45_).binds (ps := ["self", "task", "page", "tie"]) fun _ _ _ _ _ _ => el4 (fun _ _ _ _ => rfl), .nil⟩
      r_Rooms_noughts := ⟨_, _, _, ⟨a_46_, i_46_, k_46_⟩, fun_mk (st := s_Rooms_noughts) l_46_ c_46_ k_46_, (fun_mk (st := s_Rooms_noughts) l_46_ c_46_ k_46_).binds (ps := ["self"]) fun _ _ _ _ _ _ => el1 (fun _ => rfl), .nil⟩
      r_Rooms_sheet_to_read := ⟨_, _, _, ⟨a_47_, i_47_, k_47_⟩, fun_mk (st := s_Rooms_sheet_to_read) l_47_ c_47_ k_47_, (fun_mk (st := s_Rooms_sheet_to_read) l_47_ c_47_ k_47_).binds (ps := ["self", "task", "page"]) fun _ _ _ _ _ _ => el3 (fun _ _ _ => rfl), .nil⟩
      r_Rooms_sheet_to_write := ⟨_, _, _, ⟨a_48_, i_48_, k_48_⟩, fun_mk (st := s_Rooms_sheet_to_write) l_48_ c_48_ k_48_, (fun_mk (st := s_Rooms_sheet_to_write) l_48_ c_48_ k_48_).binds (ps := ["self", "task", "page"]) fun _ _ _ _ _ _ => el3 (fun _ _ _ => rfl), .nil⟩
      r_Rooms_sheet_there := ⟨_, _, _, ⟨a_49_, i_49_, k_49_⟩, fun_mk (st := s_Rooms_sheet_there) l_49_ c_49_ k_49_, (fun_mk (st := s_Rooms_sheet_there) l_49_ c_49_ k_49_).binds (ps := ["self", "pages", "page"]) fun _ _ _ _ _ _ => el3 (fun _ _ _ => rfl), .nil⟩
      r_Rooms_new_sheet := ⟨_, _, _, ⟨a_50_, i_50_, k_50_⟩, fun_mk (st := s_Rooms_new_sheet) l_50_ c_50_ k_50_, (fun_mk (st := s_Rooms_new_sheet) l_50_ c_50_ k_50_).binds (ps := ["self", "boxes"]) fun _ _ _ _ _ _ => el2 (fun _ _ => rfl), .nil⟩
      r_Rooms_let_page_go := ⟨_, _, _, ⟨a_51_, i_51_, k_51_⟩, fun_mk (st := s_Rooms_let_page_go) l_51_ c_51_ k_51_, (fun_mk (st := s_Rooms_let_page_go) l_51_ c_51_ k_51_).binds (ps := ["self", "pages", "page"]) fun _ _ _ _ _ _ => el3 (fun _ _ _ => rfl), .nil⟩
      cl_Shape := ⟨pg_Shape, hd_Shape, po_Shape, sa_Shape⟩
      na_Shape_levels := zn_Shape_levels
      na_Shape_fan := zn_Shape_fan
      na_Shape_grain := zn_Shape_grain
      na_Shape_ways := zn_Shape_ways
      na_Shape_boxes := zn_Shape_boxes
      na_Shape_pages := zn_Shape_pages
      r_Shape_init := ⟨_, _, _, PySem.W.mg_of X G a_Shape, ⟨mk_Shape, a_52_, i_52_, kc_Shape⟩, fun_mk (st := s_Shape_init) l_52_ c_52_ k_52_, (fun_mk (st := s_Shape_init) l_52_ c_52_ k_52_).binds (ps := ["self", "levels", "fan", "grain"]) fun _ _ _ _ _ _ => el4 (fun _ _ _ _ => rfl), .nil⟩
      r_Shape_sheet_size := ⟨_, _, _, ⟨a_53_, i_53_, k_53_⟩, fun_mk (st := s_Shape_sheet_size) l_53_ c_53_ k_53_, (fun_mk (st := s_Shape_sheet_size) l_53_ c_53_ k_53_).binds (ps := ["self"]) fun _ _ _ _ _ _ => el1 (fun _ => rfl), .nil⟩
      r_Shape_has_page := ⟨_, _, _, ⟨a_54_, i_54_, k_54_⟩, fun_mk (st := s_Shape_has_page) l_54_ c_54_ k_54_, (fun_mk (st := s_Shape_has_page) l_54_ c_54_ k_54_).binds (ps := ["self", "page"]) fun _ _ _ _ _ _ => el2 (fun _ _ => rfl), .nil⟩
      r_Shape_has_address := ⟨_, _, _, ⟨a_55_, i_55_, k_55_⟩, fun_mk (st := s_Shape_has_address) l_55_ c_55_ k_55_, (fun_mk (st := s_Shape_has_address) l_55_ c_55_ k_55_).binds (ps := ["self", "address"]) fun _ _ _ _ _ _ => el2 (fun _ _ => rfl), .nil⟩
      r_Shape_parted := ⟨_, _, _, ⟨a_56_, i_56_, k_56_⟩, fun_mk (st := s_Shape_parted) l_56_ c_56_ k_56_, (fun_mk (st := s_Shape_parted) l_56_ c_56_ k_56_).binds (ps := ["self", "address"]) fun _ _ _ _ _ _ => el2 (fun _ _ => rfl), .nil⟩
      r_Shape_fits := ⟨_, _, _, ⟨a_57_, i_57_, k_57_⟩, fun_mk (st := s_Shape_fits) l_57_ c_57_ k_57_, (fun_mk (st := s_Shape_fits) l_57_ c_57_ k_57_).binds (ps := ["self", "first", "many"]) fun _ _ _ _ _ _ => el3 (fun _ _ _ => rfl), .nil⟩
      m_NoShape := ⟨_, PySem.W.mg_of X G a_NoShape, rfl⟩
      x_NoShape := ⟨PySem.W.mg_of X G a_NoShape, ze_NoShape⟩
      m_OutOfRoom := ⟨_, PySem.W.mg_of X G a_OutOfRoom, rfl⟩
      x_OutOfRoom := ⟨PySem.W.mg_of X G a_OutOfRoom, ze_OutOfRoom⟩
      m_BadRights := ⟨_, PySem.W.mg_of X G a_BadRights, rfl⟩
      x_BadRights := ⟨PySem.W.mg_of X G a_BadRights, ze_BadRights⟩
      m_NoTask := ⟨_, PySem.W.mg_of X G a_NoTask, rfl⟩
      x_NoTask := ⟨PySem.W.mg_of X G a_NoTask, ze_NoTask⟩
      m_NoBank := ⟨_, PySem.W.mg_of X G a_NoBank, rfl⟩
      x_NoBank := ⟨PySem.W.mg_of X G a_NoBank, ze_NoBank⟩
      m_OutOfBank := ⟨_, PySem.W.mg_of X G a_OutOfBank, rfl⟩
      x_OutOfBank := ⟨PySem.W.mg_of X G a_OutOfBank, ze_OutOfBank⟩
      m_Taken := ⟨_, PySem.W.mg_of X G a_Taken, rfl⟩
      x_Taken := ⟨PySem.W.mg_of X G a_Taken, ze_Taken⟩
      m_NotMapped := ⟨_, PySem.W.mg_of X G a_NotMapped, rfl⟩
      x_NotMapped := ⟨PySem.W.mg_of X G a_NotMapped, ze_NotMapped⟩
      m_NoRight := ⟨_, PySem.W.mg_of X G a_NoRight, rfl⟩
      x_NoRight := ⟨PySem.W.mg_of X G a_NoRight, ze_NoRight⟩
      m_NoRoom := ⟨_, PySem.W.mg_of X G a_NoRoom, rfl⟩
      x_NoRoom := ⟨PySem.W.mg_of X G a_NoRoom, ze_NoRoom⟩
      r_law := ⟨_, _, PySem.W.mg_of X G a_58_, fun_mk (st := s_law) l_58_ c_58_ k_58_, fun _ _ => .of_eq rfl⟩
    }⟩

section
variable {P : Program} {w : World} {K : PySem.W.Frag} {mg : Str → Option Value} {base : Heap} {A : Adr}

def sp_is_whole : Sp := fun vs H Q _ => ∃ x, vs = [x] ∧ Kn H x ∧ Q (.bl (whole x)) H
theorem h_is_whole (T : Txt K mg A) : Have P w K mg base "is_whole" 1 ["thing"] [] sp_is_whole := by
  refine T.r_is_whole.have sc_is_whole (fun vs H Q E z => ?_) ?_
  · obtain ⟨x, rfl, _⟩ := z; rfl
  · intro f cdv A' outer s H vs Q E hr z
    obtain ⟨x, rfl, hk, q⟩ := z
    refine ⟨_, (pss_one (ps_ret (pe_and (pe_callB call_isi rfl T.b_isinstance PyProof.Rows.boot_isinstance (pa_cons (pvM 0) (pa_cons (pe_bltnE (n := "int") rfl T.b_int PyProof.Rows.boot_int) pa_nil))) (pe_one (pe_not (pe_callB call_isi rfl T.b_isinstance PyProof.Rows.boot_isinstance (pa_cons (pvM 0) (pa_cons (pe_bltnE (n := "bool") rfl T.b_bool PyProof.Rows.boot_bool) pa_nil)))))))), ?_⟩
    walk_at "wp"
    rw [← isTy_whole hk] at q
    refine ⟨by decide, hk, ?_⟩
    cases e : isTy "int" H x with
    | true => rw [e] at q; exact iteT ⟨by decide, hk, q⟩
    | false => rw [e] at q; exact iteF q

def sp_is_within : Sp := fun vs H Q _ => ∃ x l h, vs = [x, .int l, .int h] ∧ Kn H x ∧ Q (.bl (within x l h)) H
theorem h_is_within (T : Txt K mg A) : Have P w K mg base "is_within" 2 ["thing", "low", "high"] [] sp_is_within := by
  have H_is_whole := h_is_whole (P := P) (w := w) (base := base) T
  refine T.r_is_within.have sc_is_within (fun vs H Q E z => ?_) ?_
  · obtain ⟨x, l, h, rfl, _⟩ := z; rfl
  · intro f cdv A' outer s H vs Q E hr z
    obtain ⟨x, l, h, rfl, hk, q⟩ := z
    refine ⟨_, (pss_one (ps_ret (pe_and (pe_callE H_is_whole (hr.mono (by decide)) xw_def (pa_cons (pvM 0) pa_nil)) (pe_one (pe_chain op_le op_le (pvM 1) (pvM 0) (pvM 2)))))), ?_⟩
    unfold sp_is_whole
    walk_at "wp"
    refine ⟨hk, ?_⟩
    cases x with
    | int i =>
      refine iteT ⟨i, rfl, ?_⟩
      rw [within_int] at q
      by_cases c : l ≤ i
      · rw [decide_eq_true c] at q
        rw [if_pos c]
        exact ⟨i, rfl, q⟩
      · rw [decide_eq_false c] at q
        rw [if_neg c]
        exact q
    | _ => exact iteF q

def sp_power_of_two : Sp := fun vs H Q _ => ∃ e : Int, vs = [.int e] ∧ 0 ≤ e ∧ e ≤ 62 ∧ Q (.int (pw e)) H
theorem h_power_of_two (T : Txt K mg A) : Have P w K mg base "power_of_two" 1 ["exponent"] [] sp_power_of_two := by
  refine T.r_power_of_two.have sc_power_of_two (fun vs H Q E z => ?_) ?_
  · obtain ⟨e, rfl, _⟩ := z; rfl
  · intro f cdv A' outer s H vs Q E hr z
    obtain ⟨e, rfl, h0, h1, q⟩ := z
    refine ⟨_, (pss_cons (ps_set (i := 1) sc_power_of_two.nd rfl (Or.inl rfl) pe_int)
      (pss_cons (ps_forE PassesOwn.leaving rfl (pi_range1 rfl T.b_range (pa_cons (pvM 0) pa_nil)) (pg_name (i := 2) sc_power_of_two.nd rfl (Or.inl rfl)) (pss_one (ps_set (i := 1) sc_power_of_two.nd rfl (Or.inl rfl) (pe_op op_mul (pvM 1) pe_int))))
      (pss_one (ps_ret (pvM 1))))), ?_⟩
    walk_at "wp"
    refine ⟨by omega, by omega, loop_range (fun i σ H' => ∃ v, σ = [some (.int e), some (.int (pw (i : Int))), v] ∧ H' = H) ⟨_, rfl, rfl⟩ (fun i σ H' hi => ?_) (fun σ H' => ?_)⟩
    · rintro ⟨v, rfl, rfl⟩
      walk_at "wp"
      have hb := pwN_le (n := i) (m := 62) (by omega)
      have hp := pw_pos i
      have e62 : pw ((62 : Nat) : Int) = 4611686018427387904 := by decide
      refine by first | exact (pw_succ i).symm | exact ⟨by omega, (pw_succ i).symm⟩ | (rw [pw_succ]; omega) | (trace_state; omega)
    · rintro ⟨v, rfl, rfl⟩
      walk_at "wp"
      rw [show ((e.toNat : Nat) : Int) = e by omega]
      exact q

def good (x y z : V) : Bool := within x 2 3 && within y 1 8 && within z 0 4
theorem good_ints {l f g : Int} (h : good (.int l) (.int f) (.int g) = true) : 2 ≤ l ∧ l ≤ 3 ∧ 1 ≤ f ∧ f ≤ 8 ∧ 0 ≤ g ∧ g ≤ 4 := by
  unfold good at h
  simp only [within_int, Bool.and_eq_true, decide_eq_true_eq] at h
  omega
theorem good_of {l f g : Int} (h : 2 ≤ l ∧ l ≤ 3 ∧ 1 ≤ f ∧ f ≤ 8 ∧ 0 ≤ g ∧ g ≤ 4) : good (.int l) (.int f) (.int g) = true := by
  unfold good
  simp only [within_int, Bool.and_eq_true, decide_eq_true_eq]
  omega
def sp_check (N : Addr) : Sp := fun vs H Q E => ∃ x y z, vs = [x, y, z] ∧ Kn H x ∧ Kn H y ∧ Kn H z ∧ if good x y z = true then Q .non H else E (.ref N) none H
theorem h_check (T : Txt K mg A) : Have P w K mg base "check_measures" 3 ["levels", "fan", "grain"] [] (sp_check A.C_NoShape) := by
  have H_is_within := h_is_within (P := P) (w := w) (base := base) T
  refine T.r_check_measures.have sc_check_measures (fun vs H Q E z => ?_) ?_
  · obtain ⟨x, y, z, rfl, _⟩ := z; rfl
  · intro f cdv A' outer s H vs Q E hr z
    obtain ⟨x, y, z, rfl, hx, hy, hz, q⟩ := z
    refine ⟨_, (pss_cons (ps_if (pt_not (pt_val (pe_callE H_is_within (hr.mono (by decide)) xw_def (pa_cons (pvM 0) (pa_cons pe_int (pa_cons pe_int pa_nil)))))) (pss_one (ps_raise xr_def rfl T.x_NoShape (pa_cons pe_str pa_nil))) pss_nil)
      (pss_cons (ps_if (pt_not (pt_val (pe_callE H_is_within (hr.mono (by decide)) xw_def (pa_cons (pvM 1) (pa_cons pe_int (pa_cons pe_int pa_nil)))))) (pss_one (ps_raise xr_def rfl T.x_NoShape (pa_cons pe_str pa_nil))) pss_nil)
      (pss_one (ps_if (pt_not (pt_val (pe_callE H_is_within (hr.mono (by decide)) xw_def (pa_cons (pvM 2) (pa_cons pe_int (pa_cons pe_int pa_nil)))))) (pss_one (ps_raise xr_def rfl T.x_NoShape (pa_cons pe_str pa_nil))) pss_nil)))), ?_⟩
    unfold sp_is_within
    walk_at "wp"
    unfold good at q
    simp only [hx, hy, hz, true_and]
    cases e1 : within x 2 3 <;> cases e2 : within y 1 8 <;> cases e3 : within z 0 4 <;> simp only [e1, e2, e3, Bool.and_true, Bool.and_false, Bool.true_and, Bool.false_and, Bool.not_true, Bool.not_false, if_true, if_false, Bool.false_eq_true, ↓reduceIte] at q ⊢ <;> exact q

def shF (l f g : Int) : List (Str × V) := putF "pages" (.int (pw (l * f))) (putF "boxes" (.int (pw g)) (putF "ways" (.int (pw f)) (putF "grain" (.int g) (putF "fan" (.int f) (putF "levels" (.int l) [])))))
def spInit (C N : Addr) : Sp := fun vs H Q E => ∃ (p dx : Addr) (x y z : V), vs = [.ref p, x, y, z] ∧ H p = some (.ins C dx []) ∧ Kn H x ∧ Kn H y ∧ Kn H z ∧
  if good x y z = true then ∃ l f g : Int, x = .int l ∧ y = .int f ∧ z = .int g ∧ Q .non (upd H p (.ins C dx (shF l f g))) else E (.ref N) none H
theorem h_init (T : Txt K mg A) : HaveI P w K mg base "Shape" A.C_Shape 4 ["self", "levels", "fan", "grain"] [] (spInit A.C_Shape A.C_NoShape) := by
  have H_check_measures := h_check (P := P) (w := w) (base := base) T
  have H_power_of_two := h_power_of_two (P := P) (w := w) (base := base) T
  refine T.r_Shape_init.have sc_Shape_init (fun vs H Q E z => ?_) ?_
  · obtain ⟨p, dx, x, y, z, rfl, _⟩ := z; rfl
  · intro f cdv A' outer s H vs Q E hr z
    obtain ⟨p, dx, x, y, z, rfl, hp, hx, hy, hz, q⟩ := z
    refine ⟨_, (pss_cons (ps_expr (pe_callE H_check_measures (hr.mono (by decide)) xw_def (pa_cons (pvM 1) (pa_cons (pvM 2) (pa_cons (pvM 3) pa_nil)))))
      (pss_cons (ps_fld (pvM 0) (pvM 1) rfl)
      (pss_cons (ps_fld (pvM 0) (pvM 2) rfl)
      (pss_cons (ps_fld (pvM 0) (pvM 3) rfl)
      (pss_cons (ps_fld (pvM 0) (pe_callE H_power_of_two (hr.mono (by decide)) xw_def (pa_cons (pvM 2) pa_nil)) rfl)
      (pss_cons (ps_fld (pvM 0) (pe_callE H_power_of_two (hr.mono (by decide)) xw_def (pa_cons (pvM 3) pa_nil)) rfl)
      (pss_one (ps_fld (pvM 0) (pe_callE H_power_of_two (hr.mono (by decide)) xw_def (pa_cons (pe_op op_mul (pvM 1) (pvM 2)) pa_nil)) rfl)))))))), ?_⟩
    unfold sp_check sp_power_of_two
    walk_at "wp"
    simp only [hx, hy, hz, hp, T.cl_Shape, T.na_Shape_levels, T.na_Shape_fan, T.na_Shape_grain, T.na_Shape_ways, T.na_Shape_boxes, T.na_Shape_pages, true_and]
    walk_at "wp"
    simp only [T.cl_Shape, T.na_Shape_levels, T.na_Shape_fan, T.na_Shape_grain, T.na_Shape_ways, T.na_Shape_boxes, T.na_Shape_pages, true_and]
    refine ite2 (fun hg => ?_) (fun hg => ?_)
    · rw [if_pos hg] at q
      obtain ⟨l, f', g, rfl, rfl, rfl, q⟩ := q
      have b := good_ints hg
      have m := mul_24 b.1 b.2.1 b.2.2.1 b.2.2.2.1
      walk_at "wp"
      repeat' (refine And.intro ?_ ?_)
      all_goals first | omega | exact q | (refine Nat.lt_of_lt_of_le (?_ : _ < 9) (by decide); repeat (first | exact Nat.zero_lt_succ _ | refine lt_putF ?_))
    · rw [if_neg hg] at q
      exact q
theorem shF_pages {l f g : Int} : (shF l f g).lookup ("pages" : Str) = some (.int (pw (l * f))) := by rfl
theorem shF_boxes {l f g : Int} : (shF l f g).lookup ("boxes" : Str) = some (.int (pw g)) := by rfl
theorem shF_no {l f g : Int} {m : Str} (h : ¬ m ∈ (["levels", "fan", "grain", "ways", "boxes", "pages"] : List Str)) : (shF l f g).lookup m = none := by
  simp only [List.mem_cons, List.not_mem_nil, or_false, not_or] at h
  unfold shF
  simp only [lookup_putF, h, if_false]
  rfl
def ShapeAt (C : Addr) (H : Hp) (p : Addr) (l f g : Int) : Prop := ∃ dx, H p = some (.ins C dx (shF l f g))
theorem ShapeAt.same {C : Addr} {H H' : Hp} {p : Addr} {l f g : Int} (h : ShapeAt C H p l f g) (s : Same H H') : ShapeAt C H' p l f g := let ⟨dx, e⟩ := h; ⟨dx, s _ _ e⟩

def sp_has (C : Addr) : Sp := fun vs H Q _ => ∃ (p : Addr) (x l f g : Int), vs = [.ref p, .int x] ∧ ShapeAt C H p l f g ∧ Q (.bl (decide (0 ≤ x) && decide (x ≤ pw (l * f) - 1))) H
theorem h_has (T : Txt K mg A) : HaveM P w K mg base A.C_Shape "has_page" 3 ["self", "page"] [] (sp_has A.C_Shape) := by
  have H_is_within := h_is_within (P := P) (w := w) (base := base) T
  refine T.r_Shape_has_page.have sc_Shape_has_page (fun vs H Q E z => ?_) ?_
  · obtain ⟨p, x, l, f, g, rfl, _⟩ := z; rfl
  · intro f cdv A' outer s H vs Q E hr z
    obtain ⟨p, x, l, f', g, rfl, ⟨dx, hp⟩, q⟩ := z
    refine ⟨_, (pss_one (ps_ret (pe_callE H_is_within (hr.mono (by decide)) xw_def (pa_cons (pvM 1) (pa_cons pe_int (pa_cons (pe_op op_sub (pe_fld (pvM 0) rfl) pe_int) pa_nil)))))), ?_⟩
    unfold sp_is_within
    walk_at "wp"
    simp only [hp, T.cl_Shape, T.na_Shape_pages, true_and]
    walk_at "wp"
    simp only [T.cl_Shape, T.na_Shape_pages, shF_pages, true_and]
    walk_at "wp"
    exact q
def fitsB (x m p : Int) : Bool := decide (0 ≤ x ∧ x < p ∧ 1 ≤ m ∧ m ≤ 64 ∧ x + m - 1 < p)
def sp_fits (C : Addr) : Sp := fun vs H Q _ => ∃ (p : Addr) (x m l f g : Int), vs = [.ref p, .int x, .int m] ∧ ShapeAt C H p l f g ∧ Q (.bl (fitsB x m (pw (l * f)))) H
theorem h_fits (T : Txt K mg A) : HaveM P w K mg base A.C_Shape "fits" 4 ["self", "first", "many"] [] (sp_fits A.C_Shape) := by
  have H_is_within := h_is_within (P := P) (w := w) (base := base) T
  have H_Shape_has_page := h_has (P := P) (w := w) (base := base) T
  refine T.r_Shape_fits.have sc_Shape_fits (fun vs H Q E z => ?_) ?_
  · obtain ⟨p, x, m, l, f, g, rfl, _⟩ := z; rfl
  · intro f cdv A' outer s H vs Q E hr z
    obtain ⟨p, x, m, l, f', g, rfl, hS, q⟩ := z
    refine ⟨_, (pss_one (ps_ret (pe_and (pe_methE (pvM 0) T.cl_Shape H_Shape_has_page (hr.mono (by decide)) xw_def (pa_cons (pvM 1) pa_nil)) (pe_and (pe_callE H_is_within (hr.mono (by decide)) xw_def (pa_cons (pvM 2) (pa_cons pe_int (pa_cons (pe_globE rfl T.c_MOST_IN_STRETCH) pa_nil)))) (pe_one (pe_methE (pvM 0) T.cl_Shape H_Shape_has_page (hr.mono (by decide)) xw_def (pa_cons (pe_op op_sub (pe_op op_add (pvM 1) (pvM 2)) pe_int) pa_nil))))))), ?_⟩
    unfold sp_is_within sp_has
    walk_at "wp"
    obtain ⟨dx, hp⟩ := id hS
    simp only [hp]
    walk_at "wp"
    refine ⟨shF_no (by decide +kernel), l, f', g, hS, ?_⟩
    generalize hN : pw (l * f') = N at q ⊢
    by_cases c : 0 ≤ x ∧ x ≤ N - 1
    · rw [decide_eq_true c.1, decide_eq_true c.2]
      refine iteT ?_
      rw [within_int]
      by_cases d : 1 ≤ m ∧ m ≤ 64
      · rw [decide_eq_true d.1, decide_eq_true d.2]
        refine iteT ⟨shF_no (by decide +kernel), l, f', g, hS, ?_⟩
        have e2 : (decide (0 ≤ x + m - 1) && decide (x + m - 1 ≤ pw (l * f') - 1)) = fitsB x m N := by
          unfold fitsB
          rw [Bool.eq_iff_iff]; simp only [Bool.and_eq_true, decide_eq_true_eq]; omega
        rw [e2]
        exact q
      · have e : (decide (1 ≤ m) && decide (m ≤ 64)) = false := by
          rw [Bool.eq_false_iff]; simp only [ne_eq, Bool.and_eq_true, decide_eq_true_eq]; exact d
        rw [e]
        refine iteF ?_
        have e2 : fitsB x m N = false := decide_eq_false (by omega)
        rw [e2] at q
        exact q
    · have e : (decide (0 ≤ x) && decide (x ≤ N - 1)) = false := by
        rw [Bool.eq_false_iff]; simp only [ne_eq, Bool.and_eq_true, decide_eq_true_eq]; exact c
      rw [e]
      refine iteF ?_
      have e2 : fitsB x m N = false := decide_eq_false (by omega)
      rw [e2] at q
      exact q
theorem bnd {a b c : Int} : (decide (a ≤ b) && decide (b ≤ c - 1)) = decide (a ≤ b ∧ b < c) := by
  rw [Bool.eq_iff_iff]; simp only [Bool.and_eq_true, decide_eq_true_eq]; omega
def gd (l f g : Int) : Prop := 2 ≤ l ∧ l ≤ 3 ∧ 1 ≤ f ∧ f ≤ 8 ∧ 0 ≤ g ∧ g ≤ 4
theorem gd_pw {l f g : Int} (h : gd l f g) : (1 ≤ pw g ∧ pw g ≤ 16) ∧ (1 ≤ pw (l * f) ∧ pw (l * f) ≤ 16777216) := by
  obtain ⟨h1, h2, h3, h4, h5, h6⟩ := h
  have m := mul_24 h1 h2 h3 h4
  exact ⟨⟨pw_pos _, pw4 h6⟩, pw_pos _, pw24 m.2⟩
def sp_ha (C : Addr) : Sp := fun vs H Q _ => ∃ (p : Addr) (x l f g : Int), vs = [.ref p, .int x] ∧ ShapeAt C H p l f g ∧ gd l f g ∧ Q (.bl (decide (0 ≤ x ∧ x < pw (l * f) * pw g))) H
theorem h_ha (T : Txt K mg A) : HaveM P w K mg base A.C_Shape "has_address" 3 ["self", "address"] [] (sp_ha A.C_Shape) := by
  have H_is_within := h_is_within (P := P) (w := w) (base := base) T
  refine T.r_Shape_has_address.have sc_Shape_has_address (fun vs H Q E z => ?_) ?_
  · obtain ⟨p, x, l, f, g, rfl, _⟩ := z; rfl
  · intro f cdv A' outer s H vs Q E hr z
    obtain ⟨p, x, l, f', g, rfl, hS, hg, q⟩ := z
    refine ⟨_, (pss_one (ps_ret (pe_callE H_is_within (hr.mono (by decide)) xw_def (pa_cons (pvM 1) (pa_cons pe_int (pa_cons (pe_op op_sub (pe_op op_mul (pe_fld (pvM 0) rfl) (pe_fld (pvM 0) rfl)) pe_int) pa_nil)))))), ?_⟩
    unfold sp_is_within
    obtain ⟨dx, hp⟩ := id hS
    walk_at "wp"
    simp only [hp]
    walk_at "wp"
    simp only [T.cl_Shape, T.na_Shape_pages, T.na_Shape_boxes, shF_pages, shF_boxes, true_and]
    walk_at "wp"
    have b := gd_pw hg
    refine ⟨.inr ⟨by omega, by omega⟩, ?_⟩
    rw [within_int, bnd]
    exact q
def sp_pt (C O : Addr) : Sp := fun vs H Q E => ∃ (p : Addr) (x l f g : Int), vs = [.ref p, .int x] ∧ ShapeAt C H p l f g ∧ gd l f g ∧
  if 0 ≤ x ∧ x < pw (l * f) * pw g then ∀ t, H t = none → Q (.ref t) (upd H t (.tup [.int (x / pw g), .int (x % pw g)])) else E (.ref O) none H
theorem h_pt (T : Txt K mg A) : HaveM P w K mg base A.C_Shape "parted" 4 ["self", "address"] [] (sp_pt A.C_Shape A.C_OutOfRoom) := by
  have H_Shape_has_address := h_ha (P := P) (w := w) (base := base) T
  refine T.r_Shape_parted.have sc_Shape_parted (fun vs H Q E z => ?_) ?_
  · obtain ⟨p, x, l, f, g, rfl, _⟩ := z; rfl
  · intro f cdv A' outer s H vs Q E hr z
    obtain ⟨p, x, l, f', g, rfl, hS, hg, q⟩ := z
    refine ⟨_, (pss_cons (ps_if (pt_not (pt_val (pe_methE (pvM 0) T.cl_Shape H_Shape_has_address (hr.mono (by decide)) xw_def (pa_cons (pvM 1) pa_nil)))) (pss_one (ps_raise xr_def rfl T.x_OutOfRoom (pa_cons pe_str pa_nil))) pss_nil)
      (pss_one (ps_ret (pe_tup (pa_cons (pe_op op_fdiv (pvM 1) (pe_fld (pvM 0) rfl)) (pa_cons (pe_op op_mod (pvM 1) (pe_fld (pvM 0) rfl)) pa_nil)))))), ?_⟩
    unfold sp_ha
    obtain ⟨dx, hp⟩ := id hS
    walk_at "wp"
    simp only [hp]
    walk_at "wp"
    refine ⟨shF_no (by decide +kernel), l, f', g, hS, hg, ?_⟩
    simp only [T.cl_Shape, T.na_Shape_pages, T.na_Shape_boxes, shF_pages, shF_boxes, true_and]
    walk_at "wp"
    have b := gd_pw hg
    by_cases c : 0 ≤ x ∧ x < pw (l * f') * pw g
    · rw [if_pos c] at q
      rw [decide_eq_true c]
      refine iteF ⟨by omega, by omega, by omega, q⟩
    · rw [if_neg c] at q
      rw [decide_eq_false c]
      exact iteT q

def sp_cell (K : PySem.W.Frag) (a : Addr) (ns : List Int) : Sp := fun vs H Q _ => ∃ (k : Int), vs = [.ref a, .int k] ∧ SqL K H a (ns.map V.int) ∧ 0 ≤ k ∧ Q (.int (ns.getD k.toNat 0)) H
theorem h_cell (T : Txt K mg A) (a : Addr) (ns : List Int) : Have P w K mg base "_law_cell_at" 1 ["_law_script", "_law_k"] [] (sp_cell K a ns) := by
  refine T.r_l_cell_at.have sc_l_cell_at (fun vs H Q E z => ?_) ?_
  · obtain ⟨k, rfl, _⟩ := z; rfl
  · intro f cdv A' outer s H vs Q E hr z
    obtain ⟨k, rfl, hs, hk, q⟩ := z
    refine ⟨_, (pss_cons (ps_if (pt_cmpR op_lt (pvM 1) (pe_callB call_len rfl T.b_len PySem.boot_len (pa_cons (pvM 0) pa_nil)) (nomark _)) (pss_one (ps_ret (pe_ix ix_list (pvM 0) (pvM 1) (fun _ _ => rfl)))) pss_nil)
      (pss_one (ps_ret pe_int))), ?_⟩
    walk_at "wp"
    refine ⟨ns.length, .inl ⟨_, hs, by simp⟩, ?_⟩
    by_cases c : k < (ns.length : Int)
    · rw [if_pos c]
      refine ⟨_, hs, .int (ns.getD k.toNat 0), ?_, q⟩
      have hlt : k.toNat < ns.length := by omega
      have e : atI (ns.map V.int) ((k.toNat : Nat) : Int) = some (.int (ns.getD k.toNat 0)) := atI_nat (by simp [hlt])
      rw [show ((k.toNat : Nat) : Int) = k by omega] at e
      exact e
    · rw [if_neg c]
      have hge : ns.length ≤ k.toNat := by omega
      rw [show ns.getD k.toNat 0 = 0 by simp [List.getD, hge]] at q
      exact q
theorem same_put {H H' : Hp} {t : Addr} {o : HO} (s : Same H H') (h : H t = none) : Same H (upd H' t o) := fun b u e => by
  rw [upd_ne (ne_of_none e h)]; exact s b u e

theorem same_none {H H' : Hp} {p : Addr} (s : Same H H') (h : H' p = none) : H p = none := by
  cases e : H p with
  | none => rfl
  | some o => rw [s p o e] at h; cases h
structure Rn where
  f : Int
  m : Int
  r : Int
  t : Option (Int × Int)
  deriving DecidableEq
def enR (r : Rn) : Int := r.f + r.m
def tf (r : Rn) (p : Int) : Option (Int × Int) := r.t.map fun t => (t.1, t.2 + p - r.f)
def poR (r : Rn) (lo hi : Int) : Rn := ⟨max r.f lo, min (enR r) hi - max r.f lo, r.r, tf r (max r.f lo)⟩
def go (r s : Rn) : Bool := decide (enR r = s.f) && decide (r.r = s.r) && decide (tf r s.f = s.t)
def jstep (acc : List Rn) (r : Rn) : List Rn :=
  match acc.getLast? with
  | none => acc ++ [r]
  | some l => if go l r = true then acc.dropLast ++ [⟨l.f, l.m + r.m, l.r, l.t⟩] else acc ++ [r]
def jn (rs : List Rn) : List Rn := rs.foldl jstep []
def pb (rs : List Rn) (p : Int) : Nat := (rs.takeWhile fun r => decide (enR r ≤ p)).length
def cutR (rs : List Rn) (lo hi : Nat) : List Rn := (rs.take hi).drop lo
def pam (rs : List Rn) (a n : Int) : List Rn := ((cutR rs (pb rs a) (pb rs (a + n) + 1)).filter fun r => decide (r.f < a + n)).map fun r => poR r a (a + n)
def layR (rs : List Rn) (a n : Int) (parts : List Rn) : List Rn :=
  let near := cutR rs (pb rs (a - 1)) (pb rs (a + n) + 1)
  rs.take (pb rs (a - 1)) ++ jn ((near.filter fun r => decide (r.f < a)).map (fun r => poR r r.f a) ++ parts ++ (near.filter fun r => decide (enR r > a + n)).map (fun r => poR r (a + n) (enR r))) ++ rs.drop (pb rs (a + n) + 1)
def pm : List Rn → Int → Option (Int × Option (Int × Int))
  | [], _ => none
  | r :: rs, p => if r.f ≤ p ∧ p < enR r then some (r.r, tf r p) else pm rs p
def OrdR (rs : List Rn) : Prop := rs.Pairwise (fun a b => enR a ≤ b.f) ∧ ∀ r ∈ rs, 0 < r.m
def LstR : List Rn → Prop
  | [] => True
  | [_] => True
  | a :: b :: r => go a b = false ∧ LstR (b :: r)
theorem OrdR.tail {r : Rn} {rs : List Rn} (h : OrdR (r :: rs)) : OrdR rs := ⟨(List.pairwise_cons.mp h.1).2, fun x hx => h.2 x (List.mem_cons_of_mem _ hx)⟩
theorem OrdR.head {r : Rn} {rs : List Rn} (h : OrdR (r :: rs)) : ∀ s ∈ rs, enR r ≤ s.f := (List.pairwise_cons.mp h.1).1
theorem pm_none {p : Int} : ∀ {rs : List Rn}, (∀ r ∈ rs, ¬ (r.f ≤ p ∧ p < enR r)) → pm rs p = none
  | [], _ => rfl
  | r :: rs, h => by
    unfold pm
    rw [if_neg (h r List.mem_cons_self)]
    exact pm_none fun s hs => h s (List.mem_cons_of_mem _ hs)
theorem pm_below {p : Int} {rs : List Rn} (h : ∀ r ∈ rs, p < r.f) : pm rs p = none := pm_none fun r hr z => by have := h r hr; omega
theorem pm_above {p : Int} {rs : List Rn} (h : ∀ r ∈ rs, enR r ≤ p) : pm rs p = none := pm_none fun r hr z => by have := h r hr; omega
theorem pm_append {p : Int} : ∀ {rs ss : List Rn}, pm (rs ++ ss) p = (pm rs p).or (pm ss p)
  | [], ss => by rw [List.nil_append]; rfl
  | r :: rs, ss => by
    show (if r.f ≤ p ∧ p < enR r then some (r.r, tf r p) else pm (rs ++ ss) p) = (if r.f ≤ p ∧ p < enR r then some (r.r, tf r p) else pm rs p).or (pm ss p)
    by_cases c : r.f ≤ p ∧ p < enR r
    · rw [if_pos c, if_pos c]; rfl
    · rw [if_neg c, if_neg c]; exact pm_append
theorem tf_at {r : Rn} : tf r r.f = r.t := by
  unfold tf
  cases r.t with
  | none => rfl
  | some t => simp
theorem tf_shift {r : Rn} {p q : Int} {m x : Int} : tf ⟨p, m, x, tf r p⟩ q = tf r q := by
  unfold tf
  cases r.t with
  | none => rfl
  | some t => simp; omega
def sHd (a b : Rn) : Prop := a.f = b.f ∧ a.r = b.r ∧ a.t = b.t
def sLs (a b : Rn) : Prop := enR a = enR b ∧ a.r = b.r ∧ ∀ p, tf a p = tf b p
theorem ord_left {xs ys : List Rn} (h : OrdR (xs ++ ys)) : OrdR xs := ⟨(List.pairwise_append.mp h.1).1, fun r hr => h.2 r (List.mem_append_left _ hr)⟩
theorem ord_right {xs ys : List Rn} (h : OrdR (xs ++ ys)) : OrdR ys := ⟨(List.pairwise_append.mp h.1).2.1, fun r hr => h.2 r (List.mem_append_right _ hr)⟩
theorem ord_amid {xs ys : List Rn} (h : OrdR (xs ++ ys)) : ∀ x ∈ xs, ∀ y ∈ ys, enR x ≤ y.f := (List.pairwise_append.mp h.1).2.2
theorem pb_part {rs : List Rn} (o : OrdR rs) (p : Int) : ∃ A R, rs = A ++ R ∧ pb rs p = A.length ∧ (∀ x ∈ A, enR x ≤ p) ∧ (∀ x ∈ R, p < enR x) := by
  refine ⟨rs.takeWhile fun r => decide (enR r ≤ p), rs.dropWhile fun r => decide (enR r ≤ p), (List.takeWhile_append_dropWhile).symm, rfl, fun x hx => ?_, fun x hx => ?_⟩
  · induction rs with
    | nil => cases hx
    | cons y rs ih =>
      rw [List.takeWhile_cons] at hx
      by_cases c : enR y ≤ p
      · rw [decide_eq_true c] at hx
        simp only [if_true] at hx
        rcases List.mem_cons.mp hx with rfl | hx
        · exact c
        · exact ih o.tail hx
      · rw [decide_eq_false c] at hx
        simp at hx
  · induction rs with
    | nil => cases hx
    | cons y rs ih =>
      rw [List.dropWhile_cons] at hx
      by_cases c : enR y ≤ p
      · rw [decide_eq_true c] at hx
        simp only [if_true] at hx
        exact ih o.tail hx
      · rw [decide_eq_false c] at hx
        simp only [Bool.false_eq_true, if_false] at hx
        rcases List.mem_cons.mp hx with rfl | hx
        · omega
        · have h1 := o.head x hx
          have h2 := o.2 x (List.mem_cons_of_mem _ hx)
          unfold enR at *
          omega
theorem pb_two {rs : List Rn} (o : OrdR rs) {p q : Int} (h : p ≤ q) : ∃ A M R, rs = A ++ M ++ R ∧ pb rs p = A.length ∧ pb rs q = A.length + M.length ∧ (∀ x ∈ A, enR x ≤ p) ∧ (∀ x ∈ M, p < enR x ∧ enR x ≤ q) ∧ (∀ x ∈ R, q < enR x) := by
  obtain ⟨A, R1, e1, h1, h2, h3⟩ := pb_part o p
  obtain ⟨M, R, e2, h4, h5, h6⟩ := pb_part (rs := R1) (by rw [e1] at o; exact ord_right o) q
  refine ⟨A, M, R, by rw [e1, e2, List.append_assoc], h1, ?_, h2, fun x hx => ⟨h3 x (by rw [e2]; exact List.mem_append_left _ hx), h5 x hx⟩, h6⟩
  have : pb rs q = A.length + pb R1 q := by
    rw [e1]
    clear e1 h1 e2 h4 o
    induction A with
    | nil => simp
    | cons y A ih =>
      have hy := h2 y List.mem_cons_self
      unfold pb at *
      rw [List.cons_append, List.takeWhile_cons, decide_eq_true (by omega)]
      simp only [if_true, List.length_cons]
      rw [ih fun x hx => h2 x (List.mem_cons_of_mem _ hx)]
      omega
  rw [this, h4]
theorem cut_is {A M R : List Rn} {n m : Nat} (hn : n = A.length) (hm : m = A.length + M.length + 1) : cutR (A ++ M ++ R) n m = M ++ R.take 1 := by
  unfold cutR
  rw [hn, hm, List.append_assoc, List.take_append, List.take_of_length_le (by omega), List.drop_append, List.drop_length, Nat.sub_self, List.drop_zero, List.nil_append,
    List.take_append, List.take_of_length_le (by omega)]
  congr 2
  omega
theorem ord_map {N : List Rn} {q : Rn → Bool} {g : Rn → Rn} (o : OrdR N) (h1 : ∀ x ∈ N, q x = true → 0 < (g x).m) (h2 : ∀ x ∈ N, ∀ y ∈ N, q x = true → q y = true → enR x ≤ y.f → enR (g x) ≤ (g y).f) : OrdR ((N.filter q).map g) := by
  refine ⟨?_, fun r hr => ?_⟩
  · rw [List.pairwise_map]
    have h3 : ((N.filter q)).Pairwise fun a b => enR a ≤ b.f := o.1.filter q
    refine List.Pairwise.imp_of_mem (fun {x y} hx hy h => ?_) h3
    have hx := List.mem_filter.mp hx
    have hy := List.mem_filter.mp hy
    exact h2 x hx.1 y hy.1 hx.2 hy.2 h
  · obtain ⟨x, hx, rfl⟩ := List.mem_map.mp hr
    have hx := List.mem_filter.mp hx
    exact h1 x hx.1 hx.2
theorem po_amid {r : Rn} {a e : Int} (h1 : a < enR r) (h2 : r.f < e) (h3 : a < e) (h0 : 0 < r.m) : a ≤ (poR r a e).f ∧ enR (poR r a e) ≤ e ∧ 0 < (poR r a e).m := by
  have e1 : (poR r a e).f = max r.f a := rfl
  have e2 : (poR r a e).m = min (enR r) e - max r.f a := rfl
  have e3 : enR (poR r a e) = max r.f a + (min (enR r) e - max r.f a) := rfl
  rw [e3, e2, e1]
  unfold enR at *
  omega
theorem pm_po {a e p : Int} : ∀ {N : List Rn}, (∀ x ∈ N, 0 < x.m) → pm ((N.filter fun r => decide (r.f < e)).map fun r => poR r a e) p = if a ≤ p ∧ p < e then pm N p else none
  | [], _ => by simp [pm]
  | x :: N, h => by
    have ih := pm_po (a := a) (e := e) (p := p) (N := N) fun y hy => h y (List.mem_cons_of_mem _ hy)
    have hx := h x List.mem_cons_self
    rw [List.filter_cons]
    by_cases c : x.f < e
    · rw [decide_eq_true c]
      simp only [if_true, List.map_cons]
      show (if max x.f a ≤ p ∧ p < max x.f a + (min (enR x) e - max x.f a) then some (x.r, tf ⟨_, _, _, tf x (max x.f a)⟩ p) else pm _ p) = if a ≤ p ∧ p < e then (if x.f ≤ p ∧ p < enR x then some (x.r, tf x p) else pm N p) else none
      rw [ih, tf_shift]
      by_cases c2 : a ≤ p ∧ p < e
      · rw [if_pos c2, if_pos c2]
        by_cases c3 : x.f ≤ p ∧ p < enR x
        · rw [if_pos c3, if_pos (by omega)]
        · rw [if_neg c3, if_neg (by omega)]
      · rw [if_neg c2, if_neg c2, if_neg (by omega)]
    · rw [decide_eq_false c]
      simp only [Bool.false_eq_true, if_false]
      rw [ih]
      show _ = if a ≤ p ∧ p < e then (if x.f ≤ p ∧ p < enR x then some (x.r, tf x p) else pm N p) else none
      by_cases c2 : a ≤ p ∧ p < e
      · rw [if_pos c2, if_pos c2, if_neg (by omega)]
      · rw [if_neg c2, if_neg c2]
theorem pam_ok {rs : List Rn} {a n : Int} (o : OrdR rs) (hn : 0 < n) : OrdR (pam rs a n) ∧ (∀ x ∈ pam rs a n, a ≤ x.f ∧ enR x ≤ a + n) ∧ ∀ p, pm (pam rs a n) p = if a ≤ p ∧ p < a + n then pm rs p else none := by
  obtain ⟨A, M, R, e, h1, h2, hA, hM, hR⟩ := pb_two o (p := a) (q := a + n) (by omega)
  have eN : cutR rs (pb rs a) (pb rs (a + n) + 1) = M ++ R.take 1 := by rw [h1, h2]; conv => lhs; rw [e]
                                                                        exact cut_is rfl rfl
  unfold pam
  rw [eN]
  have hRs : R = R.take 1 ++ R.drop 1 := (List.take_append_drop 1 R).symm
  have o3 : OrdR (A ++ ((M ++ R.take 1) ++ R.drop 1)) := by rw [List.append_assoc M, ← hRs, ← List.append_assoc, ← e]; exact o
  have hN : ∀ x ∈ M ++ R.take 1, a < enR x := fun x hx => by
    rcases List.mem_append.mp hx with hx | hx
    · exact (hM x hx).1
    · have := hR x (List.mem_of_mem_take hx); omega
  have hB : ∀ x ∈ R.drop 1, a + n < x.f := fun x hx => by
    cases R with
    | nil => cases hx
    | cons z B =>
      have h5 := ord_amid (ord_right o3) z (by simp) x hx
      have := hR z List.mem_cons_self
      omega
  have oN : OrdR (M ++ R.take 1) := ord_left (ord_right o3)
  have ep : ∀ p, pm rs p = (pm A p).or ((pm (M ++ R.take 1) p).or (pm (R.drop 1) p)) := fun p => by
    rw [← pm_append, ← pm_append, List.append_assoc M, ← hRs, ← List.append_assoc, ← e]
  generalize M ++ R.take 1 = N at *
  generalize R.drop 1 = B at *
  refine ⟨ord_map oN (fun x hx c => ?_) (fun x hx y hy c1 c2 h => ?_), fun x hx => ?_, fun p => ?_⟩
  · exact (po_amid (hN x hx) (by simpa using c) (by omega) (oN.2 x hx)).2.2
  · show max x.f a + (min (enR x) (a + n) - max x.f a) ≤ max y.f a
    omega
  · obtain ⟨y, hy, rfl⟩ := List.mem_map.mp hx
    have hy := List.mem_filter.mp hy
    have := po_amid (hN y hy.1) (by simpa using hy.2) (show a < a + n by omega) (oN.2 y hy.1)
    exact ⟨this.1, this.2.1⟩
  · rw [pm_po fun x hx => oN.2 x hx, ep p]
    by_cases c : a ≤ p ∧ p < a + n
    · rw [if_pos c, if_pos c, pm_above (rs := A) fun r hr => by have := hA r hr; omega, pm_below (rs := B) fun r hr => by have := hB r hr; omega]
      cases pm N p <;> rfl
    · rw [if_neg c, if_neg c]
theorem at_page {rs : List Rn} {p : Int} (o : OrdR rs) : (pam rs p 1 = [] ∧ pm rs p = none) ∨ ∃ x, pam rs p 1 = [x] ∧ pm rs p = some (x.r, x.t) := by
  obtain ⟨h1, h2, h3⟩ := pam_ok (a := p) o (show (0 : Int) < 1 by decide)
  cases e : pam rs p 1 with
  | nil =>
    refine .inl ⟨rfl, ?_⟩
    have := h3 p
    rw [e, if_pos (by omega)] at this
    exact this.symm
  | cons x L =>
    rw [e] at h1 h2 h3
    have hx := h2 x List.mem_cons_self
    have px := h1.2 x List.mem_cons_self
    have ex : enR x = x.f + x.m := rfl
    have hL : L = [] := by
      cases L with
      | nil => rfl
      | cons y L =>
        have h4 := h1.head y List.mem_cons_self
        have h5 := h2 y (by simp)
        have h6 := h1.2 y (by simp)
        have ey : enR y = y.f + y.m := rfl
        omega
    subst hL
    refine .inr ⟨x, rfl, ?_⟩
    have := h3 p
    rw [if_pos (by omega)] at this
    rw [← this]
    have hf : x.f = p := by omega
    show (if x.f ≤ p ∧ p < enR x then some (x.r, tf x p) else none) = _
    rw [if_pos (by omega), ← hf, tf_at]
theorem pb_le {rs : List Rn} {p : Int} : pb rs p ≤ rs.length := by unfold pb; exact (List.takeWhile_prefix _).length_le
theorem pb_at {rs : List Rn} (o : OrdR rs) {p : Int} {i : Nat} {x : Rn} (h : rs[i]? = some x) : i < pb rs p ↔ enR x ≤ p := by
  obtain ⟨A, R, e, h1, h2, h3⟩ := pb_part o p
  rw [h1]
  rw [e] at h
  constructor
  · intro hi
    rw [List.getElem?_append_left hi] at h
    exact h2 x (List.mem_of_getElem? h)
  · intro hx
    rcases Nat.lt_or_ge i A.length with hi | hi
    · exact hi
    · rw [List.getElem?_append_right hi] at h
      have := h3 x (List.mem_of_getElem? h)
      omega

def TieAt (H : Hp) (v : V) : Option (Int × Int) → Prop
  | none => v = .non
  | some (b, k) => ∃ a, v = .ref a ∧ H a = some (.tup [.int b, .int k])
def RunAt (H : Hp) (v : V) (r : Rn) : Prop := ∃ a tv, v = .ref a ∧ H a = some (.tup [.int r.f, .int r.m, .int r.r, tv]) ∧ TieAt H tv r.t
theorem TieAt.same {H H' : Hp} {v : V} : ∀ {t : Option (Int × Int)}, TieAt H v t → Same H H' → TieAt H' v t
  | none, h, _ => h
  | some (b, k), ⟨a, e, h⟩, s => ⟨a, e, s _ _ h⟩
theorem RunAt.same {H H' : Hp} {v : V} {r : Rn} (h : RunAt H v r) (s : Same H H') : RunAt H' v r := let ⟨a, tv, e, h1, h2⟩ := h; ⟨a, tv, e, s _ _ h1, h2.same s⟩
theorem TieAt.same2 {H H' : Hp} {a : Addr} {xs : List V} {o : HO} {v : V} (hx : H' a = some (.lst xs)) : ∀ {t : Option (Int × Int)}, TieAt H' v t → TieAt (upd H' a o) v t
  | none, h => h
  | some (b, k), ⟨c, e, h⟩ => ⟨c, e, by rw [upd_ne (ne_of h hx fun z => nomatch z)]; exact h⟩
theorem RunAt.same2 {H H' : Hp} {a : Addr} {xs : List V} {o : HO} {v : V} {r : Rn} (h : RunAt H' v r) (hx : H' a = some (.lst xs)) (_ : Same H H') : RunAt (upd H' a o) v r :=
  let ⟨c, tv, e, h1, h2⟩ := h
  ⟨c, tv, e, by rw [upd_ne (ne_of h1 hx fun z => nomatch z)]; exact h1, TieAt.same2 (H := H) hx h2⟩
abbrev RunsAt (H : Hp) : List V → List Rn → Prop := Paired (RunAt H)
theorem RunsAt.same {H H' : Hp} {vs : List V} {rs : List Rn} (h : RunsAt H vs rs) (s : Same H H') : RunsAt H' vs rs := Paired.mapP h fun _ _ q => q.same s
theorem RunsAt.same2 {H H' : Hp} {a : Addr} {xs : List V} {o : HO} {vs : List V} {rs : List Rn} (h : RunsAt H' vs rs) (hx : H' a = some (.lst xs)) (s : Same H H') : RunsAt (upd H' a o) vs rs := Paired.mapP h fun _ _ q => q.same2 hx s
theorem prd_get {α β : Type} {F : α → β → Prop} : ∀ {xs : List α} {ys : List β} {i : Nat} {x : α}, Paired F xs ys → xs[i]? = some x → ∃ y, ys[i]? = some y ∧ F x y
  | _, _, _, _, .nil, e => by simp at e
  | _, _, 0, _, .cons r _, e => by simp at e; subst e; exact ⟨_, rfl, r⟩
  | _, _, i + 1, x, .cons _ t, e => by
    obtain ⟨u, h1, h2⟩ := prd_get (i := i) (x := x) t (by simpa using e)
    exact ⟨u, by simpa using h1, h2⟩
theorem prd_app {α β : Type} {F : α → β → Prop} : ∀ {xs : List α} {ys : List β} {zs : List α} {ws : List β}, Paired F xs ys → Paired F zs ws → Paired F (xs ++ zs) (ys ++ ws)
  | _, _, _, _, .nil, h => h
  | _, _, _, _, .cons r t, h => .cons r (prd_app t h)
theorem prd_take {α β : Type} {F : α → β → Prop} : ∀ {xs : List α} {ys : List β} (n : Nat), Paired F xs ys → Paired F (xs.take n) (ys.take n)
  | _, _, 0, _ => .nil
  | _, _, _ + 1, .nil => .nil
  | _, _, n + 1, .cons r t => .cons r (prd_take n t)
theorem prd_drop {α β : Type} {F : α → β → Prop} : ∀ {xs : List α} {ys : List β} (n : Nat), Paired F xs ys → Paired F (xs.drop n) (ys.drop n)
  | _, _, 0, h => h
  | _, _, _ + 1, .nil => .nil
  | _, _, n + 1, .cons _ t => prd_drop n t

def sp_end_of (K : PySem.W.Frag) : Sp := fun vs H Q _ => ∃ v r, vs = [v] ∧ RunAt H v r ∧ Q (.int (enR r)) H
theorem h_end_of (T : Txt K mg A) : Have P w K mg base "end_of" 1 ["run"] [] (sp_end_of K) := by
  refine T.r_end_of.have sc_end_of (fun vs H Q E z => ?_) ?_
  · obtain ⟨v, r, rfl, _⟩ := z; rfl
  · intro f cdv A' outer s H vs Q E hr z
    obtain ⟨v, r, rfl, ⟨a, tv, rfl, ha, ht⟩, q⟩ := z
    refine ⟨_, (pss_one (ps_ret (pe_op op_add (pe_ix ix_tup (pvM 0) pe_int (fun _ _ => rfl)) (pe_ix ix_tup (pvM 0) pe_int (fun _ _ => rfl))))), ?_⟩
    walk_at "wp"
    exact ⟨_, SqT.of ha, _, rfl, _, SqT.of ha, _, rfl, _, rfl, _, rfl, q⟩
def sp_tie_from (K : PySem.W.Frag) : Sp := fun vs H Q _ => ∃ v r p, vs = [v, .int p] ∧ RunAt H v r ∧ ∀ u H', Same H H' → TieAt H' u (tf r p) → Q u H'
theorem h_tie_from (T : Txt K mg A) : Have P w K mg base "tie_from" 1 ["run", "page"] [] (sp_tie_from K) := by
  refine T.r_tie_from.have sc_tie_from (fun vs H Q E z => ?_) ?_
  · obtain ⟨v, r, p, rfl, _⟩ := z; rfl
  · intro f cdv A' outer s H vs Q E hr z
    obtain ⟨v, r, p, rfl, ⟨a, tv, rfl, ha, ht⟩, q⟩ := z
    refine ⟨_, (pss_cons (ps_set (i := 2) sc_tie_from.nd rfl (Or.inl rfl) (pe_ix ix_tup (pvM 0) pe_int (fun _ _ => rfl)))
      (pss_cons (ps_if (pt_cmpR op_isN (pvM 2) pe_non (nomark _)) (pss_one (ps_ret pe_non)) pss_nil)
      (pss_one (ps_ret (pe_tup (pa_cons (pe_ix ix_tup (pvM 2) pe_int (fun _ _ => rfl)) (pa_cons (pe_op op_sub (pe_op op_add (pe_ix ix_tup (pvM 2) pe_int (fun _ _ => rfl)) (pvM 1)) (pe_ix ix_tup (pvM 0) pe_int (fun _ _ => rfl))) pa_nil))))))), ?_⟩
    walk_at "wp"
    refine ⟨_, SqT.of ha, _, rfl, ?_⟩
    cases e : r.t with
    | none =>
      rw [e] at ht
      have ht : tv = .non := ht
      subst ht
      rw [if_pos rfl]
      refine q _ _ same_refl ?_
      unfold tf
      rw [e]
      rfl
    | some t =>
      obtain ⟨b, k⟩ := t
      rw [e] at ht
      obtain ⟨c, rfl, hc⟩ := ht
      rw [if_neg (fun z => nomatch z)]
      walk_at "wp"
      refine ⟨_, SqT.of hc, _, rfl, _, SqT.of hc, _, rfl, _, rfl, _, SqT.of ha, _, rfl, _, rfl, fun p2 hp2 => ?_⟩
      refine q _ _ (same_upd same_refl hp2) ?_
      unfold tf
      rw [e]
      exact ⟨p2, rfl, upd_same⟩
def sp_part_of (K : PySem.W.Frag) : Sp := fun vs H Q _ => ∃ v r lo hi, vs = [v, .int lo, .int hi] ∧ RunAt H v r ∧ ∀ u H', Same H H' → RunAt H' u (poR r lo hi) → Q u H'
theorem h_part_of (T : Txt K mg A) : Have P w K mg base "part_of" 2 ["run", "low", "high"] [] (sp_part_of K) := by
  have H_end_of := h_end_of (P := P) (w := w) (base := base) T
  have H_tie_from := h_tie_from (P := P) (w := w) (base := base) T
  refine T.r_part_of.have sc_part_of (fun vs H Q E z => ?_) ?_
  · obtain ⟨v, r, lo, hi, rfl, _⟩ := z; rfl
  · intro f cdv A' outer s H vs Q E hr z
    obtain ⟨v, r, lo, hi, rfl, hR, q⟩ := z
    obtain ⟨a, tv, rfl, ha, ht⟩ := id hR
    refine ⟨_, (pss_cons (ps_set (i := 3) sc_part_of.nd rfl (Or.inl rfl) (pe_callB (call_max2 rfl) rfl T.b_max PyProof.Rows.boot_max (pa_cons (pe_ix ix_tup (pvM 0) pe_int (fun _ _ => rfl)) (pa_cons (pvM 1) pa_nil))))
      (pss_one (ps_ret (pe_tup (pa_cons (pvM 3) (pa_cons (pe_op op_sub (pe_callB (call_min2 rfl) rfl T.b_min PyProof.Rows.boot_min (pa_cons (pe_callE H_end_of (hr.mono (by decide)) xw_def (pa_cons (pvM 0) pa_nil)) (pa_cons (pvM 2) pa_nil))) (pvM 3)) (pa_cons (pe_ix ix_tup (pvM 0) pe_int (fun _ _ => rfl)) (pa_cons (pe_callE H_tie_from (hr.mono (by decide)) xw_def (pa_cons (pvM 0) (pa_cons (pvM 3) pa_nil))) pa_nil)))))))), ?_⟩
    unfold sp_end_of sp_tie_from
    walk_at "wp"
    refine ⟨_, SqT.of ha, _, rfl, _, rfl, r, hR, _, SqT.of ha, _, rfl, r, hR, fun u H1 s1 hu p hp => ?_⟩
    have e1 : (if lo > r.f then lo else r.f) = max r.f lo := by split <;> omega
    have e2 : (if hi < enR r then hi else enR r) = min (enR r) hi := by split <;> omega
    rw [e1, e2]
    rw [e1] at hu
    refine q _ _ (same_upd s1 hp) ⟨p, u, rfl, upd_same, ?_⟩
    exact hu.same (same_upd same_refl hp)
def stF (a : Addr) : List (Str × V) := putF "runs" (.ref a) []
theorem stF_runs {a : Addr} : (stF a).lookup ("runs" : Str) = some (.ref a) := by rfl
theorem stF_no {a : Addr} {m : Str} (h : ¬ m ∈ (["runs"] : List Str)) : (stF a).lookup m = none := by
  simp only [List.mem_cons, List.not_mem_nil, or_false] at h
  unfold stF
  simp only [lookup_putF, h, if_false]
  rfl
def StAt (C : Addr) (H : Hp) (p a : Addr) (rs : List Rn) : Prop := ∃ dx vs, H p = some (.ins C dx (stF a)) ∧ H a = some (.lst vs) ∧ RunsAt H vs rs
theorem StAt.same {C : Addr} {H H' : Hp} {p a : Addr} {rs : List Rn} (h : StAt C H p a rs) (s : Same H H') : StAt C H' p a rs := let ⟨dx, vs, h1, h2, h3⟩ := h; ⟨dx, vs, s _ _ h1, s _ _ h2, RunsAt.same h3 s⟩
def sp_place (K : PySem.W.Frag) (C : Addr) : Sp := fun vs H Q _ => ∃ (p a : Addr) (rs : List Rn) (x : Int), vs = [.ref p, .int x] ∧ StAt C H p a rs ∧ OrdR rs ∧ rs.length ≤ 1000000 ∧ Q (.int (pb rs x)) H
theorem h_place (T : Txt K mg A) : HaveM P w K mg base A.C_Stretches "place_behind" 2 ["self", "page"] [] (sp_place K A.C_Stretches) := by
  have H_end_of := h_end_of (P := P) (w := w) (base := base) T
  refine T.r_Stretches_place_behind.have sc_Stretches_place_behind (fun vs H Q E z => ?_) ?_
  · obtain ⟨p, a, rs, x, rfl, _⟩ := z; rfl
  · intro f cdv A' outer s H vs Q E hr z
    obtain ⟨p, a, rs, x, rfl, ⟨dx, vs, h1, h2, h3⟩, ho, hlen, q⟩ := z
    refine ⟨_, (pss_cons (ps_set (i := 2) sc_Stretches_place_behind.nd rfl (Or.inl rfl) pe_int)
      (pss_cons (ps_set (i := 3) sc_Stretches_place_behind.nd rfl (Or.inl rfl) (pe_callB call_len rfl T.b_len PySem.boot_len (pa_cons (pe_fld (pvM 0) rfl) pa_nil)))
      (pss_cons (ps_whileE PassesOwn.leaving (pt_cmpR op_lt (pvM 2) (pvM 3) (nomark _)) (pss_cons (ps_set (i := 4) sc_Stretches_place_behind.nd rfl (Or.inl rfl) (pe_op op_fdiv (pe_op op_add (pvM 2) (pvM 3)) pe_int))
      (pss_one (ps_if (pt_cmpR op_gt (pe_callE H_end_of (hr.mono (by decide)) xw_def (pa_cons (pe_ix ix_list (pe_fld (pvM 0) rfl) (pvM 4) (fun _ _ => rfl)) pa_nil)) (pvM 1) (nomark _)) (pss_one (ps_set (i := 3) sc_Stretches_place_behind.nd rfl (Or.inl rfl) (pvM 4))) (pss_one (ps_set (i := 2) sc_Stretches_place_behind.nd rfl (Or.inl rfl) (pe_op op_add (pvM 4) pe_int)))))))
      (pss_one (ps_ret (pvM 2)))))), ?_⟩
    have hvl : vs.length = rs.length := Paired.length h3
    unfold sp_end_of
    walk_at "wp"
    simp only [h1]
    walk_at "wp"
    refine ⟨T.cl_Stretches, T.na_Stretches_runs, _, stF_runs, vs.length, .inl ⟨_, SqL.of h2, rfl⟩, ?_⟩
    refine loop_while (fun mm σ H' => ∃ (lo hi : Nat) (v4 : Option V), mm = hi - lo ∧ σ = [some (.ref p), some (.int x), some (.int lo), some (.int hi), v4] ∧ H' = H ∧ lo ≤ pb rs x ∧ pb rs x ≤ hi ∧ hi ≤ rs.length) vs.length ⟨0, vs.length, _, rfl, rfl, rfl, Nat.zero_le _, by rw [hvl]; exact pb_le, by omega⟩ (fun mm σ H' => ?_)
    rintro ⟨lo, hi, v4, rfl, rfl, rfl, k1, k2, k3⟩
    walk_at "wp"
    by_cases c : (lo : Int) < (hi : Int)
    · rw [if_pos c]
      refine turnW ?_
      walk_at "wp"
      have hmid : (lo + hi) / 2 < vs.length := by omega
      obtain ⟨r, hr1, hr2⟩ := prd_get h3 (List.getElem?_eq_getElem hmid)
      have hat := atI_nat (List.getElem?_eq_getElem hmid)
      have em : ((lo : Int) + (hi : Int)) / 2 = (((lo + hi) / 2 : Nat) : Int) := by omega
      have hpb := pb_at ho (p := x) hr1
      rw [em]
      refine ⟨_, dx, _, h1, T.cl_Stretches, T.na_Stretches_runs, _, stF_runs, a, rfl, _, SqL.of h2, _, hat, r, hr2, ?_⟩
      by_cases c2 : x < enR r
      · rw [if_pos c2]
        have : ¬ (lo + hi) / 2 < pb rs x := fun z => by have := hpb.mp z; omega
        refine ⟨(lo + hi) / 2 - lo, by omega, lo, (lo + hi) / 2, ?_⟩
        first
          | exact ⟨rfl, rfl, rfl, k1, by omega, by omega⟩
          | exact ⟨rfl, k1, by omega, by omega⟩
          | (trace_state; exact ⟨rfl, rfl, k1, by omega, by omega⟩)
      · rw [if_neg c2]
        have : (lo + hi) / 2 < pb rs x := hpb.mpr (by omega)
        refine ⟨hi - ((lo + hi) / 2 + 1), by omega, (lo + hi) / 2 + 1, hi, ?_⟩
        first
          | exact ⟨rfl, rfl, rfl, by omega, k2, k3⟩
          | exact ⟨rfl, by omega, k2, k3⟩
          | (trace_state; exact ⟨rfl, by omega, rfl, by omega, k2, k3⟩)
    · rw [if_neg c]
      have e : pb rs x = lo := by omega
      rw [e] at q
      exact q

theorem cutV_nat {xs : List V} {lo hi : Nat} : cutV xs (some (lo : Int)) (some (hi : Int)) = (xs.take hi).drop lo := by
  unfold cutV
  show (xs.drop (if (lo : Int) < 0 then ((lo : Int) + (xs.length : Int)).toNat else min (lo : Int).toNat xs.length)).take ((if (hi : Int) < 0 then ((hi : Int) + (xs.length : Int)).toNat else min (hi : Int).toNat xs.length) - (if (lo : Int) < 0 then ((lo : Int) + (xs.length : Int)).toNat else min (lo : Int).toNat xs.length)) = _
  rw [if_neg (by omega), if_neg (by omega), Int.toNat_natCast, Int.toNat_natCast, List.drop_take]
  refine List.ext_getElem? fun k => ?_
  rw [List.getElem?_take, List.getElem?_take, List.getElem?_drop, List.getElem?_drop]
  by_cases h1 : k < hi - lo
  · rw [if_pos h1]
    by_cases h2 : k < min hi xs.length - min lo xs.length
    · rw [if_pos h2, Nat.min_eq_left (by omega)]
    · rw [if_neg h2, List.getElem?_eq_none_iff.mpr (by omega)]
  · rw [if_neg h1]
    by_cases h2 : k < min hi xs.length - min lo xs.length
    · rw [if_pos h2, List.getElem?_eq_none_iff.mpr (by omega)]
    · rw [if_neg h2]
theorem cutV_to {xs : List V} {hi : Nat} : cutV xs none (some (hi : Int)) = xs.take hi := by
  unfold cutV
  show (xs.drop 0).take ((if (hi : Int) < 0 then ((hi : Int) + (xs.length : Int)).toNat else min (hi : Int).toNat xs.length) - 0) = _
  rw [if_neg (by omega), Int.toNat_natCast, List.drop_zero, Nat.sub_zero]
  rcases Nat.le_total hi xs.length with h | h
  · rw [Nat.min_eq_left h]
  · rw [Nat.min_eq_right h, List.take_length, List.take_of_length_le h]
theorem cutV_from {xs : List V} {lo : Nat} : cutV xs (some (lo : Int)) none = xs.drop lo := by
  unfold cutV
  show (xs.drop (if (lo : Int) < 0 then ((lo : Int) + (xs.length : Int)).toNat else min (lo : Int).toNat xs.length)).take (xs.length - (if (lo : Int) < 0 then ((lo : Int) + (xs.length : Int)).toNat else min (lo : Int).toNat xs.length)) = _
  rw [if_neg (by omega), Int.toNat_natCast]
  rcases Nat.le_total lo xs.length with h | h
  · rw [Nat.min_eq_left h]
    exact List.take_of_length_le (by rw [List.length_drop]; omega)
  · rw [Nat.min_eq_right h, Nat.sub_self, List.take_zero, List.drop_eq_nil_of_le h]
def sp_parts (K : PySem.W.Frag) (C : Addr) : Sp := fun vs H Q _ => ∃ (p a : Addr) (rs : List Rn) (x n : Int), vs = [.ref p, .int x, .int n] ∧ StAt C H p a rs ∧ OrdR rs ∧ rs.length ≤ 1000000 ∧ ∀ t us H', Same H H' → H t = none → H' t = some (.lst us) → RunsAt H' us (pam rs x n) → Q (.ref t) H'
theorem h_parts (T : Txt K mg A) : HaveM P w K mg base A.C_Stretches "parts_amid" 4 ["self", "first", "many"] [] (sp_parts K A.C_Stretches) := by
  have H_part_of := h_part_of (P := P) (w := w) (base := base) T
  have H_Stretches_place_behind := h_place (P := P) (w := w) (base := base) T
  refine T.r_Stretches_parts_amid.have sc_Stretches_parts_amid (fun vs H Q E z => ?_) ?_
  · obtain ⟨p, a, rs, x, n, rfl, _⟩ := z; rfl
  · intro f cdv A' outer s H vs Q E hr z
    obtain ⟨p, a, rs, x, n, rfl, hS, ho, hlen, q⟩ := z
    obtain ⟨dx, vs, h1, h2, h3⟩ := id hS
    refine ⟨_, (pss_cons (ps_set (i := 3) sc_Stretches_parts_amid.nd rfl (Or.inr rfl) (pe_op op_add (pvM 1) (pvM 2)))
      (pss_cons (ps_set (i := 4) sc_Stretches_parts_amid.nd rfl (Or.inl rfl) (pe_slice sl_list (pe_fld (pvM 0) rfl) (po_some (pe_methE (pvM 0) T.cl_Stretches H_Stretches_place_behind (hr.mono (by decide)) xw_def (pa_cons (pvM 1) pa_nil))) (po_some (pe_op op_add (pe_methE (pvM 0) T.cl_Stretches H_Stretches_place_behind (hr.mono (by decide)) xw_def (pa_cons (pvM 3) pa_nil)) pe_int))))
      (pss_one (ps_ret (pe_comp rfl (pi_list (pvM 4)) (x := "run") (fs := ["first", "end"]) (ix := [1, 3]) rfl rfl (fun _ _ _ _ _ _ => (pg_name (i := 0) (show (["run", "first", "end"] : List Str).Nodup by decide +kernel) rfl (Or.inl rfl))) (fun _ _ _ _ _ _ => (pf_one (pt_cmpR op_lt (pe_ix (ix_tupC (K := K) rfl) (pvM 0) pe_int (fun _ _ => rfl)) (pvM 2) (nomark _)))) (fun _ _ _ _ _ _ => (pe_callE H_part_of (hr.mono (by decide)) xw_no (pa_cons (pvM 0) (pa_cons (pvM 1) (pa_cons (pvM 2) pa_nil)))))))))), ?_⟩
    unfold sp_part_of sp_place
    walk_at "wp"
    simp only [h1]
    walk_at "wp"
    refine ⟨T.cl_Stretches, T.na_Stretches_runs, _, stF_runs, stF_no (by decide +kernel), a, rs, hS, ho, hlen, stF_no (by decide +kernel), a, rs, hS, ho, hlen, ?_⟩
    refine ⟨a, rfl, _, SqL.of h2, fun sl hsl => ⟨⟨_, SqL.of upd_same⟩, ?_⟩⟩
    have ecut : cutV vs (some ((pb rs x : Nat) : Int)) (some (((pb rs (x + n) : Nat) : Int) + 1)) = (vs.take (pb rs (x + n) + 1)).drop (pb rs x) := cutV_nat (hi := pb rs (x + n) + 1)
    rw [ecut]
    have hnear : RunsAt H ((vs.take (pb rs (x + n) + 1)).drop (pb rs x)) (cutR rs (pb rs x) (pb rs (x + n) + 1)) := prd_drop _ (prd_take _ h3)
    have q' : ∀ t us H', Same H H' → H t = none → H' t = some (.lst us) → RunsAt H' us (((cutR rs (pb rs x) (pb rs (x + n) + 1)).filter fun r => decide (r.f < x + n)).map fun r => poR r x (x + n)) → Q (.ref t) H' := q
    have hnl : (cutR rs (pb rs x) (pb rs (x + n) + 1)).length ≤ 1000000 := by
      unfold cutR
      rw [List.length_drop, List.length_take]
      omega
    generalize (vs.take (pb rs (x + n) + 1)).drop (pb rs x) = nv at *
    generalize cutR rs (pb rs x) (pb rs (x + n) + 1) = near at *
    intro D hD
    have s1 := same_upd (o := .lst nv) same_refl hsl
    have hnvl : nv.length = near.length := Paired.length hnear
    refine comp_list (xs := nv) (fun i ys σ H' => ∃ v, σ = [v, some (.int x), some (.int (x + n))] ∧ Same (upd H sl (.lst nv)) H' ∧ H' D = some (.lst ys) ∧ RunsAt H' ys (((near.take i).filter fun r => decide (r.f < x + n)).map fun r => poR r x (x + n))) ⟨_, rfl, same_upd same_refl hD, upd_same, .nil⟩ (fun i ys σ H' _ ⟨_, _, s2, _⟩ => SqL.of (s2 _ _ upd_same)) (fun i v ys σ H' hi => ?_) (fun ys σ H' => ?_)
    · rintro ⟨v0, rfl, s2, hDD, hys⟩
      obtain ⟨r, hr1, hr2⟩ := prd_get hnear hi
      have hrx := hr2.same (s1.trans s2)
      have htk : near.take (i + 1) = near.take i ++ [r] := by rw [List.take_add_one, hr1]; rfl
      have hil : i < near.length := (List.getElem?_eq_some_iff.mp hr1).1
      have hyl : ys.length ≤ i := by
        have h4 := Paired.length hys
        rw [List.length_map] at h4
        have h5 := List.length_filter_le (fun r : Rn => decide (r.f < x + n)) (near.take i)
        rw [List.length_take] at h5
        omega
      rw [htk, List.filter_append, List.map_append]
      obtain ⟨c, cv, rfl, hc, hcv⟩ := id hrx
      walk_at "wp"
      refine ⟨_, SqT.of hc, _, rfl, _, rfl, ?_⟩
      by_cases c1 : r.f < x + n
      · rw [if_pos c1]
        refine ⟨r, hrx, fun u H2 s3 hu => ?_⟩
        have hD2 := s3 _ _ hDD
        have hu2 : RunAt (upd H2 D (.lst (ys ++ [u]))) u (poR r x (x + n)) := RunAt.same2 (H := H2) hu hD2 same_refl
        have hys2 : RunsAt (upd H2 D (.lst (ys ++ [u]))) ys (((near.take i).filter fun r => decide (r.f < x + n)).map fun r => poR r x (x + n)) := RunsAt.same2 (H := H2) (RunsAt.same hys s3) hD2 same_refl
        refine ⟨hD2, by omega, same_put (s2.trans s3) hD, ?_⟩
        have ef : [r].filter (fun r => decide (r.f < x + n)) = [r] := by rw [List.filter_cons, decide_eq_true c1]; rfl
        rw [ef]
        exact prd_app hys2 (.cons hu2 .nil)
      · rw [if_neg c1]
        have ef : [r].filter (fun r => decide (r.f < x + n)) = [] := by rw [List.filter_cons, decide_eq_false c1]; rfl
        rw [ef, List.map_nil, List.append_nil]
        exact ⟨s2, hDD, hys⟩
    · rintro ⟨v0, rfl, s2, hDD, hys⟩
      rw [hnvl, List.take_length] at hys
      exact q' _ _ _ (s1.trans s2) (same_none s1 hD) hDD hys

def sp_free (C : Addr) : Sp := fun vs H Q _ => ∃ (p a : Addr) (rs : List Rn) (x n : Int), vs = [.ref p, .int x, .int n] ∧ StAt C H p a rs ∧ OrdR rs ∧ rs.length ≤ 1000000 ∧ ∀ H', Same H H' → Q (.bl (decide (pam rs x n = []))) H'
theorem h_free (T : Txt K mg A) : HaveM P w K mg base A.C_Stretches "is_free" 5 ["self", "first", "many"] [] (sp_free A.C_Stretches) := by
  have H_Stretches_parts_amid := h_parts (P := P) (w := w) (base := base) T
  refine T.r_Stretches_is_free.have sc_Stretches_is_free (fun vs H Q E z => ?_) ?_
  · obtain ⟨p, a, rs, x, n, rfl, _⟩ := z; rfl
  · intro f cdv A' outer s H vs Q E hr z
    obtain ⟨p, a, rs, x, n, rfl, hS, ho, hlen, q⟩ := z
    obtain ⟨dx, vs, h1, h2, h3⟩ := id hS
    refine ⟨_, (pss_one (ps_ret (pe_cmpR op_eq (pe_callB call_len rfl T.b_len PySem.boot_len (pa_cons (pe_methE (pvM 0) T.cl_Stretches H_Stretches_parts_amid (hr.mono (by decide)) xw_def (pa_cons (pvM 1) (pa_cons (pvM 2) pa_nil))) pa_nil)) pe_int (nomark _)))), ?_⟩
    unfold sp_parts
    walk_at "wp"
    simp only [h1]
    walk_at "wp"
    refine ⟨stF_no (by decide +kernel), a, rs, hS, ho, hlen, fun t us H1 s1 ht0 ht hU => ⟨us.length, .inl ⟨_, SqL.of ht, rfl⟩, ?_⟩⟩
    have hl := Paired.length hU
    have e : decide ((us.length : Int) = 0) = decide (pam rs x n = []) := by
      rw [decide_eq_decide, ← List.length_eq_zero_iff, ← hl]
      omega
    rw [e]
    exact q _ s1
def sp_st_told (C : Addr) : Sp := fun vs H Q _ => ∃ (p a : Addr) (rs : List Rn), vs = [.ref p] ∧ StAt C H p a rs ∧ ∀ t us, H t = none → RunsAt (upd H t (.lst us)) us rs → Q (.ref t) (upd H t (.lst us))
theorem h_st_told (T : Txt K mg A) : HaveM P w K mg base A.C_Stretches "told" 1 ["self"] [] (sp_st_told A.C_Stretches) := by
  refine T.r_Stretches_told.have sc_Stretches_told (fun vs H Q E z => ?_) ?_
  · obtain ⟨p, a, rs, rfl, _⟩ := z; rfl
  · intro f cdv A' outer s H vs Q E hr z
    obtain ⟨p, a, rs, rfl, hS, q⟩ := z
    obtain ⟨dx, vs, h1, h2, h3⟩ := id hS
    refine ⟨_, (pss_one (ps_ret (pe_callTy call_list_of rfl T.b_list PyProof.Rows.boot_list (pa_cons (pe_fld (pvM 0) rfl) pa_nil)))), ?_⟩
    walk_at "wp"
    simp only [h1]
    walk_at "wp"
    refine ⟨T.cl_Stretches, T.na_Stretches_runs, _, stF_runs, a, rfl, _, .inl (SqL.of h2), fun t ht => ?_⟩
    exact q t vs ht (RunsAt.same h3 (same_upd same_refl ht))
def sp_pat (C : Addr) : Sp := fun vs H Q _ => ∃ (p a : Addr) (rs : List Rn) (x : Int), vs = [.ref p, .int x] ∧ StAt C H p a rs ∧ OrdR rs ∧ rs.length ≤ 1000000 ∧ ∀ v H', Same H H' → ((v = .non ∧ pm rs x = none) ∨ ∃ y, RunAt H' v y ∧ pm rs x = some (y.r, y.t)) → Q v H'
theorem h_pat (T : Txt K mg A) : HaveM P w K mg base A.C_Stretches "part_at" 5 ["self", "page"] [] (sp_pat A.C_Stretches) := by
  have H_Stretches_parts_amid := h_parts (P := P) (w := w) (base := base) T
  refine T.r_Stretches_part_at.have sc_Stretches_part_at (fun vs H Q E z => ?_) ?_
  · obtain ⟨p, a, rs, x, rfl, _⟩ := z; rfl
  · intro f cdv A' outer s H vs Q E hr z
    obtain ⟨p, a, rs, x, rfl, hS, ho, hlen, q⟩ := z
    obtain ⟨dx, vs, h1, h2, h3⟩ := id hS
    refine ⟨_, (pss_cons (ps_set (i := 2) sc_Stretches_part_at.nd rfl (Or.inl rfl) (pe_methE (pvM 0) T.cl_Stretches H_Stretches_parts_amid (hr.mono (by decide)) xw_def (pa_cons (pvM 1) (pa_cons pe_int pa_nil))))
      (pss_one (ps_ret (pe_ifExp (pt_cmpR op_gt (pe_callB call_len rfl T.b_len PySem.boot_len (pa_cons (pvM 2) pa_nil)) pe_int (nomark _)) (pe_ix ix_list (pvM 2) pe_int (fun _ _ => rfl)) pe_non)))), ?_⟩
    unfold sp_parts
    walk_at "wp"
    simp only [h1]
    walk_at "wp"
    refine ⟨stF_no (by decide +kernel), a, rs, hS, ho, hlen, fun t us H1 s1 ht0 ht hU => ⟨us.length, .inl ⟨_, SqL.of ht, rfl⟩, ?_⟩⟩
    rcases at_page (p := x) ho with ⟨e1, e2⟩ | ⟨y, e1, e2⟩
    · rw [e1] at hU
      cases hU
      rw [if_neg (show ¬ (0 : Int) < (([] : List V).length : Int) from fun z => absurd z (by decide))]
      exact q _ _ s1 (.inl ⟨rfl, e2⟩)
    · rw [e1] at hU
      cases hU with
      | cons hy hn =>
        cases hn
        rw [if_pos (show (0 : Int) < (([_] : List V).length : Int) from by show (0 : Int) < 1; decide)]
        exact ⟨_, SqL.of ht, _, atI_nat (j := 0) rfl, q _ _ s1 (.inr ⟨y, hy, e2⟩)⟩
def oR : Option (Int × Option (Int × Int)) → V
  | none => .non
  | some (r, _) => .int r
def sp_rat (C : Addr) : Sp := fun vs H Q _ => ∃ (p a : Addr) (rs : List Rn) (x : Int), vs = [.ref p, .int x] ∧ StAt C H p a rs ∧ OrdR rs ∧ rs.length ≤ 1000000 ∧ ∀ H', Same H H' → Q (oR (pm rs x)) H'
theorem h_rat (T : Txt K mg A) : HaveM P w K mg base A.C_Stretches "rights_at" 6 ["self", "page"] [] (sp_rat A.C_Stretches) := by
  have H_Stretches_part_at := h_pat (P := P) (w := w) (base := base) T
  refine T.r_Stretches_rights_at.have sc_Stretches_rights_at (fun vs H Q E z => ?_) ?_
  · obtain ⟨p, a, rs, x, rfl, _⟩ := z; rfl
  · intro f cdv A' outer s H vs Q E hr z
    obtain ⟨p, a, rs, x, rfl, hS, ho, hlen, q⟩ := z
    obtain ⟨dx, vs, h1, h2, h3⟩ := id hS
    refine ⟨_, (pss_cons (ps_set (i := 2) sc_Stretches_rights_at.nd rfl (Or.inl rfl) (pe_methE (pvM 0) T.cl_Stretches H_Stretches_part_at (hr.mono (by decide)) xw_def (pa_cons (pvM 1) pa_nil)))
      (pss_one (ps_ret (pe_ifExp (pt_cmpR op_isN (pvM 2) pe_non (nomark _)) pe_non (pe_ix ix_tup (pvM 2) pe_int (fun _ _ => rfl)))))), ?_⟩
    unfold sp_pat
    walk_at "wp"
    simp only [h1]
    walk_at "wp"
    refine ⟨stF_no (by decide +kernel), a, rs, hS, ho, hlen, fun v H1 s1 h => ?_⟩
    rcases h with ⟨rfl, e⟩ | ⟨y, hy, e⟩
    · rw [if_pos rfl]
      have := q _ s1
      rw [e] at this
      exact this
    · obtain ⟨c, cv, rfl, hc, hcv⟩ := hy
      rw [if_neg (fun z => nomatch z)]
      have := q _ s1
      rw [e] at this
      first
        | exact ⟨_, SqT.of hc, _, rfl, this⟩
        | (walk_at "wp"; exact ⟨_, SqT.of hc, _, rfl, this⟩)
def sp_tat (C : Addr) : Sp := fun vs H Q _ => ∃ (p a : Addr) (rs : List Rn) (x : Int), vs = [.ref p, .int x] ∧ StAt C H p a rs ∧ OrdR rs ∧ rs.length ≤ 1000000 ∧ ∀ v H', Same H H' → TieAt H' v ((pm rs x).bind (·.2)) → Q v H'
theorem h_tat (T : Txt K mg A) : HaveM P w K mg base A.C_Stretches "tie_at" 6 ["self", "page"] [] (sp_tat A.C_Stretches) := by
  have H_Stretches_part_at := h_pat (P := P) (w := w) (base := base) T
  refine T.r_Stretches_tie_at.have sc_Stretches_tie_at (fun vs H Q E z => ?_) ?_
  · obtain ⟨p, a, rs, x, rfl, _⟩ := z; rfl
  · intro f cdv A' outer s H vs Q E hr z
    obtain ⟨p, a, rs, x, rfl, hS, ho, hlen, q⟩ := z
    obtain ⟨dx, vs, h1, h2, h3⟩ := id hS
    refine ⟨_, (pss_cons (ps_set (i := 2) sc_Stretches_tie_at.nd rfl (Or.inl rfl) (pe_methE (pvM 0) T.cl_Stretches H_Stretches_part_at (hr.mono (by decide)) xw_def (pa_cons (pvM 1) pa_nil)))
      (pss_one (ps_ret (pe_ifExp (pt_cmpR op_isN (pvM 2) pe_non (nomark _)) pe_non (pe_ix ix_tup (pvM 2) pe_int (fun _ _ => rfl)))))), ?_⟩
    unfold sp_pat
    walk_at "wp"
    simp only [h1]
    walk_at "wp"
    refine ⟨stF_no (by decide +kernel), a, rs, hS, ho, hlen, fun v H1 s1 h => ?_⟩
    rcases h with ⟨rfl, e⟩ | ⟨y, hy, e⟩
    · rw [if_pos rfl]
      exact q _ _ s1 (by rw [e]; rfl)
    · obtain ⟨c, cv, rfl, hc, hcv⟩ := hy
      rw [if_neg (fun z => nomatch z)]
      have := q _ _ s1 (by rw [e]; exact hcv)
      first
        | exact ⟨_, SqT.of hc, _, rfl, this⟩
        | (walk_at "wp"; exact ⟨_, SqT.of hc, _, rfl, this⟩)

def sp_init (C : Addr) : Sp := fun vs H Q _ => ∃ (p dx : Addr), vs = [.ref p] ∧ H p = some (.ins C dx []) ∧ ∀ a, H a = none → Q .non (upd (upd H a (.lst [])) p (.ins C dx (stF a)))
theorem h_st_init (T : Txt K mg A) : HaveI P w K mg base "Stretches" A.C_Stretches 1 ["self"] [] (sp_init A.C_Stretches) := by
  refine T.r_Stretches_init.have sc_Stretches_init (fun vs H Q E z => ?_) ?_
  · obtain ⟨p, dx, rfl, _⟩ := z; rfl
  · intro f cdv A' outer s H vs Q E hr z
    obtain ⟨p, dx, rfl, hp, q⟩ := z
    refine ⟨_, (pss_one (ps_fld (pvM 0) (pe_lst pa_nil) rfl)), ?_⟩
    walk_at "wp"
    intro a ha
    have hpa : p ≠ a := ne_of_none hp ha
    refine ⟨_, dx, [], by rw [upd_ne hpa]; exact hp, T.cl_Stretches, T.na_Stretches_runs, by show 0 < 1000; decide, ?_⟩
    exact q a ha
def sp_cr (O : Addr) : Sp := fun vs H Q E => ∃ x : V, vs = [x] ∧ Kn H x ∧ if within x 0 3 = true then Q .non H else E (.ref O) none H
theorem h_cr (T : Txt K mg A) : Have P w K mg base "check_rights" 3 ["rights"] [] (sp_cr A.C_BadRights) := by
  have H_is_within := h_is_within (P := P) (w := w) (base := base) T
  refine T.r_check_rights.have sc_check_rights (fun vs H Q E z => ?_) ?_
  · obtain ⟨x, rfl, _⟩ := z; rfl
  · intro f cdv A' outer s H vs Q E hr z
    obtain ⟨x, rfl, hk, q⟩ := z
    refine ⟨_, (pss_one (ps_if (pt_not (pt_val (pe_callE H_is_within (hr.mono (by decide)) xw_def (pa_cons (pvM 0) (pa_cons pe_int (pa_cons (pe_globE rfl T.c_MOST_RIGHTS) pa_nil)))))) (pss_one (ps_raise xr_def rfl T.x_BadRights (pa_cons pe_str pa_nil))) pss_nil)), ?_⟩
    unfold sp_is_within
    walk_at "wp"
    refine ⟨hk, ?_⟩
    cases e : within x 0 3 with
    | true => rw [e, if_pos rfl] at q; exact iteF q
    | false => rw [e, if_neg (show ¬ false = true by decide)] at q; exact iteT q
def Bu (p : Addr) (H H' : Hp) : Prop := ∀ c o, H c = some o → c ≠ p → H' c = some o
abbrev Kvs := List (Key × V)
def ksK (kvs : Kvs) : List Key := kvs.map (·.1)
def Lst (ks : List Key) (k : Nat) : Prop := (Sum.inl (k : Int) : Key) ∉ ks ∧ ∀ j : Nat, j < k → (Sum.inl (j : Int) : Key) ∈ ks
theorem Lst.one {ks : List Key} {a b : Nat} (h : Lst ks a) (g : Lst ks b) : a = b := by
  rcases Nat.lt_trichotomy a b with q | q | q
  · exact absurd (g.2 a q) h.1
  · exact q
  · exact absurd (h.2 b q) g.1
theorem lst_le0 : ∀ (i : Nat) (ks : List Int), (∀ j : Nat, j < i → (j : Int) ∈ ks) → i ≤ ks.length
  | 0, _, _ => Nat.zero_le _
  | i + 1, ks, h => by
    have hm := h i (Nat.lt_succ_self i)
    have := lst_le0 i (ks.erase (i : Int)) fun j hj => (List.mem_erase_of_ne (by omega)).mpr (h j (by omega))
    rw [List.length_erase_of_mem hm] at this
    have := List.length_pos_of_mem hm
    omega
def kI : Key → Int
  | .inl i => i
  | .inr _ => 0
theorem lst_le (i : Nat) (ks : List Key) (h : ∀ j : Nat, j < i → (Sum.inl (j : Int) : Key) ∈ ks) : i ≤ ks.length := by
  have := lst_le0 i (ks.map kI) fun j hj => List.mem_map.mpr ⟨_, h j hj, rfl⟩
  rwa [List.length_map] at this
theorem in_pos {kvs : Kvs} {k : Key} (h : k ∈ ksK kvs) : (valV kvs k).isSome = true := by
  cases e : valV kvs k with
  | none => exact absurd h (valV_not e)
  | some v => rfl
theorem in_neg {kvs : Kvs} {k : Key} (h : k ∉ ksK kvs) : (valV kvs k).isSome = false := by
  cases e : valV kvs k with
  | none => rfl
  | some v => exact absurd (valV_in e) h
theorem val_some {kvs : Kvs} {k : Key} (h : k ∈ ksK kvs) : ∃ v, valV kvs k = some v := by
  cases e : valV kvs k with
  | none => exact absurd h (valV_not e)
  | some v => exact ⟨v, rfl⟩
theorem val_none {kvs : Kvs} {k : Key} (h : k ∉ ksK kvs) : valV kvs k = none := by
  cases e : valV kvs k with
  | none => rfl
  | some v => exact absurd (valV_in e) h
theorem val_mem {kvs : Kvs} {k : Key} {v : V} (h : valV kvs k = some v) : (k, v) ∈ kvs := by
  unfold valV at h
  cases e : kvs.find? fun kv => decide (kv.1 = k) with
  | none => rw [e] at h; cases h
  | some p =>
    rw [e] at h
    cases h
    have h1 := List.find?_some e
    have h2 := List.mem_of_find?_eq_some e
    have h3 : p.1 = k := by simpa using h1
    rw [← h3]; exact h2
theorem ks_put {kvs : Kvs} {k : Key} {v : V} (h : k ∉ ksK kvs) : putK kvs k v = kvs ++ [(k, v)] := putK_new v (val_none h)
def IntK (ks : List Key) : Prop := ∀ k ∈ ks, ∃ i : Int, k = Sum.inl i
theorem IntK.drop {ks : List Key} {k : Key} (h : IntK ks) : IntK (ks.filter fun x => decide (x ≠ k)) := fun x hx => h x (List.mem_filter.mp hx).1
def Kd (d : Addr) (H H' : Hp) : Prop := ∀ c o, H c = some o → c ≠ d → H' c = some o
theorem Kd.trans {d : Addr} {H H1 H2 : Hp} (a : Kd d H H1) (b : Kd d H1 H2) : Kd d H H2 := fun c o h hn => b c o (a c o h hn) hn
theorem Kd.of {d : Addr} {H H' : Hp} (s : Same H H') : Kd d H H' := fun c o h _ => s c o h
theorem kd_upd {d : Addr} {H : Hp} {o : HO} : Kd d H (upd H d o) := fun c u h hn => by rw [upd_ne hn]; exact h

def sp_least_free : Sp := fun vs H Q _ => ∃ (a : Addr) (kvs : Kvs), vs = [.ref a] ∧ H a = some (.dK kvs) ∧ ∀ k : Nat, Lst (ksK kvs) k → Q (.int k) H
theorem h_least_free (T : Txt K mg A) : Have P w K mg base "least_free" 1 ["numbers"] [] sp_least_free := by
  refine T.r_least_free.have sc_least_free (fun vs H Q E z => ?_) ?_
  · obtain ⟨a, kvs, rfl, _⟩ := z; rfl
  · intro f cdv A' outer s H vs Q E hr z
    obtain ⟨a, kvs, rfl, ha, q⟩ := z
    refine ⟨_, (pss_cons (ps_set (i := 1) sc_least_free.nd rfl (Or.inl rfl) pe_int)
      (pss_cons (ps_whileE PassesOwn.leaving (pt_cmp (pc_din (hu_of hr) (pvM 1) (pvM 0))) (pss_one (ps_set (i := 1) sc_least_free.nd rfl (Or.inl rfl) (pe_op op_add (pvM 1) pe_int))))
      (pss_one (ps_ret (pvM 1))))), ?_⟩
    unfold tDIn
    walk_at "wp"
    refine loop_while (fun m σ H' => ∃ i : Nat, σ = [some (.ref a), some (.int i)] ∧ H' = H ∧ m + i = kvs.length + 1 ∧ ∀ j : Nat, j < i → (Sum.inl (j : Int) : Key) ∈ ksK kvs) (kvs.length + 1) ⟨0, rfl, rfl, rfl, fun j h => absurd h (Nat.not_lt_zero _)⟩ (fun m σ H' => ?_)
    rintro ⟨i, rfl, rfl, hm, hj⟩
    walk_at "wp"
    refine ⟨_, .inl ⟨kvs, Sum.inl (i : Int), .inl ha, rfl, rfl⟩, ?_⟩
    by_cases c : (Sum.inl (i : Int) : Key) ∈ ksK kvs
    · rw [in_pos c]
      have hj' : ∀ j : Nat, j < i + 1 → (Sum.inl (j : Int) : Key) ∈ ksK kvs := fun j h => by
        rcases Nat.lt_succ_iff_lt_or_eq.mp h with q | rfl
        · exact hj j q
        · exact c
      have hle := lst_le (i + 1) (ksK kvs) hj'
      have hlk : (ksK kvs).length = kvs.length := by unfold ksK; rw [List.length_map]
      refine iteT (turnW ?_)
      walk_at "wp"
      exact ⟨m - 1, by omega, i + 1, rfl, by omega, hj'⟩
    · rw [in_neg c]
      refine iteF ?_
      exact q i ⟨c, hj⟩

def hsF (sh td bd : Addr) : List (Str × V) := putF "banks" (.ref bd) (putF "tasks" (.ref td) (putF "shape" (.ref sh) []))
theorem hsF_tasks {sh td bd : Addr} : (hsF sh td bd).lookup ("tasks" : Str) = some (.ref td) := by rfl
theorem hsF_no {sh td bd : Addr} {m : Str} (h : ¬ m ∈ (["shape", "tasks", "banks"] : List Str)) : (hsF sh td bd).lookup m = none := by
  simp only [List.mem_cons, List.not_mem_nil, or_false, not_or] at h
  unfold hsF
  simp only [lookup_putF, h.1, h.2.1, h.2.2, if_false]
  rfl
structure Hz where
  p : Addr
  sh : Addr
  td : Addr
  bd : Addr
def sp_hinit (C : Addr) : Sp := fun vs H Q _ => ∃ (p dx sh : Addr), vs = [.ref p, .ref sh] ∧ H p = some (.ins C dx []) ∧ ∀ td bd H', H td = none → H bd = none → td ≠ bd → Kd p H H' → H' p = some (.ins C dx (hsF sh td bd)) → H' td = some (.dK []) → H' bd = some (.dK []) → Q .non H'
theorem h_hinit (T : Txt K mg A) : HaveI P w K mg base "House" A.C_House 1 ["self", "shape"] [] (sp_hinit A.C_House) := by
  refine T.r_House_init.have sc_House_init (fun vs H Q E z => ?_) ?_
  · obtain ⟨p, dx, sh, rfl, _⟩ := z; rfl
  · intro f cdv A' outer s H vs Q E hr z
    obtain ⟨p, dx, sh, rfl, hp, q⟩ := z
    refine ⟨_, (pss_cons (ps_fld (pvM 0) (pvM 1) rfl)
      (pss_cons (ps_fld (pvM 0) pe_dnewK rfl)
      (pss_one (ps_fld (pvM 0) pe_dnewK rfl)))), ?_⟩
    walk_at "wp"
    simp only [hp]
    walk_at "wp"
    refine ⟨T.cl_House, T.na_House_shape, fun td htd => ?_⟩
    have ntp : td ≠ p := fun z => by rw [z, upd_same] at htd; cases htd
    have htd0 : H td = none := by rw [upd_ne ntp] at htd; exact htd
    refine ⟨_, dx, _, by rw [upd_ne ntp.symm, upd_same], T.cl_House, T.na_House_tasks, by show 1 < 1000; decide, fun bd hbd => ?_⟩
    have nbp : bd ≠ p := fun z => by rw [z, upd_same] at hbd; cases hbd
    rw [upd_ne nbp] at hbd
    have nbt : bd ≠ td := fun z => by rw [z, upd_same] at hbd; cases hbd
    rw [upd_ne nbt, upd_ne nbp] at hbd
    refine ⟨_, dx, _, by rw [upd_ne nbp.symm, upd_same], T.cl_House, T.na_House_banks, by show 2 < 1000; decide, ?_⟩
    refine q td bd _ htd0 hbd nbt.symm (fun c o h hn => ?_) upd_same (by rw [upd_ne ntp, upd_ne nbt.symm, upd_ne ntp, upd_same]) (by rw [upd_ne nbp, upd_same])
    rw [upd_ne hn, upd_ne (ne_of_none h hbd), upd_ne hn, upd_ne (ne_of_none h htd0), upd_ne hn]
    exact h

theorem hsF_shape {sh td bd : Addr} : (hsF sh td bd).lookup ("shape" : Str) = some (.ref sh) := by rfl
structure Tk where
  n : Int
  p : Addr
  rs : List Rn
def tkD (tks : List Tk) : Kvs := tks.map fun t => ((Sum.inl t.n : Key), V.ref t.p)
def StOk (S : Addr) (H : Hp) (t : Tk) : Prop := ∃ a, StAt S H t.p a t.rs ∧ OrdR t.rs ∧ t.rs.length ≤ 10000
structure HsG (A : Adr) (H : Hp) (z : Hz) (l f g : Int) (tks : List Tk) (bk : Kvs) : Prop where
  me : ∃ dx, H z.p = some (.ins A.C_House dx (hsF z.sh z.td z.bd))
  sh : ShapeAt A.C_Shape H z.sh l f g
  t : H z.td = some (.dK (tkD tks))
  b : H z.bd = some (.dK bk)
  st : ∀ t ∈ tks, StOk A.C_Stretches H t
  nd : (tks.map Tk.p).Nodup
  nk : (tks.map Tk.n).Nodup
  vb : ∀ kv ∈ bk, ∃ i : Int, kv.2 = .int i
  ne : z.td ≠ z.bd
  np : ∀ t ∈ tks, t.p ≠ z.p ∧ t.p ≠ z.sh
theorem StOk.same {S : Addr} {H H' : Hp} {t : Tk} (h : StOk S H t) (s : Same H H') : StOk S H' t := let ⟨a, h1, h2⟩ := h; ⟨a, h1.same s, h2⟩
theorem HsG.same {A : Adr} {H H' : Hp} {z : Hz} {l f g : Int} {tks : List Tk} {bk : Kvs} (h : HsG A H z l f g tks bk) (s : Same H H') : HsG A H' z l f g tks bk :=
  ⟨let ⟨dx, e⟩ := h.me; ⟨dx, s _ _ e⟩, h.sh.same s, s _ _ h.t, s _ _ h.b, fun t ht => (h.st t ht).same s, h.nd, h.nk, h.vb, h.ne, h.np⟩
theorem TieAt.kd {H H' : Hp} {d : Addr} {v : V} {o : HO} (hd : H d = some o) (ho : ∀ xs, o ≠ .tup xs) (k : Kd d H H') : ∀ {t : Option (Int × Int)}, TieAt H v t → TieAt H' v t
  | none, h => h
  | some (b, i), ⟨a, e, h⟩ => ⟨a, e, k _ _ h (ne_of h hd (fun z => ho _ z.symm))⟩
theorem RunsAt.kd {H H' : Hp} {d : Addr} {o : HO} (hd : H d = some o) (ho : ∀ xs, o ≠ .tup xs) (k : Kd d H H') {vs : List V} {rs : List Rn} (h : RunsAt H vs rs) : RunsAt H' vs rs :=
  Paired.mapP h fun _ _ ⟨a, tv, e, h1, h2⟩ => ⟨a, tv, e, k _ _ h1 (ne_of h1 hd (fun z => ho _ z.symm)), h2.kd hd ho k⟩
theorem StOk.kd {S d : Addr} {H H' : Hp} {t : Tk} {kvs : Kvs} (h : StOk S H t) (hd : H d = some (.dK kvs)) (k : Kd d H H') : StOk S H' t :=
  let ⟨a, ⟨dx, vs, h1, h2, h3⟩, h4⟩ := h
  ⟨a, ⟨dx, vs, k _ _ h1 (ne_of h1 hd (fun z => nomatch z)), k _ _ h2 (ne_of h2 hd (fun z => nomatch z)), h3.kd hd (fun _ z => nomatch z) k⟩, h4⟩
theorem StOk.bu {S p : Addr} {H H' : Hp} {t : Tk} {dx : Addr} {fs : List (Str × V)} (h : StOk S H t) (hp : H p = some (.ins S dx fs)) (hn : t.p ≠ p) (k : Bu p H H') : StOk S H' t :=
  let ⟨a, ⟨dx1, vs, h1, h2, h3⟩, h4⟩ := h
  ⟨a, ⟨dx1, vs, k _ _ h1 hn, k _ _ h2 (ne_of h2 hp (fun z => nomatch z)), h3.kd hp (fun _ z => nomatch z) k⟩, h4⟩
def setT (n : Int) (rs : List Rn) (tks : List Tk) : List Tk := tks.map fun t => if t.n = n then { t with rs := rs } else t
theorem setT_D {n : Int} {rs : List Rn} {tks : List Tk} : tkD (setT n rs tks) = tkD tks := by
  unfold tkD setT
  rw [List.map_map]
  refine List.map_congr_left fun t _ => ?_
  show ((Sum.inl (if t.n = n then { t with rs := rs } else t).n : Key), V.ref (if t.n = n then { t with rs := rs } else t).p) = _
  by_cases h : t.n = n
  · rw [if_pos h]
  · rw [if_neg h]
theorem setT_p {n : Int} {rs : List Rn} {tks : List Tk} : (setT n rs tks).map Tk.p = tks.map Tk.p := by
  unfold setT
  rw [List.map_map]
  refine List.map_congr_left fun t _ => ?_
  show (if t.n = n then { t with rs := rs } else t).p = t.p
  by_cases h : t.n = n
  · rw [if_pos h]
  · rw [if_neg h]
theorem setT_n {n : Int} {rs : List Rn} {tks : List Tk} : (setT n rs tks).map Tk.n = tks.map Tk.n := by
  unfold setT
  rw [List.map_map]
  refine List.map_congr_left fun t _ => ?_
  show (if t.n = n then { t with rs := rs } else t).n = t.n
  by_cases h : t.n = n
  · rw [if_pos h]
  · rw [if_neg h]
theorem nodup_inj {α β : Type} {f : α → β} : ∀ {xs : List α} {a b : α}, (xs.map f).Nodup → a ∈ xs → b ∈ xs → f a = f b → a = b
  | [], _, _, _, h, _, _ => by simp at h
  | x :: xs, a, b, nd, ha, hb, e => by
    rw [List.map_cons, List.nodup_cons] at nd
    rcases List.mem_cons.mp ha with e1 | h1 <;> rcases List.mem_cons.mp hb with e2 | h2
    · rw [e1, e2]
    · exact absurd (List.mem_map.mpr ⟨b, h2, by rw [← e, e1]⟩) nd.1
    · exact absurd (List.mem_map.mpr ⟨a, h1, by rw [e, e2]⟩) nd.1
    · exact nodup_inj nd.2 h1 h2 e
theorem HsG.set {A : Adr} {H H' : Hp} {z : Hz} {l f g : Int} {tks : List Tk} {bk : Kvs} {t : Tk} {a' : Addr} {rs' : List Rn} (h : HsG A H z l f g tks bk) (ht : t ∈ tks) (hS : StAt A.C_Stretches H' t.p a' rs') (ho : OrdR rs') (hl : rs'.length ≤ 10000) (k : Bu t.p H H') : HsG A H' z l f g (setT t.n rs' tks) bk := by
  obtain ⟨a, ⟨dx, vs, e1, _, _⟩, _⟩ := h.st t ht
  obtain ⟨dxh, eh⟩ := h.me
  obtain ⟨dxs, es⟩ := id h.sh
  refine ⟨⟨dxh, k _ _ eh (h.np t ht).1.symm⟩, ⟨dxs, k _ _ es (h.np t ht).2.symm⟩, by rw [setT_D]; exact k _ _ h.t (ne_of h.t e1 (fun z => nomatch z)), k _ _ h.b (ne_of h.b e1 (fun z => nomatch z)), fun u hu => ?_, by rw [setT_p]; exact h.nd, by rw [setT_n]; exact h.nk, h.vb, h.ne, fun u hu => ?_⟩
  · obtain ⟨v, hv, rfl⟩ := List.mem_map.mp hu
    by_cases hn : v.n = t.n
    · obtain rfl : v = t := nodup_inj h.nk hv ht hn
      rw [if_pos rfl]
      exact ⟨a', hS, ho, hl⟩
    · rw [if_neg hn]
      exact (h.st v hv).bu e1 (fun z => hn (by rw [nodup_inj h.nd hv ht z])) k
  · have hu2 : u.p ∈ (setT t.n rs' tks).map Tk.p := List.mem_map.mpr ⟨u, hu, rfl⟩
    rw [setT_p] at hu2
    obtain ⟨v, hv, e⟩ := List.mem_map.mp hu2
    rw [← e]; exact h.np v hv
theorem tk_get {tks : List Tk} {n : Int} (h : (Sum.inl n : Key) ∈ ksK (tkD tks)) (nk : (tks.map Tk.n).Nodup) : ∃ t ∈ tks, t.n = n ∧ valV (tkD tks) (Sum.inl n) = some (.ref t.p) := by
  obtain ⟨v, hv⟩ := val_some h
  obtain ⟨t, ht, e⟩ := List.mem_map.mp (val_mem hv)
  have e1 : (Sum.inl t.n : Key) = Sum.inl n := congrArg Prod.fst e
  have e2 : V.ref t.p = v := congrArg Prod.snd e
  exact ⟨t, ht, Sum.inl.inj e1, by rw [e2]; exact hv⟩

def sp_ct (A : Adr) : Sp := fun vs H Q E => ∃ (z : Hz) (l f g : Int) (tks : List Tk) (bk : Kvs) (n : Int), vs = [.ref z.p, .int n] ∧ HsG A H z l f g tks bk ∧ ((Sum.inl n ∈ ksK (tkD tks) ∧ Q .non H) ∨ (Sum.inl n ∉ ksK (tkD tks) ∧ E (.ref A.C_NoTask) none H))
theorem h_ct (T : Txt K mg A) : HaveM P w K mg base A.C_House "check_task" 1 ["self", "task"] [] (sp_ct A) := by
  refine T.r_House_check_task.have sc_House_check_task (fun vs H Q E z => ?_) ?_
  · obtain ⟨z, l, f, g, tks, bk, n, rfl, _⟩ := z; rfl
  · intro f cdv A' outer s H vs Q E hr z
    obtain ⟨z, l, f', g, tks, bk, n, rfl, hS, q⟩ := z
    obtain ⟨dx, h1⟩ := hS.me
    refine ⟨_, (pss_one (ps_if (pt_cmp (pc_dnotin (hu_of hr) (pvM 1) (pe_fld (pvM 0) rfl))) (pss_one (ps_raise xr_def rfl T.x_NoTask (pa_cons pe_str pa_nil))) pss_nil)), ?_⟩
    unfold tDNotIn
    walk_at "wp"
    simp only [h1]
    walk_at "wp"
    refine ⟨T.cl_House, T.na_House_tasks, _, hsF_tasks, z.td, rfl, _, .inl ⟨_, Sum.inl n, .inl hS.t, rfl, rfl⟩, ?_⟩
    rcases q with ⟨h, q⟩ | ⟨h, q⟩
    · rw [in_pos h]; exact iteF q
    · rw [in_neg h]; exact iteT q
def sp_cs (A : Adr) : Sp := fun vs H Q E => ∃ (z : Hz) (l f g : Int) (tks : List Tk) (bk : Kvs) (n x m : Int), vs = [.ref z.p, .int n, .int x, .int m] ∧ HsG A H z l f g tks bk ∧
  ((Sum.inl n ∉ ksK (tkD tks) ∧ E (.ref A.C_NoTask) none H) ∨ (Sum.inl n ∈ ksK (tkD tks) ∧ fitsB x m (pw (l * f)) = false ∧ E (.ref A.C_OutOfRoom) none H) ∨ (Sum.inl n ∈ ksK (tkD tks) ∧ fitsB x m (pw (l * f)) = true ∧ Q .non H))
theorem h_cs (T : Txt K mg A) : HaveM P w K mg base A.C_House "check_stretch" 5 ["self", "task", "first", "many"] [] (sp_cs A) := by
  have H_House_check_task := h_ct (P := P) (w := w) (base := base) T
  have H_Shape_fits := h_fits (P := P) (w := w) (base := base) T
  refine T.r_House_check_stretch.have sc_House_check_stretch (fun vs H Q E z => ?_) ?_
  · obtain ⟨z, l, f, g, tks, bk, n, x, m, rfl, _⟩ := z; rfl
  · intro f cdv A' outer s H vs Q E hr z
    obtain ⟨z, l, f', g, tks, bk, n, x, m, rfl, hS, q⟩ := z
    obtain ⟨dx, h1⟩ := hS.me
    obtain ⟨dxs, h2⟩ := id hS.sh
    refine ⟨_, (pss_cons (ps_expr (pe_methE (pvM 0) T.cl_House H_House_check_task (hr.mono (by decide)) xw_def (pa_cons (pvM 1) pa_nil)))
      (pss_one (ps_if (pt_not (pt_val (pe_methE (pe_fld (pvM 0) rfl) T.cl_Shape H_Shape_fits (hr.mono (by decide)) xw_def (pa_cons (pvM 2) (pa_cons (pvM 3) pa_nil))))) (pss_one (ps_raise xr_def rfl T.x_OutOfRoom (pa_cons pe_str pa_nil))) pss_nil))), ?_⟩
    unfold sp_ct sp_fits
    walk_at "wp"
    simp only [h1]
    walk_at "wp"
    refine ⟨hsF_no (by decide +kernel), z, rfl, l, f', g, tks, bk, hS, ?_⟩
    rcases q with ⟨h, q⟩ | ⟨h, hf, q⟩ | ⟨h, hf, q⟩
    · exact .inr ⟨h, q⟩
    · refine .inl ⟨h, T.cl_House, T.na_House_shape, _, hsF_shape, z.sh, rfl, dxs, _, h2, shF_no (by decide +kernel), z.sh, rfl, l, f', g, hS.sh, ?_⟩
      rw [hf]; exact iteT q
    · refine .inl ⟨h, T.cl_House, T.na_House_shape, _, hsF_shape, z.sh, rfl, dxs, _, h2, shF_no (by decide +kernel), z.sh, rfl, l, f', g, hS.sh, ?_⟩
      rw [hf]; exact iteF q
theorem HsG.more {A : Adr} {H H' : Hp} {z : Hz} {l f g : Int} {tks : List Tk} {bk : Kvs} {k : Int} {p : Addr} (h : HsG A H z l f g tks bk) (s : Same H H') (hn : H p = none) (hp : StOk A.C_Stretches H' ⟨k, p, []⟩) (hk : Sum.inl k ∉ ksK (tkD tks)) :
    HsG A (upd H' z.td (.dK (tkD (tks ++ [⟨k, p, []⟩])))) z l f g (tks ++ [⟨k, p, []⟩]) bk := by
  have hs := h.same s
  obtain ⟨dx, e⟩ := hs.me
  obtain ⟨dxs, es⟩ := id hs.sh
  have np : ∀ t ∈ tks, t.p ≠ p := fun t ht z => by
    obtain ⟨a, ⟨dx, vs, e1, _⟩, _⟩ := h.st t ht
    rw [z, hn] at e1; cases e1
  refine ⟨⟨dx, ?_⟩, ⟨dxs, ?_⟩, upd_same, ?_, fun t ht => ?_, ?_, ?_, h.vb, h.ne, fun t ht => ?_⟩
  · rw [upd_ne (ne_of e hs.t (fun z => nomatch z))]; exact e
  · rw [upd_ne (ne_of es hs.t (fun z => nomatch z))]; exact es
  · rw [upd_ne h.ne.symm]; exact hs.b
  · rcases List.mem_append.mp ht with q | q
    · exact (hs.st t q).kd hs.t kd_upd
    · rw [List.mem_singleton.mp q]; exact hp.kd hs.t kd_upd
  · rw [List.map_append, List.map_cons, List.map_nil, List.nodup_append]
    refine ⟨h.nd, by simp, fun a ha b hb => ?_⟩
    obtain ⟨t, ht, rfl⟩ := List.mem_map.mp ha
    rw [List.mem_singleton.mp hb]; exact np t ht
  · rw [List.map_append, List.map_cons, List.map_nil, List.nodup_append]
    refine ⟨h.nk, by simp, fun a ha b hb z => ?_⟩
    obtain ⟨t, ht, rfl⟩ := List.mem_map.mp ha
    rw [List.mem_singleton.mp hb] at z
    refine hk ?_
    show _ ∈ (tkD tks).map (·.1)
    unfold tkD
    rw [List.map_map]
    exact List.mem_map.mpr ⟨t, ht, by show (Sum.inl t.n : Key) = _; rw [z]⟩
  · rcases List.mem_append.mp ht with q | q
    · exact h.np t q
    · rw [List.mem_singleton.mp q]
      obtain ⟨dx0, e0⟩ := h.me
      obtain ⟨dx1, e1⟩ := id h.sh
      exact ⟨(fun z => by rw [← z, hn] at e0; cases e0), (fun z => by rw [← z, hn] at e1; cases e1)⟩
theorem HsG.bank {A : Adr} {H : Hp} {z : Hz} {l f g : Int} {tks : List Tk} {bk bk' : Kvs} (h : HsG A H z l f g tks bk) (hv : ∀ kv ∈ bk', ∃ i : Int, kv.2 = .int i) : HsG A (upd H z.bd (.dK bk')) z l f g tks bk' := by
  obtain ⟨dx, e⟩ := h.me
  obtain ⟨dxs, es⟩ := id h.sh
  exact ⟨⟨dx, by rw [upd_ne (ne_of e h.b (fun z => nomatch z))]; exact e⟩, ⟨dxs, by rw [upd_ne (ne_of es h.b (fun z => nomatch z))]; exact es⟩, by rw [upd_ne h.ne]; exact h.t, upd_same, fun t ht => (h.st t ht).kd h.b kd_upd, h.nd, h.nk, hv, h.ne, h.np⟩
def sp_nt (A : Adr) : Sp := fun vs H Q _ => ∃ (z : Hz) (l f g : Int) (tks : List Tk) (bk : Kvs), vs = [.ref z.p] ∧ HsG A H z l f g tks bk ∧ tks.length < 1000 ∧
  ∀ (k : Nat) (p : Addr) (H' : Hp), Lst (ksK (tkD tks)) k → HsG A H' z l f g (tks ++ [⟨k, p, []⟩]) bk → H p = none → Kd z.td H H' → Q (.int k) H'
theorem h_nt (T : Txt K mg A) : HaveM P w K mg base A.C_House "new_task" 3 ["self"] [] (sp_nt A) := by
  have H_least_free := h_least_free (P := P) (w := w) (base := base) T
  have H_Stretches_init := h_st_init (P := P) (w := w) (base := base) T
  refine T.r_House_new_task.have sc_House_new_task (fun vs H Q E z => ?_) ?_
  · obtain ⟨z, l, f, g, tks, bk, rfl, _⟩ := z; rfl
  · intro f cdv A' outer s H vs Q E hr z
    obtain ⟨z, l, f', g, tks, bk, rfl, hS, hl, q⟩ := z
    obtain ⟨dx, h1⟩ := hS.me
    have hlen : (tkD tks).length = tks.length := by unfold tkD; rw [List.length_map]
    refine ⟨_, (pss_cons (ps_set (i := 1) sc_House_new_task.nd rfl (Or.inl rfl) (pe_callE H_least_free (hr.mono (by decide)) xw_def (pa_cons (pe_fld (pvM 0) rfl) pa_nil)))
      (pss_cons (ps_dput (hu_of hr) (pe_fld (pvM 0) rfl) (pvM 1) (pe_makeE0 H_Stretches_init (hr.mono (by decide)) xw_def) rfl)
      (pss_one (ps_ret (pvM 1))))), ?_⟩
    unfold sp_least_free sp_init sDPut
    walk_at "wp"
    simp only [h1]
    walk_at "wp"
    refine ⟨T.cl_House, T.na_House_tasks, _, hsF_tasks, z.td, rfl, _, hS.t, fun k hk x ex hx hex hne a2 ha2 => ?_⟩
    have nax : a2 ≠ x := fun z => by rw [z, upd_same] at ha2; cases ha2
    rw [upd_ne nax] at ha2
    have nad : a2 ≠ ex := fun z => by rw [z, upd_same] at ha2; cases ha2
    rw [upd_ne nad] at ha2
    have s1 : Same H (upd (upd (upd (upd H ex (.own x)) x (.ins A.C_Stretches ex [])) a2 (.lst [])) x (.ins A.C_Stretches ex (stF a2))) := fun c o h => by
      rw [upd_ne (ne_of_none h hx), upd_ne (ne_of_none h ha2), upd_ne (ne_of_none h hx), upd_ne (ne_of_none h hex)]; exact h
    have hx3 : upd (upd (upd (upd H ex (.own x)) x (.ins A.C_Stretches ex [])) a2 (.lst [])) x (.ins A.C_Stretches ex (stF a2)) x = some (.ins A.C_Stretches ex (stF a2)) := upd_same
    have ha3 : upd (upd (upd (upd H ex (.own x)) x (.ins A.C_Stretches ex [])) a2 (.lst [])) x (.ins A.C_Stretches ex (stF a2)) a2 = some (.lst []) := by rw [upd_ne nax, upd_same]
    generalize upd (upd (upd (upd H ex (.own x)) x (.ins A.C_Stretches ex [])) a2 (.lst [])) x (.ins A.C_Stretches ex (stF a2)) = H3 at *
    have hz := PySem.sizeLine_eq
    refine ⟨_, dx, _, s1 _ _ h1, T.cl_House, T.na_House_tasks, _, hsF_tasks, z.td, rfl, _, .inl ⟨_, Sum.inl (k : Int), s1 _ _ hS.t, rfl, by omega, rfl⟩, ?_⟩
    have e : putK (tkD tks) (Sum.inl (k : Int)) (.ref x) = tkD (tks ++ [⟨k, x, []⟩]) := by
      rw [ks_put hk.1]
      unfold tkD
      rw [List.map_append]; rfl
    rw [e]
    exact q k x _ hk (hS.more s1 hx ⟨a2, ⟨ex, [], hx3, ha3, .nil⟩, ⟨.nil, (fun r hr => by simp at hr)⟩, by show (0 : Nat) ≤ 10000; decide⟩ hk.1) hx ((Kd.of s1).trans kd_upd)

theorem tk_key {tks : List Tk} {t : Tk} (ht : t ∈ tks) : (Sum.inl t.n : Key) ∈ ksK (tkD tks) := by
  unfold ksK tkD
  rw [List.map_map]
  exact List.mem_map.mpr ⟨t, ht, rfl⟩
def sp_hta (A : Adr) : Sp := fun vs H Q E => ∃ (z : Hz) (l f g : Int) (tks : List Tk) (bk : Kvs) (n x : Int), vs = [.ref z.p, .int n, .int x] ∧ HsG A H z l f g tks bk ∧
  ((Sum.inl n ∉ ksK (tkD tks) ∧ E (.ref A.C_NoTask) none H) ∨ ∃ t ∈ tks, t.n = n ∧ ∀ v H', Same H H' → TieAt H' v ((pm t.rs x).bind (·.2)) → Q v H')
theorem h_hta (T : Txt K mg A) : HaveM P w K mg base A.C_House "tie_at" 7 ["self", "task", "page"] [] (sp_hta A) := by
  have H_House_check_task := h_ct (P := P) (w := w) (base := base) T
  have H_Stretches_tie_at := h_tat (P := P) (w := w) (base := base) T
  refine T.r_House_tie_at.have sc_House_tie_at (fun vs H Q E z => ?_) ?_
  · obtain ⟨z, l, f, g, tks, bk, n, x, rfl, _⟩ := z; rfl
  · intro f cdv A' outer s H vs Q E hr z
    obtain ⟨z, l, f', g, tks, bk, n, x, rfl, hS, q⟩ := z
    obtain ⟨dx, h1⟩ := hS.me
    refine ⟨_, (pss_cons (ps_expr (pe_methE (pvM 0) T.cl_House H_House_check_task (hr.mono (by decide)) xw_def (pa_cons (pvM 1) pa_nil)))
      (pss_one (ps_ret (pe_methE (pe_dget (hu_of hr) (pe_fld (pvM 0) rfl) (pvM 1) (fun _ _ => rfl)) T.cl_Stretches H_Stretches_tie_at (hr.mono (by decide)) xw_def (pa_cons (pvM 2) pa_nil))))), ?_⟩
    unfold sp_ct sp_tat tDGet
    walk_at "wp"
    simp only [h1]
    walk_at "wp"
    refine ⟨hsF_no (by decide +kernel), z, rfl, l, f', g, tks, bk, hS, ?_⟩
    rcases q with ⟨h, q⟩ | ⟨t, ht, hn, q⟩
    · exact .inr ⟨h, q⟩
    subst hn
    obtain ⟨t', ht', hn', hv⟩ := tk_get (tk_key ht) hS.nk
    obtain rfl : t' = t := nodup_inj hS.nk ht' ht hn'
    obtain ⟨a, hA, ho, hl⟩ := hS.st t' ht
    obtain ⟨dx2, vs2, e1, e2, e3⟩ := id hA
    exact .inl ⟨tk_key ht, T.cl_House, T.na_House_tasks, _, hsF_tasks, z.td, rfl, _, .inl ⟨_, Sum.inl t'.n, .inl hS.t, rfl, hv.symm⟩, t'.p, rfl, dx2, _, e1, stF_no (by decide +kernel), t'.p, rfl, a, t'.rs, hA, ho, by omega, q⟩
def sp_so (A : Adr) : Sp := fun vs H Q E => ∃ (z : Hz) (l f g : Int) (tks : List Tk) (bk : Kvs) (n : Int), vs = [.ref z.p, .int n] ∧ HsG A H z l f g tks bk ∧
  ((Sum.inl n ∉ ksK (tkD tks) ∧ E (.ref A.C_NoTask) none H) ∨ ∃ t ∈ tks, t.n = n ∧ ∀ b us, H b = none → RunsAt (upd H b (.lst us)) us t.rs → Q (.ref b) (upd H b (.lst us)))
theorem h_so (T : Txt K mg A) : HaveM P w K mg base A.C_House "stretches_of" 2 ["self", "task"] [] (sp_so A) := by
  have H_House_check_task := h_ct (P := P) (w := w) (base := base) T
  have H_Stretches_told := h_st_told (P := P) (w := w) (base := base) T
  refine T.r_House_stretches_of.have sc_House_stretches_of (fun vs H Q E z => ?_) ?_
  · obtain ⟨z, l, f, g, tk, bk, n, rfl, _⟩ := z; rfl
  · intro f cdv A' outer s H vs Q E hr z
    obtain ⟨z, l, f', g, tk, bk, n, rfl, hS, q⟩ := z
    obtain ⟨dx, h1⟩ := hS.me
    refine ⟨_, (pss_cons (ps_expr (pe_methE (pvM 0) T.cl_House H_House_check_task (hr.mono (by decide)) xw_def (pa_cons (pvM 1) pa_nil)))
      (pss_one (ps_ret (pe_methE0 (pe_dget (hu_of hr) (pe_fld (pvM 0) rfl) (pvM 1) (fun _ _ => rfl)) T.cl_Stretches H_Stretches_told (hr.mono (by decide)) xw_def)))), ?_⟩
    unfold sp_ct tDGet sp_st_told
    walk_at "wp"
    simp only [h1]
    walk_at "wp"
    refine ⟨hsF_no (by decide +kernel), z, rfl, l, f', g, tk, bk, hS, ?_⟩
    rcases q with ⟨h, q⟩ | ⟨t, ht, hn, q⟩
    · exact .inr ⟨h, q⟩
    subst hn
    obtain ⟨t', ht', hn', hv⟩ := tk_get (tk_key ht) hS.nk
    obtain rfl : t' = t := nodup_inj hS.nk ht' ht hn'
    obtain ⟨a, hA, ho, hl⟩ := hS.st t' ht
    obtain ⟨dx2, vs2, e1, e2, e3⟩ := id hA
    exact .inl ⟨tk_key ht, T.cl_House, T.na_House_tasks, _, hsF_tasks, z.td, rfl, _, .inl ⟨_, Sum.inl t'.n, .inl hS.t, rfl, hv.symm⟩, t'.p, rfl, dx2, _, e1, stF_no (by decide +kernel), t'.p, rfl, a, t'.rs, hA, q⟩

def sp_hask (A : Adr) : Sp := fun vs H Q E => ∃ (z : Hz) (l f g : Int) (tks : List Tk) (bk : Kvs) (n a wn : Int), vs = [.ref z.p, .int n, .int a, .int wn] ∧ HsG A H z l f g tks bk ∧ gd l f g ∧
  ((Sum.inl n ∉ ksK (tkD tks) ∧ E (.ref A.C_NoTask) none H) ∨ ∃ t ∈ tks, t.n = n ∧ ((¬ (0 ≤ a ∧ a < pw (l * f) * pw g) ∧ E (.ref A.C_OutOfRoom) none H) ∨ ((0 ≤ a ∧ a < pw (l * f) * pw g) ∧ ((pm t.rs (a / pw g) = none ∧ ∀ H', Same H H' → E (.ref A.C_NotMapped) none H') ∨
    ∃ r ti, pm t.rs (a / pw g) = some (r, ti) ∧ ((Builtin.bitAnd r wn ≠ wn ∧ ∀ H', Same H H' → E (.ref A.C_NoRight) none H') ∨ (Builtin.bitAnd r wn = wn ∧ ∀ p H', Same H H' → H' p = some (.tup [.int (a / pw g), .int (a % pw g)]) → Q (.ref p) H'))))))
theorem h_hask (T : Txt K mg A) : HaveM P w K mg base A.C_House "asked" 7 ["self", "task", "address", "want"] [] (sp_hask A) := by
  have H_House_check_task := h_ct (P := P) (w := w) (base := base) T
  have H_Shape_parted := h_pt (P := P) (w := w) (base := base) T
  have H_Stretches_rights_at := h_rat (P := P) (w := w) (base := base) T
  refine T.r_House_asked.have sc_House_asked (fun vs H Q E z => ?_) ?_
  · obtain ⟨z, l, f, g, tk, bk, n, a, wn, rfl, _⟩ := z; rfl
  · intro f cdv A' outer s H vs Q E hr z
    obtain ⟨z, l, f', g, tk, bk, n, a, wn, rfl, hS, hg, q⟩ := z
    obtain ⟨dx, h1⟩ := hS.me
    obtain ⟨dxs, h2⟩ := id hS.sh
    refine ⟨_, (pss_cons (ps_expr (pe_methE (pvM 0) T.cl_House H_House_check_task (hr.mono (by decide)) xw_def (pa_cons (pvM 1) pa_nil)))
      (pss_cons (ps_set (i := 4) sc_House_asked.nd rfl (Or.inl rfl) (pe_methE (pe_fld (pvM 0) rfl) T.cl_Shape H_Shape_parted (hr.mono (by decide)) xw_def (pa_cons (pvM 2) pa_nil)))
      (pss_cons (ps_set (i := 5) sc_House_asked.nd rfl (Or.inl rfl) (pe_methE (pe_dget (hu_of hr) (pe_fld (pvM 0) rfl) (pvM 1) (fun _ _ => rfl)) T.cl_Stretches H_Stretches_rights_at (hr.mono (by decide)) xw_def (pa_cons (pe_ix ix_tup (pvM 4) pe_int (fun _ _ => rfl)) pa_nil)))
      (pss_cons (ps_if (pt_cmpR op_isN (pvM 5) pe_non (nomark _)) (pss_one (ps_raise xr_def rfl T.x_NotMapped (pa_cons pe_str pa_nil))) pss_nil)
      (pss_cons (ps_if (pt_cmpR op_ne (pe_op op_and (pvM 5) (pvM 3)) (pvM 3) (nomark _)) (pss_one (ps_raise xr_def rfl T.x_NoRight (pa_cons pe_str pa_nil))) pss_nil)
      (pss_one (ps_ret (pvM 4)))))))), ?_⟩
    unfold sp_ct sp_pt sp_rat tDGet
    walk_at "wp"
    simp only [h1]
    walk_at "wp"
    refine ⟨hsF_no (by decide +kernel), z, rfl, l, f', g, tk, bk, hS, ?_⟩
    rcases q with ⟨h, q⟩ | ⟨t, ht, hn, q⟩
    · exact .inr ⟨h, q⟩
    subst hn
    obtain ⟨t', ht', hn', hv⟩ := tk_get (tk_key ht) hS.nk
    obtain rfl : t' = t := nodup_inj hS.nk ht' ht hn'
    refine .inl ⟨tk_key ht, T.cl_House, T.na_House_shape, _, hsF_shape, z.sh, rfl, dxs, _, h2, shF_no (by decide +kernel), z.sh, rfl, l, f', g, hS.sh, hg, ?_⟩
    rcases q with ⟨c, q⟩ | ⟨c, q⟩
    · rw [if_neg c]; exact q
    rw [if_pos c]
    intro p hp
    have s1 := same_upd (o := .tup [V.int (a / pw g), V.int (a % pw g)]) (same_refl (H := H)) hp
    have hp1 : upd H p (.tup [V.int (a / pw g), V.int (a % pw g)]) p = some (.tup [V.int (a / pw g), V.int (a % pw g)]) := upd_same
    have hS1 := hS.same s1
    generalize upd H p (.tup [V.int (a / pw g), V.int (a % pw g)]) = H1 at *
    obtain ⟨b, hA, ho, hl⟩ := hS1.st t' ht
    obtain ⟨dx2, vs2, e1, e2, e3⟩ := id hA
    refine ⟨_, dx, _, s1 _ _ h1, T.cl_House, T.na_House_tasks, _, hsF_tasks, z.td, rfl, _, .inl ⟨_, Sum.inl t'.n, .inl hS1.t, rfl, hv.symm⟩, t'.p, rfl, dx2, _, e1, stF_no (by decide +kernel), _, SqT.of hp1, .int (a / pw g), rfl, t'.p, rfl, b, t'.rs, a / pw g, rfl, hA, ho, by omega, fun H2 s2 => ?_⟩
    rcases q with ⟨e, q⟩ | ⟨r, ti, e, q⟩
    · rw [e, if_pos (show oR none = V.non from rfl)]
      exact q _ (s1.trans s2)
    · rw [e, if_neg (show ¬ oR (some (r, ti)) = V.non from fun z => nomatch z)]
      show ∃ i, V.int r = V.int i ∧ _
      refine ⟨r, rfl, ?_⟩
      rcases q with ⟨e, q⟩ | ⟨e, q⟩
      · rw [if_pos (by simpa using e)]
        exact q _ (s1.trans s2)
      · rw [if_neg (by simpa using e)]
        exact q _ _ (s1.trans s2) (s2 _ _ hp1)

def roF (sh : Addr) (most : Int) (ho sd hd : Addr) (made : Int) (pd bd : Addr) : List (Str × V) := putF "banked" (.ref bd) (putF "private" (.ref pd) (putF "made" (.int made) (putF "havers" (.ref hd) (putF "sheets" (.ref sd) (putF "house" (.ref ho) (putF "most" (.int most) (putF "shape" (.ref sh) [])))))))
theorem roF_shape {sh ho sd hd pd bd : Addr} {most made : Int} : (roF sh most ho sd hd made pd bd).lookup ("shape" : Str) = some (.ref sh) := by rfl
theorem roF_most {sh ho sd hd pd bd : Addr} {most made : Int} : (roF sh most ho sd hd made pd bd).lookup ("most" : Str) = some (.int most) := by rfl
theorem roF_house {sh ho sd hd pd bd : Addr} {most made : Int} : (roF sh most ho sd hd made pd bd).lookup ("house" : Str) = some (.ref ho) := by rfl
theorem roF_sheets {sh ho sd hd pd bd : Addr} {most made : Int} : (roF sh most ho sd hd made pd bd).lookup ("sheets" : Str) = some (.ref sd) := by rfl
theorem roF_havers {sh ho sd hd pd bd : Addr} {most made : Int} : (roF sh most ho sd hd made pd bd).lookup ("havers" : Str) = some (.ref hd) := by rfl
theorem roF_made {sh ho sd hd pd bd : Addr} {most made : Int} : (roF sh most ho sd hd made pd bd).lookup ("made" : Str) = some (.int made) := by rfl
theorem roF_private {sh ho sd hd pd bd : Addr} {most made : Int} : (roF sh most ho sd hd made pd bd).lookup ("private" : Str) = some (.ref pd) := by rfl
theorem roF_len {sh ho sd hd pd bd : Addr} {most made : Int} : (roF sh most ho sd hd made pd bd).length < 1000 := by show 8 < 1000; decide
structure Ro where
  p : Addr
  sh : Addr
  ho : Addr
  sd : Addr
  hd : Addr
  pd : Addr
  bd : Addr
  most : Int
structure Sh where
  n : Int
  a : Addr
  xs : List Int
  h : Int
def shD (S : List Sh) : Kvs := S.map fun s => ((Sum.inl s.n : Key), V.ref s.a)
def hvD (S : List Sh) : Kvs := S.map fun s => ((Sum.inl s.n : Key), V.int s.h)
structure ShAt (A : Adr) (H : Hp) (r : Ro) (made : Int) (S : List Sh) : Prop where
  me : ∃ dx, H r.p = some (.ins A.C_Rooms dx (roF r.sh r.most r.ho r.sd r.hd made r.pd r.bd))
  s : H r.sd = some (.dK (shD S))
  h : H r.hd = some (.dK (hvD S))
  x : ∀ s ∈ S, H s.a = some (.lst (s.xs.map V.int))
  nd : (S.map Sh.a).Nodup
  nn : (S.map Sh.n).Nodup
  b : ∀ s ∈ S, s.n < made
  ne : r.sd ≠ r.hd
theorem ShAt.same {H H' : Hp} {r : Ro} {made : Int} {S : List Sh} (h : ShAt A H r made S) (s : Same H H') : ShAt A H' r made S := ⟨let ⟨dx, e⟩ := h.me; ⟨dx, s _ _ e⟩, s _ _ h.s, s _ _ h.h, fun t ht => s _ _ (h.x t ht), h.nd, h.nn, h.b, h.ne⟩
theorem roF_no {sh ho sd hd pd bd : Addr} {most made : Int} {m : Str} (h : ¬ m ∈ (["shape", "most", "house", "sheets", "havers", "made", "private", "banked"] : List Str)) : (roF sh most ho sd hd made pd bd).lookup m = none := by
  simp only [List.mem_cons, List.not_mem_nil, or_false, not_or] at h
  obtain ⟨h1, h2, h3, h4, h5, h6, h7, h8⟩ := h
  unfold roF
  simp only [lookup_putF, h1, h2, h3, h4, h5, h6, h7, h8, if_false]
  rfl
def Rk (r : Ro) (H H' : Hp) : Prop := ∀ c o, H c = some o → c ≠ r.p → c ≠ r.sd → c ≠ r.hd → H' c = some o
theorem sh_fresh {A : Adr} {H : Hp} {r : Ro} {made : Int} {S : List Sh} (h : ShAt A H r made S) : (Sum.inl made : Key) ∉ ksK (shD S) ∧ (Sum.inl made : Key) ∉ ksK (hvD S) := by
  have main : ∀ s ∈ S, s.n ≠ made := fun s hs e => by have := h.b s hs; omega
  constructor
  · intro z
    obtain ⟨p, hp, e⟩ := List.mem_map.mp z
    obtain ⟨s, hs, rfl⟩ := List.mem_map.mp hp
    exact main s hs (Sum.inl.inj e)
  · intro z
    obtain ⟨p, hp, e⟩ := List.mem_map.mp z
    obtain ⟨s, hs, rfl⟩ := List.mem_map.mp hp
    exact main s hs (Sum.inl.inj e)
def sp_nsh (A : Adr) : Sp := fun vs H Q E => ∃ (r : Ro) (made : Int) (S : List Sh) (b : Addr) (ys : List Int), vs = [.ref r.p, .ref b] ∧ ShAt A H r made S ∧ S.length ≤ 100000 ∧ H b = some (.lst (ys.map V.int)) ∧
  (((S.length : Int) ≥ r.most ∧ E (.ref A.C_NoRoom) none H) ∨ ((S.length : Int) < r.most ∧ ∀ l H', ShAt A H' r (made + 1) (S ++ [⟨made, l, ys, 1⟩]) → H l = none → Rk r H H' → Q (.int made) H'))
theorem h_nsh (T : Txt K mg A) : HaveM P w K mg base A.C_Rooms "new_sheet" 1 ["self", "boxes"] [] (sp_nsh A) := by
  refine T.r_Rooms_new_sheet.have sc_Rooms_new_sheet (fun vs H Q E z => ?_) ?_
  · obtain ⟨r, made, S, b, ys, rfl, _⟩ := z; rfl
  · intro f cdv A' outer s H vs Q E hr z
    obtain ⟨r, made, S, b, ys, rfl, hS, hl, hb, q⟩ := z
    obtain ⟨dx, h1⟩ := hS.me
    refine ⟨_, (pss_cons (ps_if (pt_cmpR op_ge (pe_callB call_lenD rfl T.b_len PySem.boot_len (pa_cons (pe_fld (pvM 0) rfl) pa_nil)) (pe_fld (pvM 0) rfl) (nomark _)) (pss_one (ps_raise xr_def rfl T.x_NoRoom (pa_cons pe_str pa_nil))) pss_nil)
      (pss_cons (ps_set (i := 2) sc_Rooms_new_sheet.nd rfl (Or.inl rfl) (pe_fld (pvM 0) rfl))
      (pss_cons (ps_fld (pvM 0) (pe_op op_add (pvM 2) pe_int) rfl)
      (pss_cons (ps_dput (hu_of hr) (pe_fld (pvM 0) rfl) (pvM 2) (pe_callTy call_list_of rfl T.b_list PyProof.Rows.boot_list (pa_cons (pvM 1) pa_nil)) rfl)
      (pss_cons (ps_dput (hu_of hr) (pe_fld (pvM 0) rfl) (pvM 2) pe_int rfl)
      (pss_one (ps_ret (pvM 2)))))))), ?_⟩
    unfold sDPut
    walk_at "wp"
    simp only [h1]
    walk_at "wp"
    have lenS : (shD S).length = S.length := by unfold shD; rw [List.length_map]
    have lenH : (hvD S).length = S.length := by unfold hvD; rw [List.length_map]
    have hz := PySem.sizeLine_eq
    refine ⟨T.cl_Rooms, T.na_Rooms_sheets, _, roF_sheets, r.sd, rfl, _, hS.s, T.cl_Rooms, T.na_Rooms_most, _, roF_most, r.most, rfl, ?_⟩
    rw [lenS]
    rcases q with ⟨h, q⟩ | ⟨h, q⟩
    · rw [if_pos h]; exact q
    rw [if_neg (by omega)]
    have ep : putF "made" (.int (made + 1)) (roF r.sh r.most r.ho r.sd r.hd made r.pd r.bd) = roF r.sh r.most r.ho r.sd r.hd (made + 1) r.pd r.bd := rfl
    refine ⟨T.cl_Rooms, T.na_Rooms_made, _, roF_made, made, rfl, T.cl_Rooms, T.na_Rooms_made, roF_len, ?_⟩
    rw [ep]
    have hp1 : upd H r.p (.ins A.C_Rooms dx (roF r.sh r.most r.ho r.sd r.hd (made + 1) r.pd r.bd)) r.p = some (.ins A.C_Rooms dx (roF r.sh r.most r.ho r.sd r.hd (made + 1) r.pd r.bd)) := upd_same
    have k1 : Kd r.p H (upd H r.p (.ins A.C_Rooms dx (roF r.sh r.most r.ho r.sd r.hd (made + 1) r.pd r.bd))) := kd_upd
    have f1 : ∀ l, upd H r.p (.ins A.C_Rooms dx (roF r.sh r.most r.ho r.sd r.hd (made + 1) r.pd r.bd)) l = none → H l = none := fun l hl => by
      by_cases e : l = r.p
      · rw [e, upd_same] at hl; cases hl
      · rw [upd_ne e] at hl; exact hl
    generalize upd H r.p (.ins A.C_Rooms dx (roF r.sh r.most r.ho r.sd r.hd (made + 1) r.pd r.bd)) = H1 at *
    have hb1 := k1 _ _ hb (ne_of hb h1 (fun z => nomatch z))
    have hs1 := k1 _ _ hS.s (ne_of hS.s h1 (fun z => nomatch z))
    have hh1 := k1 _ _ hS.h (ne_of hS.h h1 (fun z => nomatch z))
    refine ⟨_, .inl (SqL.of hb1), fun l hl => ?_⟩
    have u := same_upd (o := .lst (ys.map V.int)) (same_refl (H := H1)) hl
    have hl2 : upd H1 l (.lst (ys.map V.int)) l = some (.lst (ys.map V.int)) := upd_same
    generalize upd H1 l (.lst (ys.map V.int)) = H2 at *
    obtain ⟨g1, g2⟩ := sh_fresh hS
    refine ⟨_, dx, _, u _ _ hp1, T.cl_Rooms, T.na_Rooms_sheets, _, roF_sheets, r.sd, rfl, _, .inl ⟨shD S, Sum.inl made, u _ _ hs1, rfl, by omega, rfl⟩, ?_⟩
    rw [ks_put g1]
    have hp3 : upd H2 r.sd (.dK (shD S ++ [(Sum.inl made, V.ref l)])) r.p = some (.ins A.C_Rooms dx (roF r.sh r.most r.ho r.sd r.hd (made + 1) r.pd r.bd)) := by
      rw [upd_ne (ne_of (u _ _ hp1) (u _ _ hs1) (fun z => nomatch z))]
      exact u _ _ hp1
    have hh3 : upd H2 r.sd (.dK (shD S ++ [(Sum.inl made, V.ref l)])) r.hd = some (.dK (hvD S)) := by rw [upd_ne hS.ne.symm]; exact u _ _ hh1
    refine ⟨_, dx, _, hp3, T.cl_Rooms, T.na_Rooms_havers, _, roF_havers, r.hd, rfl, _, .inl ⟨hvD S, Sum.inl made, hh3, rfl, by omega, rfl⟩, ?_⟩
    rw [ks_put g2]
    have nl1 : l ≠ r.sd := fun e => by rw [e, hs1] at hl; cases hl
    have nl2 : l ≠ r.hd := fun e => by rw [e, hh1] at hl; cases hl
    have eS : shD S ++ [(Sum.inl made, V.ref l)] = shD (S ++ [⟨made, l, ys, 1⟩]) := by unfold shD; rw [List.map_append]; rfl
    have eH : hvD S ++ [(Sum.inl made, V.int 1)] = hvD (S ++ [⟨made, l, ys, 1⟩]) := by unfold hvD; rw [List.map_append]; rfl
    have hp4 : r.p ≠ r.hd := ne_of hp3 hh3 (fun z => nomatch z)
    have hx1 : ∀ s ∈ S, H2 s.a = some (.lst (s.xs.map V.int)) := fun s hs => u _ _ (k1 _ _ (hS.x s hs) (ne_of (hS.x s hs) h1 (fun z => nomatch z)))
    have hl0 := f1 l hl
    refine q l _ ⟨⟨dx, by rw [upd_ne hp4]; exact hp3⟩, by rw [upd_ne hS.ne, upd_same, eS], by rw [upd_same, eH], fun s hs => ?_, ?_, ?_, fun s hs => ?_, hS.ne⟩ hl0 (fun c o h n1 n2 n3 => by rw [upd_ne n3, upd_ne n2]; exact u _ _ (k1 _ _ h n1))
    · rcases List.mem_append.mp hs with h | h
      · have := hx1 s h
        rw [upd_ne (ne_of this (u _ _ hh1) (fun z => nomatch z)), upd_ne (ne_of this (u _ _ hs1) (fun z => nomatch z))]
        exact this
      · rw [List.mem_singleton.mp h]
        show upd _ _ _ l = _
        rw [upd_ne nl2, upd_ne nl1]
        exact hl2
    · rw [List.map_append, List.nodup_append]
      refine ⟨hS.nd, by simp, fun x hx y hy => ?_⟩
      obtain ⟨s, hs, rfl⟩ := List.mem_map.mp hx
      rw [List.mem_singleton.mp hy]
      exact ne_of_none (hS.x s hs) hl0
    · rw [List.map_append, List.nodup_append]
      refine ⟨hS.nn, by simp, fun x hx y hy => ?_⟩
      obtain ⟨s, hs, rfl⟩ := List.mem_map.mp hx
      rw [List.mem_singleton.mp hy]
      show s.n ≠ made
      have := hS.b s hs
      omega
    · rcases List.mem_append.mp hs with h | h
      · have := hS.b s h; omega
      · rw [List.mem_singleton.mp h]; show made < made + 1; omega

theorem ndi {α β : Type} {f : α → β} : ∀ {xs : List α} {a b : α}, (xs.map f).Nodup → a ∈ xs → b ∈ xs → f a = f b → a = b
  | [], _, _, _, h, _, _ => by simp at h
  | x :: xs, a, b, nd, ha, hb, e => by
    rw [List.map_cons, List.nodup_cons] at nd
    rcases List.mem_cons.mp ha with e1 | h1 <;> rcases List.mem_cons.mp hb with e2 | h2
    · rw [e1, e2]
    · exact absurd (List.mem_map.mpr ⟨b, h2, by rw [← e, e1]⟩) nd.1
    · exact absurd (List.mem_map.mpr ⟨a, h1, by rw [e, e2]⟩) nd.1
    · exact ndi nd.2 h1 h2 e
theorem hv_val {S : List Sh} {s : Sh} (nn : (S.map Sh.n).Nodup) (hs : s ∈ S) : valV (hvD S) (Sum.inl s.n) = some (.int s.h) := by
  induction S with
  | nil => simp at hs
  | cons u r ih =>
    rw [List.map_cons, List.nodup_cons] at nn
    show valV ((Sum.inl u.n, V.int u.h) :: hvD r) (Sum.inl s.n) = _
    rcases List.mem_cons.mp hs with rfl | h
    · exact valV_pos rfl
    · rw [valV_neg (fun z => nn.1 (by rw [show u.n = s.n from Sum.inl.inj z]; exact List.mem_map.mpr ⟨s, h, rfl⟩))]
      exact ih nn.2 h
theorem sh_val {S : List Sh} {s : Sh} (nn : (S.map Sh.n).Nodup) (hs : s ∈ S) : valV (shD S) (Sum.inl s.n) = some (.ref s.a) := by
  induction S with
  | nil => simp at hs
  | cons u r ih =>
    rw [List.map_cons, List.nodup_cons] at nn
    show valV ((Sum.inl u.n, V.ref u.a) :: shD r) (Sum.inl s.n) = _
    rcases List.mem_cons.mp hs with rfl | h
    · exact valV_pos rfl
    · rw [valV_neg (fun z => nn.1 (by rw [show u.n = s.n from Sum.inl.inj z]; exact List.mem_map.mpr ⟨s, h, rfl⟩))]
      exact ih nn.2 h
def sp_live (A : Adr) : Sp := fun vs H Q _ => ∃ (r : Ro) (made : Int) (S : List Sh), vs = [.ref r.p] ∧ ShAt A H r made S ∧ Q (.int S.length) H
theorem h_live (T : Txt K mg A) : HaveM P w K mg base A.C_Rooms "live_sheets" 1 ["self"] [] (sp_live A) := by
  refine T.r_Rooms_live_sheets.have sc_Rooms_live_sheets (fun vs H Q E z => ?_) ?_
  · obtain ⟨r, made, S, rfl, _⟩ := z; rfl
  · intro f cdv A' outer s H vs Q E hr z
    obtain ⟨r, made, S, rfl, hS, q⟩ := z
    obtain ⟨dx, h1⟩ := hS.me
    refine ⟨_, (pss_one (ps_ret (pe_callB call_lenD rfl T.b_len PySem.boot_len (pa_cons (pe_fld (pvM 0) rfl) pa_nil)))), ?_⟩
    walk_at "wp"
    simp only [h1]
    walk_at "wp"
    refine ⟨T.cl_Rooms, T.na_Rooms_sheets, _, roF_sheets, r.sd, rfl, _, hS.s, ?_⟩
    rw [show (shD S).length = S.length by unfold shD; rw [List.length_map]]
    exact q

def sp_size (C : Addr) : Sp := fun vs H Q _ => ∃ (p : Addr) (l f g : Int), vs = [.ref p] ∧ ShapeAt C H p l f g ∧ Q (.int (pw g)) H
theorem h_size (T : Txt K mg A) : HaveM P w K mg base A.C_Shape "sheet_size" 1 ["self"] [] (sp_size A.C_Shape) := by
  refine T.r_Shape_sheet_size.have sc_Shape_sheet_size (fun vs H Q E z => ?_) ?_
  · obtain ⟨p, l, f, g, rfl, _⟩ := z; rfl
  · intro f cdv A' outer s H vs Q E hr z
    obtain ⟨p, l, f', g, rfl, hS, q⟩ := z
    obtain ⟨dx, hp⟩ := id hS
    refine ⟨_, (pss_one (ps_ret (pe_fld (pvM 0) rfl))), ?_⟩
    walk_at "wp"
    simp only [hp]
    walk_at "wp"
    exact ⟨T.cl_Shape, T.na_Shape_boxes, _, shF_boxes, q⟩
def sp_nou (A : Adr) : Sp := fun vs H Q _ => ∃ (r : Ro) (made : Int) (S : List Sh) (l f g : Int), vs = [.ref r.p] ∧ ShAt A H r made S ∧ ShapeAt A.C_Shape H r.sh l f g ∧ gd l f g ∧ ∀ a H', Same H H' → H a = none → H' a = some (.lst ((List.replicate (pw g).toNat (0 : Int)).map V.int)) → Q (.ref a) H'
theorem h_nou (T : Txt K mg A) : HaveM P w K mg base A.C_Rooms "noughts" 2 ["self"] [] (sp_nou A) := by
  have H_Shape_sheet_size := h_size (P := P) (w := w) (base := base) T
  refine T.r_Rooms_noughts.have sc_Rooms_noughts (fun vs H Q E z => ?_) ?_
  · obtain ⟨r, made, S, l, f, g, rfl, _⟩ := z; rfl
  · intro f cdv A' outer s H vs Q E hr z
    obtain ⟨r, made, S, l, f', g, rfl, hS, hsh, hg, q⟩ := z
    obtain ⟨dx, h1⟩ := hS.me
    obtain ⟨dxs, h2⟩ := id hsh
    have b := gd_pw hg
    refine ⟨_, (pss_one (ps_ret (pe_op op_rep (pe_lst (pa_cons pe_int pa_nil)) (pe_methE0 (pe_fld (pvM 0) rfl) T.cl_Shape H_Shape_sheet_size (hr.mono (by decide)) xw_def)))), ?_⟩
    unfold sp_size
    walk_at "wp"
    intro p hp
    have u := same_upd (o := .lst [V.int 0]) (same_refl (H := H)) hp
    have hp1 : upd H p (.lst [V.int 0]) p = some (.lst [V.int 0]) := upd_same
    have hz := PySem.sizeLine_eq
    generalize upd H p (.lst [V.int 0]) = H1 at *
    refine ⟨_, dx, _, u _ _ h1, T.cl_Rooms, T.na_Rooms_shape, _, roF_shape, r.sh, rfl, dxs, _, u _ _ h2, shF_no (by decide +kernel), r.sh, rfl, l, f', g, hsh.same u, p, pw g, [V.int 0], rfl, rfl, hp1, by omega, by omega, by show 1 * (pw g).toNat ≤ PySem.sizeLine; omega, fun a ha => ?_⟩
    have e : (List.replicate (pw g).toNat [V.int 0]).flatten = (List.replicate (pw g).toNat (0 : Int)).map V.int := by
      generalize (pw g).toNat = k
      induction k with
      | zero => rfl
      | succ k ih => rw [List.replicate_succ, List.flatten_cons, ih, List.replicate_succ]; rfl
    rw [e]
    exact q a _ (u.trans (same_upd same_refl ha)) (same_none u ha) upd_same
theorem ShAt.kd {H H' : Hp} {r : Ro} {made : Int} {S : List Sh} {d : Addr} {kvs : Kvs} (h : ShAt A H r made S) (hd : H d = some (.dK kvs)) (n1 : d ≠ r.sd) (n2 : d ≠ r.hd) (k : Kd d H H') : ShAt A H' r made S :=
  ⟨let ⟨dx, e⟩ := h.me; ⟨dx, k _ _ e (ne_of e hd (fun z => nomatch z))⟩, k _ _ h.s n1.symm, k _ _ h.h n2.symm, fun t ht => k _ _ (h.x t ht) (ne_of (h.x t ht) hd (fun z => nomatch z)), h.nd, h.nn, h.b, h.ne⟩
def sp_sth (A : Adr) : Sp := fun vs H Q E => ∃ (r : Ro) (made : Int) (S : List Sh) (l f g : Int) (d : Addr) (kv : Kvs) (x : Int), vs = [.ref r.p, .ref d, .int x] ∧ ShAt A H r made S ∧ S.length ≤ 100000 ∧ ShapeAt A.C_Shape H r.sh l f g ∧ gd l f g ∧ r.sh ≠ r.p ∧ H d = some (.dK kv) ∧ kv.length ≤ 100000 ∧ d ≠ r.sd ∧ d ≠ r.hd ∧
  ((∃ n : Int, valV kv (Sum.inl x) = some (.int n) ∧ Q (.int n) H) ∨ (valV kv (Sum.inl x) = none ∧ (S.length : Int) ≥ r.most ∧ ∀ H', Same H H' → E (.ref A.C_NoRoom) none H') ∨
  (valV kv (Sum.inl x) = none ∧ (S.length : Int) < r.most ∧ ∀ a H', ShAt A H' r (made + 1) (S ++ [⟨made, a, List.replicate (pw g).toNat 0, 1⟩]) → H a = none → H' d = some (.dK (kv ++ [(Sum.inl x, .int made)])) → (∀ c o, H c = some o → c ≠ d → c ≠ r.p → c ≠ r.sd → c ≠ r.hd → H' c = some o) → Q (.int made) H'))
theorem h_sth (T : Txt K mg A) : HaveM P w K mg base A.C_Rooms "sheet_there" 3 ["self", "pages", "page"] [] (sp_sth A) := by
  have H_Rooms_noughts := h_nou (P := P) (w := w) (base := base) T
  have H_Rooms_new_sheet := h_nsh (P := P) (w := w) (base := base) T
  refine T.r_Rooms_sheet_there.have sc_Rooms_sheet_there (fun vs H Q E z => ?_) ?_
  · obtain ⟨r, made, S, l, f, g, d, kv, x, rfl, _⟩ := z; rfl
  · intro f cdv A' outer s H vs Q E hr z
    obtain ⟨r, made, S, l, f', g, d, kv, x, rfl, hS, hl, hsh, hg, nsh, hd, hkl, n1, n2, q⟩ := z
    obtain ⟨dx, h1⟩ := hS.me
    refine ⟨_, (pss_cons (ps_if (pt_cmp (pc_dnotin (hu_of hr) (pvM 2) (pvM 1))) (pss_one (ps_dput (hu_of hr) (pvM 1) (pvM 2) (pe_methE (pvM 0) T.cl_Rooms H_Rooms_new_sheet (hr.mono (by decide)) xw_def (pa_cons (pe_methE0 (pvM 0) T.cl_Rooms H_Rooms_noughts (hr.mono (by decide)) xw_def) pa_nil)) rfl)) pss_nil)
      (pss_one (ps_ret (pe_dget (hu_of hr) (pvM 1) (pvM 2) (fun _ _ => rfl))))), ?_⟩
    unfold sp_nou sp_nsh tDNotIn tDGet sDPut
    walk_at "wp"
    have hz := PySem.sizeLine_eq
    rcases q with ⟨n, hv, q⟩ | ⟨hv, hm, q⟩ | ⟨hv, hm, q⟩
    · exact ⟨_, .inl ⟨kv, Sum.inl x, .inl hd, rfl, hv.symm⟩, iteF ⟨_, .inl ⟨kv, Sum.inl x, .inl hd, rfl, hv.symm⟩, q⟩⟩
    · exact ⟨_, .inl ⟨kv, Sum.inl x, .inl hd, rfl, hv.symm⟩, iteT ⟨dx, _, h1, roF_no (by decide +kernel), dx, _, h1, roF_no (by decide +kernel), r, rfl, made, S, hS, l, f', g, hsh, hg, fun a H1 s1 ha ha1 => ⟨r, rfl, made, S, hS.same s1, hl, _, ha1, .inl ⟨hm, q _ s1⟩⟩⟩⟩
    · refine ⟨_, .inl ⟨kv, Sum.inl x, .inl hd, rfl, hv.symm⟩, iteT ⟨dx, _, h1, roF_no (by decide +kernel), dx, _, h1, roF_no (by decide +kernel), r, rfl, made, S, hS, l, f', g, hsh, hg, fun a H1 s1 ha ha1 => ⟨r, rfl, made, S, hS.same s1, hl, _, ha1, .inr ⟨hm, fun a2 H2 hS2 ha2 hk2 => ?_⟩⟩⟩⟩
      have hd1 := s1 _ _ hd
      have hd2 := hk2 _ _ hd1 (ne_of hd h1 (fun z => nomatch z)) n1 n2
      refine ⟨_, .inl ⟨kv, Sum.inl x, hd2, rfl, by omega, rfl⟩, ?_⟩
      rw [putK_new _ hv]
      exact ⟨.int made, .inl ⟨_, Sum.inl x, .inl upd_same, rfl, by rw [valV_snoc _ _ _ _ hv, if_pos rfl]⟩, q a2 _ (hS2.kd hd2 n1 n2 kd_upd) (same_none s1 ha2) upd_same (fun c o h h1 h2 h3 h4 => by rw [upd_ne h1]; exact hk2 _ _ (s1 _ _ h) h2 h3 h4)⟩

abbrev Pg := Int × Int × Option (Int × Int)
def PgAt (H : Hp) (v : V) (p : Pg) : Prop := ∃ a tv, v = .ref a ∧ H a = some (.tup [.int p.1, .int p.2.1, tv]) ∧ TieAt H tv p.2.2
theorem PgAt.same {H H' : Hp} {v : V} {p : Pg} (h : PgAt H v p) (s : Same H H') : PgAt H' v p := let ⟨a, tv, e, h1, h2⟩ := h; ⟨a, tv, e, s _ _ h1, h2.same s⟩
theorem PgAt.kd {H H' : Hp} {v : V} {p : Pg} {d : Addr} {vs : List V} (h : PgAt H v p) (hd : H d = some (.lst vs)) (k : Kd d H H') : PgAt H' v p :=
  let ⟨a, tv, e, h1, h2⟩ := h; ⟨a, tv, e, k _ _ h1 (ne_of h1 hd (fun z => nomatch z)), TieAt.kd hd (fun _ z => nomatch z) k h2⟩
def pgR (r : Rn) : List Pg := (List.range r.m.toNat).map fun (i : Nat) => (r.f + (i : Int), r.r, tf r (r.f + (i : Int)))
def pgs (rs : List Rn) : List Pg := (rs.map pgR).flatten
theorem pg_pair {α : Type} {R S : V → α → Prop} {us : List V} {ps : List α} (h : Paired R us ps) (f : ∀ v p, R v p → S v p) : Paired S us ps := by
  induction h with
  | nil => exact .nil
  | cons a _ ih => exact .cons (f _ _ a) ih
theorem ps_app {α β : Type} {F : α → β → Prop} : ∀ {xs : List α} {ys : List β} {zs : List α} {ws : List β}, Paired F xs ys → Paired F zs ws → Paired F (xs ++ zs) (ys ++ ws)
  | _, _, _, _, .nil, h => h
  | _, _, _, _, .cons r t, h => .cons r (ps_app t h)
def sp_po (A : Adr) : Sp := fun vs H Q _ => ∃ (z : Hz) (l f g : Int) (tks : List Tk) (bk : Kvs) (n : Int) (t : Tk), vs = [.ref z.p, .int n] ∧ HsG A H z l f g tks bk ∧ t ∈ tks ∧ t.n = n ∧ (∀ r ∈ t.rs, 0 ≤ r.f ∧ 0 ≤ r.m ∧ enR r ≤ 100000000) ∧ (pgs t.rs).length ≤ 100000 ∧ ∀ b us H', Same H H' → H b = none → H' b = some (.lst us) → Paired (PgAt H') us (pgs t.rs) → Q (.ref b) H'
theorem h_po (T : Txt K mg A) : HaveM P w K mg base A.C_House "pages_of" 3 ["self", "task"] [] (sp_po A) := by
  have H_House_stretches_of := h_so (P := P) (w := w) (base := base) T
  have H_end_of := h_end_of (P := P) (w := w) (base := base) T
  have H_tie_from := h_tie_from (P := P) (w := w) (base := base) T
  refine T.r_House_pages_of.have sc_House_pages_of (fun vs H Q E z => ?_) ?_
  · obtain ⟨z, l, f, g, tk, bk, n, t, rfl, _⟩ := z; rfl
  · intro f cdv A' outer s H vs Q E hr z
    obtain ⟨z, l, f', g, tks, bk, n, t, rfl, hS, ht, hn, hm, hlen, q⟩ := z
    obtain ⟨dx, h1⟩ := hS.me
    refine ⟨_, (pss_cons (ps_set (i := 2) sc_House_pages_of.nd rfl (Or.inl rfl) (pe_lst pa_nil))
      (pss_cons (ps_forE PassesOwn.leaving rfl (pi_list (pe_methE (pvM 0) T.cl_House H_House_stretches_of (hr.mono (by decide)) xw_def (pa_cons (pvM 1) pa_nil))) (pg_name (i := 3) sc_House_pages_of.nd rfl (Or.inr rfl)) (pss_one (ps_expr (pe_bm PySem.F.plainAttrs_list PySem.F.slot_list_extend PySem.F.type_list_extend mt_extend (pvM 2) (pa_cons (pe_comp rfl (pi_range2 rfl T.b_range (pa_cons (pe_ix ix_tup (pvM 3) pe_int (fun _ _ => rfl)) (pa_cons (pe_callE H_end_of (hr.mono (by decide)) xw_def (pa_cons (pvM 3) pa_nil)) pa_nil))) (x := "page") (fs := ["run"]) (ix := [3]) rfl rfl (fun _ _ _ _ _ _ => (pg_name (i := 0) (show (["page", "run"] : List Str).Nodup by decide +kernel) rfl (Or.inl rfl))) (fun _ _ _ _ _ _ => pf_nil) (fun _ _ _ _ _ _ => (pe_tup (pa_cons (pvM 0) (pa_cons (pe_ix (ix_tupC (K := K) rfl) (pvM 1) pe_int (fun _ _ => rfl)) (pa_cons (pe_callE H_tie_from (hr.mono (by decide)) xw_no (pa_cons (pvM 1) (pa_cons (pvM 0) pa_nil))) pa_nil)))))) pa_nil)))))
      (pss_one (ps_ret (pvM 2))))), ?_⟩
    unfold sp_so sp_end_of sp_tie_from
    walk_at "wp"
    intro p hp
    have s1 := same_upd (o := .lst []) (same_refl (H := H)) hp
    have hp1 : upd H p (.lst []) p = some (.lst []) := upd_same
    generalize upd H p (.lst []) = H1 at *
    refine ⟨dx, _, s1 _ _ h1, hsF_no (by decide +kernel), z, rfl, l, f', g, tks, bk, hS.same s1, .inr ⟨t, ht, hn, fun b us hb hR => ?_⟩⟩
    have s2 := same_upd (o := .lst us) (same_refl (H := H1)) hb
    have hb2 : upd H1 b (.lst us) b = some (.lst us) := upd_same
    generalize upd H1 b (.lst us) = H2 at *
    have hul : us.length = t.rs.length := Paired.length hR
    have hp2 := s2 _ _ hp1
    have hbp : b ≠ p := fun e => by rw [e, hp1] at hb; cases hb
    refine ⟨⟨_, SqL.of hb2⟩, loop_list (K := K) (xs := us) (fun i σ H' => ∃ vs v3, σ = [some (.ref z.p), some (.int n), some (.ref p), v3] ∧ Kd p H2 H' ∧ H' p = some (.lst vs) ∧ Paired (PgAt H') vs (pgs (t.rs.take i))) ⟨_, _, rfl, fun _ _ h _ => h, hp2, .nil⟩ (fun i σ H' _ ⟨_, _, _, k, _⟩ => SqL.of (k _ _ hb2 hbp)) (fun i x σ H' hi => ?_) (fun σ H' => ?_)⟩
    · rintro ⟨vs, v3, rfl, k, hp3, hP⟩
      obtain ⟨r, hr1, hr2⟩ := prd_get hR hi
      have htk : t.rs.take (i + 1) = t.rs.take i ++ [r] := by rw [List.take_add_one, hr1]; rfl
      obtain ⟨hb0, hb1, hb9⟩ := hm r (List.mem_of_getElem? hr1)
      have hr3 : RunAt H' x r := by
        have := RunsAt.kd hp2 (fun _ z => nomatch z) k hR
        obtain ⟨r', e1, e2⟩ := prd_get this hi
        rw [hr1] at e1
        cases e1
        exact e2
      obtain ⟨c, cv, rfl, hc, hcv⟩ := id hr3
      have hsum : (pgs (t.rs.take i)).length + r.m.toNat ≤ 100000 := by
        have e : pgs t.rs = pgs (t.rs.take i) ++ (pgR r ++ pgs (t.rs.drop (i + 1))) := by
          have e0 : t.rs = t.rs.take i ++ r :: t.rs.drop (i + 1) := by
            have := (List.getElem?_eq_some_iff.mp hr1)
            obtain ⟨h, e⟩ := this
            rw [← e, List.getElem_cons_drop, List.take_append_drop]
          unfold pgs
          conv => lhs; rw [e0, List.map_append, List.flatten_append, List.map_cons, List.flatten_cons]
        rw [e, List.length_append, List.length_append] at hlen
        have : (pgR r).length = r.m.toNat := by unfold pgR; rw [List.length_map, List.length_range]
        omega
      have hz := PySem.sizeLine_eq
      have hvl := Paired.length hP
      walk_at "wp"
      have hb8 := hb9
      unfold enR at hb8
      refine ⟨.inl ⟨rfl, _, SqL.of hp3⟩, _, SqT.of hc, .int r.f, rfl, r, hr3, r.f, rfl, by omega, by omega, by unfold enR; omega, by omega, fun D hD => ?_⟩
      have e9 : (enR r - r.f).toNat = r.m.toNat := by unfold enR; omega
      rw [e9]
      have hDp : D ≠ p := fun e => by rw [e, hp3] at hD; cases hD
      refine comp_range (fun j zs σ H3 => ∃ v0, σ = [v0, some (.ref c)] ∧ Same H' H3 ∧ H3 D = some (.lst zs) ∧ Paired (PgAt H3) zs ((List.range j).map fun (i : Nat) => (r.f + (i : Int), r.r, tf r (r.f + (i : Int))))) ⟨_, rfl, same_upd same_refl hD, upd_same, .nil⟩ (fun j zs σ H3 hj => ?_) (fun zs σ H3 => ?_)
      · rintro ⟨v0, rfl, s3, hD3, hZ⟩
        have hzl := Paired.length hZ
        rw [List.length_map, List.length_range] at hzl
        walk_at "wp"
        refine ⟨_, SqT.of (s3 _ _ hc), .int r.r, rfl, r, hr3.same s3, fun u H4 s4 hu np hnp => ?_⟩
        have s5 := same_upd (o := .tup [V.int (r.f + (j : Int)), V.int r.r, u]) (same_refl (H := H4)) hnp
        have hnp5 : upd H4 np (.tup [V.int (r.f + (j : Int)), V.int r.r, u]) np = some (.tup [V.int (r.f + (j : Int)), V.int r.r, u]) := upd_same
        generalize upd H4 np (.tup [V.int (r.f + (j : Int)), V.int r.r, u]) = H5 at *
        have hD5 := s5 _ _ (s4 _ _ hD3)
        refine ⟨hD5, by omega, same_put ((s3.trans s4).trans s5) hD, ?_⟩
        rw [List.range_succ, List.map_append]
        refine ps_app (pg_pair hZ fun v p h => ((h.same s4).same s5).kd hD5 kd_upd) (.cons (PgAt.kd ⟨np, u, rfl, hnp5, hu.same s5⟩ hD5 kd_upd) .nil)
      · rintro ⟨v0, rfl, s3, hD3, hZ⟩
        have hzl := Paired.length hZ
        rw [List.length_map, List.length_range] at hzl
        have hp4 := s3 _ _ hp3
        refine ⟨p, D, vs, zs, rfl, rfl, hp4, hD3, by omega, fun e o h hn => by rw [upd_ne hn]; exact s3 _ _ (k _ _ h hn), _, upd_same, ?_⟩
        rw [htk]
        unfold pgs
        rw [List.map_append, List.flatten_append]
        exact ps_app (pg_pair hP fun v p h => (h.same s3).kd hp4 kd_upd) (by rw [List.map_cons, List.map_nil, List.flatten_cons, List.flatten_nil, List.append_nil]; exact pg_pair hZ fun v p h => h.kd hp4 kd_upd)
    · rintro ⟨vs, v3, rfl, k, hp3, hP⟩
      walk_at "wp"
      rw [hul, List.take_length] at hP
      exact q p vs H' (fun e o h => k _ _ (s2 _ _ (s1 _ _ h)) (fun z => by rw [z, hp] at h; cases h)) hp hp3 hP

structure Pv where
  n : Int
  d : Addr
  m : List (Int × Int)
def pvD (pv : List Pv) : Kvs := pv.map fun e => ((Sum.inl e.n : Key), V.ref e.d)
def mD (m : List (Int × Int)) : Kvs := m.map fun x => ((Sum.inl x.1 : Key), V.int x.2)
def dks (r : Ro) (z : Hz) (pv : List Pv) : List Addr := r.sd :: r.hd :: r.pd :: z.td :: z.bd :: pv.map Pv.d
structure RB (A : Adr) (H : Hp) (r : Ro) (z : Hz) (l f g : Int) (tks : List Tk) (pv : List Pv) : Prop where
  s : ShAt A H r 0 []
  h : HsG A H z l f g tks []
  gd : gd l f g
  ho : r.ho = z.p
  sh : r.sh = z.sh
  pd : H r.pd = some (.dK (pvD pv))
  pe : ∀ e ∈ pv, e.m = [] ∧ H e.d = some (.dK [])
  nm : pv.map Pv.n = tks.map Tk.n
  nd : (dks r z pv).Nodup
def Loose (z : Hz) (c : Addr) (o : HO) : Prop := (∃ kvs, o = .dK kvs ∧ c ≠ z.td ∧ c ≠ z.bd) ∨ ∃ C dx fs, o = .ins C dx fs ∧ fs.lookup ("made" : Str) ≠ none
def Hk (z : Hz) (B H : Hp) : Prop := ∀ c o, B c = some o → H c = some o ∨ Loose z c o
theorem Hk.refl {z : Hz} {B : Hp} : Hk z B B := fun _ _ h => .inl h
theorem Hk.same {z : Hz} {B H H' : Hp} (k : Hk z B H) (s : Same H H') : Hk z B H' := fun c o h => (k c o h).imp (s c o) id
theorem hk_run {z : Hz} {B H : Hp} (k : Hk z B H) {v : V} {r : Rn} (h : RunAt B v r) : RunAt H v r := by
  obtain ⟨a, tv, e, h1, h2⟩ := h
  have tp : ∀ a xs, B a = some (.tup xs) → H a = some (.tup xs) := fun a xs h => by
    rcases k _ _ h with e | ⟨_, e, _⟩ | ⟨_, _, _, e, _⟩
    · exact e
    · cases e
    · cases e
  refine ⟨a, tv, e, tp _ _ h1, ?_⟩
  cases hT : r.t with
  | none => rw [hT] at h2; exact h2
  | some t => rw [hT] at h2; obtain ⟨a, e, h⟩ := h2; exact ⟨a, e, tp _ _ h⟩
theorem HsG.hk {A : Adr} {B H : Hp} {z : Hz} {l f g : Int} {tks : List Tk} {bk : Kvs} (h : HsG A B z l f g tks bk) (k : Hk z B H) : HsG A H z l f g tks bk := by
  obtain ⟨dx, e⟩ := h.me
  obtain ⟨dxs, es⟩ := id h.sh
  have ins : ∀ {c C dx fs}, B c = some (.ins C dx fs) → fs.lookup ("made" : Str) = none → H c = some (.ins C dx fs) := fun h n => by
    rcases k _ _ h with e | ⟨_, e, _⟩ | ⟨_, _, _, e, m⟩
    · exact e
    · cases e
    · cases e; exact absurd n m
  refine ⟨⟨dx, ins e (hsF_no (by decide +kernel))⟩, ⟨dxs, ins es (shF_no (by decide +kernel))⟩, ?_, ?_, fun t ht => ?_, h.nd, h.nk, h.vb, h.ne, h.np⟩
  · rcases k _ _ h.t with e | ⟨_, e, n, _⟩ | ⟨_, _, _, e, _⟩
    · exact e
    · exact absurd rfl n
    · cases e
  · rcases k _ _ h.b with e | ⟨_, e, _, n⟩ | ⟨_, _, _, e, _⟩
    · exact e
    · exact absurd rfl n
    · cases e
  · obtain ⟨a, ⟨dx2, vs, e1, e2, e3⟩, e4⟩ := h.st t ht
    refine ⟨a, ⟨dx2, vs, ins e1 (stF_no (by decide +kernel)), ?_, pg_pair e3 fun v p hp => hk_run k hp⟩, e4⟩
    rcases k _ _ e2 with e | ⟨_, e, _⟩ | ⟨_, _, _, e, _⟩
    · exact e
    · cases e
    · cases e
structure RAx (A : Adr) (B H : Hp) (r : Ro) (z : Hz) (l f g : Int) (tks : List Tk) (made : Int) (S : List Sh) (pv : List Pv) (own : Int → Int × Int) (con : Int → Int → Option (List Int)) : Prop where
  hB : HsG A B z l f g tks []
  k : Hk z B H
  gd : gd l f g
  ho : r.ho = z.p
  sh : r.sh = z.sh
  s : ShAt A H r made S
  pd : H r.pd = some (.dK (pvD pv))
  pe : ∀ e ∈ pv, H e.d = some (.dK (mD e.m))
  nm : pv.map Pv.n = tks.map Tk.n
  nd : (dks r z pv).Nodup
  sb : ∀ s ∈ S, B s.a = none
  dm : ∀ c, H c = none → B c = none
  x : ∀ e ∈ pv, ∀ y ∈ e.m, ∃ s ∈ S, s.n = y.2 ∧ s.h = 1 ∧ con e.n y.1 = some s.xs ∧ own y.2 = (e.n, y.1)
  c : ∀ e ∈ pv, ∀ x, (∀ y ∈ e.m, y.1 ≠ x) → con e.n x = none
  sz : ∀ s ∈ S, s.xs.length = (pw g).toNat
  ml : ∀ e ∈ pv, e.m.length ≤ S.length
  ux : ∀ e ∈ pv, ∀ y ∈ e.m, ∀ y' ∈ e.m, y.1 = y'.1 → y.2 = y'.2
def RA (A : Adr) (B H : Hp) (r : Ro) (z : Hz) (l f g : Int) (tks : List Tk) (ds : List Addr) (con : Int → Int → Option (List Int)) (cnt : Nat) : Prop :=
  ∃ made S pv own, RAx A B H r z l f g tks made S pv own con ∧ pv.map Pv.d = ds ∧ S.length = cnt ∧ cnt ≤ 10000
theorem RB.ra {A : Adr} {H : Hp} {r : Ro} {z : Hz} {l f g : Int} {tks : List Tk} {pv : List Pv} (h : RB A H r z l f g tks pv) : RA A H H r z l f g tks (pv.map Pv.d) (fun _ _ => none) 0 :=
  ⟨0, [], pv, fun _ => (0, 0), ⟨h.h, Hk.refl, h.gd, h.ho, h.sh, h.s, h.pd, fun e he => by rw [(h.pe e he).1]; exact (h.pe e he).2, h.nm, h.nd, fun s hs => by simp at hs, fun _ h => h, fun e he y hy => by rw [(h.pe e he).1] at hy; simp at hy, fun _ _ _ _ => rfl, fun s hs => by simp at hs, fun e he => by rw [(h.pe e he).1]; exact Nat.le_refl _, fun e he y hy => by rw [(h.pe e he).1] at hy; simp at hy⟩, rfl, rfl, by omega⟩
theorem RB.same {A : Adr} {H H' : Hp} {r : Ro} {z : Hz} {l f g : Int} {tks : List Tk} {pv : List Pv} (h : RB A H r z l f g tks pv) (s : Same H H') : RB A H' r z l f g tks pv :=
  ⟨h.s.same s, h.h.same s, h.gd, h.ho, h.sh, s _ _ h.pd, fun e he => ⟨(h.pe e he).1, s _ _ (h.pe e he).2⟩, h.nm, h.nd⟩
theorem RA.same {A : Adr} {B H H' : Hp} {r : Ro} {z : Hz} {l f g : Int} {tks : List Tk} {ds : List Addr} {con : Int → Int → Option (List Int)} {cnt : Nat} (h : RA A B H r z l f g tks ds con cnt) (s : Same H H') : RA A B H' r z l f g tks ds con cnt :=
  let ⟨m, S, pv, own, h, e1, e2, e3⟩ := h
  ⟨m, S, pv, own, ⟨h.hB, h.k.same s, h.gd, h.ho, h.sh, h.s.same s, s _ _ h.pd, fun e he => s _ _ (h.pe e he), h.nm, h.nd, h.sb, fun c hc => h.dm c (same_none s hc), h.x, h.c, h.sz, h.ml, h.ux⟩, e1, e2, e3⟩
def Kp (U : Addr → Prop) (H H' : Hp) : Prop := (∀ c o, H c = some o → ¬ U c → H' c = some o) ∧ ∀ c, H' c = none → H c = none
theorem ShAt.kp {A : Adr} {H H' : Hp} {r : Ro} {made : Int} {S : List Sh} {U : Addr → Prop} {z : Hz} (h : ShAt A H r made S) (k : Kp U H H') (u : ∀ c, U c → c ≠ r.p ∧ c ≠ r.sd ∧ c ≠ r.hd) (lo : ∀ c o, U c → H c = some o → Loose z c o) : ShAt A H' r made S := by
  obtain ⟨dx, e⟩ := h.me
  refine ⟨⟨dx, k.1 _ _ e fun z => (u _ z).1 rfl⟩, k.1 _ _ h.s fun z => (u _ z).2.1 rfl, k.1 _ _ h.h fun z => (u _ z).2.2 rfl, fun s hs => k.1 _ _ (h.x s hs) fun z => ?_, h.nd, h.nn, h.b, h.ne⟩
  rcases lo _ _ z (h.x s hs) with ⟨_, e, _⟩ | ⟨_, _, _, e, _⟩ <;> cases e
theorem Hk.kp {z : Hz} {B H H' : Hp} {U : Addr → Prop} (k : Hk z B H) (kp : Kp U H H') (lo : ∀ c o, U c → H c = some o → Loose z c o) : Hk z B H' := fun c o h => by
  rcases k c o h with e | e
  · by_cases hu : U c
    · exact .inr (lo c o hu e)
    · exact .inl (kp.1 _ _ e hu)
  · exact .inr e
theorem RA.kp {A : Adr} {B H H' : Hp} {r : Ro} {z : Hz} {l f g : Int} {tks : List Tk} {ds : List Addr} {con : Int → Int → Option (List Int)} {cnt : Nat} {U : Addr → Prop} (h : RA A B H r z l f g tks ds con cnt) (k : Kp U H H')
    (u : ∀ c, U c → c ≠ r.p ∧ c ≠ r.sd ∧ c ≠ r.hd ∧ c ≠ r.pd ∧ c ∉ ds) (lo : ∀ c o, U c → H c = some o → Loose z c o) : RA A B H' r z l f g tks ds con cnt := by
  obtain ⟨m, S, pv, own, h, e1, e2, e3⟩ := h
  exact ⟨m, S, pv, own, ⟨h.hB, h.k.kp k lo, h.gd, h.ho, h.sh, h.s.kp k (fun c z => ⟨(u c z).1, (u c z).2.1, (u c z).2.2.1⟩) lo, k.1 _ _ h.pd fun z => (u _ z).2.2.2.1 rfl, fun e he => k.1 _ _ (h.pe e he) fun z => (u _ z).2.2.2.2 (by rw [← e1]; exact List.mem_map.mpr ⟨e, he, rfl⟩), h.nm, h.nd, h.sb, fun c hc => h.dm c (k.2 c hc), h.x, h.c, h.sz, h.ml, h.ux⟩, e1, e2, e3⟩
theorem RB.kp {A : Adr} {H H' : Hp} {r : Ro} {z : Hz} {l f g : Int} {tks : List Tk} {pv : List Pv} {U : Addr → Prop} (h : RB A H r z l f g tks pv) (k : Kp U H H')
    (u : ∀ c, U c → c ≠ r.p ∧ c ≠ r.sd ∧ c ≠ r.hd ∧ c ≠ r.pd ∧ c ∉ pv.map Pv.d) (lo : ∀ c o, U c → H c = some o → Loose z c o) : RB A H' r z l f g tks pv :=
  ⟨h.s.kp k (fun c z => ⟨(u c z).1, (u c z).2.1, (u c z).2.2.1⟩) lo, h.h.hk (Hk.refl.kp k lo), h.gd, h.ho, h.sh, k.1 _ _ h.pd fun z => (u _ z).2.2.2.1 rfl, fun e he => ⟨(h.pe e he).1, k.1 _ _ (h.pe e he).2 fun z => (u _ z).2.2.2.2 (List.mem_map.mpr ⟨e, he, rfl⟩)⟩, h.nm, h.nd⟩
theorem RA.sh' {A : Adr} {B H : Hp} {r : Ro} {z : Hz} {l f g : Int} {tks : List Tk} {ds : List Addr} {con : Int → Int → Option (List Int)} {cnt : Nat} (h : RA A B H r z l f g tks ds con cnt) : ∃ made S, ShAt A H r made S ∧ S.length = cnt :=
  let ⟨m, S, _, _, h, _, e, _⟩ := h; ⟨m, S, h.s, e⟩

structure Dn (r : Ro) (z : Hz) (pv : List Pv) : Prop where
  sp : r.sd ≠ r.pd
  hp : r.hd ≠ r.pd
  st : r.sd ≠ z.td
  sb : r.sd ≠ z.bd
  ht : r.hd ≠ z.td
  hb : r.hd ≠ z.bd
  pt : r.pd ≠ z.td
  pb : r.pd ≠ z.bd
  e : ∀ e ∈ pv, e.d ≠ r.sd ∧ e.d ≠ r.hd ∧ e.d ≠ r.pd ∧ e.d ≠ z.td ∧ e.d ≠ z.bd
  nd : (pv.map Pv.d).Nodup
theorem dn_of {r : Ro} {z : Hz} {pv : List Pv} (h : (dks r z pv).Nodup) : Dn r z pv := by
  unfold dks at h
  simp only [List.nodup_cons, List.mem_cons, not_or] at h
  obtain ⟨⟨a1, a2, a3, a4, a5⟩, ⟨b1, b2, b3, b4⟩, ⟨c1, c2, c3⟩, ⟨d1, d2⟩, e1, f⟩ := h
  exact ⟨a2, b1, a3, a4, b2, b3, c1, c2, fun e he => ⟨fun z => a5 (by rw [← z]; exact List.mem_map.mpr ⟨e, he, rfl⟩), fun z => b4 (by rw [← z]; exact List.mem_map.mpr ⟨e, he, rfl⟩), fun z => c3 (by rw [← z]; exact List.mem_map.mpr ⟨e, he, rfl⟩), fun z => d2 (by rw [← z]; exact List.mem_map.mpr ⟨e, he, rfl⟩), fun z => e1 (by rw [← z]; exact List.mem_map.mpr ⟨e, he, rfl⟩)⟩, f⟩
theorem pv_ks {pv : List Pv} {tks : List Tk} (h : pv.map Pv.n = tks.map Tk.n) : ksK (pvD pv) = ksK (tkD tks) := by
  unfold ksK pvD tkD
  rw [List.map_map, List.map_map]
  have e1 : pv.map ((fun x : Key × V => x.1) ∘ fun e : Pv => ((Sum.inl e.n : Key), V.ref e.d)) = (pv.map Pv.n).map Sum.inl := by rw [List.map_map]; rfl
  have e2 : tks.map ((fun x : Key × V => x.1) ∘ fun e : Tk => ((Sum.inl e.n : Key), V.ref e.p)) = (tks.map Tk.n).map Sum.inl := by rw [List.map_map]; rfl
  exact e1.trans ((congrArg _ h).trans e2.symm)
theorem kd_none {p : Addr} {H H' : Hp} {o : HO} (k : Kd p H H') (hp : H' p = some o) : ∀ c, H' c = none → H c = none := fun c h => by
  cases e : H c with
  | none => rfl
  | some o' => exact absurd (k c o' e (fun z => by rw [z, hp] at h; cases h)) (by rw [h]; exact fun z => nomatch z)
theorem put_in {p : Addr} {H H' : Hp} {o o0 : HO} (_ : H' p = some o0) (k : Kd p H H') : upd H' p o p = some o ∧ Kd p H (upd H' p o) ∧ Kd p H' (upd H' p o) := ⟨upd_same, k.trans kd_upd, kd_upd⟩
theorem put_dict {p c : Addr} {H G : Hp} {o o0 : HO} (hp : G p = some o0) (k : Kd p H G) (hc : G c = none) : upd (upd G c (.dK [])) p o p = some o ∧ Kd p H (upd (upd G c (.dK [])) p o) ∧ Kd p G (upd (upd G c (.dK [])) p o) ∧ upd (upd G c (.dK [])) p o c = some (.dK []) ∧ H c = none ∧ upd G c (.dK []) p = some o0 := by
  have n : c ≠ p := fun z => by rw [z, hp] at hc; cases hc
  have k2 : Kd p G (upd (upd G c (.dK [])) p o) := fun e u h hn => by rw [upd_ne hn, upd_ne (fun z => by rw [z, hc] at h; cases h)]; exact h
  exact ⟨upd_same, k.trans k2, k2, by rw [upd_ne n, upd_same], kd_none k hp c hc, by rw [upd_ne n.symm]; exact hp⟩
def sp_rinit (A : Adr) : Sp := fun vs H Q _ => ∃ (p dx sh : Addr) (most l f g : Int), vs = [.ref p, .ref sh, .int most] ∧ H p = some (.ins A.C_Rooms dx []) ∧ ShapeAt A.C_Shape H sh l f g ∧ gd l f g ∧
  ∀ r z H', r.p = p → r.most = most → RB A H' r z l f g [] [] → (∀ c ∈ dks r z [], H c = none) → H z.p = none → Kd p H H' → Q .non H'
theorem h_rinit (T : Txt K mg A) : HaveI P w K mg base "Rooms" A.C_Rooms 3 ["self", "shape", "most"] [] (sp_rinit A) := by
  have H_House_init := h_hinit (P := P) (w := w) (base := base) T
  refine T.r_Rooms_init.have sc_Rooms_init (fun vs H Q E z => ?_) ?_
  · obtain ⟨p, dx, sh, most, l, f, g, rfl, _⟩ := z; rfl
  · intro f cdv A' outer s H vs Q E hr z
    obtain ⟨p, dx, sh, most, l, f', g, rfl, hp, hsh, hg, q⟩ := z
    refine ⟨_, (pss_cons (ps_fld (pvM 0) (pvM 1) rfl)
      (pss_cons (ps_fld (pvM 0) (pvM 2) rfl)
      (pss_cons (ps_fld (pvM 0) (pe_makeE H_House_init (hr.mono (by decide)) xw_def (pa_cons (pvM 1) pa_nil)) rfl)
      (pss_cons (ps_fld (pvM 0) pe_dnewK rfl)
      (pss_cons (ps_fld (pvM 0) pe_dnewK rfl)
      (pss_cons (ps_fld (pvM 0) pe_int rfl)
      (pss_cons (ps_fld (pvM 0) pe_dnewK rfl)
      (pss_one (ps_fld (pvM 0) pe_dnewK rfl))))))))), ?_⟩
    unfold sp_hinit
    walk_at "wp"
    refine ⟨_, dx, _, hp, T.cl_Rooms, T.na_Rooms_shape, by show 0 < 1000; decide, T.cl_Rooms, T.na_Rooms_most, by show 1 < 1000; decide, ?_⟩
    have hp0 : upd H p (.ins A.C_Rooms dx (putF "most" (.int most) (putF "shape" (.ref sh) []))) p = some (.ins A.C_Rooms dx (putF "most" (.int most) (putF "shape" (.ref sh) []))) := upd_same
    have k0 : Kd p H (upd H p (.ins A.C_Rooms dx (putF "most" (.int most) (putF "shape" (.ref sh) [])))) := kd_upd
    have n0 := kd_none k0 hp0
    generalize upd H p (.ins A.C_Rooms dx (putF "most" (.int most) (putF "shape" (.ref sh) []))) = G0 at *
    intro x1 dx1 hx1 hdx1 hne1 td bd H1 htd hbd hn1 k1 a1 a2 a3
    have s1 : Same G0 (upd (upd G0 dx1 (.own x1)) x1 (.ins A.C_House dx1 [])) := fun c o h => by rw [upd_ne (ne_of_none h hx1), upd_ne (ne_of_none h hdx1)]; exact h
    have px : p ≠ x1 := ne_of_none hp0 hx1
    have hx1n := n0 _ hx1
    have htd0 := n0 _ (same_none s1 htd)
    have hbd0 := n0 _ (same_none s1 hbd)
    generalize upd (upd G0 dx1 (.own x1)) x1 (.ins A.C_House dx1 []) = G1 at *
    have hp1 := k1 _ _ (s1 _ _ hp0) px
    have k01 : Kd p H H1 := fun c o h hn => k1 _ _ (s1 _ _ (k0 _ _ h hn)) (ne_of_none h hx1n)
    have n1 := kd_none k01 hp1
    refine ⟨_, dx, _, hp1, T.cl_Rooms, T.na_Rooms_house, by show 2 < 1000; decide, ?_⟩
    have st2 := put_in hp1 k01 (o := .ins A.C_Rooms dx (putF "house" (.ref x1) (putF "most" (.int most) (putF "shape" (.ref sh) []))))
    generalize upd H1 p (.ins A.C_Rooms dx (putF "house" (.ref x1) (putF "most" (.int most) (putF "shape" (.ref sh) [])))) = G2 at *
    have e2x := st2.2.2 _ _ a1 px.symm
    have e2t := st2.2.2 _ _ a2 (ne_of a2 hp1 (fun z => nomatch z))
    have e2b := st2.2.2 _ _ a3 (ne_of a3 hp1 (fun z => nomatch z))
    intro p1 hp1'
    have st3 := put_dict st2.1 st2.2.1 hp1' (o := .ins A.C_Rooms dx (putF "sheets" (.ref p1) (putF "house" (.ref x1) (putF "most" (.int most) (putF "shape" (.ref sh) [])))))
    refine ⟨_, dx, _, st3.2.2.2.2.2, T.cl_Rooms, T.na_Rooms_sheets, by show 3 < 1000; decide, ?_⟩
    generalize upd (upd G2 p1 (.dK [])) p (.ins A.C_Rooms dx (putF "sheets" (.ref p1) (putF "house" (.ref x1) (putF "most" (.int most) (putF "shape" (.ref sh) []))))) = G3 at *
    intro p2 hp2
    have st4 := put_dict st3.1 st3.2.1 hp2 (o := .ins A.C_Rooms dx (putF "made" (.int 0) (putF "havers" (.ref p2) (putF "sheets" (.ref p1) (putF "house" (.ref x1) (putF "most" (.int most) (putF "shape" (.ref sh) [])))))))
    refine ⟨_, dx, _, st4.2.2.2.2.2, T.cl_Rooms, T.na_Rooms_havers, by show 4 < 1000; decide, T.cl_Rooms, T.na_Rooms_made, by show 5 < 1000; decide, ?_⟩
    generalize upd (upd G3 p2 (.dK [])) p (.ins A.C_Rooms dx (putF "made" (.int 0) (putF "havers" (.ref p2) (putF "sheets" (.ref p1) (putF "house" (.ref x1) (putF "most" (.int most) (putF "shape" (.ref sh) []))))))) = G4 at *
    intro p3 hp3
    have st5 := put_dict st4.1 st4.2.1 hp3 (o := .ins A.C_Rooms dx (putF "private" (.ref p3) (putF "made" (.int 0) (putF "havers" (.ref p2) (putF "sheets" (.ref p1) (putF "house" (.ref x1) (putF "most" (.int most) (putF "shape" (.ref sh) []))))))))
    refine ⟨_, dx, _, st5.2.2.2.2.2, T.cl_Rooms, T.na_Rooms_private, by show 6 < 1000; decide, ?_⟩
    generalize upd (upd G4 p3 (.dK [])) p (.ins A.C_Rooms dx (putF "private" (.ref p3) (putF "made" (.int 0) (putF "havers" (.ref p2) (putF "sheets" (.ref p1) (putF "house" (.ref x1) (putF "most" (.int most) (putF "shape" (.ref sh) [])))))))) = G5 at *
    intro p4 hp4
    have st6 := put_dict st5.1 st5.2.1 hp4 (o := .ins A.C_Rooms dx (putF "banked" (.ref p4) (putF "private" (.ref p3) (putF "made" (.int 0) (putF "havers" (.ref p2) (putF "sheets" (.ref p1) (putF "house" (.ref x1) (putF "most" (.int most) (putF "shape" (.ref sh) [])))))))))
    refine ⟨_, dx, _, st6.2.2.2.2.2, T.cl_Rooms, T.na_Rooms_banked, by show 7 < 1000; decide, ?_⟩
    generalize upd (upd G5 p4 (.dK [])) p (.ins A.C_Rooms dx (putF "banked" (.ref p4) (putF "private" (.ref p3) (putF "made" (.int 0) (putF "havers" (.ref p2) (putF "sheets" (.ref p1) (putF "house" (.ref x1) (putF "most" (.int most) (putF "shape" (.ref sh) []))))))))) = G6 at *
    have nsh : sh ≠ p := by
      obtain ⟨dxs, es⟩ := id hsh
      intro e
      rw [e, hp] at es
      have z := (HO.ins.inj (Option.some.inj es)).2.2
      have w := shF_boxes (l := l) (f := f') (g := g)
      rw [← z] at w
      cases w
    obtain ⟨dxs, es⟩ := id hsh
    have kdk : ∀ {c : Addr}, c ≠ p → ∀ {o}, G2 c = some o → G6 c = some o := fun hn _ h => st6.2.2.1 _ _ (st5.2.2.1 _ _ (st4.2.2.1 _ _ (st3.2.2.1 _ _ h hn) hn) hn) hn
    have ne1 : p1 ≠ p := ne_of st3.2.2.2.1 st3.1 (fun z => nomatch z)
    have ne2 : p2 ≠ p := ne_of st4.2.2.2.1 st4.1 (fun z => nomatch z)
    have ne3 : p3 ≠ p := ne_of st5.2.2.2.1 st5.1 (fun z => nomatch z)
    have q1 := st5.2.2.1 _ _ (st4.2.2.1 _ _ st3.2.2.2.1 ne1) ne1
    have q2 := st5.2.2.1 _ _ st4.2.2.2.1 ne2
    have q3 := st5.2.2.2.1
    have t3 := st3.2.2.1 _ _ e2t (ne_of e2t st2.1 (fun z => nomatch z))
    have b3 := st3.2.2.1 _ _ e2b (ne_of e2b st2.1 (fun z => nomatch z))
    have t4 := st4.2.2.1 _ _ t3 (ne_of t3 st3.1 (fun z => nomatch z))
    have b4 := st4.2.2.1 _ _ b3 (ne_of b3 st3.1 (fun z => nomatch z))
    have t5 := st5.2.2.1 _ _ t4 (ne_of t4 st4.1 (fun z => nomatch z))
    have b5 := st5.2.2.1 _ _ b4 (ne_of b4 st4.1 (fun z => nomatch z))
    have q41 := st4.2.2.1 _ _ st3.2.2.2.1 ne1
    refine q ⟨p, sh, x1, p1, p2, p3, p4, most⟩ ⟨x1, sh, td, bd⟩ G6 rfl rfl ⟨⟨⟨dx, st6.1⟩, st6.2.2.1 _ _ q1 ne1, st6.2.2.1 _ _ q2 ne2, fun s hs => by simp at hs, .nil, .nil, fun s hs => by simp at hs, ?_⟩, ⟨⟨dx1, kdk px.symm e2x⟩, ⟨dxs, st6.2.1 _ _ es nsh⟩, st6.2.2.1 _ _ t5 (ne_of t5 st5.1 (fun z => nomatch z)), st6.2.2.1 _ _ b5 (ne_of b5 st5.1 (fun z => nomatch z)), fun t ht => by simp at ht, .nil, .nil, fun kv hkv => by simp at hkv, hn1, fun t ht => by simp at ht⟩, hg, rfl, rfl, st6.2.2.1 _ _ q3 ne3, fun e he => by simp at he, rfl, ?_⟩ ?_ hx1n st6.2.1
    · exact ne_of_none st3.2.2.2.1 hp2
    · have d12 : p1 ≠ p2 := ne_of_none st3.2.2.2.1 hp2
      have d13 : p1 ≠ p3 := ne_of_none q41 hp3
      have d14 : p1 ≠ p4 := ne_of_none q1 hp4
      have d23 : p2 ≠ p3 := ne_of_none st4.2.2.2.1 hp3
      have d24 : p2 ≠ p4 := ne_of_none q2 hp4
      have d34 : p3 ≠ p4 := ne_of_none q3 hp4
      have t1 : td ≠ p1 := ne_of_none e2t hp1'
      have t2 : td ≠ p2 := ne_of_none t3 hp2
      have t3' : td ≠ p3 := ne_of_none t4 hp3
      have t4' : td ≠ p4 := ne_of_none t5 hp4
      have u1 : bd ≠ p1 := ne_of_none e2b hp1'
      have u2 : bd ≠ p2 := ne_of_none b3 hp2
      have u3 : bd ≠ p3 := ne_of_none b4 hp3
      have u4 : bd ≠ p4 := ne_of_none b5 hp4
      show [p1, p2, p3, td, bd].Nodup
      simp only [List.nodup_cons, List.mem_cons, List.not_mem_nil, or_false, not_or, List.nodup_nil, and_true, not_false_eq_true]
      exact ⟨⟨d12, d13, t1.symm, u1.symm⟩, ⟨d23, t2.symm, u2.symm⟩, ⟨t3'.symm, u3.symm⟩, hn1⟩
    · intro c hc
      have hc : c ∈ [p1, p2, p3, td, bd] := hc
      simp only [List.mem_cons, List.not_mem_nil, or_false] at hc
      rcases hc with rfl | rfl | rfl | rfl | rfl
      · exact st3.2.2.2.2.1
      · exact st4.2.2.2.2.1
      · exact st5.2.2.2.2.1
      · exact htd0
      · exact hbd0

def sp_rnt (A : Adr) : Sp := fun vs H Q _ => ∃ (r : Ro) (z : Hz) (l f g : Int) (tks : List Tk) (pv : List Pv), vs = [.ref r.p] ∧ RB A H r z l f g tks pv ∧ tks.length < 1000 ∧
  ∀ (k : Nat) (p d : Addr) (H' : Hp), Lst (ksK (tkD tks)) k → RB A H' r z l f g (tks ++ [⟨k, p, []⟩]) (pv ++ [⟨k, d, []⟩]) → H p = none → H d = none → (∀ c o, H c = some o → c ≠ r.pd → c ≠ z.td → H' c = some o) → Q (.int k) H'
theorem h_rnt (T : Txt K mg A) : HaveM P w K mg base A.C_Rooms "new_task" 4 ["self"] [] (sp_rnt A) := by
  have H_House_new_task := h_nt (P := P) (w := w) (base := base) T
  refine T.r_Rooms_new_task.have sc_Rooms_new_task (fun vs H Q E z => ?_) ?_
  · obtain ⟨r, z, l, f, g, tks, pv, rfl, _⟩ := z; rfl
  · intro f cdv A' outer s H vs Q E hr z
    obtain ⟨r, z, l, f', g, tks, pv, rfl, hR, hl, q⟩ := z
    obtain ⟨dx, h1⟩ := hR.s.me
    obtain ⟨dxh, h2⟩ := hR.h.me
    refine ⟨_, (pss_cons (ps_set (i := 1) sc_Rooms_new_task.nd rfl (Or.inl rfl) (pe_methE0 (pe_fld (pvM 0) rfl) T.cl_House H_House_new_task (hr.mono (by decide)) xw_def))
      (pss_cons (ps_dput (hu_of hr) (pe_fld (pvM 0) rfl) (pvM 1) pe_dnewK rfl)
      (pss_one (ps_ret (pvM 1))))), ?_⟩
    unfold sp_nt sDPut
    walk_at "wp"
    simp only [h1]
    walk_at "wp"
    refine ⟨T.cl_Rooms, T.na_Rooms_house, _, roF_house, r.ho, rfl, dxh, _, by rw [hR.ho]; exact h2, hsF_no (by decide +kernel), z, by rw [hR.ho], l, f', g, tks, [], hR.h, hl, fun k p H1 hL hS1 hp0 hK d hd => ?_⟩
    have D := dn_of hR.nd
    have hz := PySem.sizeLine_eq
    have hd0 : H d = none := kd_none hK hS1.t d hd
    have s2 := same_upd (o := .dK []) (same_refl (H := H1)) hd
    have hd2 : upd H1 d (.dK []) d = some (.dK []) := upd_same
    have hS2 := hS1.same s2
    have hSh1 : ShAt A H1 r 0 [] := hR.s.kd hR.h.t D.st.symm D.ht.symm hK
    have hSh2 := hSh1.same s2
    have hpd2 := s2 _ _ (hK _ _ hR.pd D.pt)
    have hpe2 : ∀ e ∈ pv, upd H1 d (.dK []) e.d = some (.dK []) := fun e he => s2 _ _ (hK _ _ (hR.pe e he).2 (D.e e he).2.2.2.1)
    generalize upd H1 d (.dK []) = H2 at *
    obtain ⟨dx2, e2⟩ := hSh2.me
    have hkl : (pvD pv).length = tks.length := by unfold pvD; rw [List.length_map, ← List.length_map (f := Pv.n), hR.nm, List.length_map]
    have hkn : (Sum.inl (k : Int) : Key) ∉ ksK (pvD pv) := by rw [pv_ks hR.nm]; exact hL.1
    have ndp : d ≠ r.pd := fun e => by rw [e, hR.pd] at hd0; cases hd0
    refine ⟨_, dx2, _, e2, T.cl_Rooms, T.na_Rooms_private, _, roF_private, r.pd, rfl, _, .inl ⟨pvD pv, Sum.inl k, hpd2, rfl, by omega, rfl⟩, ?_⟩
    rw [ks_put hkn]
    have eD : pvD pv ++ [(Sum.inl (k : Int), V.ref d)] = pvD (pv ++ [⟨k, d, []⟩]) := by unfold pvD; rw [List.map_append]; rfl
    rw [eD]
    have k3 : Kd r.pd H2 (upd H2 r.pd (.dK (pvD (pv ++ [⟨k, d, []⟩])))) := kd_upd
    refine q k p d _ hL ⟨hSh2.kd hpd2 D.sp.symm D.hp.symm k3, hS2.hk (Hk.refl.kp (U := (· = r.pd)) ⟨fun c o h n => k3 _ _ h n, kd_none k3 upd_same⟩ (fun c o e h => .inl ⟨_, by rw [e, hpd2] at h; exact (Option.some.inj h).symm, by rw [e]; exact D.pt, by rw [e]; exact D.pb⟩)), hR.gd, hR.ho, hR.sh, upd_same, ?_, ?_, ?_⟩ hp0 hd0 (fun c o h n1 n2 => k3 _ _ (s2 _ _ (hK _ _ h n2)) n1)
    · intro e he
      rcases List.mem_append.mp he with h | h
      · exact ⟨(hR.pe e h).1, k3 _ _ (hpe2 e h) (D.e e h).2.2.1⟩
      · obtain rfl := List.mem_singleton.mp h
        exact ⟨rfl, k3 _ _ hd2 ndp⟩
    · rw [List.map_append, List.map_append, hR.nm]; rfl
    · have e : dks r z (pv ++ [⟨k, d, []⟩]) = dks r z pv ++ [d] := by unfold dks; rw [List.map_append]; rfl
      rw [e, List.nodup_append]
      refine ⟨hR.nd, List.nodup_cons.mpr ⟨List.not_mem_nil, .nil⟩, fun a ha b hb => ?_⟩
      obtain rfl := List.mem_singleton.mp hb
      intro e
      subst e
      have ha : a ∈ r.sd :: r.hd :: r.pd :: z.td :: z.bd :: pv.map Pv.d := ha
      simp only [List.mem_cons] at ha
      rcases ha with e | e | e | e | e | h
      · rw [e, hR.s.s] at hd0; cases hd0
      · rw [e, hR.s.h] at hd0; cases hd0
      · rw [e, hR.pd] at hd0; cases hd0
      · rw [e, hR.h.t] at hd0; cases hd0
      · rw [e, hR.h.b] at hd0; cases hd0
      · obtain ⟨e, he, h⟩ := List.mem_map.mp h
        rw [← h, (hR.pe e he).2] at hd0; cases hd0

def sp_no : Sp := fun _ _ _ _ => False
theorem n_goes_on (T : Txt K mg A) : Have P w K mg base "goes_on" 2 ["run", "later"] [] sp_no := T.r_goes_on.have sc_goes_on (fun _ _ _ _ z => False.elim z) (fun _ _ _ _ _ _ _ _ _ _ z => False.elim z)
theorem n_part_of (T : Txt K mg A) : Have P w K mg base "part_of" 2 ["run", "low", "high"] [] sp_no := T.r_part_of.have sc_part_of (fun _ _ _ _ z => False.elim z) (fun _ _ _ _ _ _ _ _ _ _ z => False.elim z)
theorem n_end_of (T : Txt K mg A) : Have P w K mg base "end_of" 1 ["run"] [] sp_no := T.r_end_of.have sc_end_of (fun _ _ _ _ z => False.elim z) (fun _ _ _ _ _ _ _ _ _ _ z => False.elim z)
theorem n_cpb (T : Txt K mg A) : HaveM P w K mg base A.C_House "check_part_of_bank" 3 ["self", "bank", "start", "many"] [] sp_no := T.r_House_check_part_of_bank.have sc_House_check_part_of_bank (fun _ _ _ _ z => False.elim z) (fun _ _ _ _ _ _ _ _ _ _ z => False.elim z)
def sp_joined1 : Sp := fun vs H Q _ => ∃ (a : Addr) (v : V), vs = [.ref a] ∧ H a = some (.lst [v]) ∧ ∀ t H', Same H H' → H' t = some (.lst [v]) → Q (.ref t) H'
theorem h_joined1 (T : Txt K mg A) : Have P w K mg base "joined" 3 ["runs"] [] sp_joined1 := by
  have H_goes_on := n_goes_on (P := P) (w := w) (base := base) T
  refine T.r_joined.have sc_joined (fun vs H Q E z => ?_) ?_
  · obtain ⟨a, v, rfl, _⟩ := z; rfl
  · intro f cdv A' outer s H vs Q E hr z
    obtain ⟨a, v, rfl, ha, q⟩ := z
    refine ⟨_, (pss_cons (ps_set (i := 1) sc_joined.nd rfl (Or.inl rfl) (pe_lst pa_nil))
      (pss_cons (ps_forE PassesOwn.leaving rfl (pi_list (pvM 0)) (pg_name (i := 2) sc_joined.nd rfl (Or.inl rfl)) (pss_one (ps_if (PW.pt (pw_and (pt_cmpR op_gt (pe_callB call_len rfl T.b_len PySem.boot_len (pa_cons (pvM 1) pa_nil)) pe_int (nomark _)) (pw_and1 (pt_val (pe_callE H_goes_on (hr.mono (by decide)) xw_def (pa_cons (pe_ix ix_list (pvM 1) (pe_un op_neg pe_int) (fun _ _ => rfl)) (pa_cons (pvM 2) pa_nil))))))) (pss_cons (ps_set (i := 3) sc_joined.nd rfl (Or.inl rfl) (pe_bm0 PySem.F.plainAttrs_list PySem.F.slot_list_pop PySem.F.type_list_pop mt_pop (pvM 1)))
      (pss_one (ps_expr (pe_bm PySem.F.plainAttrs_list PySem.F.slot_list_append PySem.F.type_list_append mt_append (pvM 1) (pa_cons (pe_tup (pa_cons (pe_ix ix_tup (pvM 3) pe_int (fun _ _ => rfl)) (pa_cons (pe_op op_add (pe_ix ix_tup (pvM 3) pe_int (fun _ _ => rfl)) (pe_ix ix_tup (pvM 2) pe_int (fun _ _ => rfl))) (pa_cons (pe_ix ix_tup (pvM 3) pe_int (fun _ _ => rfl)) (pa_cons (pe_ix ix_tup (pvM 3) pe_int (fun _ _ => rfl)) pa_nil))))) pa_nil))))) (pss_one (ps_expr (pe_bm PySem.F.plainAttrs_list PySem.F.slot_list_append PySem.F.type_list_append mt_append (pvM 1) (pa_cons (pvM 2) pa_nil)))))))
      (pss_one (ps_ret (pvM 1))))), ?_⟩
    walk_at "wp"
    intro t ht
    have sm0 := same_upd (o := .lst []) same_refl ht
    refine ⟨⟨_, SqL.of (sm0 _ _ ha)⟩, loop_list (K := K) (xs := [v]) (fun i σ H' => ∃ v2 v3, σ = [some (.ref a), some (.ref t), v2, v3] ∧ Same H H' ∧ H' t = some (.lst ([v].take i))) ⟨_, _, rfl, sm0, upd_same⟩ (fun i σ H' _ ⟨_, _, _, e, _⟩ => SqL.of (e _ _ ha)) (fun i x σ H' hi => ?_) (fun σ H' => ?_)⟩
    · rintro ⟨v2, v3, rfl, sm, ht'⟩
      cases i with
      | zero =>
        obtain rfl : v = x := Option.some.inj hi
        walk_at "wp"
        refine ⟨0, .inl ⟨_, SqL.of ht', rfl⟩, ?_⟩
        rw [if_neg (show ¬ (0 : Int) < ((0 : Nat) : Int) from fun z => absurd z (by decide))]
        exact iteF ⟨.inl ⟨rfl, _, SqL.of ht'⟩, _, ht', by show 0 < 16777216; decide, same_put sm ht, rfl⟩
      | succ i => cases hi
    · rintro ⟨v2, v3, rfl, sm, ht'⟩
      walk_at "wp"
      exact q t H' sm ht'
theorem ord_nil : OrdR [] := ⟨.nil, fun _ h => by cases h⟩
def sp_lay1 (C : Addr) : Sp := fun vs H Q _ => ∃ (p a b : Addr) (r : Rn) (x n : Int) (v : V), vs = [.ref p, .int x, .int n, .ref b] ∧ StAt C H p a [] ∧ H b = some (.lst [v]) ∧ RunAt H v r ∧ ∀ a' H', StAt C H' p a' [r] → Bu p H H' → Q .non H'
theorem h_lay1 (T : Txt K mg A) : HaveM P w K mg base A.C_Stretches "lay_amid" 5 ["self", "first", "many", "parts"] [] (sp_lay1 A.C_Stretches) := by
  have H_part_of := n_part_of (P := P) (w := w) (base := base) T
  have H_end_of := n_end_of (P := P) (w := w) (base := base) T
  have H_joined := h_joined1 (P := P) (w := w) (base := base) T
  have H_Stretches_place_behind := h_place (P := P) (w := w) (base := base) T
  refine T.r_Stretches_lay_amid.have sc_Stretches_lay_amid (fun vs H Q E z => ?_) ?_
  · obtain ⟨p, a, b, r, x, n, v, rfl, _⟩ := z; rfl
  · intro f cdv A' outer s H vs Q E hr z
    obtain ⟨p, a, b, r, x, n, v, rfl, hS, hb, hP, q⟩ := z
    obtain ⟨dx, vs, h1, h2, h3⟩ := id hS
    cases h3
    refine ⟨_, (pss_cons (ps_set (i := 4) sc_Stretches_lay_amid.nd rfl (Or.inr rfl) (pe_op op_add (pvM 1) (pvM 2)))
      (pss_cons (ps_set (i := 5) sc_Stretches_lay_amid.nd rfl (Or.inl rfl) (pe_methE (pvM 0) T.cl_Stretches H_Stretches_place_behind (hr.mono (by decide)) xw_def (pa_cons (pe_op op_sub (pvM 1) pe_int) pa_nil)))
      (pss_cons (ps_set (i := 6) sc_Stretches_lay_amid.nd rfl (Or.inl rfl) (pe_op op_add (pe_methE (pvM 0) T.cl_Stretches H_Stretches_place_behind (hr.mono (by decide)) xw_def (pa_cons (pvM 4) pa_nil)) pe_int))
      (pss_cons (ps_set (i := 7) sc_Stretches_lay_amid.nd rfl (Or.inl rfl) (pe_slice sl_list (pe_fld (pvM 0) rfl) (po_some (pvM 5)) (po_some (pvM 6))))
      (pss_cons (ps_setC (i := 8) sc_Stretches_lay_amid.nd rfl rfl rfl (pi_list (pvM 7)) (x := "run") (fs := ["first"]) (ix := [1]) rfl rfl (fun _ _ _ _ _ _ => (pg_name (i := 0) (show (["run", "first"] : List Str).Nodup by decide +kernel) rfl (Or.inl rfl))) (fun _ _ _ _ _ _ => (pf_one (pt_cmpR op_lt (pe_ix (ix_tupC (K := K) rfl) (pvM 0) pe_int (fun _ _ => rfl)) (pvM 1) (nomark _)))) (fun _ _ _ _ _ _ => (pe_callE H_part_of (hr.mono (by decide)) xw_no (pa_cons (pvM 0) (pa_cons (pe_ix (ix_tupC (K := K) rfl) (pvM 0) pe_int (fun _ _ => rfl)) (pa_cons (pvM 1) pa_nil))))))
      (pss_cons (ps_setC (i := 9) sc_Stretches_lay_amid.nd rfl rfl rfl (pi_list (pvM 7)) (x := "run") (fs := ["end"]) (ix := [4]) rfl rfl (fun _ _ _ _ _ _ => (pg_name (i := 0) (show (["run", "end"] : List Str).Nodup by decide +kernel) rfl (Or.inl rfl))) (fun _ _ _ _ _ _ => (pf_one (pt_cmpR op_gt (pe_callE H_end_of (hr.mono (by decide)) xw_no (pa_cons (pvM 0) pa_nil)) (pvM 1) (nomark _)))) (fun _ _ _ _ _ _ => (pe_callE H_part_of (hr.mono (by decide)) xw_no (pa_cons (pvM 0) (pa_cons (pvM 1) (pa_cons (pe_callE H_end_of (hr.mono (by decide)) xw_no (pa_cons (pvM 0) pa_nil)) pa_nil))))))
      (pss_one (ps_fld (pvM 0) (pe_op op_cat (pe_op op_cat (pe_slice sl_list (pe_fld (pvM 0) rfl) po_none (po_some (pvM 5))) (pe_callE H_joined (hr.mono (by decide)) xw_def (pa_cons (pe_op op_cat (pe_op op_cat (pvM 8) (pvM 3)) (pvM 9)) pa_nil))) (pe_slice sl_list (pe_fld (pvM 0) rfl) (po_some (pvM 6)) po_none)) rfl)))))))), ?_⟩
    walk_at "wp"
    refine ⟨dx, _, h1, stF_no (by decide +kernel), p, a, [], _, rfl, hS, ord_nil, by show 0 ≤ 1000000; decide, ?_⟩
    walk_at "wp"
    refine ⟨dx, _, h1, stF_no (by decide +kernel), p, a, [], _, rfl, hS, ord_nil, by show 0 ≤ 1000000; decide, ?_⟩
    walk_at "wp"
    refine ⟨_, dx, _, h1, T.cl_Stretches, T.na_Stretches_runs, _, stF_runs, a, rfl, _, SqL.of h2, fun sl hsl => ⟨⟨_, SqL.of upd_same⟩, ?_⟩⟩
    have ecut : cutV ([] : List V) (some ((pb [] (x - 1) : Nat) : Int)) (some (((pb [] (x + n) : Nat) : Int) + 1)) = [] := (cutV_nat (hi := pb [] (x + n) + 1)).trans (by simp)
    rw [ecut]
    have s1 := same_upd (o := .lst []) (same_refl (H := H)) hsl
    have hsl1 : upd H sl (.lst []) sl = some (.lst []) := upd_same
    generalize upd H sl (.lst []) = H1 at *
    intro D1 hD1
    refine comp_list (K := K) (xs := []) (fun i ys σ H' => ∃ v, σ = [v, some (.int x)] ∧ ys = [] ∧ Same H1 H' ∧ H' D1 = some (.lst [])) ⟨_, rfl, rfl, same_upd same_refl hD1, upd_same⟩ (fun i ys σ H' _ ⟨_, _, _, s2, _⟩ => SqL.of (s2 _ _ hsl1)) (fun i v ys σ H' hi => by cases hi) (fun ys σ H2 => ?_)
    rintro ⟨v0, rfl, rfl, s2, hA⟩
    refine ⟨⟨_, SqL.of (s2 _ _ hsl1)⟩, fun D2 hD2 => ?_⟩
    refine comp_list (K := K) (xs := []) (fun i ys σ H' => ∃ v, σ = [v, some (.int (x + n))] ∧ ys = [] ∧ Same H2 H' ∧ H' D2 = some (.lst [])) ⟨_, rfl, rfl, same_upd same_refl hD2, upd_same⟩ (fun i ys σ H' _ ⟨_, _, _, s3, _⟩ => SqL.of (s3 _ _ (s2 _ _ hsl1))) (fun i v ys σ H' hi => by cases hi) (fun ys σ H3 => ?_)
    rintro ⟨v1, rfl, rfl, s3, hB⟩
    have s13 := (s1.trans s2).trans s3
    have hA3 := s3 _ _ hA
    clear hsl hsl1 hD1 hD2 s1 s2 s3 hA
    refine ⟨_, dx, _, s13 _ _ h1, T.cl_Stretches, T.na_Stretches_runs, _, stF_runs, a, rfl, _, SqL.of (s13 _ _ h2), fun q1 hq1 => ?_⟩
    rw [cutV_to, List.take_nil]
    have s4 := same_upd (o := .lst []) s13 hq1
    have hq1' : upd H3 q1 (.lst []) q1 = some (.lst []) := upd_same
    have hA4 := same_upd (o := .lst []) same_refl hq1 _ _ hA3
    have hB4 := same_upd (o := .lst []) same_refl hq1 _ _ hB
    generalize upd H3 q1 (.lst []) = H4 at *
    refine ⟨_, hA4, _, s4 _ _ hb, by show 0 + 1 ≤ 16777216; decide, fun q2 hq2 => ?_⟩
    have u5 := same_upd (o := .lst ([] ++ [v])) (same_refl (H := H4)) hq2
    have hq2' : upd H4 q2 (.lst ([] ++ [v])) q2 = some (.lst ([] ++ [v])) := upd_same
    have s5 := s4.trans u5
    have hq15 := u5 _ _ hq1'
    have hB5 := u5 _ _ hB4
    generalize upd H4 q2 (.lst ([] ++ [v])) = H5 at *
    refine ⟨_, rfl, _, hB5, by show 1 + 0 ≤ 16777216; decide, fun q3 hq3 => ?_⟩
    have u6 := same_upd (o := .lst ([] ++ [v] ++ [])) (same_refl (H := H5)) hq3
    have hq3' : upd H5 q3 (.lst ([] ++ [v] ++ [])) q3 = some (.lst ([] ++ [v] ++ [])) := upd_same
    have s6 := s5.trans u6
    have hq16 := u6 _ _ hq15
    generalize upd H5 q3 (.lst ([] ++ [v] ++ [])) = H6 at *
    refine ⟨_, v, rfl, hq3', fun t H7 s7 ht => ?_⟩
    walk_at "wp"
    have s8 := s6.trans s7
    refine ⟨_, s7 _ _ hq16, _, ht, by show 0 + 1 ≤ 16777216; decide, fun q4 hq4 => ?_⟩
    have u8 := same_upd (o := .lst ([] ++ [v])) (same_refl (H := H7)) hq4
    have hq4' : upd H7 q4 (.lst ([] ++ [v])) q4 = some (.lst ([] ++ [v])) := upd_same
    have s9 := s8.trans u8
    generalize upd H7 q4 (.lst ([] ++ [v])) = H8 at *
    refine ⟨_, dx, _, s9 _ _ h1, T.cl_Stretches, T.na_Stretches_runs, _, stF_runs, a, rfl, _, SqL.of (s9 _ _ h2), fun q5 hq5 => ?_⟩
    have ecf : cutV ([] : List V) (some (((pb [] (x + n) : Nat) : Int) + 1)) none = [] := (cutV_from (lo := pb [] (x + n) + 1)).trans List.drop_nil
    rw [ecf]
    have u9 := same_upd (o := .lst []) (same_refl (H := H8)) hq5
    have hq5' : upd H8 q5 (.lst []) q5 = some (.lst []) := upd_same
    have s10 := s9.trans u9
    have hq49 := u9 _ _ hq4'
    generalize upd H8 q5 (.lst []) = H9 at *
    refine ⟨_, hq49, _, rfl, by show 1 + 0 ≤ 16777216; decide, fun q6 hq6 => ?_⟩
    have u10 := same_upd (o := .lst ([] ++ [v] ++ [])) (same_refl (H := H9)) hq6
    have hq6' : upd H9 q6 (.lst ([] ++ [v] ++ [])) q6 = some (.lst ([] ++ [v] ++ [])) := upd_same
    have s11 := s10.trans u10
    generalize upd H9 q6 (.lst ([] ++ [v] ++ [])) = H10 at *
    have hpq : q6 ≠ p := ne_of hq6' (s11 _ _ h1) fun z => nomatch z
    refine ⟨_, dx, _, s11 _ _ h1, T.cl_Stretches, T.na_Stretches_runs, by show 1 < 1000; decide, ?_⟩
    refine q q6 _ ⟨dx, _, upd_same, by rw [upd_ne hpq]; exact hq6', .cons ?_ .nil⟩ fun c o hc hne => by rw [upd_ne hne]; exact s11 _ _ hc
    obtain ⟨c, cv, e, hc, hcv⟩ := hP.same s11
    refine ⟨c, cv, e, by rw [upd_ne (ne_of hc (s11 _ _ h1) fun z => nomatch z)]; exact hc, ?_⟩
    cases ht : r.t with
    | none => rw [ht] at hcv; exact hcv
    | some tt =>
      obtain ⟨b2, k2⟩ := tt
      rw [ht] at hcv
      obtain ⟨c2, e2, h2⟩ := hcv
      exact ⟨c2, e2, by rw [upd_ne (ne_of h2 (s11 _ _ h1) fun z => nomatch z)]; exact h2⟩
def sp_st_put1 (C : Addr) : Sp := fun vs H Q _ => ∃ (p a : Addr) (x n r : Int), vs = [.ref p, .int x, .int n, .int r, .non] ∧ StAt C H p a [] ∧ 0 ≤ r ∧ r ≤ 3 ∧ ∀ a' H', StAt C H' p a' [⟨x, n, r, none⟩] → Bu p H H' → Q .non H'
theorem h_st_put1 (T : Txt K mg A) : HaveM P w K mg base A.C_Stretches "put" 6 ["self", "first", "many", "rights", "tie"] [] (sp_st_put1 A.C_Stretches) := by
  have H_check_rights := h_cr (P := P) (w := w) (base := base) T
  have H_Stretches_is_free := h_free (P := P) (w := w) (base := base) T
  have H_Stretches_lay_amid := h_lay1 (P := P) (w := w) (base := base) T
  refine T.r_Stretches_put.have sc_Stretches_put (fun vs H Q E z => ?_) ?_
  · obtain ⟨p, a, x, n, r, rfl, _⟩ := z; rfl
  · intro f cdv A' outer s H vs Q E hr z
    obtain ⟨p, a, x, n, r, rfl, hS, hr0, hr3, q⟩ := z
    obtain ⟨dx, vs, h1, h2, h3⟩ := id hS
    refine ⟨_, (pss_cons (ps_expr (pe_callE H_check_rights (hr.mono (by decide)) xw_def (pa_cons (pvM 3) pa_nil)))
      (pss_cons (ps_if (pt_not (pt_val (pe_methE (pvM 0) T.cl_Stretches H_Stretches_is_free (hr.mono (by decide)) xw_def (pa_cons (pvM 1) (pa_cons (pvM 2) pa_nil))))) (pss_one (ps_raise xr_def rfl T.x_Taken (pa_cons pe_str pa_nil))) pss_nil)
      (pss_one (ps_expr (pe_methE (pvM 0) T.cl_Stretches H_Stretches_lay_amid (hr.mono (by decide)) xw_def (pa_cons (pvM 1) (pa_cons (pvM 2) (pa_cons (pe_lst (pa_cons (pe_tup (pa_cons (pvM 1) (pa_cons (pvM 2) (pa_cons (pvM 3) (pa_cons (pvM 4) pa_nil))))) pa_nil)) pa_nil)))))))), ?_⟩
    walk_at "wp"
    refine ⟨_, rfl, kn_int.mpr trivial, ?_⟩
    rw [if_pos (by rw [within_int, decide_eq_true hr0, decide_eq_true hr3]; rfl)]
    walk_at "wp"
    refine ⟨dx, _, h1, stF_no (by decide +kernel), p, a, [], x, n, rfl, hS, ord_nil, by show 0 ≤ 1000000; decide, fun H1 s1 => ?_⟩
    walk_at "wp"
    refine ⟨dx, _, s1 _ _ h1, stF_no (by decide +kernel), fun tp htp lp hlp => ?_⟩
    have s2 := same_upd (o := .tup [V.int x, V.int n, V.int r, V.non]) s1 htp
    have s3 := same_upd (o := .lst [V.ref tp]) s2 hlp
    have s23 := same_upd (o := .lst [V.ref tp]) same_refl hlp
    exact ⟨p, a, lp, ⟨x, n, r, none⟩, x, n, .ref tp, rfl, hS.same s3, upd_same, ⟨tp, .non, rfl, s23 _ _ upd_same, rfl⟩, fun a' H' hS' hB => q a' H' hS' fun c o hc hne => hB c o (s3 c o hc) hne⟩
def sp_hlay1 (A : Adr) : Sp := fun vs H Q _ => ∃ (z : Hz) (l f g : Int) (tks : List Tk) (bk : Kvs) (n x m r : Int) (t : Tk), vs = [.ref z.p, .int n, .int x, .int m, .int r, .non, .int 0] ∧ HsG A H z l f g tks bk ∧ t ∈ tks ∧ t.n = n ∧ t.rs = [] ∧ fitsB x m (pw (l * f)) = true ∧ (0 ≤ r ∧ r ≤ 3) ∧ 0 < m ∧
  ∀ H', HsG A H' z l f g (setT n [⟨x, m, r, none⟩] tks) bk → Bu t.p H H' → Q .non H'
theorem b_hlay1 (T : Txt K mg A) : Body P w K mg base "House.lay" s_House_lay ["self", "task", "first", "many", "rights", "bank", "start", "tie"] 8 (sp_hlay1 A) := by
  have H_House_check_stretch := h_cs (P := P) (w := w) (base := base) T
  have H_check_rights := h_cr (P := P) (w := w) (base := base) T
  have H_House_check_part_of_bank := n_cpb (P := P) (w := w) (base := base) T
  have H_Stretches_put := h_st_put1 (P := P) (w := w) (base := base) T
  intro f cdv A' outer s H vs Q E hr z
  obtain ⟨z, l, f', g, tks, bk, n, x, m, r, t, rfl, hS, ht, hn, h0, hf, hb, hm, q⟩ := z
  obtain ⟨dx, h1⟩ := hS.me
  have hk : Sum.inl n ∈ ksK (tkD tks) := by rw [← hn]; exact tk_key ht
  refine ⟨_, (pss_cons (ps_expr (pe_methE (pvM 0) T.cl_House H_House_check_stretch (hr.mono (by decide)) xw_def (pa_cons (pvM 1) (pa_cons (pvM 2) (pa_cons (pvM 3) pa_nil)))))
      (pss_cons (ps_expr (pe_callE H_check_rights (hr.mono (by decide)) xw_def (pa_cons (pvM 4) pa_nil)))
      (pss_cons (ps_set (i := 7) sc_House_lay.nd rfl (Or.inl rfl) pe_non)
      (pss_cut (ps_if (pt_cmpR op_notN (pvM 5) pe_non (nomark _)) (pss_cons (ps_expr (pe_methE (pvM 0) T.cl_House H_House_check_part_of_bank (hr.mono (by decide)) xw_def (pa_cons (pvM 5) (pa_cons (pvM 6) (pa_cons (pvM 3) pa_nil)))))
      (pss_one (ps_set (i := 7) sc_House_lay.nd rfl (Or.inl rfl) (pe_tup (pa_cons (pvM 5) (pa_cons (pvM 6) pa_nil)))))) pss_nil)
      (pss_one (ps_expr (pe_methE (pe_dget (hu_of hr) (pe_fld (pvM 0) rfl) (pvM 1) (fun _ _ => rfl)) T.cl_Stretches H_Stretches_put (hr.mono (by decide)) xw_def (pa_cons (pvM 2) (pa_cons (pvM 3) (pa_cons (pvM 4) (pa_cons (pvM 7) pa_nil))))))))))), ?_⟩
  unfold tDGet
  walk_at "wp"
  refine ⟨dx, _, h1, hsF_no (by decide +kernel), z, l, f', g, tks, bk, n, x, m, rfl, hS, .inr (.inr ⟨hk, hf, ?_⟩)⟩
  walk_at "wp"
  refine ⟨_, rfl, kn_int.mpr trivial, ?_⟩
  rw [if_pos (by rw [within_int, decide_eq_true hb.1, decide_eq_true hb.2]; rfl)]
  walk_at "wp"
  refine ⟨fun σ H' => σ = [some (.ref z.p), some (.int n), some (.int x), some (.int m), some (.int r), some .non, some (.int 0), some .non] ∧ H' = H, ?_, fun σ' H' => ?_⟩
  · walk_at "wp"
    exact iteF trivial
  rintro ⟨rfl, rfl⟩
  walk_at "wp"
  obtain ⟨t', ht', hn', hv⟩ := tk_get hk hS.nk
  obtain rfl : t' = t := nodup_inj hS.nk ht' ht (hn'.trans hn.symm)
  obtain ⟨a, hA, ho, hl⟩ := hS.st t' ht
  obtain ⟨dx2, vs2, e1, e2, e3⟩ := id hA
  rw [h0] at hA
  refine ⟨_, dx, _, h1, T.cl_House, T.na_House_tasks, _, hsF_tasks, z.td, rfl, _, .inl ⟨_, Sum.inl n, .inl hS.t, rfl, hv.symm⟩, t'.p, rfl, dx2, _, e1, stF_no (by decide +kernel), t'.p, a, x, m, r, rfl, hA, hb.1, hb.2, fun a' H2 hS2 hB => ?_⟩
  exact q H2 (by rw [← hn]; exact hS.set ht hS2 ⟨List.pairwise_cons.mpr ⟨fun _ h => by simp at h, .nil⟩, fun r hr => by obtain rfl := List.mem_singleton.mp hr; exact hm⟩ (by show 1 ≤ 10000; decide) hB) hB
theorem l_hlay1 {A : Adr} : ∀ vs H Q E, sp_hlay1 A vs H Q E → vs.length = 7 := fun vs H Q E z => by
  obtain ⟨z, l, f, g, tks, bk, n, x, m, r, t, rfl, _⟩ := z; rfl
theorem h_hlay1 (T : Txt K mg A) : HaveM P w K mg base A.C_House "lay" 9 ["self", "task", "first", "many", "rights", "bank", "start"] [] (sp_hlay1 A) := T.r_House_lay.have sc_House_lay l_hlay1 (b_hlay1 T)
def sp_rlay (A : Adr) : Sp := fun vs H Q _ => ∃ (r : Ro) (z : Hz) (l f g : Int) (tks : List Tk) (pv : List Pv) (n x m rt : Int) (t : Tk), vs = [.ref r.p, .int n, .int x, .int m, .int rt, .non, .int 0] ∧ RB A H r z l f g tks pv ∧ t ∈ tks ∧ t.n = n ∧ t.rs = [] ∧ fitsB x m (pw (l * f)) = true ∧ (0 ≤ rt ∧ rt ≤ 3) ∧ 0 < m ∧
  ∀ H', RB A H' r z l f g (setT n [⟨x, m, rt, none⟩] tks) pv → Bu t.p H H' → Q .non H'
theorem b_rlay (T : Txt K mg A) : Body P w K mg base "Rooms.lay" s_Rooms_lay ["self", "task", "first", "many", "rights", "bank", "start"] 9 (sp_rlay A) := by
  have H_House_lay := h_hlay1 (P := P) (w := w) (base := base) T
  intro f cdv A' outer s H vs Q E hr z
  obtain ⟨r, z, l, f', g, tks, pv, n, x, m, rt, t, rfl, hR, ht, hn, h0, hf, hrt, hm, q⟩ := z
  obtain ⟨dx, h1⟩ := hR.s.me
  obtain ⟨dxh, h2⟩ := hR.h.me
  refine ⟨_, (pss_one (ps_expr (pe_methE (pe_fld (pvM 0) rfl) T.cl_House H_House_lay (hr.mono (by decide)) xw_def (@pa_cons _ _ _ _ _ (pvM 1) (@pa_cons _ _ _ _ _ (pvM 2) (@pa_cons _ _ _ _ _ (pvM 3) (@pa_cons _ _ _ _ _ (pvM 4) (@pa_cons _ _ _ _ _ (pvM 5) (@pa_cons _ _ _ _ _ (pvM 6) pa_nil rfl) rfl) rfl) rfl) rfl) rfl)))), ?_⟩
  walk_at "wp"
  refine ⟨_, dx, _, h1, T.cl_Rooms, T.na_Rooms_house, _, roF_house, r.ho, rfl, dxh, _, by rw [hR.ho]; exact h2, hsF_no (by decide +kernel), z, l, f', g, tks, [], n, x, m, rt, t, by rw [hR.ho], hR.h, ht, hn, h0, hf, hrt, hm, fun H1 hS2 hB => ?_⟩
  obtain ⟨a, hA, _⟩ := hR.h.st t ht
  obtain ⟨dx2, vs2, p1, p2, p3⟩ := id hA
  have ntp : ∀ {c : Addr} {kvs : Kvs}, H c = some (.dK kvs) → H1 c = some (.dK kvs) := fun h => hB _ _ h (ne_of h p1 (fun z => nomatch z))
  have nrp : r.p ≠ t.p := fun e => by
    rw [e, p1] at h1
    have w := roF_made (sh := r.sh) (most := r.most) (ho := r.ho) (sd := r.sd) (hd := r.hd) (made := 0) (pd := r.pd) (bd := r.bd)
    rw [← (HO.ins.inj (Option.some.inj h1)).2.2, stF_no (by decide +kernel)] at w
    cases w
  exact q H1 ⟨⟨⟨dx, hB _ _ h1 nrp⟩, ntp hR.s.s, ntp hR.s.h, fun s hs => by simp at hs, .nil, .nil, fun s hs => by simp at hs, hR.s.ne⟩, hS2, hR.gd, hR.ho, hR.sh, ntp hR.pd, fun e he => ⟨(hR.pe e he).1, ntp (hR.pe e he).2⟩, by rw [setT_n]; exact hR.nm, hR.nd⟩ hB
theorem l_rlay {A : Adr} : ∀ vs H Q E, sp_rlay A vs H Q E → vs.length = 7 := fun vs H Q E z => by
  obtain ⟨r, z, l, f, g, tks, pv, n, x, m, rt, t, rfl, _⟩ := z; rfl
theorem h2_rlay (T : Txt K mg A) : HaveM P w K mg base A.C_Rooms "lay" 10 ["self", "task", "first", "many", "rights", "bank", "start"] [.non, .int 0] (sp_rlay A) := T.r2_Rooms_lay.have sc_Rooms_lay l_rlay (b_rlay T)

theorem n_lpg (T : Txt K mg A) : HaveM P w K mg base A.C_Rooms "let_page_go" 1 ["self", "pages", "page"] [] sp_no := T.r_Rooms_let_page_go.have sc_Rooms_let_page_go (fun _ _ _ _ z => False.elim z) (fun _ _ _ _ _ _ _ _ _ _ z => False.elim z)
theorem n_nsh (T : Txt K mg A) : HaveM P w K mg base A.C_Rooms "new_sheet" 1 ["self", "boxes"] [] sp_no := T.r_Rooms_new_sheet.have sc_Rooms_new_sheet (fun _ _ _ _ z => False.elim z) (fun _ _ _ _ _ _ _ _ _ _ z => False.elim z)

def cset (con : Int → Int → Option (List Int)) (n x : Int) (v : List Int) : Int → Int → Option (List Int) := fun n' x' => if n' = n ∧ x' = x then some v else con n' x'
theorem cset_old {con : Int → Int → Option (List Int)} {n x : Int} {v : List Int} (h : con n x = some v) : cset con n x v = con := by
  funext n' x'
  unfold cset
  by_cases c : n' = n ∧ x' = x
  · rw [if_pos c, c.1, c.2, h]
  · rw [if_neg c]
def row (g : Int) (o : Option (List Int)) : List Int := o.getD (List.replicate (pw g).toNat 0)
def Fr (B : Hp) (r : Ro) (ds : List Addr) (H H' : Hp) : Prop := (∀ c o, H c = some o → B c ≠ none → c ≠ r.p → c ≠ r.sd → c ≠ r.hd → c ∉ ds → H' c = some o) ∧ ∀ c, H' c = none → H c = none
def Fs (r : Ro) (ds : List Addr) (H H' : Hp) : Prop := (∀ c o, H c = some o → c ≠ r.p → c ≠ r.sd → c ≠ r.hd → c ∉ ds → H' c = some o) ∧ ∀ c, H' c = none → H c = none
theorem Fs.fr {B : Hp} {r : Ro} {ds : List Addr} {H H' : Hp} (h : Fs r ds H H') : Fr B r ds H H' := ⟨fun c o e _ n1 n2 n3 n4 => h.1 c o e n1 n2 n3 n4, h.2⟩
theorem fs_same {r : Ro} {ds : List Addr} {H H' : Hp} (s : Same H H') : Fs r ds H H' := ⟨fun c o h _ _ _ _ => s _ _ h, fun c h => same_none s h⟩
theorem Fs.trans {r : Ro} {ds : List Addr} {H H1 H2 : Hp} (a : Fs r ds H H1) (b : Fs r ds H1 H2) : Fs r ds H H2 := ⟨fun c o h n1 n2 n3 n4 => b.1 c o (a.1 c o h n1 n2 n3 n4) n1 n2 n3 n4, fun c h => a.2 c (b.2 c h)⟩
theorem Fr.trans {B : Hp} {r : Ro} {ds : List Addr} {H H1 H2 : Hp} (a : Fr B r ds H H1) (b : Fr B r ds H1 H2) : Fr B r ds H H2 := ⟨fun c o h n n1 n2 n3 n4 => b.1 c o (a.1 c o h n n1 n2 n3 n4) n n1 n2 n3 n4, fun c h => a.2 c (b.2 c h)⟩
theorem mD_get (m : List (Int × Int)) (x : Int) : (∃ k, (x, k) ∈ m ∧ valV (mD m) (Sum.inl x) = some (.int k)) ∨ ((∀ y ∈ m, y.1 ≠ x) ∧ valV (mD m) (Sum.inl x) = none) := by
  induction m with
  | nil => exact .inr ⟨fun y h => by simp at h, rfl⟩
  | cons u r ih =>
    by_cases c : u.1 = x
    · refine .inl ⟨u.2, by rw [← c]; exact List.mem_cons_self .., ?_⟩
      show valV ((Sum.inl u.1, V.int u.2) :: mD r) (Sum.inl x) = _
      exact valV_pos (by rw [c])
    · have e : valV (mD (u :: r)) (Sum.inl x) = valV (mD r) (Sum.inl x) := by
        show valV ((Sum.inl u.1, V.int u.2) :: mD r) (Sum.inl x) = _
        exact valV_neg (fun z => c (Sum.inl.inj z))
      rw [e]
      rcases ih with ⟨k, h1, h2⟩ | ⟨h1, h2⟩
      · exact .inl ⟨k, List.mem_cons_of_mem _ h1, h2⟩
      · exact .inr ⟨fun y hy => (List.mem_cons.mp hy).elim (fun z => by rw [z]; exact c) (h1 y), h2⟩
theorem pv_val {pv : List Pv} {e : Pv} (nn : (pv.map Pv.n).Nodup) (he : e ∈ pv) : valV (pvD pv) (Sum.inl e.n) = some (.ref e.d) := by
  induction pv with
  | nil => simp at he
  | cons u r ih =>
    rw [List.map_cons, List.nodup_cons] at nn
    show valV ((Sum.inl u.n, V.ref u.d) :: pvD r) (Sum.inl e.n) = _
    rcases List.mem_cons.mp he with rfl | h
    · exact valV_pos rfl
    · rw [valV_neg (fun z => nn.1 (by rw [show u.n = e.n from Sum.inl.inj z]; exact List.mem_map.mpr ⟨e, h, rfl⟩))]
      exact ih nn.2 h
def setP (n : Int) (m : List (Int × Int)) (pv : List Pv) : List Pv := pv.map fun e => if e.n = n then { e with m := m } else e
theorem setP_d {n : Int} {m : List (Int × Int)} {pv : List Pv} : (setP n m pv).map Pv.d = pv.map Pv.d := by
  unfold setP
  rw [List.map_map]
  refine List.map_congr_left fun e _ => ?_
  show (if e.n = n then { e with m := m } else e).d = e.d
  split <;> rfl
theorem setP_n {n : Int} {m : List (Int × Int)} {pv : List Pv} : (setP n m pv).map Pv.n = pv.map Pv.n := by
  unfold setP
  rw [List.map_map]
  refine List.map_congr_left fun e _ => ?_
  show (if e.n = n then { e with m := m } else e).n = e.n
  split <;> rfl
theorem setP_D {n : Int} {m : List (Int × Int)} {pv : List Pv} : pvD (setP n m pv) = pvD pv := by
  unfold setP pvD
  rw [List.map_map]
  refine List.map_congr_left fun e _ => ?_
  show ((Sum.inl (if e.n = n then { e with m := m } else e).n : Key), V.ref (if e.n = n then { e with m := m } else e).d) = _
  split <;> rfl
theorem RAx.more {A : Adr} {B H H' : Hp} {r : Ro} {z : Hz} {l f g : Int} {tks : List Tk} {made : Int} {S : List Sh} {pv : List Pv} {own : Int → Int × Int} {con : Int → Int → Option (List Int)} {e : Pv} {x : Int} {a : Addr}
    (h : RAx A B H r z l f g tks made S pv own con) (he : e ∈ pv) (hx : ∀ y ∈ e.m, y.1 ≠ x) (hS : ShAt A H' r (made + 1) (S ++ [⟨made, a, List.replicate (pw g).toNat 0, 1⟩])) (ha : H a = none) (hd : H' e.d = some (.dK (mD e.m ++ [(Sum.inl x, .int made)])))
    (k : ∀ c o, H c = some o → c ≠ e.d → c ≠ r.p → c ≠ r.sd → c ≠ r.hd → H' c = some o) :
    RAx A B H' r z l f g tks (made + 1) (S ++ [⟨made, a, List.replicate (pw g).toNat 0, 1⟩]) (setP e.n (e.m ++ [(x, made)]) pv) (fun k => if k = made then (e.n, x) else own k) (cset con e.n x (List.replicate (pw g).toNat 0)) ∧ Fs r (pv.map Pv.d) H H' := by
  have D := dn_of h.nd
  have De := D.e e he
  have nn : (pv.map Pv.n).Nodup := by rw [h.nm]; exact h.hB.nk
  obtain ⟨dx, h1⟩ := h.s.me
  obtain ⟨dx', h1'⟩ := hS.me
  have ins : ∀ c, H' c = none → H c = none := fun c hc => by
    cases e0 : H c with
    | none => rfl
    | some o =>
      have n1 : c ≠ e.d := fun z => by rw [z, hd] at hc; cases hc
      have n2 : c ≠ r.p := fun z => by rw [z, h1'] at hc; cases hc
      have n3 : c ≠ r.sd := fun z => by rw [z, hS.s] at hc; cases hc
      have n4 : c ≠ r.hd := fun z => by rw [z, hS.h] at hc; cases hc
      rw [k c o e0 n1 n2 n3 n4] at hc
      cases hc
  have kp : Kp (fun c => c = e.d ∨ c = r.p ∨ c = r.sd ∨ c = r.hd) H H' := ⟨fun c o h n => k c o h (fun z => n (.inl z)) (fun z => n (.inr (.inl z))) (fun z => n (.inr (.inr (.inl z)))) (fun z => n (.inr (.inr (.inr z)))), ins⟩
  have lo : ∀ c o, (c = e.d ∨ c = r.p ∨ c = r.sd ∨ c = r.hd) → H c = some o → Loose z c o := fun c o hc ho => by
    rcases hc with rfl | rfl | rfl | rfl
    · rw [h.pe e he] at ho; exact .inl ⟨_, (Option.some.inj ho).symm, De.2.2.2.1, De.2.2.2.2⟩
    · rw [h1] at ho; exact .inr ⟨_, _, _, (Option.some.inj ho).symm, by rw [roF_made]; exact fun z => nomatch z⟩
    · rw [h.s.s] at ho; exact .inl ⟨_, (Option.some.inj ho).symm, D.st, D.sb⟩
    · rw [h.s.h] at ho; exact .inl ⟨_, (Option.some.inj ho).symm, D.ht, D.hb⟩
  have hpd := k _ _ h.pd De.2.2.1.symm (ne_of h.pd h1 (fun z => nomatch z)) D.sp.symm D.hp.symm
  refine ⟨⟨h.hB, h.k.kp kp lo, h.gd, h.ho, h.sh, hS, by rw [setP_D]; exact hpd, fun e' he' => ?_, by rw [setP_n]; exact h.nm, by unfold dks; rw [setP_d]; exact h.nd, fun s hs => ?_, fun c hc => h.dm c (ins c hc), fun e' he' y hy => ?_, fun e' he' x' hx' => ?_, fun s hs => ?_, fun e' he' => ?_, fun e' he' y hy y' hy' hyy => ?_⟩, fun c o h0 n1 n2 n3 n4 => k c o h0 (fun z => n4 (by rw [z]; exact List.mem_map.mpr ⟨e, he, rfl⟩)) n1 n2 n3, ins⟩
  · obtain ⟨u, hu, rfl⟩ := List.mem_map.mp he'
    by_cases c : u.n = e.n
    · obtain rfl := ndi nn hu he c
      rw [if_pos rfl]
      show H' u.d = some (.dK (mD (u.m ++ [(x, made)])))
      rw [hd]
      unfold mD
      rw [List.map_append]
      rfl
    · rw [if_neg c]
      have hn : u.d ≠ e.d := fun z => c (by rw [ndi D.nd hu he z])
      exact k _ _ (h.pe u hu) hn (ne_of (h.pe u hu) h1 (fun z => nomatch z)) (D.e u hu).1 (D.e u hu).2.1
  · rcases List.mem_append.mp hs with h2 | h2
    · exact h.sb s h2
    · obtain rfl := List.mem_singleton.mp h2
      exact h.dm a ha
  · obtain ⟨u, hu, rfl⟩ := List.mem_map.mp he'
    by_cases c : u.n = e.n
    · obtain rfl := ndi nn hu he c
      rw [if_pos rfl] at hy ⊢
      rcases List.mem_append.mp hy with h2 | h2
      · obtain ⟨s, hs, e1, e2, e3, e4⟩ := h.x u hu y h2
        have := h.s.b s hs
        exact ⟨s, List.mem_append_left _ hs, e1, e2, by unfold cset; rw [if_neg (fun z => hx y h2 z.2)]; exact e3, by rw [if_neg (by omega)]; exact e4⟩
      · obtain rfl := List.mem_singleton.mp h2
        exact ⟨_, List.mem_append_right _ (List.mem_cons_self ..), rfl, rfl, by unfold cset; rw [if_pos ⟨rfl, rfl⟩], by rw [if_pos rfl]⟩
    · rw [if_neg c] at hy ⊢
      obtain ⟨s, hs, e1, e2, e3, e4⟩ := h.x u hu y hy
      have := h.s.b s hs
      exact ⟨s, List.mem_append_left _ hs, e1, e2, by unfold cset; rw [if_neg (fun z => c z.1)]; exact e3, by rw [if_neg (by omega)]; exact e4⟩
  · obtain ⟨u, hu, rfl⟩ := List.mem_map.mp he'
    by_cases c : u.n = e.n
    · obtain rfl := ndi nn hu he c
      rw [if_pos rfl] at hx' ⊢
      have n1 : x' ≠ x := fun z => hx' (x, made) (List.mem_append_right _ (List.mem_cons_self ..)) z.symm
      show cset con u.n x _ u.n x' = none
      unfold cset
      rw [if_neg (fun z => n1 z.2)]
      exact h.c u hu x' fun y hy => hx' y (List.mem_append_left _ hy)
    · rw [if_neg c] at hx' ⊢
      unfold cset
      rw [if_neg (fun z => c z.1)]
      exact h.c u hu x' hx'
  · rcases List.mem_append.mp hs with h2 | h2
    · exact h.sz s h2
    · obtain rfl := List.mem_singleton.mp h2
      exact List.length_replicate
  · obtain ⟨u, hu, rfl⟩ := List.mem_map.mp he'
    have := h.ml u hu
    rw [List.length_append]
    by_cases c : u.n = e.n
    · obtain rfl := ndi nn hu he c
      rw [if_pos rfl]
      show (u.m ++ [(x, made)]).length ≤ _
      rw [List.length_append]
      exact Nat.add_le_add_right this _
    · rw [if_neg c]
      exact Nat.le_add_right_of_le this
  · obtain ⟨u, hu, rfl⟩ := List.mem_map.mp he'
    by_cases c : u.n = e.n
    · obtain rfl := ndi nn hu he c
      rw [if_pos rfl] at hy hy'
      rcases List.mem_append.mp hy with h2 | h2
      · rcases List.mem_append.mp hy' with h3 | h3
        · exact h.ux u hu y h2 y' h3 hyy
        · obtain rfl := List.mem_singleton.mp h3
          exact absurd hyy (hx y h2)
      · obtain rfl := List.mem_singleton.mp h2
        rcases List.mem_append.mp hy' with h3 | h3
        · exact absurd hyy.symm (hx y' h3)
        · obtain rfl := List.mem_singleton.mp h3
          rfl
    · rw [if_neg c] at hy hy'
      exact h.ux u hu y hy y' hy' hyy
theorem RAx.same {A : Adr} {B H H' : Hp} {r : Ro} {z : Hz} {l f g : Int} {tks : List Tk} {made : Int} {S : List Sh} {pv : List Pv} {own : Int → Int × Int} {con : Int → Int → Option (List Int)} (h : RAx A B H r z l f g tks made S pv own con) (s : Same H H') : RAx A B H' r z l f g tks made S pv own con :=
  ⟨h.hB, h.k.same s, h.gd, h.ho, h.sh, h.s.same s, s _ _ h.pd, fun e he => s _ _ (h.pe e he), h.nm, h.nd, h.sb, fun c hc => h.dm c (same_none s hc), h.x, h.c, h.sz, h.ml, h.ux⟩
def spStr (A : Adr) (vs : List V) (H : Hp) (Q : VK) : Prop := ∃ (B : Hp) (r : Ro) (z : Hz) (l f g : Int) (tks : List Tk) (made : Int) (S : List Sh) (pv : List Pv) (own : Int → Int × Int) (con : Int → Int → Option (List Int)) (n x : Int) (t : Tk), vs = [.ref r.p, .int n, .int x] ∧ RAx A B H r z l f g tks made S pv own con ∧ t ∈ tks ∧ t.n = n ∧ (pm t.rs x).bind (·.2) = none ∧ S.length ≤ 10000 ∧ (con n x = none → (S.length : Int) < r.most) ∧
  ∀ (s : Sh) (made' : Int) (S' : List Sh) (pv' : List Pv) (own' : Int → Int × Int) (H' : Hp), RAx A B H' r z l f g tks made' S' pv' own' (cset con n x (row g (con n x))) → s ∈ S' → (∃ e ∈ pv', e.n = n ∧ (x, s.n) ∈ e.m) → s.xs = row g (con n x) → S'.length = S.length + (if con n x = none then 1 else 0) → pv'.map Pv.d = pv.map Pv.d → Fs r (pv.map Pv.d) H H' → Q (.int s.n) H'
def sp_str (A : Adr) : Sp := fun vs H Q _ => spStr A vs H Q
theorem RAx.pv {A : Adr} {B H : Hp} {r : Ro} {z : Hz} {l f g : Int} {tks : List Tk} {made : Int} {S : List Sh} {pv : List Pv} {own : Int → Int × Int} {con : Int → Int → Option (List Int)} {t : Tk} (h : RAx A B H r z l f g tks made S pv own con) (ht : t ∈ tks) : ∃ e ∈ pv, e.n = t.n := by
  have : t.n ∈ pv.map Pv.n := by rw [h.nm]; exact List.mem_map.mpr ⟨t, ht, rfl⟩
  obtain ⟨e, he, h⟩ := List.mem_map.mp this
  exact ⟨e, he, h⟩
theorem h_str (T : Txt K mg A) : HaveM P w K mg base A.C_Rooms "sheet_to_read" 8 ["self", "task", "page"] [] (sp_str A) := by
  have H_House_tie_at := h_hta (P := P) (w := w) (base := base) T
  have H_Rooms_sheet_there := h_sth (P := P) (w := w) (base := base) T
  refine T.r_Rooms_sheet_to_read.have sc_Rooms_sheet_to_read (fun vs H Q E z => ?_) ?_
  · obtain ⟨B, r, z, l, f, g, tks, made, S, pv, own, con, n, x, t, rfl, _⟩ := z; rfl
  · intro f cdv A' outer s H vs Q E hr z
    obtain ⟨B, r, z, l, f', g, tks, made, S, pv, own, con, n, x, t, rfl, hR, ht, hn, htie, hl, hm, q⟩ := z
    obtain ⟨dx, h1⟩ := hR.s.me
    obtain ⟨dxh, h2⟩ := (hR.hB.hk hR.k).me
    refine ⟨_, (pss_cons (ps_set (i := 3) sc_Rooms_sheet_to_read.nd rfl (Or.inl rfl) (pe_methE (pe_fld (pvM 0) rfl) T.cl_House H_House_tie_at (hr.mono (by decide)) xw_def (pa_cons (pvM 1) (pa_cons (pvM 2) pa_nil))))
      (pss_cons (ps_if (pt_cmpR op_isN (pvM 3) pe_non (nomark _)) (pss_one (ps_ret (pe_methE (pvM 0) T.cl_Rooms H_Rooms_sheet_there (hr.mono (by decide)) xw_def (pa_cons (pe_dget (hu_of hr) (pe_fld (pvM 0) rfl) (pvM 1) (fun _ _ => rfl)) (pa_cons (pvM 2) pa_nil))))) pss_nil)
      (pss_one (ps_ret (pe_methE (pvM 0) T.cl_Rooms H_Rooms_sheet_there (hr.mono (by decide)) xw_def (pa_cons (pe_dget (hu_of hr) (pe_fld (pvM 0) rfl) (pe_ix ix_tup (pvM 3) pe_int (fun _ _ => rfl)) (fun _ _ => rfl)) (pa_cons (pe_ix ix_tup (pvM 3) pe_int (fun _ _ => rfl)) pa_nil))))))), ?_⟩
    unfold sp_hta sp_sth tDGet
    walk_at "wp"
    simp only [h1]
    walk_at "wp"
    refine ⟨T.cl_Rooms, T.na_Rooms_house, _, roF_house, r.ho, rfl, dxh, _, by rw [hR.ho]; exact h2, hsF_no (by decide +kernel), z, by rw [hR.ho], l, f', g, tks, [], hR.hB.hk hR.k, .inr ⟨t, ht, hn, fun v H1 s1 hv => ?_⟩⟩
    rw [htie] at hv
    obtain rfl : v = .non := hv
    rw [if_pos rfl]
    have hR1 := hR.same s1
    obtain ⟨e, he, hen⟩ := hR.pv ht
    have nn : (pv.map Pv.n).Nodup := by rw [hR.nm]; exact hR.hB.nk
    have hpv := pv_val nn he
    rw [hn] at hen
    rw [hen] at hpv
    have D := dn_of hR.nd
    have hshp := (hR1.hB.hk hR1.k).sh
    rw [← hR.sh] at hshp
    have nsh : r.sh ≠ r.p := fun z => by
      obtain ⟨dxs, es⟩ := id hshp
      rw [z, s1 _ _ h1] at es
      have w := roF_made (sh := r.sh) (most := r.most) (ho := r.ho) (sd := r.sd) (hd := r.hd) (made := made) (pd := r.pd) (bd := r.bd)
      rw [(HO.ins.inj (Option.some.inj es)).2.2, shF_no (by decide +kernel)] at w
      cases w
    have hml := hR.ml e he
    refine ⟨dx, _, s1 _ _ h1, roF_no (by decide +kernel), _, dx, _, s1 _ _ h1, T.cl_Rooms, T.na_Rooms_private, _, roF_private, r.pd, rfl, _, .inl ⟨_, Sum.inl n, .inl hR1.pd, rfl, hpv.symm⟩, r, rfl, made, S, l, f', g, e.d, rfl, hR1.s, by omega, hshp, hR.gd, nsh, mD e.m, hR1.pe e he, by unfold mD; rw [List.length_map]; omega, (D.e e he).1, (D.e e he).2.1, ?_⟩
    rcases mD_get e.m x with ⟨k, hk, hv⟩ | ⟨hk, hv⟩
    · obtain ⟨s, hs, e1, e2, e3, e4⟩ := hR.x e he _ hk
      refine .inl ⟨k, hv, ?_⟩
      have e3 : con n x = some s.xs := by rw [← hen]; exact e3
      have e5 : row g (con n x) = s.xs := by rw [e3]; rfl
      have e1 : s.n = k := e1
      rw [← e1]
      refine q s made S pv own H1 ?_ hs ⟨e, he, hen, by rw [e1]; exact hk⟩ e5.symm (by rw [e3, if_neg (fun z => nomatch z)]; rfl) rfl (fs_same s1)
      rw [e5, cset_old e3]
      exact hR1
    · have e3 : con n x = none := by rw [← hen]; exact hR.c e he x hk
      have e5 : row g (con n x) = List.replicate (pw g).toNat 0 := by rw [e3]; rfl
      refine .inr (.inr ⟨hv, hm e3, fun a H2 hS2 ha hd2 k2 => ?_⟩)
      obtain ⟨hR2, fr⟩ := hR1.more he hk hS2 ha hd2 k2
      have e6 : cset con e.n x (List.replicate (pw g).toNat 0) = cset con n x (row g (con n x)) := by rw [e5, hen]
      rw [e6] at hR2
      exact q ⟨made, a, List.replicate (pw g).toNat 0, 1⟩ _ _ _ _ H2 hR2 (List.mem_append_right _ (List.mem_cons_self ..)) ⟨{ e with m := e.m ++ [(x, made)] }, List.mem_map.mpr ⟨e, he, if_pos rfl⟩, hen, List.mem_append_right _ (List.mem_cons_self ..)⟩ e5.symm (by rw [e3, if_pos rfl, List.length_append]; rfl) setP_d ((fs_same s1).trans fr)
theorem h_stw (T : Txt K mg A) : HaveM P w K mg base A.C_Rooms "sheet_to_write" 9 ["self", "task", "page"] [] (sp_str A) := by
  have H_Rooms_sheet_to_read := h_str (P := P) (w := w) (base := base) T
  have H_Rooms_new_sheet := n_nsh (P := P) (w := w) (base := base) T
  have H_Rooms_let_page_go := n_lpg (P := P) (w := w) (base := base) T
  refine T.r_Rooms_sheet_to_write.have sc_Rooms_sheet_to_write (fun vs H Q E z => ?_) ?_
  · obtain ⟨B, r, z, l, f, g, tks, made, S, pv, own, con, n, x, t, rfl, _⟩ := z; rfl
  · intro f cdv A' outer s H vs Q E hr z
    obtain ⟨B, r, z, l, f', g, tks, made, S, pv, own, con, n, x, t, rfl, hR, ht, hn, htie, hl, hm, q⟩ := z
    obtain ⟨dx, h1⟩ := hR.s.me
    obtain ⟨e, he, hen⟩ := hR.pv ht
    have nn : (pv.map Pv.n).Nodup := by rw [hR.nm]; exact hR.hB.nk
    have hpv := pv_val nn he
    rw [hn] at hen
    rw [hen] at hpv
    refine ⟨_, (pss_cons (ps_set (i := 3) sc_Rooms_sheet_to_write.nd rfl (Or.inl rfl) (pe_dget (hu_of hr) (pe_fld (pvM 0) rfl) (pvM 1) (fun _ _ => rfl)))
      (pss_cons (ps_if (PW.pt (pw_and (pt_cmp (pc_din (hu_of hr) (pvM 2) (pvM 3))) (pw_and1 (pt_cmpR op_gt (pe_dget (hu_of hr) (pe_fld (pvM 0) rfl) (pe_dget (hu_of hr) (pvM 3) (pvM 2) (fun _ _ => rfl)) (fun _ _ => rfl)) pe_int (nomark _))))) (pss_cons (ps_set (i := 4) sc_Rooms_sheet_to_write.nd rfl (Or.inl rfl) (pe_methE (pvM 0) T.cl_Rooms H_Rooms_new_sheet (hr.mono (by decide)) xw_def (pa_cons (pe_dget (hu_of hr) (pe_fld (pvM 0) rfl) (pe_dget (hu_of hr) (pvM 3) (pvM 2) (fun _ _ => rfl)) (fun _ _ => rfl)) pa_nil)))
      (pss_cons (ps_expr (pe_methE (pvM 0) T.cl_Rooms H_Rooms_let_page_go (hr.mono (by decide)) xw_def (pa_cons (pvM 3) (pa_cons (pvM 2) pa_nil))))
      (pss_one (ps_dput (hu_of hr) (pvM 3) (pvM 2) (pvM 4) rfl)))) pss_nil)
      (pss_one (ps_ret (pe_methE (pvM 0) T.cl_Rooms H_Rooms_sheet_to_read (hr.mono (by decide)) xw_def (pa_cons (pvM 1) (pa_cons (pvM 2) pa_nil))))))), ?_⟩
    unfold sp_str tDGet tDIn
    walk_at "wp"
    simp only [h1]
    walk_at "wp"
    refine ⟨T.cl_Rooms, T.na_Rooms_private, _, roF_private, r.pd, rfl, _, .inl ⟨_, Sum.inl n, .inl hR.pd, rfl, hpv.symm⟩, e.d, rfl, ?_⟩
    rcases mD_get e.m x with ⟨k, hk, hv⟩ | ⟨hk, hv⟩
    · obtain ⟨s, hs, e1, e2, e3, e4⟩ := hR.x e he _ hk
      have e1 : s.n = k := e1
      refine ⟨_, .inl ⟨mD e.m, Sum.inl x, .inl (hR.pe e he), rfl, hv.symm⟩, iteT ⟨T.cl_Rooms, T.na_Rooms_havers, _, roF_havers, e.d, rfl, _, .inl ⟨mD e.m, Sum.inl x, .inl (hR.pe e he), rfl, hv.symm⟩, r.hd, rfl, _, .inl ⟨_, Sum.inl k, .inl hR.s.h, rfl, by rw [← e1]; exact (hv_val hR.s.nn hs).symm⟩, s.h, rfl, ?_⟩⟩
      rw [e2, if_neg (by omega)]
      exact ⟨roF_no (by decide +kernel), B, r, z, l, f', g, tks, made, S, pv, own, con, n, x, t, rfl, hR, ht, hn, htie, hl, hm, q⟩
    · exact ⟨_, .inl ⟨mD e.m, Sum.inl x, .inl (hR.pe e he), rfl, hv.symm⟩, iteF ⟨roF_no (by decide +kernel), B, r, z, l, f', g, tks, made, S, pv, own, con, n, x, t, rfl, hR, ht, hn, htie, hl, hm, q⟩⟩
def setS (k : Int) (xs : List Int) (S : List Sh) : List Sh := S.map fun s => if s.n = k then { s with xs := xs } else s
theorem setS_a {k : Int} {xs : List Int} {S : List Sh} : (setS k xs S).map Sh.a = S.map Sh.a := by
  unfold setS
  rw [List.map_map]
  refine List.map_congr_left fun e _ => ?_
  show (if e.n = k then { e with xs := xs } else e).a = e.a
  split <;> rfl
theorem setS_n {k : Int} {xs : List Int} {S : List Sh} : (setS k xs S).map Sh.n = S.map Sh.n := by
  unfold setS
  rw [List.map_map]
  refine List.map_congr_left fun e _ => ?_
  show (if e.n = k then { e with xs := xs } else e).n = e.n
  split <;> rfl
theorem setS_D {k : Int} {xs : List Int} {S : List Sh} : shD (setS k xs S) = shD S ∧ hvD (setS k xs S) = hvD S := by
  unfold setS shD hvD
  rw [List.map_map, List.map_map]
  constructor
  · refine List.map_congr_left fun e _ => ?_
    show ((Sum.inl (if e.n = k then { e with xs := xs } else e).n : Key), V.ref (if e.n = k then { e with xs := xs } else e).a) = _
    split <;> rfl
  · refine List.map_congr_left fun e _ => ?_
    show ((Sum.inl (if e.n = k then { e with xs := xs } else e).n : Key), V.int (if e.n = k then { e with xs := xs } else e).h) = _
    split <;> rfl
theorem RAx.put {A : Adr} {B H : Hp} {r : Ro} {z : Hz} {l f g : Int} {tks : List Tk} {made : Int} {S : List Sh} {pv : List Pv} {own : Int → Int × Int} {con : Int → Int → Option (List Int)} {n x : Int} {s : Sh} {xs : List Int}
    (h : RAx A B H r z l f g tks made S pv own con) (hs : s ∈ S) (he : ∃ e ∈ pv, e.n = n ∧ (x, s.n) ∈ e.m) (hl : xs.length = (pw g).toNat) : RAx A B (upd H s.a (.lst (xs.map V.int))) r z l f g tks made (setS s.n xs S) pv own (cset con n x xs) := by
  obtain ⟨e, he, rfl, hx⟩ := he
  have hsa := h.s.x s hs
  have nn : (pv.map Pv.n).Nodup := by rw [h.nm]; exact h.hB.nk
  have k : Kd s.a H (upd H s.a (.lst (xs.map V.int))) := kd_upd
  have kd : ∀ {c : Addr} {kvs : Kvs}, H c = some (.dK kvs) → upd H s.a (.lst (xs.map V.int)) c = some (.dK kvs) := fun h => k _ _ h (ne_of h hsa (fun z => nomatch z))
  obtain ⟨dx, h1⟩ := h.s.me
  obtain ⟨s0, hs0, e01, _, _, e04⟩ := h.x e he _ hx
  obtain rfl := ndi h.s.nn hs0 hs e01
  refine ⟨h.hB, fun c o hc => ?_, h.gd, h.ho, h.sh, ⟨⟨dx, k _ _ h1 (ne_of h1 hsa (fun z => nomatch z))⟩, by rw [setS_D.1]; exact kd h.s.s, by rw [setS_D.2]; exact kd h.s.h, fun u hu => ?_, by rw [setS_a]; exact h.s.nd, by rw [setS_n]; exact h.s.nn, fun u hu => ?_, h.s.ne⟩, kd h.pd, fun e' he' => kd (h.pe e' he'), h.nm, h.nd, fun u hu => ?_, fun c hc => h.dm c (kd_none k upd_same c hc), fun e' he' y hy => ?_, fun e' he' x' hx' => ?_, fun u hu => ?_, fun e' he' => by unfold setS; rw [List.length_map]; exact h.ml e' he', h.ux⟩
  · rcases h.k c o hc with e | e
    · refine .inl (k _ _ e fun z => ?_)
      rw [z, h.sb s0 hs] at hc
      cases hc
    · exact .inr e
  · obtain ⟨v, hv, rfl⟩ := List.mem_map.mp hu
    by_cases c : v.n = s0.n
    · obtain rfl := ndi h.s.nn hv hs c
      rw [if_pos rfl]
      exact upd_same
    · rw [if_neg c]
      exact k _ _ (h.s.x v hv) (fun z => c (by rw [ndi h.s.nd hv hs z]))
  · obtain ⟨v, hv, rfl⟩ := List.mem_map.mp hu
    have := h.s.b v hv
    split <;> exact this
  · obtain ⟨v, hv, rfl⟩ := List.mem_map.mp hu
    have := h.sb v hv
    split <;> exact this
  · obtain ⟨u, hu, e1, e2, e3, e4⟩ := h.x e' he' y hy
    by_cases c : u.n = s0.n
    · obtain rfl := ndi h.s.nn hu hs c
      have e5 : own y.2 = own u.n := by rw [e1]
      rw [e4, e04] at e5
      refine ⟨{ u with xs := xs }, List.mem_map.mpr ⟨u, hu, if_pos rfl⟩, e1, e2, ?_, e4⟩
      unfold cset
      rw [if_pos ⟨congrArg Prod.fst e5, congrArg Prod.snd e5⟩]
    · refine ⟨u, List.mem_map.mpr ⟨u, hu, if_neg c⟩, e1, e2, ?_, e4⟩
      unfold cset
      rw [if_neg, e3]
      rintro ⟨z1, z2⟩
      obtain rfl := ndi nn he' he z1
      exact c (by rw [e1]; exact h.ux e' he' y hy _ hx z2)
  · unfold cset
    rw [if_neg]
    · exact h.c e' he' x' hx'
    · rintro ⟨z1, z2⟩
      obtain rfl := ndi nn he' he z1
      exact hx' _ hx z2.symm
  · obtain ⟨v, hv, rfl⟩ := List.mem_map.mp hu
    have := h.sz v hv
    split
    · exact hl
    · exact this
theorem cset_cset {con : Int → Int → Option (List Int)} {n x : Int} {u v : List Int} : cset (cset con n x u) n x v = cset con n x v := by
  funext n' x'
  unfold cset
  by_cases c : n' = n ∧ x' = x
  · rw [if_pos c, if_pos c]
  · rw [if_neg c, if_neg c, if_neg c]
theorem ixN_in {n : Nat} {i : Int} (h0 : 0 ≤ i) (h1 : i < n) : ixN n i = some i.toNat := by
  unfold ixN
  rw [if_pos h0, if_pos h1]
theorem atI_in {xs : List Int} {i : Int} (h0 : 0 ≤ i) (h1 : i < xs.length) : atI (xs.map V.int) i = some (.int (xs.getD i.toNat 0)) := by
  unfold atI
  rw [List.length_map, ixN_in h0 h1]
  show (xs.map V.int)[i.toNat]? = _
  rw [List.getElem?_map, List.getD_eq_getElem?_getD, List.getElem?_eq_getElem (show i.toNat < xs.length by omega)]
  rfl
def Ask (A : Adr) (w : Int) (B H : Hp) (r : Ro) (z : Hz) (l f g : Int) (tks : List Tk) (ds : List Addr) (con : Int → Int → Option (List Int)) (cnt : Nat) (n a : Int) : Prop :=
  RA A B H r z l f g tks ds con cnt ∧ (∃ t ∈ tks, t.n = n ∧ ∃ rt, pm t.rs (a / pw g) = some (rt, none) ∧ Builtin.bitAnd rt w = w) ∧ (0 ≤ a ∧ a < pw (l * f) * pw g) ∧ cnt < 10000 ∧ (con n (a / pw g) = none → (cnt : Int) < r.most)
def sp_read (A : Adr) : Sp := fun vs H Q _ => ∃ (B : Hp) (r : Ro) (z : Hz) (l f g : Int) (tks : List Tk) (ds : List Addr) (con : Int → Int → Option (List Int)) (cnt : Nat) (n a : Int), vs = [.ref r.p, .int n, .int a] ∧ Ask A 1 B H r z l f g tks ds con cnt n a ∧
  ∀ H', RA A B H' r z l f g tks ds (cset con n (a / pw g) (row g (con n (a / pw g)))) (cnt + if con n (a / pw g) = none then 1 else 0) → Fr B r ds H H' → Q (.int ((row g (con n (a / pw g))).getD (a % pw g).toNat 0)) H'
theorem h_read (T : Txt K mg A) : HaveM P w K mg base A.C_Rooms "read" 9 ["self", "task", "address"] [] (sp_read A) := by
  have H_House_asked := h_hask (P := P) (w := w) (base := base) T
  have H_Rooms_sheet_to_read := h_str (P := P) (w := w) (base := base) T
  refine T.r_Rooms_read.have sc_Rooms_read (fun vs H Q E z => ?_) ?_
  · obtain ⟨B, r, z, l, f, g, tks, ds, con, cnt, n, a, rfl, _⟩ := z; rfl
  · intro f cdv A' outer s H vs Q E hr z
    obtain ⟨B, r, z, l, f', g, tks, ds, con, cnt, n, a, rfl, ⟨⟨made, S, pv, own, hR, hds, hcn, _⟩, ⟨t, ht, hn, rt, hpm, hrt⟩, ha, hc, hm⟩, q⟩ := z
    obtain ⟨dx, h1⟩ := hR.s.me
    obtain ⟨dxh, h2⟩ := (hR.hB.hk hR.k).me
    refine ⟨_, (pss_cons (ps_set (i := 3) sc_Rooms_read.nd rfl (Or.inl rfl) (pe_methE (pe_fld (pvM 0) rfl) T.cl_House H_House_asked (hr.mono (by decide)) xw_def (pa_cons (pvM 1) (pa_cons (pvM 2) (pa_cons (pe_globE rfl T.c_READ) pa_nil)))))
      (pss_one (ps_ret (pe_ix ix_list (pe_dget (hu_of hr) (pe_fld (pvM 0) rfl) (pe_methE (pvM 0) T.cl_Rooms H_Rooms_sheet_to_read (hr.mono (by decide)) xw_def (pa_cons (pvM 1) (pa_cons (pe_ix ix_tup (pvM 3) pe_int (fun _ _ => rfl)) pa_nil))) (fun _ _ => rfl)) (pe_ix ix_tup (pvM 3) pe_int (fun _ _ => rfl)) (fun _ _ => rfl))))), ?_⟩
    unfold sp_hask sp_str tDGet
    walk_at "wp"
    simp only [h1]
    walk_at "wp"
    refine ⟨T.cl_Rooms, T.na_Rooms_house, _, roF_house, r.ho, rfl, dxh, _, by rw [hR.ho]; exact h2, hsF_no (by decide +kernel), z, by rw [hR.ho], l, f', g, tks, [], hR.hB.hk hR.k, hR.gd, .inr ⟨t, ht, hn, .inr ⟨ha.1, ha.2, .inr ⟨rt, none, hpm, .inr ⟨hrt, fun p H1 s1 hp1 => ?_⟩⟩⟩⟩⟩
    have hR1 := hR.same s1
    have ht1 : (pm t.rs (a / pw g)).bind (·.2) = none := by rw [hpm]; rfl
    have hg := gd_pw hR.gd
    have hb0 : 0 ≤ a % pw g := Int.emod_nonneg _ (by omega)
    have hb1 : a % pw g < pw g := Int.emod_lt_of_pos _ (by omega)
    refine ⟨_, dx, _, s1 _ _ h1, T.cl_Rooms, T.na_Rooms_sheets, _, roF_sheets, dx, _, s1 _ _ h1, roF_no (by decide +kernel), _, SqT.of hp1, .int (a / pw g), rfl, B, r, z, l, f', g, tks, made, S, pv, own, con, n, a / pw g, t, rfl, hR1, ht, hn, ht1, by omega, by rw [hcn]; exact hm, fun s made' S' pv' own' H2 hR2 hs he hx hlen hd fs => ?_⟩
    have hp2 : H2 p = some (.tup [.int (a / pw g), .int (a % pw g)]) := fs.1 _ _ hp1 (ne_of hp1 (s1 _ _ h1) (fun z => nomatch z)) (ne_of hp1 hR1.s.s (fun z => nomatch z)) (ne_of hp1 hR1.s.h (fun z => nomatch z)) (fun z => by
      obtain ⟨e, he, h⟩ := List.mem_map.mp z
      have h9 := hR1.pe e he
      rw [h, hp1] at h9
      cases h9)
    have hsz := hR2.sz s hs
    refine ⟨r.sd, rfl, _, .inl ⟨shD S', Sum.inl s.n, .inl hR2.s.s, rfl, (sh_val hR2.s.nn hs).symm⟩, _, SqT.of hp2, .int (a % pw g), rfl, s.a, rfl, _, _, rfl, SqL.of (hR2.s.x s hs), _, atI_in hb0 (by rw [hsz]; omega), ?_⟩
    rw [hx]
    exact q H2 ⟨made', S', pv', own', hR2, by rw [hd, hds], by rw [hlen, hcn], by split <;> omega⟩ (by rw [← hds]; exact ((fs_same s1).trans fs).fr)
def sp_write (A : Adr) : Sp := fun vs H Q _ => ∃ (B : Hp) (r : Ro) (z : Hz) (l f g : Int) (tks : List Tk) (ds : List Addr) (con : Int → Int → Option (List Int)) (cnt : Nat) (n a v : Int), vs = [.ref r.p, .int n, .int a, .int v] ∧ Ask A 2 B H r z l f g tks ds con cnt n a ∧
  ∀ H', RA A B H' r z l f g tks ds (cset con n (a / pw g) ((row g (con n (a / pw g))).set (a % pw g).toNat v)) (cnt + if con n (a / pw g) = none then 1 else 0) → Fr B r ds H H' → Q .non H'
theorem h_write (T : Txt K mg A) : HaveM P w K mg base A.C_Rooms "write" 10 ["self", "task", "address", "value"] [] (sp_write A) := by
  have H_House_asked := h_hask (P := P) (w := w) (base := base) T
  have H_Rooms_sheet_to_write := h_stw (P := P) (w := w) (base := base) T
  refine T.r_Rooms_write.have sc_Rooms_write (fun vs H Q E z => ?_) ?_
  · obtain ⟨B, r, z, l, f, g, tks, ds, con, cnt, n, a, v, rfl, _⟩ := z; rfl
  · intro f cdv A' outer s H vs Q E hr z
    obtain ⟨B, r, z, l, f', g, tks, ds, con, cnt, n, a, v, rfl, ⟨⟨made, S, pv, own, hR, hds, hcn, _⟩, ⟨t, ht, hn, rt, hpm, hrt⟩, ha, hc, hm⟩, q⟩ := z
    obtain ⟨dx, h1⟩ := hR.s.me
    obtain ⟨dxh, h2⟩ := (hR.hB.hk hR.k).me
    refine ⟨_, (pss_cons (ps_set (i := 4) sc_Rooms_write.nd rfl (Or.inl rfl) (pe_methE (pe_fld (pvM 0) rfl) T.cl_House H_House_asked (hr.mono (by decide)) xw_def (pa_cons (pvM 1) (pa_cons (pvM 2) (pa_cons (pe_globE rfl T.c_WRITE) pa_nil)))))
      (pss_one (ps_asg (pvM 3) (pg_sub (pe_dget (hu_of hr) (pe_fld (pvM 0) rfl) (pe_methE (pvM 0) T.cl_Rooms H_Rooms_sheet_to_write (hr.mono (by decide)) xw_def (pa_cons (pvM 1) (pa_cons (pe_ix ix_tup (pvM 4) pe_int (fun _ _ => rfl)) pa_nil))) (fun _ _ => rfl)) (pe_ix ix_tup (pvM 4) pe_int (fun _ _ => rfl)) set_list)))), ?_⟩
    unfold sp_hask sp_str tDGet
    walk_at "wp"
    simp only [h1]
    walk_at "wp"
    refine ⟨T.cl_Rooms, T.na_Rooms_house, _, roF_house, r.ho, rfl, dxh, _, by rw [hR.ho]; exact h2, hsF_no (by decide +kernel), z, by rw [hR.ho], l, f', g, tks, [], hR.hB.hk hR.k, hR.gd, .inr ⟨t, ht, hn, .inr ⟨ha.1, ha.2, .inr ⟨rt, none, hpm, .inr ⟨hrt, fun p H1 s1 hp1 => ?_⟩⟩⟩⟩⟩
    have hR1 := hR.same s1
    have ht1 : (pm t.rs (a / pw g)).bind (·.2) = none := by rw [hpm]; rfl
    have hg := gd_pw hR.gd
    have hb0 : 0 ≤ a % pw g := Int.emod_nonneg _ (by omega)
    have hb1 : a % pw g < pw g := Int.emod_lt_of_pos _ (by omega)
    refine ⟨_, dx, _, s1 _ _ h1, T.cl_Rooms, T.na_Rooms_sheets, _, roF_sheets, dx, _, s1 _ _ h1, roF_no (by decide +kernel), _, SqT.of hp1, .int (a / pw g), rfl, B, r, z, l, f', g, tks, made, S, pv, own, con, n, a / pw g, t, rfl, hR1, ht, hn, ht1, by omega, by rw [hcn]; exact hm, fun s made' S' pv' own' H2 hR2 hs he hx hlen hd fs => ?_⟩
    have hp2 : H2 p = some (.tup [.int (a / pw g), .int (a % pw g)]) := fs.1 _ _ hp1 (ne_of hp1 (s1 _ _ h1) (fun z => nomatch z)) (ne_of hp1 hR1.s.s (fun z => nomatch z)) (ne_of hp1 hR1.s.h (fun z => nomatch z)) (fun z => by
      obtain ⟨e, he, h⟩ := List.mem_map.mp z
      have h9 := hR1.pe e he
      rw [h, hp1] at h9
      cases h9)
    have hsz := hR2.sz s hs
    refine ⟨r.sd, rfl, _, .inl ⟨shD S', Sum.inl s.n, .inl hR2.s.s, rfl, (sh_val hR2.s.nn hs).symm⟩, _, SqT.of hp2, .int (a % pw g), rfl, s.a, rfl, _, _, rfl, hR2.s.x s hs, _, by rw [List.length_map]; exact ixN_in hb0 (by rw [hsz]; omega), ?_⟩
    have e1 : (s.xs.map V.int).set (a % pw g).toNat (V.int v) = (s.xs.set (a % pw g).toNat v).map V.int := by rw [List.map_set]
    rw [e1]
    have hR3 := hR2.put hs he (xs := s.xs.set (a % pw g).toNat v) (by rw [List.length_set]; exact hsz)
    rw [cset_cset, hx] at hR3
    rw [hx]
    have k : Kd s.a H2 (upd H2 s.a (.lst (((row g (con n (a / pw g))).set (a % pw g).toNat v).map V.int))) := kd_upd
    refine q _ ⟨made', _, pv', own', hR3, by rw [hd, hds], by unfold setS; rw [List.length_map, hlen, hcn], by split <;> omega⟩ ?_
    rw [← hds]
    have f1 : Fr B r (pv.map Pv.d) H H2 := ((fs_same s1).trans fs).fr
    exact ⟨fun c o h nb n1 n2 n3 n4 => k _ _ (f1.1 c o h nb n1 n2 n3 n4) (fun z => nb (by rw [z]; exact hR2.sb s hs)), fun c hc => f1.2 c (kd_none k upd_same c hc)⟩
def sp_shown (A : Adr) : Sp := fun vs H Q _ => ∃ (B : Hp) (r : Ro) (z : Hz) (l f g : Int) (tks : List Tk) (ds : List Addr) (con : Int → Int → Option (List Int)) (cnt : Nat) (n x : Int) (t : Tk), vs = [.ref r.p, .int n, .int x, .non] ∧ RA A B H r z l f g tks ds con cnt ∧ t ∈ tks ∧ t.n = n ∧
  ∀ a H', Same H H' → H a = none → H' a = some (.lst ((row g (con n x)).map V.int)) → Q (.ref a) H'
theorem h_shown (T : Txt K mg A) : HaveM P w K mg base A.C_Rooms "shown" 3 ["self", "task", "page", "tie"] [] (sp_shown A) := by
  have H_Rooms_noughts := h_nou (P := P) (w := w) (base := base) T
  refine T.r_Rooms_shown.have sc_Rooms_shown (fun vs H Q E z => ?_) ?_
  · obtain ⟨B, r, z, l, f, g, tks, ds, con, cnt, n, x, t, rfl, _⟩ := z; rfl
  · intro f cdv A' outer s H vs Q E hr z
    obtain ⟨B, r, z, l, f', g, tks, ds, con, cnt, n, x, t, rfl, ⟨made, S, pv, own, hR, hds, hcn, _⟩, ht, hn, q⟩ := z
    obtain ⟨dx, h1⟩ := hR.s.me
    obtain ⟨e, he, hen⟩ := hR.pv ht
    have nn : (pv.map Pv.n).Nodup := by rw [hR.nm]; exact hR.hB.nk
    have hpv := pv_val nn he
    rw [hn] at hen
    rw [hen] at hpv
    refine ⟨_, (pss_cons (ps_set (i := 4) sc_Rooms_shown.nd rfl (Or.inl rfl) (pe_ifExp (pt_cmpR op_isN (pvM 3) pe_non (nomark _)) (pe_dget (hu_of hr) (pe_fld (pvM 0) rfl) (pvM 1) (fun _ _ => rfl)) (pe_dget (hu_of hr) (pe_fld (pvM 0) rfl) (pe_ix ix_tup (pvM 3) pe_int (fun _ _ => rfl)) (fun _ _ => rfl))))
      (pss_cons (ps_set (i := 5) sc_Rooms_shown.nd rfl (Or.inl rfl) (pe_dget1 (hu_of hr) (pvM 4) (pe_ifExp (pt_cmpR op_isN (pvM 3) pe_non (nomark _)) (pvM 2) (pe_ix ix_tup (pvM 3) pe_int (fun _ _ => rfl))) ⟨rfl, rfl, rfl, rfl⟩))
      (pss_one (ps_ret (pe_ifExp (pt_cmpR op_isN (pvM 5) pe_non (nomark _)) (pe_methE0 (pvM 0) T.cl_Rooms H_Rooms_noughts (hr.mono (by decide)) xw_def) (pe_callTy call_list_of rfl T.b_list PyProof.Rows.boot_list (pa_cons (pe_dget (hu_of hr) (pe_fld (pvM 0) rfl) (pvM 5) (fun _ _ => rfl)) pa_nil))))))), ?_⟩
    unfold sp_nou tDGet tDGet1
    walk_at "wp"
    simp only [h1]
    walk_at "wp"
    have hR0 := hR
    refine ⟨T.cl_Rooms, T.na_Rooms_private, _, roF_private, r.pd, rfl, _, .inl ⟨_, Sum.inl n, .inl hR.pd, rfl, hpv.symm⟩, e.d, rfl, ?_⟩
    rcases mD_get e.m x with ⟨k, hk, hv⟩ | ⟨hk, hv⟩
    · obtain ⟨s, hs, e1, e2, e3, e4⟩ := hR.x e he _ hk
      have e1 : s.n = k := e1
      have e3 : con n x = some s.xs := by rw [← hen]; exact e3
      have e5 : row g (con n x) = s.xs := by rw [e3]; rfl
      rw [e5] at q
      refine ⟨.inl ⟨_, .inl (hR.pe e he)⟩, _, .inl ⟨mD e.m, Sum.inl x, .inl (hR.pe e he), rfl, hv.symm⟩, ?_⟩
      show if V.int k = V.non then _ else _
      rw [if_neg (fun z => nomatch z)]
      exact ⟨T.cl_Rooms, T.na_Rooms_sheets, _, roF_sheets, r.sd, rfl, _, .inl ⟨_, Sum.inl k, .inl hR.s.s, rfl, by rw [← e1]; exact (sh_val hR.s.nn hs).symm⟩, s.a, rfl, _, .inl (SqL.of (hR.s.x s hs)), fun l hl => q l _ (same_upd same_refl hl) hl upd_same⟩
    · have e3 : con n x = none := by rw [← hen]; exact hR.c e he x hk
      have e5 : row g (con n x) = List.replicate (pw g).toNat 0 := by rw [e3]; rfl
      rw [e5] at q
      have hshp := (hR.hB.hk hR.k).sh
      rw [← hR.sh] at hshp
      refine ⟨.inl ⟨_, .inl (hR.pe e he)⟩, _, .inl ⟨mD e.m, Sum.inl x, .inl (hR.pe e he), rfl, hv.symm⟩, ?_⟩
      show if V.non = V.non then _ else _
      rw [if_pos rfl]
      exact ⟨roF_no (by decide +kernel), r, rfl, made, S, hR.s, l, f', g, hshp, hR.gd, q⟩
def RowAt (H0 H : Hp) (v : V) (x rt : Int) (xs : List Int) : Prop := ∃ a c, v = .ref a ∧ H a = some (.tup [.int x, .int rt, .ref c]) ∧ H c = some (.lst (xs.map V.int)) ∧ H0 c = none
def sp_seen (A : Adr) : Sp := fun vs H Q _ => ∃ (B : Hp) (r : Ro) (z : Hz) (l f g : Int) (tks : List Tk) (ds : List Addr) (con : Int → Int → Option (List Int)) (cnt : Nat) (n : Int) (t : Tk) (x m rt : Int), vs = [.ref r.p, .int n] ∧ RA A B H r z l f g tks ds con cnt ∧ t ∈ tks ∧ t.n = n ∧ t.rs = [⟨x, m, rt, none⟩] ∧ 0 ≤ x ∧ 0 ≤ m ∧ m ≤ 1000 ∧ x + m ≤ 100000000 ∧
  ∀ b us H', Same H H' → H b = none → H' b = some (.lst us) → us.length = m.toNat → (∀ i, i < m.toNat → ∃ v, us[i]? = some v ∧ RowAt H H' v (x + i) rt (row g (con n (x + i)))) → Q (.ref b) H'
theorem h_seen (T : Txt K mg A) : HaveM P w K mg base A.C_Rooms "seen_by" 5 ["self", "task"] [] (sp_seen A) := by
  have H_House_pages_of := h_po (P := P) (w := w) (base := base) T
  have H_Rooms_shown := h_shown (P := P) (w := w) (base := base) T
  refine T.r_Rooms_seen_by.have sc_Rooms_seen_by (fun vs H Q E z => ?_) ?_
  · obtain ⟨B, r, z, l, f, g, tks, ds, con, cnt, n, t, x, m, rt, rfl, _⟩ := z; rfl
  · intro f cdv A' outer s H vs Q E hr z
    obtain ⟨B, r, z, l, f', g, tks, ds, con, cnt, n, t, x, m, rt, rfl, hRA, ht, hn, hrs, hx, hm, hm9, hxm, q⟩ := z
    obtain ⟨made, S, pv, own, hR, hds, hcn, hc9⟩ := id hRA
    obtain ⟨dx, h1⟩ := hR.s.me
    obtain ⟨dxh, h2⟩ := (hR.hB.hk hR.k).me
    refine ⟨_, (pss_one (ps_ret (pe_compM rfl (pi_list (pe_methE (pe_fld (pvM 0) rfl) T.cl_House H_House_pages_of (hr.mono (by decide)) xw_def (pa_cons (pvM 1) pa_nil))) (x := "page") (xs := ["page", "rights", "tie"]) (fs := ["self", "task"]) (ix := [0, 1]) rfl rfl (fun _ _ _ _ _ _ => (pg_tupC (K := K) (n := 3) rfl rfl (pgs_cons (pg_name (i := 0) (show (["page", "rights", "tie", "self", "task"] : List Str).Nodup by decide +kernel) rfl (Or.inl rfl)) (pgs_cons (pg_name (i := 1) (show (["page", "rights", "tie", "self", "task"] : List Str).Nodup by decide +kernel) rfl (Or.inl rfl)) (pgs_cons (pg_name (i := 2) (show (["page", "rights", "tie", "self", "task"] : List Str).Nodup by decide +kernel) rfl (Or.inl rfl)) pgs_nil))))) (fun _ _ _ _ _ _ => pf_nil) (fun _ _ _ _ _ _ => (pe_tup (pa_cons (pvM 0) (pa_cons (pvM 1) (pa_cons (pe_methE (pvM 3) T.cl_Rooms H_Rooms_shown (hr.mono (by decide)) xw_no (pa_cons (pvM 4) (pa_cons (pvM 0) (pa_cons (pvM 2) pa_nil)))) pa_nil)))))))), ?_⟩
    unfold sp_po
    walk_at "wp"
    simp only [h1]
    walk_at "wp"
    have hpl : (pgs t.rs).length = m.toNat := by
      rw [hrs]
      unfold pgs pgR
      simp
    have hpi : ∀ i, i < m.toNat → (pgs t.rs)[i]? = some (x + (i : Int), rt, none) := fun i hi => by
      rw [hrs]
      unfold pgs pgR
      rw [List.map_cons, List.map_nil, List.flatten_cons, List.flatten_nil, List.append_nil, List.getElem?_map, List.getElem?_range hi]
      rfl
    refine ⟨T.cl_Rooms, T.na_Rooms_house, _, roF_house, r.ho, rfl, dxh, _, by rw [hR.ho]; exact h2, hsF_no (by decide +kernel), z, by rw [hR.ho], l, f', g, tks, [], hR.hB.hk hR.k, t, ht, hn, fun u hu => ?_, by omega, fun b us H1 s1 hb hb1 hP => ?_⟩
    · rw [hrs] at hu
      obtain rfl := List.mem_singleton.mp hu
      exact ⟨hx, hm, hxm⟩
    have hul : us.length = m.toNat := by rw [← hpl]; exact Paired.length hP
    refine ⟨⟨_, SqL.of hb1⟩, fun D hD => comp_list (K := K) (xs := us) (fun i ys σ H' => ∃ v0 v1 v2, σ = [v0, v1, v2, some (.ref r.p), some (.int n)] ∧ Same H1 H' ∧ H' D = some (.lst ys) ∧ ys.length = i ∧ ∀ j, j < i → ∃ v, ys[j]? = some v ∧ RowAt H H' v (x + j) rt (row g (con n (x + j))) ∧ ∀ a c, v = .ref a → H' a = some (.tup [.int (x + j), .int rt, .ref c]) → c ≠ D) ⟨_, _, _, rfl, same_upd same_refl hD, upd_same, rfl, fun j hj => by omega⟩ (fun i ys σ H' _ ⟨_, _, _, _, e, _⟩ => SqL.of (e _ _ hb1)) (fun i v ys σ H' hi => ?_) (fun ys σ H' => ?_)⟩
    · rintro ⟨v0, v1, v2, rfl, s2, hD2, hyl, hY⟩
      have hil : i < m.toNat := by rw [← hul]; exact (List.getElem?_eq_some_iff.mp hi).1
      obtain ⟨pp, hp1, a, tv, rfl, ha, hT⟩ := prd_get hP hi
      rw [hpi i hil] at hp1
      cases hp1
      obtain rfl : tv = .non := hT
      have s02 := s1.trans s2
      have hz := PySem.sizeLine_eq
      unfold sp_shown
      walk_at "wp"
      refine ⟨_, SqT.of (s2 _ _ ha), rfl, _, _, rfl, _, _, rfl, _, _, rfl, rfl, dx, _, s02 _ _ h1, roF_no (by decide +kernel), B, r, rfl, z, l, f', g, tks, ds, con, cnt, _, rfl, rfl, hRA.same s02, t, ht, hn, fun c H2 s3 hc hc2 np hnp => ?_⟩
      have s4 := same_upd (o := .tup [V.int (x + (i : Int)), V.int rt, V.ref c]) (same_refl (H := H2)) hnp
      have hnp4 : upd H2 np (.tup [V.int (x + (i : Int)), V.int rt, V.ref c]) np = some (.tup [V.int (x + (i : Int)), V.int rt, V.ref c]) := upd_same
      generalize upd H2 np (.tup [V.int (x + (i : Int)), V.int rt, V.ref c]) = H4 at *
      have hD4 := s4 _ _ (s3 _ _ hD2)
      have hc4 := s4 _ _ hc2
      have k5 : Kd D H4 (upd H4 D (.lst (ys ++ [V.ref np]))) := kd_upd
      have ncD : c ≠ D := (ne_of_none hD2 hc).symm
      refine ⟨hD4, by omega, same_put ((s2.trans s3).trans s4) hD, by rw [List.length_append, hyl]; rfl, fun j hj => ?_⟩
      by_cases cj : j < i
      · obtain ⟨v, e1, ⟨a1, c1, e2, e3, e4, e5⟩, e6⟩ := hY j cj
        have e3' := k5 _ _ (s4 _ _ (s3 _ _ e3)) (ne_of (s4 _ _ (s3 _ _ e3)) hD4 (fun z => nomatch z))
        refine ⟨v, by rw [List.getElem?_append_left (by omega)]; exact e1, ⟨a1, c1, e2, e3', k5 _ _ (s4 _ _ (s3 _ _ e4)) (e6 a1 c1 e2 e3), e5⟩, fun a2 c2 e7 e8 => ?_⟩
        rw [e2] at e7
        cases e7
        rw [e3'] at e8
        cases e8
        exact e6 _ _ e2 e3
      · have e : j = i := by omega
        subst e
        have h5 := k5 _ _ hnp4 (ne_of hnp4 hD4 (fun z => nomatch z))
        refine ⟨V.ref np, by rw [List.getElem?_append_right (by omega), hyl, Nat.sub_self]; rfl, ⟨np, c, rfl, h5, k5 _ _ hc4 ncD, same_none s02 hc⟩, fun a2 c2 e7 e8 => ?_⟩
        cases e7
        rw [h5] at e8
        cases e8
        exact ncD
    · rintro ⟨v0, v1, v2, rfl, s2, hD2, hyl, hY⟩
      exact q D ys H' (s1.trans s2) (same_none s1 hD) hD2 (by rw [hyl]; exact hul) (fun i hi => let ⟨v, e1, e2, _⟩ := hY i (by rw [hul]; exact hi); ⟨v, e1, e2⟩)

def sp_part : Sp := fun vs H Q _ => ∃ (c p m : Int), vs = [.int c, .int p, .int m] ∧ 0 ≤ p ∧ p < 4 ∧ 0 < m ∧ ∀ v H', 0 ≤ v → v < m → Same H H' → Q (.int v) H'
theorem h_part (T : Txt K mg A) : Have P w K mg base "_law_part" 1 ["_law_cell", "_law_place", "_law_many"] [] sp_part := by
  refine T.r_l_part.have sc_l_part (fun vs H Q E z => ?_) ?_
  · obtain ⟨c, p, m, rfl, _⟩ := z; rfl
  · intro f cdv A' outer s H vs Q E hr z
    obtain ⟨c, p, m, rfl, hp0, hp1, hm, q⟩ := z
    refine ⟨_, (pss_cons (ps_set (i := 3) sc_l_part.nd rfl (Or.inl rfl) (pe_ix ix_lst (pe_lst (pa_cons pe_int (pa_cons pe_int (pa_cons pe_int (pa_cons pe_int pa_nil))))) (pvM 1) (fun _ _ => rfl)))
      (pss_one (ps_ret (pe_op op_mod (pe_op op_mod (pe_op op_mul (pe_op op_add (pe_op op_mod (pvM 0) (pvM 3)) pe_int) pe_int) (pvM 3)) (pvM 2))))), ?_⟩
    walk_at "wp"
    intro p1 hp
    have fin : ∀ v, Q (.int (v % m)) (upd H p1 (.lst [V.int 7919, V.int 6007, V.int 5003, V.int 9973])) := fun v => q _ _ (Int.emod_nonneg _ (by omega)) (Int.emod_lt_of_pos _ hm) (same_upd same_refl hp)
    obtain rfl | rfl | rfl | rfl : p = 0 ∨ p = 1 ∨ p = 2 ∨ p = 3 := by omega
    · exact ⟨_, rfl, 7919, rfl, by decide, 7919, rfl, by decide, hm, fin _⟩
    · exact ⟨_, rfl, 6007, rfl, by decide, 6007, rfl, by decide, hm, fin _⟩
    · exact ⟨_, rfl, 5003, rfl, by decide, 5003, rfl, by decide, hm, fin _⟩
    · exact ⟨_, rfl, 9973, rfl, by decide, 9973, rfl, by decide, hm, fin _⟩
def sp_whole : Sp := fun vs H Q _ => ∃ (v d : Int), vs = [.int v, .int d] ∧ Q (.bl (decide (v = d))) H
theorem h_whole (T : Txt K mg A) : Have P w K mg base "_law_whole" 1 ["_law_found", "_law_due"] [] sp_whole := by
  refine T.r_l_whole.have sc_l_whole (fun vs H Q E z => ?_) ?_
  · obtain ⟨v, d, rfl, _⟩ := z; rfl
  · intro f cdv A' outer s H vs Q E hr z
    obtain ⟨v, d, rfl, q⟩ := z
    refine ⟨_, (pss_one (ps_ret (pe_and (pe_callB call_isi rfl T.b_isinstance PyProof.Rows.boot_isinstance (pa_cons (pvM 0) (pa_cons (pe_bltnE (n := "int") rfl T.b_int PyProof.Rows.boot_int) pa_nil))) (pe_and (pe_not (pe_callB call_isi rfl T.b_isinstance PyProof.Rows.boot_isinstance (pa_cons (pvM 0) (pa_cons (pe_bltnE (n := "bool") rfl T.b_bool PyProof.Rows.boot_bool) pa_nil)))) (pe_one (pe_cmpR op_eq (pvM 0) (pvM 1) (nomark _))))))), ?_⟩
    walk_at "wp"
    exact ⟨by decide, iteT ⟨by decide, iteT q⟩⟩
def bx (kv : Kvs) (a : Int) : Int := match valV kv (Sum.inl a) with
  | some (.int v) => v
  | _ => 0
def IntV (kv : Kvs) : Prop := ∀ a v, valV kv (Sum.inl a) = some v → ∃ i : Int, v = .int i
theorem bx_get {kv : Kvs} (h : IntV kv) (a : Int) : (valV kv (Sum.inl a)).getD (.int 0) = .int (bx kv a) := by
  unfold bx
  cases e : valV kv (Sum.inl a) with
  | none => rfl
  | some v => obtain ⟨i, rfl⟩ := h a v e; rfl
def Rows (H0 H : Hp) (us : List V) (x m sz : Int) (kv : Kvs) : Prop := us.length = m.toNat ∧ ∀ i : Nat, i < m.toNat → ∃ v xs, us[i]? = some v ∧ RowAt H0 H v (x + i) 3 xs ∧ xs.length = sz.toNat ∧ ∀ j : Nat, j < sz.toNat → xs.getD j 0 = bx kv ((x + i) * sz + j)
def sp_lseen : Sp := fun vs H Q _ => ∃ (H0 : Hp) (b bd : Addr) (us : List V) (kv : Kvs) (x m sz : Int), vs = [.ref b, .int x, .int m, .int sz, .ref bd] ∧ H b = some (.lst us) ∧ H bd = some (.dK kv) ∧ IntV kv ∧ Rows H0 H us x m sz kv ∧ 0 ≤ m ∧ m ≤ 1000 ∧ 0 ≤ sz ∧ sz ≤ 1000 ∧ 0 ≤ x ∧ x ≤ 100000000 ∧ Q (.bl true) H
theorem h_lseen (T : Txt K mg A) : Have P w K mg base "_law_seen" 2 ["_law_told", "_law_first", "_law_many", "_law_size", "_law_boxes"] [] sp_lseen := by
  have H_l_whole := h_whole (P := P) (w := w) (base := base) T
  refine T.r_l_seen.have sc_l_seen (fun vs H Q E z => ?_) ?_
  · obtain ⟨H0, b, bd, us, kv, x, m, sz, rfl, _⟩ := z; rfl
  · intro f cdv A' outer s H vs Q E hr z
    obtain ⟨H0, b, bd, us, kv, x, m, sz, rfl, hb, hbd, hI, ⟨hul, hrow⟩, hm0, hm1, hs0, hs1, hx0, hx9, q⟩ := z
    refine ⟨_, (pss_cons (ps_if (PW.pt (pw_or (pt_not (pt_val (pe_callB call_isi rfl T.b_isinstance PyProof.Rows.boot_isinstance (pa_cons (pvM 0) (pa_cons (pe_bltnE (n := "list") rfl T.b_list PyProof.Rows.boot_list) pa_nil))))) (pw_or1 (pt_cmpR op_ne (pe_callB call_len rfl T.b_len PySem.boot_len (pa_cons (pvM 0) pa_nil)) (pvM 2) (nomark _))))) (pss_one (ps_ret pe_bl)) pss_nil)
      (pss_cons (ps_forE PassesOwn.leaving rfl (pi_range1 rfl T.b_range (pa_cons (pvM 2) pa_nil)) (pg_name (i := 5) sc_l_seen.nd rfl (Or.inl rfl)) (pss_cons (ps_set (i := 6) sc_l_seen.nd rfl (Or.inl rfl) (pe_ix ix_list (pvM 0) (pvM 5) (fun _ _ => rfl)))
      (pss_cons (ps_if (PW.pt (pw_or (pt_not (pt_val (pe_callB call_isi rfl T.b_isinstance PyProof.Rows.boot_isinstance (pa_cons (pvM 6) (pa_cons (pe_bltnE (n := "tuple") rfl T.b_tuple PyProof.Rows.boot_tuple) pa_nil))))) (pw_or (pt_cmpR op_ne (pe_callB call_len rfl T.b_len PySem.boot_len (pa_cons (pvM 6) pa_nil)) pe_int (nomark _)) (pw_or1 (pt_not (pt_val (pe_callE H_l_whole (hr.mono (by decide)) xw_def (pa_cons (pe_ix ix_tup (pvM 6) pe_int (fun _ _ => rfl)) (pa_cons (pe_op op_add (pvM 1) (pvM 5)) pa_nil))))))))) (pss_one (ps_ret pe_bl)) pss_nil)
      (pss_cons (ps_if (PW.pt (pw_or (pt_not (pt_val (pe_callE H_l_whole (hr.mono (by decide)) xw_def (pa_cons (pe_ix ix_tup (pvM 6) pe_int (fun _ _ => rfl)) (pa_cons pe_int pa_nil))))) (pw_or (pt_not (pt_val (pe_callB call_isi rfl T.b_isinstance PyProof.Rows.boot_isinstance (pa_cons (pe_ix ix_tup (pvM 6) pe_int (fun _ _ => rfl)) (pa_cons (pe_bltnE (n := "list") rfl T.b_list PyProof.Rows.boot_list) pa_nil))))) (pw_or1 (pt_cmpR op_ne (pe_callB call_len rfl T.b_len PySem.boot_len (pa_cons (pe_ix ix_tup (pvM 6) pe_int (fun _ _ => rfl)) pa_nil)) (pvM 3) (nomark _)))))) (pss_one (ps_ret pe_bl)) pss_nil)
      (pss_one (ps_forE PassesOwn.leaving rfl (pi_range1 rfl T.b_range (pa_cons (pvM 3) pa_nil)) (pg_name (i := 7) sc_l_seen.nd rfl (Or.inl rfl)) (pss_one (ps_if (pt_not (pt_val (pe_callE H_l_whole (hr.mono (by decide)) xw_def (pa_cons (pe_ix ix_list (pe_ix ix_tup (pvM 6) pe_int (fun _ _ => rfl)) (pvM 7) (fun _ _ => rfl)) (pa_cons (pe_dget2 (hu_of hr) (pvM 4) (pe_op op_add (pe_op op_mul (pe_op op_add (pvM 1) (pvM 5)) (pvM 3)) (pvM 7)) pe_int ⟨rfl, rfl, rfl, rfl⟩) pa_nil))))) (pss_one (ps_ret pe_bl)) pss_nil))))))))
      (pss_one (ps_ret pe_bl)))), ?_⟩
    unfold sp_whole tDGet2
    walk_at "wp"
    refine ⟨by decide, kn_lst hb, ?_⟩
    rw [isTy_lst hb]
    refine iteF ⟨_, .inl ⟨_, SqL.of hb, rfl⟩, ?_⟩
    rw [decide_eq_true (show ((us.length : Nat) : Int) = m by omega)]
    refine iteF ⟨by omega, by omega, ?_⟩
    refine loop_range (fun i σ H' => ∃ v5 v6 v7, σ = [some (.ref b), some (.int x), some (.int m), some (.int sz), some (.ref bd), v5, v6, v7] ∧ H' = H) ⟨_, _, _, rfl, rfl⟩ (fun i σ H' hi => ?_) (fun σ H' => ?_)
    · rintro ⟨v5, v6, v7, rfl, rfl⟩
      obtain ⟨v, xs, e1, ⟨a, c, rfl, e2, e3, e4⟩, hxl, hxv⟩ := hrow i (by omega)
      walk_at "wp"
      have e9 : atI us (0 + (i : Int)) = some (.ref a) := by rw [Int.zero_add]; exact atI_nat e1
      refine ⟨_, SqL.of hb, _, e9, by decide, kn_tup e2, ?_⟩
      rw [isTy_tup e2]
      refine iteF ⟨_, .inr ⟨_, SqT.of e2, rfl⟩, iteF ⟨a, rfl, _, SqT.of e2, .int (x + i), rfl, _, rfl, ?_⟩⟩
      rw [decide_eq_true (show x + (i : Int) = x + (0 + (i : Int)) by omega)]
      refine iteF ⟨a, rfl, _, SqT.of e2, .int 3, rfl, _, rfl, iteF ⟨a, rfl, _, SqT.of e2, .ref c, rfl, by decide, kn_lst e3, ?_⟩⟩
      rw [isTy_lst e3]
      refine iteF ⟨a, rfl, _, SqT.of e2, .ref c, rfl, _, .inl ⟨_, SqL.of e3, rfl⟩, ?_⟩
      rw [decide_eq_true (show (((xs.map V.int).length : Nat) : Int) = sz by rw [List.length_map]; omega)]
      refine iteF ⟨by omega, by omega, ?_⟩
      refine loop_range (fun j σ H1 => ∃ v7, σ = [some (.ref b), some (.int x), some (.int m), some (.int sz), some (.ref bd), some (.int (0 + i)), some (.ref a), v7] ∧ H1 = H') ⟨_, rfl, rfl⟩ (fun j σ H1 hj => ?_) (fun σ H1 => ?_)
      · rintro ⟨v7, rfl, rfl⟩
        walk_at "wp"
        have e8 : atI (xs.map V.int) (0 + (j : Int)) = some (.int (xs.getD j 0)) := by
          have := atI_in (xs := xs) (i := (j : Int)) (by omega) (by omega)
          rw [Int.zero_add, this]
          rfl
        refine ⟨_, SqT.of e2, .ref c, rfl, c, rfl, _, SqL.of e3, _, e8, .inl ⟨_, .inl hbd⟩, .inl ⟨by omega, by omega⟩, valV kv (Sum.inl ((x + (0 + (i : Int))) * sz + (0 + (j : Int)))), .inl ⟨kv, Sum.inl _, .inl hbd, rfl, rfl⟩, _, rfl, _, bx_get hI _, ?_⟩
        rw [decide_eq_true (show xs.getD j 0 = bx kv ((x + (0 + (i : Int))) * sz + (0 + (j : Int))) by rw [Int.zero_add, Int.zero_add]; exact hxv j hj)]
        exact iteF trivial
      · rintro ⟨v7, rfl, rfl⟩
        exact ⟨_, _, _, rfl, rfl⟩
    · rintro ⟨v5, v6, v7, rfl, rfl⟩
      walk_at "wp"
      exact q
def Rel (g n x m : Int) (kv : Kvs) (con : Int → Int → Option (List Int)) : Prop := ∀ p b : Int, x ≤ p → p < x + m → 0 ≤ b → b < pw g → (row g (con n p)).getD b.toNat 0 = bx kv (p * pw g + b)
theorem par {a s : Int} : a / s * s + a % s = a := by rw [Int.emod_def, Int.mul_comm]; omega
theorem par_div {p b s : Int} (h0 : 0 ≤ b) (h1 : b < s) : (p * s + b) / s = p ∧ (p * s + b) % s = b := by
  have e : (p * s + b) / s = p := by rw [Int.add_comm, Int.add_mul_ediv_right _ _ (by omega), Int.ediv_eq_zero_of_lt h0 h1]; omega
  exact ⟨e, by rw [Int.emod_def, e, Int.mul_comm s p]; omega⟩
theorem row_cset {con : Int → Int → Option (List Int)} {g n x : Int} {v : List Int} {p : Int} : row g (cset con n x v n p) = if p = x then v else row g (con n p) := by
  unfold cset
  by_cases c : p = x
  · rw [if_pos ⟨rfl, c⟩, if_pos c]; rfl
  · rw [if_neg (fun z => c z.2), if_neg c]
theorem len_putK {kv : Kvs} {k : Key} {u : V} : (putK kv k u).length ≤ kv.length + 1 := by
  unfold putK
  split
  · rw [List.length_map]; omega
  · rw [List.length_append]; exact Nat.le_refl _
theorem bx_put {kv : Kvs} {a w a' : Int} : bx (putK kv (Sum.inl a) (.int w)) a' = if a' = a then w else bx kv a' := by
  unfold bx
  rw [valV_put]
  by_cases c : a' = a
  · rw [if_pos (by rw [c]), if_pos c]
  · rw [if_neg (fun z => c (Sum.inl.inj z)), if_neg c]
theorem IntV.put {kv : Kvs} {a w : Int} (h : IntV kv) : IntV (putK kv (Sum.inl a) (.int w)) := fun a' v e => by
  rw [valV_put] at e
  by_cases c : (Sum.inl a' : Key) = Sum.inl a
  · rw [if_pos c] at e; exact ⟨w, (Option.some.inj e).symm⟩
  · rw [if_neg c] at e; exact h a' v e
theorem Rel.read {g n x m : Int} {kv : Kvs} {con : Int → Int → Option (List Int)} {p : Int} (h : Rel g n x m kv con) : Rel g n x m kv (cset con n p (row g (con n p))) := fun p' b h0 h1 h2 h3 => by
  rw [row_cset]
  by_cases c : p' = p
  · rw [if_pos c, ← c]; exact h p' b h0 h1 h2 h3
  · rw [if_neg c]; exact h p' b h0 h1 h2 h3
theorem Rel.write {g n x m : Int} {kv : Kvs} {con : Int → Int → Option (List Int)} {a w : Int} (h : Rel g n x m kv con) (hg : 0 < pw g) (hl : (row g (con n (a / pw g))).length = (pw g).toNat) : Rel g n x m (putK kv (Sum.inl a) (.int w)) (cset con n (a / pw g) ((row g (con n (a / pw g))).set (a % pw g).toNat w)) := fun p b h0 h1 h2 h3 => by
  have ha0 : 0 ≤ a % pw g := Int.emod_nonneg _ (by omega)
  have ha1 : a % pw g < pw g := Int.emod_lt_of_pos _ hg
  rw [row_cset, bx_put]
  by_cases c : p = a / pw g
  · rw [if_pos c]
    by_cases d : b = a % pw g
    · rw [if_pos (by rw [c, d]; exact par), d, List.getD_eq_getElem?_getD, List.getElem?_set_self (by omega)]
      rfl
    · rw [if_neg (fun z => d (by rw [← z, (par_div h2 h3).2])), List.getD_eq_getElem?_getD, List.getElem?_set_ne (by omega), ← List.getD_eq_getElem?_getD, ← c]
      exact h p b h0 h1 h2 h3
  · rw [if_neg c, if_neg (fun z => c (by rw [← z, (par_div h2 h3).1]))]
    exact h p b h0 h1 h2 h3
theorem RA.row {A : Adr} {B H : Hp} {r : Ro} {z : Hz} {l f g : Int} {tks : List Tk} {ds : List Addr} {con : Int → Int → Option (List Int)} {cnt : Nat} {t : Tk} {x : Int} (h : RA A B H r z l f g tks ds con cnt) (ht : t ∈ tks) : (row g (con t.n x)).length = (pw g).toNat := by
  obtain ⟨made, S, pv, own, h, _⟩ := h
  obtain ⟨e, he, hn⟩ := h.pv ht
  rw [← hn]
  rcases mD_get e.m x with ⟨k, hk, _⟩ | ⟨hk, _⟩
  · obtain ⟨s, hs, _, _, e3, _⟩ := h.x e he _ hk
    rw [e3]
    exact h.sz s hs
  · rw [h.c e he x hk]
    exact List.length_replicate
def sp_acc (A : Adr) : Sp := fun vs H Q _ => ∃ (B : Hp) (r : Ro) (z : Hz) (l f g : Int) (tks : List Tk) (ds : List Addr) (con : Int → Int → Option (List Int)) (cnt : Nat) (n a x m c : Int) (bd : Addr) (kv : Kvs), vs = [.ref r.p, .int n, .int a, .ref bd, .int c] ∧ Ask A 1 B H r z l f g tks ds con cnt n a ∧ Ask A 2 B H r z l f g tks ds con cnt n a ∧ Rel g n x m kv con ∧ IntV kv ∧ x ≤ a / pw g ∧ a / pw g < x + m ∧ 0 < pw g ∧ H bd = some (.dK kv) ∧ kv.length ≤ 10000 ∧ B bd ≠ none ∧ bd ≠ r.p ∧ bd ≠ r.sd ∧ bd ≠ r.hd ∧ bd ≠ r.pd ∧ bd ∉ ds ∧ bd ≠ z.td ∧ bd ≠ z.bd ∧
  ∀ con' kv' H', RA A B H' r z l f g tks ds con' (cnt + if con n (a / pw g) = none then 1 else 0) → Rel g n x m kv' con' → IntV kv' → kv'.length ≤ kv.length + 1 → H' bd = some (.dK kv') → con' n (a / pw g) ≠ none → (∀ p, p ≠ a / pw g → con' n p = con n p) → (∀ c o, H c = some o → B c ≠ none → c ≠ r.p → c ≠ r.sd → c ≠ r.hd → c ∉ ds → c ≠ bd → H' c = some o) → (∀ c, H' c = none → H c = none) → Q (.bl true) H'
theorem h_acc (T : Txt K mg A) : Have P w K mg base "_law_access" 11 ["_law_rooms", "_law_task", "_law_address", "_law_boxes", "_law_cell"] [] (sp_acc A) := by
  have H_l_part := h_part (P := P) (w := w) (base := base) T
  have H_l_whole := h_whole (P := P) (w := w) (base := base) T
  have H_Rooms_read := h_read (P := P) (w := w) (base := base) T
  have H_Rooms_write := h_write (P := P) (w := w) (base := base) T
  refine T.r_l_access.have sc_l_access (fun vs H Q E z => ?_) ?_
  · obtain ⟨B, r, z, l, f, g, tks, ds, con, cnt, n, a, x, m, c, bd, kv, rfl, _⟩ := z; rfl
  · intro f cdv A' outer s H vs Q E hr z
    obtain ⟨B, r, z, l, f', g, tks, ds, con, cnt, n, a, x, m, c, bd, kv, rfl, hA1, hA2, hRel, hI, hx0, hx1, hg, hbd, hkl, b1, b2, b3, b4, b5, b6, b7, b8, q⟩ := z
    obtain ⟨made, S, pv, own, hR, _⟩ := id hA1.1
    obtain ⟨dx, h1⟩ := hR.s.me
    refine ⟨_, (pss_cons (ps_if (pt_cmpR op_eq (pe_callE H_l_part (hr.mono (by decide)) xw_def (pa_cons (pvM 4) (pa_cons pe_int (pa_cons pe_int pa_nil)))) pe_int (nomark _)) (pss_one (ps_ret (pe_callE H_l_whole (hr.mono (by decide)) xw_def (pa_cons (pe_methE (pvM 0) T.cl_Rooms H_Rooms_read (hr.mono (by decide)) xw_def (pa_cons (pvM 1) (pa_cons (pvM 2) pa_nil))) (pa_cons (pe_dget2 (hu_of hr) (pvM 3) (pvM 2) pe_int ⟨rfl, rfl, rfl, rfl⟩) pa_nil))))) pss_nil)
      (pss_cons (ps_set (i := 5) sc_l_access.nd rfl (Or.inl rfl) (pe_op op_mod (pvM 4) (pe_op op_pow pe_int pe_int)))
      (pss_cut (ps_if (pt_cmpR op_eq (pe_callE H_l_part (hr.mono (by decide)) xw_def (pa_cons (pvM 4) (pa_cons pe_int (pa_cons pe_int pa_nil)))) pe_int (nomark _)) (pss_one (ps_set (i := 5) sc_l_access.nd rfl (Or.inl rfl) (pe_un op_neg (pvM 5)))) pss_nil)
      (pss_cons (ps_dput (hu_of hr) (pvM 3) (pvM 2) (pvM 5) rfl)
      (pss_one (ps_ret (pe_cmpR op_isN (pe_methE (pvM 0) T.cl_Rooms H_Rooms_write (hr.mono (by decide)) xw_def (pa_cons (pvM 1) (pa_cons (pvM 2) (pa_cons (pvM 5) pa_nil)))) pe_non (nomark _)))))))), ?_⟩
    unfold sp_part sp_whole tDGet2 sDPut
    walk_at "wp"
    intro v H1 _ _ s1
    by_cases hv : v = 0
    · rw [if_pos hv]
      refine ⟨dx, _, s1 _ _ h1, roF_no (by decide +kernel), B, r, z, l, f', g, tks, ds, con, cnt, n, a, rfl, ⟨hA1.1.same s1, hA1.2⟩, fun H2 hR2 fr => ?_⟩
      have hbd2 : H2 bd = some (.dK kv) := fr.1 _ _ (s1 _ _ hbd) b1 b2 b3 b4 b6
      refine ⟨.inl ⟨_, .inl hbd2⟩, valV kv (Sum.inl a), .inl ⟨kv, Sum.inl a, .inl hbd2, rfl, rfl⟩, _, rfl, _, bx_get hI a, ?_⟩
      have e : (row g (con n (a / pw g))).getD (a % pw g).toNat 0 = bx kv a := by
        have := hRel (a / pw g) (a % pw g) hx0 hx1 (Int.emod_nonneg _ (by omega)) (Int.emod_lt_of_pos _ hg)
        rw [par] at this
        exact this
      rw [decide_eq_true e]
      exact q _ kv H2 hR2 hRel.read hI (by omega) hbd2 (by unfold cset; rw [if_pos ⟨rfl, rfl⟩]; exact fun z => nomatch z) (fun p hp => by unfold cset; rw [if_neg (fun z => hp z.2)]) (fun c o h nb n1 n2 n3 n4 n5 => fr.1 c o (s1 _ _ h) nb n1 n2 n3 n4) (fun c hc => same_none s1 (fr.2 c hc))
    rw [if_neg hv]
    refine ⟨fun σ H' => ∃ u : Int, σ = [some (.ref r.p), some (.int n), some (.int a), some (.ref bd), some (.int c), some (.int u)] ∧ Same H H', ?_, fun σ' H2 => ?_⟩
    · walk_at "wp"
      intro v2 H2 _ _ s2
      exact ite2 (fun _ => s1.trans s2) (fun _ => s1.trans s2)
    rintro ⟨u, rfl, s2⟩
    have hz := PySem.sizeLine_eq
    unfold sp_write
    walk_at "wp"
    have hbd2 := s2 _ _ hbd
    refine ⟨_, .inl ⟨kv, Sum.inl a, hbd2, rfl, by omega, rfl⟩, ?_⟩
    have hk : Kd bd H2 (upd H2 bd (.dK (putK kv (Sum.inl a) (.int u)))) := kd_upd
    have hbd3 : upd H2 bd (.dK (putK kv (Sum.inl a) (.int u))) bd = some (.dK (putK kv (Sum.inl a) (.int u))) := upd_same
    have hdm := kd_none hk hbd3
    have hR3 : RA A B (upd H2 bd (.dK (putK kv (Sum.inl a) (.int u)))) r z l f' g tks ds con cnt := (hA1.1.same s2).kp (U := (· = bd)) ⟨fun c o h n => hk _ _ h n, hdm⟩ (fun c e => by rw [e]; exact ⟨b2, b3, b4, b5, b6⟩) (fun c o e h => by rw [e] at h ⊢; rw [hbd2] at h; exact .inl ⟨_, (Option.some.inj h).symm, b7, b8⟩)
    generalize upd H2 bd (.dK (putK kv (Sum.inl a) (.int u))) = H3 at *
    have hp3 := hk _ _ (s2 _ _ h1) b2.symm
    obtain ⟨t, ht, htn, _⟩ := id hA1.2.1
    have hrl := hA1.1.row (x := a / pw g) ht
    rw [htn] at hrl
    refine ⟨dx, _, hp3, roF_no (by decide +kernel), B, r, rfl, z, l, f', g, tks, ds, con, cnt, ⟨hR3, hA2.2⟩, fun H4 hR4 fr => ?_⟩
    have hbd4 := fr.1 _ _ hbd3 b1 b2 b3 b4 b6
    exact q _ _ H4 hR4 (hRel.write hg hrl) hI.put len_putK hbd4 (by unfold cset; rw [if_pos ⟨rfl, rfl⟩]; exact fun z => nomatch z) (fun p hp => by unfold cset; rw [if_neg (fun z => hp z.2)]) (fun c o h nb n1 n2 n3 n4 n5 => fr.1 c o (hk _ _ (s2 _ _ h) n5) nb n1 n2 n3 n4) (fun c hc => same_none s2 (hdm c (fr.2 c hc)))
theorem mk_rooms {A : Adr} {H : Hp} {x dx : Addr} {l f g most : Int} {Qf : Addr → VK} {E : XK} (hg : gd l f g) (hx : H x = none) (hdx : H dx = none)
    (q : ∀ (r : Ro) (z : Hz) (H' : Hp), r.most = most → Same H H' → RB A H' r z l f g [] [] → (∀ e ∈ dks r z [], H e = none) → H r.p = none → Qf r.p .non H') :
    ∀ x1 dx1 : Addr, upd (upd H dx (.own x)) x (.ins A.C_Shape dx (shF l f g)) x1 = none → upd (upd H dx (.own x)) x (.ins A.C_Shape dx (shF l f g)) dx1 = none → dx1 ≠ x1 →
      sp_rinit A [V.ref x1, V.ref x, V.int most] (upd (upd (upd (upd H dx (.own x)) x (.ins A.C_Shape dx (shF l f g))) dx1 (.own x1)) x1 (.ins A.C_Rooms dx1 [])) (Qf x1) E := by
  intro x1 dx1 hx1 hdx1 hne
  have b1 : Same H (upd (upd H dx (.own x)) x (.ins A.C_Shape dx (shF l f g))) := fun c o h => by rw [upd_ne (ne_of_none h hx), upd_ne (ne_of_none h hdx)]; exact h
  have e1 : upd (upd H dx (.own x)) x (.ins A.C_Shape dx (shF l f g)) x = some (.ins A.C_Shape dx (shF l f g)) := upd_same
  generalize upd (upd H dx (.own x)) x (.ins A.C_Shape dx (shF l f g)) = G1 at *
  have b2 : Same G1 (upd (upd G1 dx1 (.own x1)) x1 (.ins A.C_Rooms dx1 [])) := fun c o h => by rw [upd_ne (ne_of_none h hx1), upd_ne (ne_of_none h hdx1)]; exact h
  have e2 : upd (upd G1 dx1 (.own x1)) x1 (.ins A.C_Rooms dx1 []) x1 = some (.ins A.C_Rooms dx1 []) := upd_same
  generalize upd (upd G1 dx1 (.own x1)) x1 (.ins A.C_Rooms dx1 []) = G2 at *
  have b12 := b1.trans b2
  refine ⟨x1, dx1, x, most, l, f, g, rfl, e2, ⟨dx, b2 _ _ e1⟩, hg, fun r z H' hr hm hB hf _ k => ?_⟩
  have hn : H x1 = none := same_none b1 hx1
  rw [← hr]
  exact q r z H' hm (fun c o h => k _ _ (b12 _ _ h) (ne_of_none h hn)) hB (fun e he => same_none b12 (hf e he)) (by rw [hr]; exact hn)
theorem lst_rng {tks : List Tk} {i k : Nat} (h : tks.map Tk.n = (List.range i).map (fun j : Nat => (j : Int))) (hL : Lst (ksK (tkD tks)) k) : k = i := by
  have e : ksK (tkD tks) = (List.range i).map (fun j : Nat => (Sum.inl (j : Int) : Key)) := by
    have : ksK (tkD tks) = (tks.map Tk.n).map Sum.inl := by unfold ksK tkD; rw [List.map_map, List.map_map]; rfl
    rw [this, h, List.map_map]; rfl
  rw [e] at hL
  have mem : ∀ j : Nat, (Sum.inl (j : Int) : Key) ∈ (List.range i).map (fun j : Nat => (Sum.inl (j : Int) : Key)) ↔ j < i := fun j => by
    rw [List.mem_map]
    constructor
    · rintro ⟨u, hu, e⟩
      have := Sum.inl.inj e
      have := List.mem_range.mp hu
      omega
    · intro hj; exact ⟨j, List.mem_range.mpr hj, rfl⟩
  rcases Nat.lt_trichotomy k i with c | c | c
  · exact absurd ((mem k).mpr c) hL.1
  · exact c
  · have := (mem i).mp (hL.2 i c); omega
theorem row_none {g : Int} {j : Nat} : (row g none).getD j 0 = 0 := by
  show (List.replicate (pw g).toNat (0 : Int)).getD j 0 = 0
  rw [List.getD_eq_getElem?_getD, List.getElem?_replicate]
  split <;> rfl
def sp_wide : Sp := fun vs H Q _ => ∃ (c : Int), vs = [.int c] ∧ ∀ H', Same H H' → Q (.bl true) H'
theorem h_wide (T : Txt K mg A) : Have P w K mg base "_law_wide" 12 ["_law_cell"] [] sp_wide := by
  have H_Shape_init := h_init (P := P) (w := w) (base := base) T
  have H_Rooms_init := h_rinit (P := P) (w := w) (base := base) T
  have H_Rooms_new_task := h_rnt (P := P) (w := w) (base := base) T
  have H_Rooms_lay := h2_rlay (P := P) (w := w) (base := base) T
  have H2_Rooms_lay := h2_rlay (P := P) (w := w) (base := base) T
  have H_Rooms_read := h_read (P := P) (w := w) (base := base) T
  have H_Rooms_live_sheets := h_live (P := P) (w := w) (base := base) T
  have H_l_whole := h_whole (P := P) (w := w) (base := base) T
  refine T.r_l_wide.have sc_l_wide (fun vs H Q E z => ?_) ?_
  · obtain ⟨c, rfl, _⟩ := z; rfl
  · intro f cdv A' outer s H vs Q E hr z
    obtain ⟨c, rfl, q⟩ := z
    refine ⟨_, (pss_cut (ps_set (i := 1) sc_l_wide.nd rfl (Or.inl rfl) (pe_makeE H_Rooms_init (hr.mono (by decide)) xw_def (pa_cons (pe_makeE H_Shape_init (hr.mono (by decide)) xw_def (pa_cons (pe_op op_add pe_int (pe_op op_mod (pvM 0) pe_int)) (pa_cons (pe_op op_add pe_int (pe_op op_mod (pe_op op_fdiv (pvM 0) pe_int) pe_int)) (pa_cons (pe_op op_mod (pe_op op_fdiv (pvM 0) pe_int) pe_int) pa_nil)))) (pa_cons pe_int pa_nil))))
      (pss_cons (ps_forE PassesOwn.leaving rfl (pi_range1 rfl T.b_range (pa_cons pe_int pa_nil)) (pg_name (i := 2) sc_l_wide.nd rfl (Or.inl rfl)) (pss_cons (ps_if (pt_not (pt_val (pe_callE H_l_whole (hr.mono (by decide)) xw_def (pa_cons (pe_methE0 (pvM 1) T.cl_Rooms H_Rooms_new_task (hr.mono (by decide)) xw_def) (pa_cons (pvM 2) pa_nil))))) (pss_one (ps_ret pe_bl)) pss_nil)
      (pss_one (ps_expr (pe_methE (pvM 1) T.cl_Rooms H2_Rooms_lay (hr.mono (by decide)) xw_def (pa_cons (pvM 2) (pa_cons pe_int (pa_cons pe_int (pa_cons pe_int pa_nil)))))))))
      (pss_cons (ps_set (i := 3) sc_l_wide.nd rfl (Or.inl rfl) (pe_op op_shl pe_int (pe_op op_mod (pe_op op_fdiv (pvM 0) pe_int) pe_int)))
      (pss_cons (ps_forE PassesOwn.leaving rfl (pi_range1 rfl T.b_range (pa_cons (pe_op op_add pe_int (pe_op op_mod (pe_op op_fdiv (pvM 0) pe_int) pe_int)) pa_nil)) (pg_name (i := 4) sc_l_wide.nd rfl (Or.inl rfl)) (pss_one (ps_if (pt_not (pt_val (pe_callE H_l_whole (hr.mono (by decide)) xw_def (pa_cons (pe_methE (pvM 1) T.cl_Rooms H_Rooms_read (hr.mono (by decide)) xw_def (pa_cons (pe_op op_fdiv (pvM 4) pe_int) (pa_cons (pe_op op_mul (pe_op op_mod (pvM 4) pe_int) (pvM 3)) pa_nil))) (pa_cons pe_int pa_nil))))) (pss_one (ps_ret pe_bl)) pss_nil)))
      (pss_one (ps_ret (pe_callE H_l_whole (hr.mono (by decide)) xw_def (pa_cons (pe_methE0 (pvM 1) T.cl_Rooms H_Rooms_live_sheets (hr.mono (by decide)) xw_def) (pa_cons (pe_op op_add pe_int (pe_op op_mod (pe_op op_fdiv (pvM 0) pe_int) pe_int)) pa_nil))))))))), ?_⟩
    have hl1 : 2 ≤ 2 + c % 2 ∧ 2 + c % 2 ≤ 3 := by omega
    have hf1 : 3 ≤ 3 + c / 2 % 6 ∧ 3 + c / 2 % 6 ≤ 8 := by omega
    have hg1 : 0 ≤ c / 12 % 3 ∧ c / 12 % 3 ≤ 4 := by omega
    have hgd : gd (2 + c % 2) (3 + c / 2 % 6) (c / 12 % 3) := ⟨hl1.1, hl1.2, by omega, hf1.2, hg1.1, hg1.2⟩
    refine ⟨fun σ H' => ∃ r z, σ = [some (.int c), some (.ref r.p), none, none, none] ∧ r.most = 100 ∧ Same H H' ∧ RB A H' r z (2 + c % 2) (3 + c / 2 % 6) (c / 12 % 3) [] [] ∧ (∀ e ∈ dks r z [], H e = none) ∧ H r.p = none, ?_, fun σ' H2 => ?_⟩
    · unfold spInit
      walk_at "wp"
      refine fun x dx hx hdx hne => ?_
      rw [if_pos (good_of hgd)]
      refine mk_rooms hgd hx hdx (fun r z H' hm s1 hB hf hp => ?_)
      exact ⟨rfl, r, rfl, hm, s1, z, hB, hf, hp⟩
    rintro ⟨r, z, rfl, hmo, s2, hB2, hfr, hrp⟩
    generalize 2 + c % 2 = l at *
    generalize 3 + c / 2 % 6 = fn at *
    have hm6 : 6 ≤ l * fn := by
      have : 2 * 3 ≤ l * fn := Int.mul_le_mul hl1.1 hf1.1 (by omega) (by omega)
      omega
    have hpw : 64 ≤ pw (l * fn) := by
      have := pw_le hm6 (by omega)
      have e : pw 6 = 64 := by decide
      omega
    walk_at "wp"
    refine loop_range (fun i σ H' => ∃ v2 tks pv, σ = [some (.int c), some (.ref r.p), v2, none, none] ∧ RB A H' r z l fn (c / 12 % 3) tks pv ∧ tks.map Tk.n = (List.range i).map (fun j : Nat => (j : Int)) ∧ (∀ t ∈ tks, t.rs = [⟨0, 64, 1, none⟩] ∧ H t.p = none) ∧ (∀ e ∈ dks r z pv, H e = none) ∧ Same H H') ⟨_, [], [], rfl, hB2, rfl, fun t ht => by simp at ht, hfr, s2⟩ (fun i σ H' hi => ?_) (fun σ H3 => ?_)
    · rintro ⟨v2, tks, pv, rfl, hB, hns, hts, hfs, s3⟩
      obtain ⟨dx, h1⟩ := hB.s.me
      walk_at "wp"
      have htl : tks.length = i := by have := congrArg List.length hns; rw [List.length_map, List.length_map, List.length_range] at this; exact this
      refine ⟨dx, _, h1, roF_no (by decide +kernel), r, z, l, fn, c / 12 % 3, tks, pv, rfl, hB, by omega, fun k p d H4 hL hB4 hp hd hk4 => ?_⟩
      obtain rfl := lst_rng hns hL
      refine ⟨_, _, rfl, _, rfl, ?_⟩
      rw [decide_eq_true (show (k : Int) = 0 + (k : Int) by omega)]
      obtain ⟨dx4, h4⟩ := hB4.s.me
      have s4 : Same H H4 := fun e o h => hk4 _ _ (s3 _ _ h) (ne_of_none h (hfs _ (by unfold dks; simp))) (ne_of_none h (hfs _ (by unfold dks; simp)))
      refine iteF ⟨dx4, _, h4, roF_no (by decide +kernel), r, z, l, fn, c / 12 % 3, _, _, _, _, _, _, ⟨k, p, []⟩, rfl, hB4, List.mem_append_right _ (List.mem_cons_self ..), by show (k : Int) = 0 + k; omega, rfl, decide_eq_true (by omega), by omega, by omega, fun H5 hB5 bu => ?_⟩
      walk_at "wp"
      have hpn : H p = none := same_none s3 hp
      refine ⟨_, _, hB5, ?_, fun t ht => ?_, fun e he => ?_, fun e o h => bu _ _ (s4 _ _ h) (ne_of_none h hpn)⟩
      · rw [setT_n, List.map_append, hns, List.range_succ, List.map_append]; rfl
      · obtain ⟨u, hu, rfl⟩ := List.mem_map.mp ht
        rcases List.mem_append.mp hu with h | h
        · split
          · exact ⟨rfl, (hts u h).2⟩
          · exact hts u h
        · obtain rfl := List.mem_singleton.mp h
          rw [if_pos (show (k : Int) = 0 + k by omega)]
          exact ⟨rfl, hpn⟩
      · have e0 : dks r z (pv ++ [⟨k, d, []⟩]) = dks r z pv ++ [d] := by unfold dks; rw [List.map_append]; rfl
        rw [e0] at he
        rcases List.mem_append.mp he with h | h
        · exact hfs e h
        · obtain rfl := List.mem_singleton.mp h
          exact same_none s3 hd
    · rintro ⟨v2, tks, pv, rfl, hB, hns, hts, hfs, s3⟩
      have e2 : 1 * 2 ^ (c / 12 % 3).toNat = pw (c / 12 % 3) := by unfold pw; omega
      walk_at "wp"
      rw [e2]
      generalize c / 12 % 3 = g at *
      obtain ⟨hp1, hp2⟩ := gd_pw hgd
      have hN : 65 ≤ 65 + c / 36 % 30 ∧ 65 + c / 36 % 30 ≤ 94 := by omega
      have tk : ∀ n : Int, 0 ≤ n → n < 2 → ∃ t ∈ tks, t.n = n ∧ t.rs = [⟨0, 64, 1, none⟩] := fun n h0 h1 => by
        have : n ∈ tks.map Tk.n := by
          rw [hns]
          exact List.mem_map.mpr ⟨n.toNat, List.mem_range.mpr (by omega), by show ((n.toNat : Nat) : Int) = n; omega⟩
        obtain ⟨t, ht, e⟩ := List.mem_map.mp this
        exact ⟨t, ht, e, (hts t ht).1⟩
      have hds : ∀ e ∈ pv.map Pv.d, H e = none := fun e he => hfs e (by unfold dks; simp only [List.mem_cons]; exact .inr (.inr (.inr (.inr (.inr he)))))
      have hsd : H r.sd = none := hfs _ (by unfold dks; simp)
      have hhd : H r.hd = none := hfs _ (by unfold dks; simp)
      refine ⟨by omega, by omega, by decide, by omega, by omega, loop_range (fun i σ H' => ∃ v4 con, σ = [some (.int c), some (.ref r.p), v2, some (.int (pw g)), v4] ∧ RA A H3 H' r z l fn g tks (pv.map Pv.d) con i ∧ (∀ n x : Int, 0 ≤ x → x < 64 → (i : Int) ≤ n * 64 + x → con n x = none) ∧ Same H H') ⟨_, _, rfl, hB.ra, fun _ _ _ _ _ => rfl, s3⟩ (fun i σ H' hi => ?_) (fun σ H' => ?_)⟩
      · rintro ⟨v4, con, rfl, hR, hcon, s4⟩
        obtain ⟨made, S, hSh, _⟩ := hR.sh'
        obtain ⟨dx, h1⟩ := hSh.me
        walk_at "wp"
        have hd : (0 + (i : Int)) % 64 * pw g / pw g = (0 + (i : Int)) % 64 := by
          have := (par_div (p := (0 + (i : Int)) % 64) (b := 0) (s := pw g) (by omega) (by omega)).1
          rw [Int.add_zero] at this
          exact this
        obtain ⟨t, ht, htn, hrs⟩ := tk ((0 + (i : Int)) / 64) (by omega) (by omega)
        have hcn : con ((0 + (i : Int)) / 64) ((0 + (i : Int)) % 64) = none := hcon _ _ (by omega) (by omega) (by omega)
        have hb : 0 ≤ (0 + (i : Int)) % 64 * pw g ∧ (0 + (i : Int)) % 64 * pw g < pw (l * fn) * pw g := ⟨Int.mul_nonneg (by omega) (by omega), Int.mul_lt_mul_of_pos_right (by omega) (by omega)⟩
        refine ⟨dx, _, h1, roF_no (by decide +kernel), .inl ⟨by omega, by omega⟩, H3, r, z, l, fn, g, tks, pv.map Pv.d, con, i, (0 + (i : Int)) / 64, (0 + (i : Int)) % 64 * pw g, rfl, ⟨hR, ⟨t, ht, htn, 1, by rw [hd, hrs]; exact if_pos ⟨by show (0 : Int) ≤ _; omega, by show _ < enR _; unfold enR; show _ < (0 : Int) + 64; omega⟩, by decide⟩, hb, by omega, fun _ => by omega⟩, fun H4 hR4 fr => ?_⟩
        refine ⟨_, _, rfl, _, rfl, ?_⟩
        rw [hd] at hR4 ⊢
        rw [hcn] at hR4 ⊢
        rw [if_pos rfl] at hR4
        rw [row_none, decide_eq_true rfl]
        refine iteF ⟨_, hR4, fun n x h0 h1 h2 => ?_, fun e o h => fr.1 e o (s4 _ _ h) (fun z => by rw [s3 _ _ h] at z; cases z) (ne_of_none h hrp) (ne_of_none h hsd) (ne_of_none h hhd) (fun z => by rw [hds e z] at h; cases h)⟩
        unfold cset
        rw [if_neg (fun z => by omega)]
        exact hcon n x h0 h1 (by omega)
      · rintro ⟨v4, con, rfl, hR, hcon, s4⟩
        obtain ⟨made, S, hSh, hSl⟩ := hR.sh'
        obtain ⟨dx, h1⟩ := hSh.me
        walk_at "wp"
        refine ⟨dx, _, h1, roF_no (by decide +kernel), r, made, S, rfl, hSh, ?_⟩
        walk_at "wp"
        refine ⟨_, _, rfl, ?_⟩
        rw [decide_eq_true (show (S.length : Int) = 65 + c / 36 % 30 by omega)]
        exact q _ s4
def spLaw (K : PySem.W.Frag) : Sp := fun vs H Q _ => ∃ (a : Addr) (ns : List Int), vs = [.ref a] ∧ SqL K H a (ns.map V.int) ∧ ns.length ≤ 63 ∧ ∀ H', Q (.bl true) H'
theorem RB.ex {A : Adr} {H : Hp} {r : Ro} {z : Hz} {l f g : Int} {tks : List Tk} {pv : List Pv} (h : RB A H r z l f g tks pv) : ∀ c ∈ r.p :: dks r z pv, H c ≠ none := fun c hc => by
  obtain ⟨dx, h1⟩ := h.s.me
  have hc : c ∈ r.p :: r.sd :: r.hd :: r.pd :: z.td :: z.bd :: pv.map Pv.d := hc
  simp only [List.mem_cons] at hc
  rcases hc with e | e | e | e | e | e | hc
  · rw [e, h1]; exact fun z => nomatch z
  · rw [e, h.s.s]; exact fun z => nomatch z
  · rw [e, h.s.h]; exact fun z => nomatch z
  · rw [e, h.pd]; exact fun z => nomatch z
  · rw [e, h.h.t]; exact fun z => nomatch z
  · rw [e, h.h.b]; exact fun z => nomatch z
  · obtain ⟨e, he, h2⟩ := List.mem_map.mp hc
    rw [← h2, (h.pe e he).2]; exact fun z => nomatch z
theorem apart {H : Hp} {c d : Addr} (h : H c ≠ none) (g : H d = none) : c ≠ d := fun e => h (by rw [e]; exact g)
structure New (H0 H : Hp) (r : Ro) (z : Hz) (tks : List Tk) (pv : List Pv) : Prop where
  s : Same H0 H
  n : ∀ c ∈ r.p :: dks r z pv, H0 c = none
  p : ∀ t ∈ tks, H0 t.p = none
theorem New.task {A : Adr} {H0 H H' : Hp} {r : Ro} {z : Hz} {l f g : Int} {k : Nat} {p d : Addr} (h : New H0 H r z [] []) (hL : Lst (ksK (tkD [])) k) (hB : RB A H' r z l f g ([] ++ [⟨k, p, []⟩]) ([] ++ [⟨k, d, []⟩])) (hp : H p = none) (hd : H d = none) (hk : ∀ c o, H c = some o → c ≠ r.pd → c ≠ z.td → H' c = some o) :
    k = 0 ∧ RB A H' r z l f g [⟨0, p, []⟩] [⟨0, d, []⟩] ∧ New H0 H' r z [⟨0, p, []⟩] [⟨0, d, []⟩] := by
  obtain rfl := lst_rng (i := 0) rfl hL
  refine ⟨rfl, hB, fun c o e => hk _ _ (h.s _ _ e) (ne_of_none e (h.n _ (by unfold dks; simp))) (ne_of_none e (h.n _ (by unfold dks; simp))), fun c hc => ?_, fun t ht => ?_⟩
  · have e0 : r.p :: dks r z [⟨0, d, []⟩] = (r.p :: dks r z []) ++ [d] := rfl
    rw [e0] at hc
    rcases List.mem_append.mp hc with h2 | h2
    · exact h.n c h2
    · obtain rfl := List.mem_singleton.mp h2
      exact same_none h.s hd
  · obtain rfl := List.mem_singleton.mp ht
    exact same_none h.s hp
theorem New.lay {A : Adr} {H0 H H' : Hp} {r : Ro} {z : Hz} {l f g : Int} {p d : Addr} {R : List Rn} (h : New H0 H r z [⟨0, p, []⟩] [⟨0, d, []⟩]) (hB : RB A H' r z l f g (setT 0 R [⟨0, p, []⟩]) [⟨0, d, []⟩]) (bu : Bu p H H') :
    RB A H' r z l f g [⟨0, p, R⟩] [⟨0, d, []⟩] ∧ New H0 H' r z [⟨0, p, R⟩] [⟨0, d, []⟩] :=
  ⟨hB, fun c o e => bu _ _ (h.s _ _ e) (ne_of_none e (h.p ⟨0, p, []⟩ (List.mem_cons_self ..))), h.n, fun t ht => by obtain rfl := List.mem_singleton.mp ht; exact h.p ⟨0, p, []⟩ (List.mem_cons_self ..)⟩
theorem putK_in {kv : Kvs} {k : Key} {v : V} (h : valV kv k ≠ none) : (putK kv k v).length = kv.length := by
  cases e : valV kv k with
  | none => exact absurd e h
  | some u =>
    unfold putK
    rw [valV_any, e, if_pos (show (some u).isSome = true from rfl), List.length_map]
theorem ask_one {A : Adr} {w : Int} {B H : Hp} {r : Ro} {z : Hz} {l f g : Int} {p : Addr} {x m : Int} {ds : List Addr} {con : Int → Int → Option (List Int)} {cnt : Nat} {pg b : Int} (h : RA A B H r z l f g [⟨0, p, [⟨x, m, 3, none⟩]⟩] ds con cnt) (hw : Builtin.bitAnd 3 w = w) (h0 : 0 ≤ x) (h1 : x ≤ pg) (h2 : pg < x + m) (h3 : x + m ≤ pw (l * f)) (b0 : 0 ≤ b) (b1 : b < pw g) (hc : cnt < 10000) (hm : con 0 pg = none → (cnt : Int) < r.most) :
    (pg * pw g + b) / pw g = pg ∧ Ask A w B H r z l f g [⟨0, p, [⟨x, m, 3, none⟩]⟩] ds con cnt 0 (pg * pw g + b) := by
  obtain ⟨e1, e2⟩ := par_div (p := pg) b0 b1
  refine ⟨e1, h, ⟨_, List.mem_cons_self .., rfl, 3, ?_, hw⟩, ⟨?_, ?_⟩, hc, by rw [e1]; exact hm⟩
  · rw [e1]
    exact if_pos ⟨h1, h2⟩
  · exact Int.add_nonneg (Int.mul_nonneg (by omega) (by omega)) b0
  · have : (pg + 1) * pw g ≤ pw (l * f) * pw g := Int.mul_le_mul_of_nonneg_right (by omega) (by omega)
    rw [Int.add_mul, Int.one_mul] at this
    omega
def Ur (r : Ro) (d bd td : Addr) (c : Addr) : Prop := c = r.p ∨ c = r.sd ∨ c = r.hd ∨ c = d ∨ c = bd ∨ c = td
structure St51 (A : Adr) (B H : Hp) (r : Ro) (z : Hz) (l f g : Int) (p : Addr) (x m : Int) (d bd td : Addr) (con : Int → Int → Option (List Int)) (kv tk : Kvs) (i : Nat) : Prop where
  ra : RA A B H r z l f g [⟨0, p, [⟨x, m, 3, none⟩]⟩] [d] con tk.length
  rel : Rel g 0 x m kv con
  v : IntV kv
  kl : kv.length ≤ i
  b : H bd = some (.dK kv)
  t : H td = some (.dK tk)
  tl : tk.length ≤ i
  c : ∀ p, valV tk (Sum.inl p) = none ↔ con 0 p = none
  k : Kp (Ur r d bd td) B H
theorem ur_kind {A : Adr} {B : Hp} {r : Ro} {z : Hz} {l f g : Int} {tks : List Tk} {n : Int} {d bd td : Addr} (h : RB A B r z l f g tks [⟨n, d, []⟩]) (hb : B bd = some (.dK [])) (ht : B td = some (.dK [])) {c : Addr} {o : HO} (hc : Ur r d bd td c) (ho : B c = some o) : (∃ kvs, o = .dK kvs) ∨ ∃ C dx fs, o = .ins C dx fs ∧ fs.lookup ("made" : Str) ≠ none := by
  obtain ⟨dx, h1⟩ := h.s.me
  rcases hc with e | e | e | e | e | e
  · rw [e, h1] at ho; exact .inr ⟨_, _, _, (Option.some.inj ho).symm, by rw [roF_made]; exact fun z => nomatch z⟩
  · rw [e, h.s.s] at ho; exact .inl ⟨_, (Option.some.inj ho).symm⟩
  · rw [e, h.s.h] at ho; exact .inl ⟨_, (Option.some.inj ho).symm⟩
  · rw [e, (h.pe _ (List.mem_cons_self ..)).2] at ho; exact .inl ⟨_, (Option.some.inj ho).symm⟩
  · rw [e, hb] at ho; exact .inl ⟨_, (Option.some.inj ho).symm⟩
  · rw [e, ht] at ho; exact .inl ⟨_, (Option.some.inj ho).symm⟩
theorem ur_lst {A : Adr} {B : Hp} {r : Ro} {z : Hz} {l f g : Int} {tks : List Tk} {n : Int} {d bd td : Addr} (h : RB A B r z l f g tks [⟨n, d, []⟩]) (hb : B bd = some (.dK [])) (ht : B td = some (.dK [])) {c : Addr} {xs : List V} (ho : B c = some (.lst xs)) : ¬ Ur r d bd td c := fun hc => by
  rcases ur_kind h hb ht hc ho with ⟨_, e⟩ | ⟨_, _, _, e, _⟩ <;> cases e
theorem rows_of {A : Adr} {B H H0 H1 : Hp} {r : Ro} {z : Hz} {l f g : Int} {p : Addr} {x m : Int} {ds : List Addr} {con : Int → Int → Option (List Int)} {cnt : Nat} {R : List Rn} {kv : Kvs} {us : List V} (h : RA A B H r z l f g [⟨0, p, R⟩] ds con cnt) (hr : Rel g 0 x m kv con) (hul : us.length = m.toNat)
    (hrows : ∀ i : Nat, i < m.toNat → ∃ v, us[i]? = some v ∧ RowAt H0 H1 v (x + i) 3 (row g (con 0 (x + i)))) : Rows H0 H1 us x m (pw g) kv :=
  ⟨hul, fun i hi => let ⟨v, e1, e2⟩ := hrows i hi; ⟨v, _, e1, e2, h.row (t := ⟨0, p, R⟩) (List.mem_cons_self ..), fun j hj => by
    have := hr (x + i) j (by omega) (by omega) (by omega) (by omega)
    rw [Int.toNat_natCast] at this
    exact this⟩⟩
def Sq (o : HO) : Prop := (∀ kvs, o ≠ .dK kvs) ∧ ∀ C dx fs, o ≠ .ins C dx fs
theorem sq_keep {K : PySem.W.Frag} {H H' : Hp} {a : Addr} {xs : List V} (h : SqL K H a xs) (k : ∀ o, H a = some o → Sq o → H' a = some o) : SqL K H' a xs := by
  rcases h with (h | ⟨o, h⟩) | h
  · exact .inl (.inl (k _ h ⟨(fun _ z => nomatch z), (fun _ _ _ z => nomatch z)⟩))
  · exact .inl (.inr ⟨o, k _ h ⟨(fun _ z => nomatch z), (fun _ _ _ z => nomatch z)⟩⟩)
  · exact .inr h
theorem ur_sq {A : Adr} {B : Hp} {r : Ro} {z : Hz} {l f g : Int} {tks : List Tk} {n : Int} {d bd td : Addr} (h : RB A B r z l f g tks [⟨n, d, []⟩]) (hb : B bd = some (.dK [])) (ht : B td = some (.dK [])) {c : Addr} {o : HO} (ho : B c = some o) (s : Sq o) : ¬ Ur r d bd td c := fun hc => by
  rcases ur_kind h hb ht hc ho with ⟨_, e⟩ | ⟨_, _, _, e, _⟩
  · exact s.1 _ e
  · exact s.2 _ _ _ e
theorem body_law (T : Txt K mg A) : Body P w K mg base "law" s_law ["_law_script", "_law_levels", "_law_fan", "_law_grain", "_law_size", "_law_count", "_law_many", "_law_first", "_law_rooms", "_law_task", "_law_beside", "_law_boxes", "_law_touched", "_law_cell", "_law_page", "_law_address", "_law_told"] 14 (spLaw K) := by
  have H_Shape_init := h_init (P := P) (w := w) (base := base) T
  have H_Rooms_init := h_rinit (P := P) (w := w) (base := base) T
  have H_Rooms_new_task := h_rnt (P := P) (w := w) (base := base) T
  have H_Rooms_lay := h2_rlay (P := P) (w := w) (base := base) T
  have H2_Rooms_lay := h2_rlay (P := P) (w := w) (base := base) T
  have H_Rooms_read := h_read (P := P) (w := w) (base := base) T
  have H_Rooms_write := h_write (P := P) (w := w) (base := base) T
  have H_Rooms_seen_by := h_seen (P := P) (w := w) (base := base) T
  have H_Rooms_live_sheets := h_live (P := P) (w := w) (base := base) T
  have H_l_whole := h_whole (P := P) (w := w) (base := base) T
  have H_l_part := h_part (P := P) (w := w) (base := base) T
  have H_l_seen := h_lseen (P := P) (w := w) (base := base) T
  have H_l_access := h_acc (P := P) (w := w) (base := base) T
  have H_l_wide := h_wide (P := P) (w := w) (base := base) T
  intro f cdv A' outer s H vs Q E hr z
  obtain ⟨a, ns, rfl, hs, hns, qq⟩ := z
  have H_l_cell_at := h_cell (P := P) (w := w) (base := base) T a ns
  refine ⟨_, (pss_cons (ps_set (i := 1) sc_law.nd rfl (Or.inl rfl) (pe_op op_add pe_int (pe_op op_mod (pe_callE H_l_cell_at (hr.mono (by decide)) xw_def (pa_cons (pvM 0) (pa_cons pe_int pa_nil))) pe_int)))
      (pss_cons (ps_set (i := 2) sc_law.nd rfl (Or.inl rfl) (pe_op op_add pe_int (pe_op op_mod (pe_callE H_l_cell_at (hr.mono (by decide)) xw_def (pa_cons (pvM 0) (pa_cons pe_int pa_nil))) pe_int)))
      (pss_cons (ps_set (i := 3) sc_law.nd rfl (Or.inl rfl) (pe_op op_mod (pe_callE H_l_cell_at (hr.mono (by decide)) xw_def (pa_cons (pvM 0) (pa_cons pe_int pa_nil))) pe_int))
      (pss_cons (ps_set (i := 4) sc_law.nd rfl (Or.inl rfl) (pe_op op_shl pe_int (pvM 3)))
      (pss_cons (ps_set (i := 5) sc_law.nd rfl (Or.inl rfl) (pe_op op_shl pe_int (pe_op op_mul (pvM 1) (pvM 2))))
      (pss_cons (ps_set (i := 6) sc_law.nd rfl (Or.inl rfl) (pe_op op_add pe_int (pe_op op_mod (pe_callE H_l_cell_at (hr.mono (by decide)) xw_def (pa_cons (pvM 0) (pa_cons pe_int pa_nil))) pe_int)))
      (pss_cut (ps_if (pt_cmpR op_eq (pe_op op_mod (pe_op op_fdiv (pe_callE H_l_cell_at (hr.mono (by decide)) xw_def (pa_cons (pvM 0) (pa_cons pe_int pa_nil))) pe_int) pe_int) pe_int (nomark _)) (pss_one (ps_set (i := 6) sc_law.nd rfl (Or.inl rfl) (pe_op op_add pe_int (pe_op op_mod (pe_op op_fdiv (pe_callE H_l_cell_at (hr.mono (by decide)) xw_def (pa_cons (pvM 0) (pa_cons pe_int pa_nil))) pe_int) pe_int)))) pss_nil)
      (pss_cons (ps_set (i := 6) sc_law.nd rfl (Or.inl rfl) (pe_callB (call_min2 rfl) rfl T.b_min PyProof.Rows.boot_min (pa_cons (pvM 6) (pa_cons (pvM 5) pa_nil))))
      (pss_cons (ps_set (i := 7) sc_law.nd rfl (Or.inl rfl) (pe_op op_mod (pe_callE H_l_cell_at (hr.mono (by decide)) xw_def (pa_cons (pvM 0) (pa_cons pe_int pa_nil))) (pe_op op_add (pe_op op_sub (pvM 5) (pvM 6)) pe_int)))
      (pss_cut (ps_set (i := 8) sc_law.nd rfl (Or.inl rfl) (pe_makeE H_Rooms_init (hr.mono (by decide)) xw_def (pa_cons (pe_makeE H_Shape_init (hr.mono (by decide)) xw_def (pa_cons (pvM 1) (pa_cons (pvM 2) (pa_cons (pvM 3) pa_nil)))) (pa_cons pe_int pa_nil))))
      (pss_cons (ps_set (i := 9) sc_law.nd rfl (Or.inl rfl) (pe_methE0 (pvM 8) T.cl_Rooms H_Rooms_new_task (hr.mono (by decide)) xw_def))
      (pss_cons (ps_if (PW.pt (pw_or (pt_not (pt_val (pe_callE H_l_whole (hr.mono (by decide)) xw_def (pa_cons (pvM 9) (pa_cons pe_int pa_nil))))) (pw_or1 (pt_cmpR op_notN (pe_methE (pvM 8) T.cl_Rooms H2_Rooms_lay (hr.mono (by decide)) xw_def (pa_cons (pvM 9) (pa_cons (pvM 7) (pa_cons (pvM 6) (pa_cons pe_int pa_nil))))) pe_non (nomark _))))) (pss_one (ps_ret pe_bl)) pss_nil)
      (pss_cut (ps_set (i := 10) sc_law.nd rfl (Or.inl rfl) (pe_makeE H_Rooms_init (hr.mono (by decide)) xw_def (pa_cons (pe_makeE H_Shape_init (hr.mono (by decide)) xw_def (pa_cons (pvM 1) (pa_cons (pvM 2) (pa_cons (pvM 3) pa_nil)))) (pa_cons pe_int pa_nil))))
      (pss_cons (ps_expr (pe_methE0 (pvM 10) T.cl_Rooms H_Rooms_new_task (hr.mono (by decide)) xw_def))
      (pss_cons (ps_expr (pe_methE (pvM 10) T.cl_Rooms H2_Rooms_lay (hr.mono (by decide)) xw_def (pa_cons pe_int (pa_cons (pvM 7) (pa_cons (pvM 6) (pa_cons pe_int pa_nil))))))
      (pss_cons (ps_set (i := 11) sc_law.nd rfl (Or.inl rfl) pe_dnewK)
      (pss_cons (ps_set (i := 12) sc_law.nd rfl (Or.inl rfl) pe_dnewK)
      (pss_cons (ps_forE PassesOwn.leaving rfl (pi_list (pe_slice sl_list (pvM 0) (po_some pe_int) (po_some pe_int))) (pg_name (i := 13) sc_law.nd rfl (Or.inl rfl)) (pss_cons (ps_set (i := 14) sc_law.nd rfl (Or.inl rfl) (pe_op op_add (pvM 7) (pe_callE H_l_part (hr.mono (by decide)) xw_def (pa_cons (pvM 13) (pa_cons pe_int (pa_cons (pvM 6) pa_nil))))))
      (pss_cons (ps_set (i := 15) sc_law.nd rfl (Or.inl rfl) (pe_op op_add (pe_op op_mul (pvM 14) (pvM 4)) (pe_callE H_l_part (hr.mono (by decide)) xw_def (pa_cons (pvM 13) (pa_cons pe_int (pa_cons (pvM 4) pa_nil))))))
      (pss_cons (ps_dput (hu_of hr) (pvM 12) (pvM 14) pe_bl rfl)
      (pss_cons (ps_if (pt_not (pt_val (pe_callE H_l_access (hr.mono (by decide)) xw_def (@pa_cons _ _ _ _ _ (pvM 8) (@pa_cons _ _ _ _ _ (pvM 9) (@pa_cons _ _ _ _ _ (pvM 15) (@pa_cons _ _ _ _ _ (pvM 11) (@pa_cons _ _ _ _ _ (pvM 13) pa_nil rfl) rfl) rfl) rfl) rfl)))) (pss_one (ps_ret pe_bl)) pss_nil)
      (pss_one (ps_if (pt_not (pt_val (pe_callE H_l_whole (hr.mono (by decide)) xw_def (pa_cons (pe_methE0 (pvM 8) T.cl_Rooms H_Rooms_live_sheets (hr.mono (by decide)) xw_def) (pa_cons (pe_callB call_lenD rfl T.b_len PySem.boot_len (pa_cons (pvM 12) pa_nil)) pa_nil))))) (pss_one (ps_ret pe_bl)) pss_nil)))))))
      (pss_cons (ps_set (i := 16) sc_law.nd rfl (Or.inl rfl) (pe_methE (pvM 8) T.cl_Rooms H_Rooms_seen_by (hr.mono (by decide)) xw_def (pa_cons (pvM 9) pa_nil)))
      (pss_cons (ps_if (pt_not (pt_val (pe_callE H_l_seen (hr.mono (by decide)) xw_def (@pa_cons _ _ _ _ _ (pvM 16) (@pa_cons _ _ _ _ _ (pvM 7) (@pa_cons _ _ _ _ _ (pvM 6) (@pa_cons _ _ _ _ _ (pvM 4) (@pa_cons _ _ _ _ _ (pvM 11) pa_nil rfl) rfl) rfl) rfl) rfl)))) (pss_one (ps_ret pe_bl)) pss_nil)
      (pss_cons (ps_if (PW.pt (pw_or (pt_not (pt_val (pe_callE H_l_whole (hr.mono (by decide)) xw_def (pa_cons (pe_methE (pvM 10) T.cl_Rooms H_Rooms_read (hr.mono (by decide)) xw_def (pa_cons pe_int (pa_cons (pe_op op_mul (pvM 7) (pvM 4)) pa_nil))) (pa_cons pe_int pa_nil))))) (pw_or1 (pt_not (pt_val (pe_callE H_l_whole (hr.mono (by decide)) xw_def (pa_cons (pe_methE0 (pvM 10) T.cl_Rooms H_Rooms_live_sheets (hr.mono (by decide)) xw_def) (pa_cons pe_int pa_nil)))))))) (pss_one (ps_ret pe_bl)) pss_nil)
      (pss_cons (ps_expr (pe_methE (pvM 10) T.cl_Rooms H_Rooms_write (hr.mono (by decide)) xw_def (pa_cons pe_int (pa_cons (pe_op op_mul (pvM 7) (pvM 4)) (pa_cons pe_int pa_nil)))))
      (pss_cut (ps_if (PW.pt (pw_and (pt_cmpR op_eq (pe_op op_mod (pe_op op_fdiv (pe_callE H_l_cell_at (hr.mono (by decide)) xw_def (pa_cons (pvM 0) (pa_cons pe_int pa_nil))) pe_int) pe_int) pe_int (nomark _)) (pw_and1 (pt_not (pt_val (pe_callE H_l_wide (hr.mono (by decide)) xw_def (pa_cons (pe_callE H_l_cell_at (hr.mono (by decide)) xw_def (pa_cons (pvM 0) (pa_cons pe_int pa_nil))) pa_nil))))))) (pss_one (ps_ret pe_bl)) pss_nil)
      (pss_cons (ps_asg pe_int (pg_sub (pe_ix ix_tup (pe_ix ix_list (pvM 16) pe_int (fun _ _ => rfl)) pe_int (fun _ _ => rfl)) pe_int set_list))
      (pss_cons (ps_expr (pe_bm PySem.F.plainAttrs_list PySem.F.slot_list_append PySem.F.type_list_append mt_append (pvM 16) (pa_cons (pe_ix ix_list (pvM 16) pe_int (fun _ _ => rfl)) pa_nil)))
      (pss_one (ps_ret (pe_callE H_l_seen (hr.mono (by decide)) xw_def (@pa_cons _ _ _ _ _ (pe_methE (pvM 8) T.cl_Rooms H_Rooms_seen_by (hr.mono (by decide)) xw_def (pa_cons (pvM 9) pa_nil)) (@pa_cons _ _ _ _ _ (pvM 7) (@pa_cons _ _ _ _ _ (pvM 6) (@pa_cons _ _ _ _ _ (pvM 4) (@pa_cons _ _ _ _ _ (pvM 11) pa_nil rfl) rfl) rfl) rfl) rfl))))))))))))))))))))))))))))), ?_⟩
  unfold sp_cell
  walk_at "wp"
  have hl1 : 2 ≤ 2 + ns.getD 0 0 % 2 ∧ 2 + ns.getD 0 0 % 2 ≤ 3 := by omega
  have hf1 : 1 ≤ 1 + ns.getD 1 0 % 8 ∧ 1 + ns.getD 1 0 % 8 ≤ 8 := by omega
  have hg1 : 0 ≤ ns.getD 2 0 % 5 ∧ ns.getD 2 0 % 5 ≤ 4 := by omega
  generalize 2 + ns.getD 0 0 % 2 = l at *
  generalize 1 + ns.getD 1 0 % 8 = fn at *
  generalize ns.getD 2 0 % 5 = gr at *
  have hgd : gd l fn gr := ⟨hl1.1, hl1.2, hf1.1, hf1.2, hg1.1, hg1.2⟩
  have hm24 := mul_24 hl1.1 hl1.2 hf1.1 hf1.2
  have hpp := gd_pw hgd
  have e2 : (1 : Int) * 2 ^ gr.toNat = pw gr := by unfold pw; omega
  have e3 : (1 : Int) * 2 ^ (l * fn).toNat = pw (l * fn) := by unfold pw; omega
  rw [e2, e3]
  refine ⟨hs, hs, hs, by omega, by omega, by decide, .inl (by omega), by omega, by omega, by decide, hs, ?_⟩
  refine ⟨fun σ H' => ∃ m : Int, σ = [some (.ref a), some (.int l), some (.int fn), some (.int gr), some (.int (pw gr)), some (.int (pw (l * fn))), some (.int m), none, none, none, none, none, none, none, none, none, none] ∧ (1 ≤ m ∧ m ≤ 64) ∧ H' = H, ?_, fun σ' H' => ?_⟩
  · walk_at "wp"
    refine ⟨hs, ite2 (fun _ => ⟨hs, by omega, by omega⟩) (fun _ => ⟨by omega, by omega⟩)⟩
  rintro ⟨m0, rfl, hm0, rfl⟩
  walk_at "wp"
  obtain ⟨m, hmm, hm⟩ : ∃ m, m = (if pw (l * fn) < m0 then pw (l * fn) else m0) ∧ 1 ≤ m ∧ m ≤ 64 ∧ m ≤ pw (l * fn) := by
    by_cases c : pw (l * fn) < m0
    · exact ⟨_, rfl, by rw [if_pos c]; omega⟩
    · exact ⟨_, rfl, by rw [if_neg c]; omega⟩
  rw [← hmm]
  refine ⟨hs, by omega, ?_⟩
  have hx : 0 ≤ ns.getD 4 0 % (pw (l * fn) - m + 1) ∧ ns.getD 4 0 % (pw (l * fn) - m + 1) + m ≤ pw (l * fn) := by
    have h1 := Int.emod_nonneg (ns.getD 4 0) (show pw (l * fn) - m + 1 ≠ 0 by omega)
    have h2 := Int.emod_lt_of_pos (ns.getD 4 0) (show 0 < pw (l * fn) - m + 1 by omega)
    omega
  generalize ns.getD 4 0 % (pw (l * fn) - m + 1) = x at *
  have hfit : fitsB x m (pw (l * fn)) = true := decide_eq_true (by omega)
  refine ⟨fun σ H1 => ∃ r z, σ = [some (.ref a), some (.int l), some (.int fn), some (.int gr), some (.int (pw gr)), some (.int (pw (l * fn))), some (.int m), some (.int x), some (.ref r.p), none, none, none, none, none, none, none, none] ∧ r.most = 64 ∧ RB A H1 r z l fn gr [] [] ∧ New H' H1 r z [] [], ?_, fun σ' H1 => ?_⟩
  · unfold spInit
    walk_at "wp"
    refine fun x dx hx hdx hne => ?_
    rw [if_pos (good_of hgd)]
    refine mk_rooms hgd hx hdx (fun r z H' hm s1 hB hf hp => ?_)
    exact ⟨rfl, r, rfl, hm, z, hB, s1, fun c hc => (List.mem_cons.mp hc).elim (fun e => by rw [e]; exact hp) (hf c), fun t ht => by simp at ht⟩
  rintro ⟨r, z, rfl, hmo, hB1, hN1⟩
  walk_at "wp"
  obtain ⟨dx1, h1⟩ := hB1.s.me
  refine ⟨dx1, _, h1, roF_no (by decide +kernel), r, z, l, fn, gr, [], [], rfl, hB1, by decide, fun k p d H2 hL hB2 hp hd hk2 => ?_⟩
  obtain ⟨rfl, hB2, hN2⟩ := hN1.task hL hB2 hp hd hk2
  obtain ⟨dx2, h2⟩ := hB2.s.me
  refine ⟨_, _, rfl, _, rfl, iteF ⟨dx2, _, h2, roF_no (by decide +kernel), r, z, l, fn, gr, _, _, _, _, _, _, ⟨0, p, []⟩, rfl, hB2, List.mem_cons_self .., rfl, rfl, hfit, by omega, by omega, fun H3 hB3 bu3 => ?_⟩⟩
  walk_at "wp"
  refine iteF ?_
  obtain ⟨hB3, hN3⟩ := hN2.lay hB3 bu3
  clear hB1 hN1 hB2 hN2 h1 h2 hL hp hd hk2 bu3
  refine ⟨fun σ H4 => ∃ rb zb, σ = [some (.ref a), some (.int l), some (.int fn), some (.int gr), some (.int (pw gr)), some (.int (pw (l * fn))), some (.int m), some (.int x), some (.ref r.p), some (.int 0), some (.ref rb.p), none, none, none, none, none, none] ∧ rb.most = 64 ∧ RB A H4 rb zb l fn gr [] [] ∧ New H3 H4 rb zb [] [], ?_, fun σ' H4 => ?_⟩
  · unfold spInit
    walk_at "wp"
    refine fun x dx hx hdx hne => ?_
    rw [if_pos (good_of hgd)]
    refine mk_rooms hgd hx hdx (fun r z H' hm s1 hB hf hp => ?_)
    exact ⟨rfl, rfl, r, rfl, hm, z, hB, s1, fun c hc => (List.mem_cons.mp hc).elim (fun e => by rw [e]; exact hp) (hf c), fun t ht => by simp at ht⟩
  rintro ⟨rb, zb, rfl, hmb, hB4, hN4⟩
  walk_at "wp"
  obtain ⟨dx4, h4⟩ := hB4.s.me
  refine ⟨dx4, _, h4, roF_no (by decide +kernel), rb, zb, l, fn, gr, [], [], rfl, hB4, by decide, fun k pb db H5 hL hB5 hp hd hk5 => ?_⟩
  obtain ⟨rfl, hB5, hN5⟩ := hN4.task hL hB5 hp hd hk5
  obtain ⟨dx5, h5⟩ := hB5.s.me
  refine ⟨dx5, _, h5, roF_no (by decide +kernel), rb, zb, l, fn, gr, _, _, _, _, _, _, ⟨0, pb, []⟩, rfl, hB5, List.mem_cons_self .., rfl, rfl, hfit, by omega, by omega, fun H6 hB6 bu6 => ?_⟩
  walk_at "wp"
  obtain ⟨hB6, hN6⟩ := hN5.lay hB6 bu6
  clear hB4 hN4 hB5 hN5 h4 h5 hL hp hd hk5 bu6
  have hA6 := hB3.same hN6.s
  intro bd hbd td htd
  have s7 := same_upd (o := .dK []) (same_refl (H := H6)) hbd
  have hbd7 : upd H6 bd (.dK []) bd = some (.dK []) := upd_same
  generalize upd H6 bd (.dK []) = H7 at *
  have s8 := same_upd (o := .dK []) (same_refl (H := H7)) htd
  have htd8 : upd H7 td (.dK []) td = some (.dK []) := upd_same
  generalize upd H7 td (.dK []) = H8 at *
  have s68 := s7.trans s8
  have hsl : SqL K H8 a (ns.map V.int) := (hN3.s.trans (hN6.s.trans s68)).seq hs
  refine ⟨_, hsl, fun sl hslN => ?_⟩
  have hcut : cutV (ns.map V.int) (some 5) (some 75) = ((ns.take 75).drop 5).map V.int := by rw [show cutV (ns.map V.int) (some 5) (some 75) = ((ns.map V.int).take 75).drop 5 from cutV_nat (lo := 5) (hi := 75), ← List.map_take, ← List.map_drop]
  rw [hcut]
  have hclen : ((ns.take 75).drop 5).length ≤ 58 := by rw [List.length_drop, List.length_take]; omega
  generalize (ns.take 75).drop 5 = cs at *
  have s9 := same_upd (o := .lst (cs.map V.int)) (same_refl (H := H8)) hslN
  have hsl9 : upd H8 sl (.lst (cs.map V.int)) sl = some (.lst (cs.map V.int)) := upd_same
  generalize upd H8 sl (.lst (cs.map V.int)) = B at *
  have s69 := s68.trans s9
  have hA := hA6.same s69
  have hBb := hB6.same s69
  have hbdB := s9 _ _ (s8 _ _ hbd7)
  have htdB := s9 _ _ htd8
  have hbdN : B bd ≠ none := by rw [hbdB]; exact Option.some_ne_none _
  have htdN : B td ≠ none := by rw [htdB]; exact Option.some_ne_none _
  have ntb : td ≠ bd := fun e => by rw [e, hbd7] at htd; cases htd
  have exR := hB3.ex
  have noB := hN6.n
  have exR6 := hA6.ex
  have exB6 := hB6.ex
  have htd6 : H6 td = none := same_none s7 htd
  have neT : ∀ c ∈ r.p :: dks r z [⟨0, d, []⟩], td ≠ c := fun c hc => (apart (exR6 c hc) htd6).symm
  have neB : ∀ c ∈ r.p :: dks r z [⟨0, d, []⟩], bd ≠ c := fun c hc => (apart (exR6 c hc) hbd).symm
  have neT' : ∀ c ∈ rb.p :: dks rb zb [⟨0, db, []⟩], td ≠ c := fun c hc => (apart (exB6 c hc) htd6).symm
  have neB' : ∀ c ∈ rb.p :: dks rb zb [⟨0, db, []⟩], bd ≠ c := fun c hc => (apart (exB6 c hc) hbd).symm
  have neR : ∀ c ∈ r.p :: dks r z [⟨0, d, []⟩], ∀ e ∈ rb.p :: dks rb zb [⟨0, db, []⟩], c ≠ e := fun c hc e he => apart (exR c hc) (noB e he)
  refine ⟨⟨_, SqL.of hsl9⟩, loop_list (K := K) (xs := cs.map V.int) (fun i σ H' => ∃ v13 v14 v15 con kv tk, σ = [some (.ref a), some (.int l), some (.int fn), some (.int gr), some (.int (pw gr)), some (.int (pw (l * fn))), some (.int m), some (.int x), some (.ref r.p), some (.int 0), some (.ref rb.p), some (.ref bd), some (.ref td), v13, v14, v15, none] ∧ St51 A B H' r z l fn gr p x m d bd td con kv tk i) ⟨_, _, _, (fun _ _ => none), [], [], rfl, hA.ra, fun _ _ _ _ _ _ => row_none, fun a v h => (by cases h), Nat.le_refl _, hbdB, htdB, Nat.le_refl _, fun _ => ⟨fun _ => rfl, fun _ => rfl⟩, fun c o h _ => h, fun c h => h⟩ (fun i σ H' _ ⟨_, _, _, _, _, _, _, h⟩ => SqL.of (h.k.1 _ _ hsl9 (ur_lst hA hbdB htdB hsl9))) (fun i v σ H' hi => ?_) (fun σ H' => ?_)⟩
  · rintro ⟨v13, v14, v15, con, kv, tk, rfl, hSt⟩
    rw [List.getElem?_map] at hi
    obtain ⟨c, hc, rfl⟩ : ∃ c, cs[i]? = some c ∧ v = V.int c := by
      cases e : cs[i]? with
      | none => rw [e] at hi; cases hi
      | some c => rw [e] at hi; exact ⟨c, rfl, (Option.some.inj hi).symm⟩
    have hil : i < cs.length := (List.getElem?_eq_some_iff.mp hc).1
    unfold sDPut
    walk_at "wp"
    refine ⟨c, 0, m, rfl, by omega, by omega, by omega, fun v0 H1 hv0 hv1 s1 => ?_⟩
    walk_at "wp"
    refine ⟨.inr ⟨by omega, by omega⟩, c, 1, pw gr, rfl, by omega, by omega, by omega, fun v1 H2 hw0 hw1 s2 => ?_⟩
    walk_at "wp"
    have s12 := s1.trans s2
    have htd2 := s12 _ _ hSt.t
    have htl := hSt.tl
    have hkl := hSt.kl
    have hz := PySem.sizeLine_eq
    refine ⟨_, .inl ⟨tk, Sum.inl (x + v0), htd2, rfl, by omega, rfl⟩, ?_⟩
    have hk : Kd td H2 (upd H2 td (.dK (putK tk (Sum.inl (x + v0)) (.bl true)))) := kd_upd
    have htd3 : upd H2 td (.dK (putK tk (Sum.inl (x + v0)) (.bl true))) td = some (.dK (putK tk (Sum.inl (x + v0)) (.bl true))) := upd_same
    have hdm := kd_none hk htd3
    generalize upd H2 td (.dK (putK tk (Sum.inl (x + v0)) (.bl true))) = G at hk htd3 hdm ⊢
    have hR3 : RA A B G r z l fn gr [⟨0, p, [⟨x, m, 3, none⟩]⟩] [d] con tk.length := (hSt.ra.same s12).kp (U := (· = td)) ⟨fun c o h n => hk _ _ h n, hdm⟩ (fun c e => by rw [e]; exact ⟨neT _ (by unfold dks; simp), neT _ (by unfold dks; simp), neT _ (by unfold dks; simp), neT _ (by unfold dks; simp), fun z => neT d (by unfold dks; simp) (List.mem_singleton.mp z)⟩) (fun c o e h => by rw [e] at h ⊢; rw [htd2] at h; exact .inl ⟨_, (Option.some.inj h).symm, neT _ (by unfold dks; simp), neT _ (by unfold dks; simp)⟩)
    obtain ⟨ed, ask1⟩ := ask_one (w := 1) (pg := x + v0) (b := v1) hR3 (by decide) hx.1 (by omega) (by omega) hx.2 hw0 hw1 (by omega) (fun _ => by rw [hmo]; omega)
    obtain ⟨_, ask2⟩ := ask_one (w := 2) (pg := x + v0) (b := v1) hR3 (by decide) hx.1 (by omega) (by omega) hx.2 hw0 hw1 (by omega) (fun _ => by rw [hmo]; omega)
    refine ⟨B, r, z, l, fn, gr, _, [d], con, tk.length, 0, (x + v0) * pw gr + v1, x, m, c, bd, kv, rfl, ask1, ask2, hSt.rel, hSt.v, by rw [ed]; omega, by rw [ed]; omega, by omega, hk _ _ (s12 _ _ hSt.b) ntb.symm, by omega, hbdN, neB _ (by unfold dks; simp), neB _ (by unfold dks; simp), neB _ (by unfold dks; simp), neB _ (by unfold dks; simp), fun z => neB d (by unfold dks; simp) (List.mem_singleton.mp z), neB _ (by unfold dks; simp), neB _ (by unfold dks; simp), fun con' kv' G2 hR4 hRel4 hI4 hl4 hb4 hcn4 hco4 fr4 dm4 => ?_⟩
    rw [ed] at hR4 hcn4 hco4
    have htd4 : G2 td = some (.dK (putK tk (Sum.inl (x + v0)) (.bl true))) := fr4 td _ htd3 htdN (neT _ (by unfold dks; simp)) (neT _ (by unfold dks; simp)) (neT _ (by unfold dks; simp)) (fun z => neT d (by unfold dks; simp) (List.mem_singleton.mp z)) ntb
    have hlen : (putK tk (Sum.inl (x + v0)) (.bl true)).length = tk.length + if con 0 (x + v0) = none then 1 else 0 := by
      by_cases e : con 0 (x + v0) = none
      · rw [if_pos e, putK_new _ ((hSt.c _).mpr e), List.length_append]; rfl
      · rw [if_neg e, putK_in (fun z => e ((hSt.c _).mp z))]; rfl
    rw [← hlen] at hR4
    obtain ⟨made, S, hSh, hSl⟩ := hR4.sh'
    obtain ⟨dxs, hs1⟩ := hSh.me
    have hpl := len_putK (kv := tk) (k := Sum.inl (x + v0)) (u := .bl true)
    refine ⟨true, rfl, iteF ⟨dxs, _, hs1, roF_no (by decide +kernel), r, made, S, rfl, hSh, ?_⟩⟩
    walk_at "wp"
    refine ⟨_, htd4, _, _, rfl, _, rfl, ?_⟩
    rw [hSl, decide_eq_true rfl]
    refine iteF ⟨con', kv', _, hR4, hRel4, hI4, by omega, hb4, htd4, by omega, fun p' => ?_, fun c o h n => fr4 c o (hk _ _ (s12 _ _ (hSt.k.1 c o h n)) (fun e => n (.inr (.inr (.inr (.inr (.inr e))))))) (by rw [h]; exact fun z => nomatch z) (fun e => n (.inl e)) (fun e => n (.inr (.inl e))) (fun e => n (.inr (.inr (.inl e)))) (fun z => n (.inr (.inr (.inr (.inl (List.mem_singleton.mp z)))))) (fun e => n (.inr (.inr (.inr (.inr (.inl e)))))), fun c h => hSt.k.2 c (same_none s12 (hdm c (dm4 c h)))⟩
    rw [valV_put]
    by_cases e : p' = x + v0
    · rw [if_pos (by rw [e]), e]; exact ⟨(fun z => nomatch z), fun z => absurd z hcn4⟩
    · rw [if_neg (fun z => e (Sum.inl.inj z)), hco4 p' e]; exact hSt.c p'
  · rintro ⟨v13, v14, v15, con, kv, tk, rfl, hSt⟩
    walk_at "wp"
    obtain ⟨made, S, hSh, hSl⟩ := hSt.ra.sh'
    obtain ⟨dx1, h1⟩ := hSh.me
    refine ⟨dx1, _, h1, roF_no (by decide +kernel), B, r, z, l, fn, gr, _, [d], con, tk.length, 0, ⟨0, p, [⟨x, m, 3, none⟩]⟩, x, m, 3, rfl, hSt.ra, List.mem_cons_self .., rfl, rfl, hx.1, by omega, by omega, by omega, fun b us G1 s1 hb0 hb1 hul hrows => ?_⟩
    have hW := rows_of hSt.ra hSt.rel hul hrows
    walk_at "wp"
    have key : ∀ c, Ur r d bd td c → ∀ e ∈ rb.p :: dks rb zb [⟨0, db, []⟩], c ≠ e := by
      rintro c (e | e | e | e | e | e) u hu <;> rw [e]
      · exact neR _ (by unfold dks; simp) u hu
      · exact neR _ (by unfold dks; simp) u hu
      · exact neR _ (by unfold dks; simp) u hu
      · exact neR _ (by unfold dks; simp) u hu
      · exact neB' u hu
      · exact neT' u hu
    have hBH := hBb.kp hSt.k (fun c hc => ⟨key c hc _ (by unfold dks; simp), key c hc _ (by unfold dks; simp), key c hc _ (by unfold dks; simp), key c hc _ (by unfold dks; simp), fun h => key c hc db (by unfold dks; simp) (List.mem_singleton.mp h)⟩) (fun c o hc ho => (ur_kind hA hbdB htdB hc ho).elim (fun ⟨kvs, e⟩ => .inl ⟨kvs, e, key c hc _ (by unfold dks; simp), key c hc _ (by unfold dks; simp)⟩) .inr)
    have hBG := hBH.same s1
    have hRb := hBG.ra
    obtain ⟨eb, askb⟩ := ask_one (w := 1) (pg := x) (b := 0) hRb (by decide) hx.1 (Int.le_refl _) (by omega) hx.2 (by omega) (by omega) (by omega) (fun _ => by rw [hmb]; decide)
    rw [Int.add_zero] at eb askb
    obtain ⟨dxb, hb2⟩ := hBG.s.me
    refine ⟨H', b, bd, us, kv, x, m, pw gr, rfl, hb1, s1 _ _ hSt.b, hSt.v, hW, by omega, by omega, by omega, by omega, by omega, by omega, ?_⟩
    walk_at "wp"
    refine iteF ⟨dxb, _, hb2, roF_no (by decide +kernel), .inl ⟨by omega, by omega⟩, G1, rb, zb, l, fn, gr, _, _, _, 0, 0, x * pw gr, rfl, askb, fun G2 hR2 fr2 => ?_⟩
    walk_at "wp"
    refine ⟨_, _, rfl, _, rfl, ?_⟩
    rw [eb] at hR2
    rw [row_none, decide_eq_true rfl]
    rw [if_pos rfl] at hR2
    obtain ⟨made2, S2, hSh2, hSl2⟩ := hR2.sh'
    obtain ⟨dx2, h2⟩ := hSh2.me
    refine iteF ⟨dx2, _, h2, roF_no (by decide +kernel), rb, made2, S2, rfl, hSh2, ?_⟩
    walk_at "wp"
    refine ⟨_, _, rfl, _, rfl, ?_⟩
    rw [hSl2, decide_eq_true (show ((0 + 1 : Nat) : Int) = 1 from rfl)]
    obtain ⟨_, askw⟩ := ask_one (w := 2) (pg := x) (b := 0) hR2 (by decide) hx.1 (Int.le_refl _) (by omega) hx.2 (by omega) (by omega) (by show (0 + 1 : Nat) < 10000; decide) (fun h => by unfold cset at h; rw [if_pos ⟨rfl, rfl⟩] at h; cases h)
    rw [Int.add_zero] at askw
    refine iteF ⟨dx2, _, h2, roF_no (by decide +kernel), .inl ⟨by omega, by omega⟩, G1, rb, zb, l, fn, gr, _, _, _, _, 0, x * pw gr, 9, rfl, askw, fun G3 hR3 fr3 => ?_⟩
    walk_at "wp"
    have fr := fr2.trans fr3
    have hdbG : G1 db = some (.dK []) := (hBG.pe _ (List.mem_cons_self ..)).2
    have keep : ∀ {c : Addr} {o : HO}, G1 c = some o → ¬ Ur rb db db db c → G3 c = some o := fun h n => fr.1 _ _ h (by rw [h]; exact Option.some_ne_none _) (fun e => n (.inl e)) (fun e => n (.inr (.inl e))) (fun e => n (.inr (.inr (.inl e)))) (fun e => n (.inr (.inr (.inr (.inl (List.mem_singleton.mp e))))))
    have okeep : ∀ {c : Addr} {o : HO}, G1 c = some o → Sq o → G3 c = some o := fun h s => keep h (ur_sq hBG hdbG hdbG h s)
    have lkeep : ∀ {c : Addr} {ys : List V}, G1 c = some (.lst ys) → G3 c = some (.lst ys) := fun h => okeep h ⟨(fun _ z => nomatch z), (fun _ _ _ z => nomatch z)⟩
    have tkeep : ∀ {c : Addr} {ys : List V}, G1 c = some (.tup ys) → G3 c = some (.tup ys) := fun h => okeep h ⟨(fun _ z => nomatch z), (fun _ _ _ z => nomatch z)⟩
    have hsG : SqL K G3 a (ns.map V.int) := sq_keep (s9.seq hsl) (fun o h s => okeep (s1 _ _ (hSt.k.1 _ _ h (ur_sq hA hbdB htdB h s))) s)
    refine ⟨fun σ G4 => σ = [some (.ref a), some (.int l), some (.int fn), some (.int gr), some (.int (pw gr)), some (.int (pw (l * fn))), some (.int m), some (.int x), some (.ref r.p), some (.int 0), some (.ref rb.p), some (.ref bd), some (.ref td), v13, v14, v15, some (.ref b)] ∧ Same G3 G4, ?_, fun σ' G4 => ?_⟩
    · unfold sp_wide
      walk_at "wp"
      exact ⟨hsG, ite2 (fun _ => ⟨hsG, fun G4 s4 => iteF s4⟩) (fun _ => iteF same_refl)⟩
    rintro ⟨rfl, s4⟩
    obtain ⟨w0, hw1, a0, c0, rfl, hw2, hw3, hw4⟩ := hrows 0 (by omega)
    have hb4 := s4 _ _ (lkeep hb1)
    have ha4 := s4 _ _ (tkeep hw2)
    have hc4 := s4 _ _ (lkeep hw3)
    have nbc : b ≠ c0 := fun e => by
      rw [← e, hb1] at hw3
      have e1 := HO.lst.inj (Option.some.inj hw3)
      rw [e1, List.getElem?_map] at hw1
      cases e2 : (row gr (con 0 (x + ((0 : Nat) : Int))))[0]? with
      | none => rw [e2] at hw1; cases hw1
      | some v => rw [e2] at hw1; cases hw1
    have hrl : (row gr (con 0 (x + ((0 : Nat) : Int)))).length = (pw gr).toNat := hSt.ra.row (t := ⟨0, p, [⟨x, m, 3, none⟩]⟩) (List.mem_cons_self ..)
    walk_at "wp"
    refine ⟨_, SqL.of hb4, .ref a0, atI_nat (j := 0) hw1, a0, rfl, _, SqT.of ha4, .ref c0, rfl, c0, rfl, _, hc4, 0, ixN_in (n := ((row gr (con 0 (x + ((0 : Nat) : Int)))).map V.int).length) (i := 0) (Int.le_refl _) (by rw [List.length_map, hrl]; omega), ?_⟩
    have hb5 : upd G4 c0 (.lst (((row gr (con 0 (x + ((0 : Nat) : Int)))).map V.int).set 0 (.int 7))) b = some (.lst us) := by rw [upd_ne nbc]; exact hb4
    have hk5 : Kd c0 G4 (upd G4 c0 (.lst (((row gr (con 0 (x + ((0 : Nat) : Int)))).map V.int).set 0 (.int 7)))) := kd_upd
    have hn5 := kd_none hk5 upd_same
    generalize upd G4 c0 (.lst (((row gr (con 0 (x + ((0 : Nat) : Int)))).map V.int).set 0 (.int 7))) = G5 at hb5 hk5 hn5 ⊢
    refine ⟨.inl ⟨rfl, _, SqL.of hb5⟩, _, SqL.of hb5, .ref a0, atI_nat (j := 0) hw1, us, hb5, by omega, ?_⟩
    have hk6 : Kd b G5 (upd G5 b (.lst (us ++ [V.ref a0]))) := kd_upd
    have hn6 := kd_none hk6 upd_same
    generalize upd G5 b (.lst (us ++ [V.ref a0])) = G6 at hk6 hn6 ⊢
    have mem2 : ∀ c, Ur rb db db db c → c ∈ rb.p :: dks rb zb [⟨0, db, []⟩] := by
      rintro c (e | e | e | e | e | e) <;> rw [e] <;> unfold dks <;> simp
    have hdbH : H' db = some (.dK []) := (hBH.pe _ (List.mem_cons_self ..)).2
    have kp6 : Kp (Ur rb db db db) H' G6 := ⟨fun c o h n => hk6 _ _ (hk5 _ _ (s4 _ _ (keep (s1 _ _ h) n)) (ne_of_none h hw4)) (ne_of_none h hb0), fun c h => same_none s1 (fr.2 c (same_none s4 (hn5 c (hn6 c h))))⟩
    have hR6 := hSt.ra.kp kp6 (fun c hc => ⟨(neR _ (by unfold dks; simp) c (mem2 c hc)).symm, (neR _ (by unfold dks; simp) c (mem2 c hc)).symm, (neR _ (by unfold dks; simp) c (mem2 c hc)).symm, (neR _ (by unfold dks; simp) c (mem2 c hc)).symm, fun h => neR d (by unfold dks; simp) c (mem2 c hc) (List.mem_singleton.mp h).symm⟩) (fun c o hc ho => (ur_kind hBH hdbH hdbH hc ho).elim (fun ⟨kvs, e⟩ => .inl ⟨kvs, e, (neR _ (by unfold dks; simp) c (mem2 c hc)).symm, (neR _ (by unfold dks; simp) c (mem2 c hc)).symm⟩) .inr)
    have hbd6' : G6 bd = some (.dK kv) := kp6.1 _ _ hSt.b (fun hc => neB' bd (mem2 bd hc) rfl)
    obtain ⟨made6, S6, hSh6, _⟩ := hR6.sh'
    obtain ⟨dx6, h6⟩ := hSh6.me
    refine ⟨dx6, _, h6, roF_no (by decide +kernel), B, r, z, l, fn, gr, _, [d], con, tk.length, 0, ⟨0, p, [⟨x, m, 3, none⟩]⟩, x, m, 3, rfl, hR6, List.mem_cons_self .., rfl, rfl, hx.1, by omega, by omega, by omega, fun b7 us7 G7 s7' hb70 hb71 hul7 hrows7 => ?_⟩
    exact ⟨G6, b7, bd, us7, kv, x, m, pw gr, rfl, hb71, s7' _ _ hbd6', hSt.v, rows_of hR6 hSt.rel hul7 hrows7, by omega, by omega, by omega, by omega, by omega, by omega, qq _⟩

end

theorem walk {l : PySem.W.OpenLaw} {q : Program} {loose : List Str} {XP : (Str → Option Value) → Heap → Prop} {YP : World → Heap → Prop} {d : DefRec} {K : Params → PySem.W.Frag} (hn : l.most = some 63) (hdf : d.params.defaults = []) (hdn : d.name = "law")
    (hY : ∀ (w : World) (h : Heap), YP w h → (K w.params).In h)
    (F : ∀ (w : World) (mg : Str → Option Value) (h : Heap), (K w.params).In h → h.Ns mainGlobals mg → ∃ A : Adr, Txt (K w.params) mg A) :
    PySem.W.WalkO q loose XP YP l.row.toRowW d [] (fun f vs => PySem.call f vs) := by
  refine L2.walk_of (n := 63) (k := 14 + 1) (x := "_law_script") (CX := fun w => CXe l.prog w) (sp := fun w => spLaw (K w.params)) hn (by decide) hdf ⟨rfl, by decide, by decide⟩ hY ?_ (fun _ _ a ns hl _ hS => ⟨a, ns, rfl, hS, hl, fun _ => rfl⟩) fun _ _ _ _ _ ⟨_, _, _, _, _, _, _, _, _, _, z⟩ => z
  intro w mg fa h KX G hmg
  rw [hdn] at hmg
  obtain ⟨A, T⟩ := F w mg h KX G
  obtain ⟨f, fd, e, Fn, hb⟩ := T.r_law
  have e0 := hmg.symm.trans e
  cases e0
  exact ⟨fd, hb, fun base _ _ => Fn.okE sc_law (fun vs H Q E z => by obtain ⟨a, ns, rfl, _⟩ := z; rfl) (body_law (P := l.prog) (w := w) (base := base) T)⟩

noncomputable section
open Hd
def z0 : Nat := 47884302127889780188258075874699013320280740506158821128822874733
def z1 : Nat := 27127582262911072
def z2 : Nat := 9700865007064396754801562313776
def z3 : Nat := 469986605152
def z4 : Nat := 545146499936607105348423
def z5 : Nat := 28835115112362063
def z6 : Nat := 2037243915540886812240
def z7 : Nat := 2148282720731175150147
def z8 : Nat := 119247121772623
def z9 : Nat := 119225645756495
def z10 : Nat := 2000274411557569787472
def z11 : Nat := 478459748949
def z12 : Nat := 1870502957375938719823
def z13 : Nat := 33048469456515151
def z14 : Nat := 121429199908943
def z15 : Nat := 7380678962623575146
def z16 : Nat := 2055256381122481779818
def z17 : Nat := 36042203234783605173055285604
def z18 : Nat := 113732351258470
def z19 : Nat := 7957987429399816821
def z20 : Nat := 29115482190865009
def z21 : Nat := 31367281986924648
def z22 : Nat := 483571264869516729017965
def z23 : Nat := 34807946493563893454802022513
def z24 : Nat := 2360876520579034574696528942098788
def z25 : Nat := 36328676245180164783460216160
def z26 : Nat := 483700176494498687380832
def z27 : Nat := 140785078389220449424928096
def z28 : Nat := 455125450472104437637216
def z29 : Nat := 154789842426610354947036250589871895399
def z30 : Nat := 500416517772168279997240570217455712
def z31 : Nat := 140854816109632365363434125429399349832812124725344
def z32 : Nat := 116512133262362862868258912
def z33 : Nat := 128047628446323
def z34 : Nat := 2595807759375494792423391711955702693320880999
def z35 : Nat := 1718116977
def z36 : Nat := 504464894567
def z37 : Nat := 1735222900
def z38 : Nat := 6944679725401530464
def z39 : Nat := 2054120046
def z40 : Nat := 435727529576
def z41 : Nat := 2165357850485127146099
def z42 : Nat := 1819239011
def z43 : Nat := 6944679699547512928
def z44 : Nat := 126883592042095
def z45 : Nat := 531976422797234828493252396058833767
def z46 : Nat := 1819566709
def z47 : Nat := 7814979509663852143
def z48 : Nat := 7814979509662609254
def z49 : Nat := 7813572057470887535
def z50 : Nat := 2000274446712430424933
def z51 : Nat := 32779080669947234
def z52 : Nat := 2166657694140852363893
def z53 : Nat := 2166657694140852036195
def z54 : Nat := 32012811197779588502284105076
def z55 : Nat := 604546409002214677880256391643558759
def z56 : Nat := 499934323313
def z57 : Nat := 154722361499902317960303193115794240359
def z58 : Nat := 2018578202597599112544
def z59 : Nat := 549684830511739187653984
def z60 : Nat := 549831755963574708759904
def z61 : Nat := 29827101539148240018006499424
def s (n t : Nat) : Value := .str (S n) t
def i (n : Int) : Value := .int n 0
def e (P : Params) (n t : Nat) (v : Value) : DictEntry := ent P (S n) t v
def fO (a b : String) (x : Stmt) (m r : Value) : Obj := ⟨.type "function", none, .func (PySem.W.fnOf (Str.ofString a) (Str.ofString b) (defArgs x) (defBody x) (defScope x) .none .none .none m none r .none), #[]⟩
def o2 (_ : Params) : Obj := ⟨.none, none, .dict ⟨[]⟩ 0, #[]⟩
def o3 (P : Params) : Obj := dO 47 [e P 6944663249689206880 165 (s z0 1227), e P z1 166 .none, e P 116512114954948911152848992 167 .none, e P 455126385231797511086176 168 (.builtin "__main__.__loader__#opaque"), e P 6944661016558198880 169 .none, e P 500416834696884185539869749159288928 170 (.ref 6), e P 29827167671303893903271485536 171 (.ref 4), e P 6944663245527933024 173 (s z2 172), e P 455125376429887381069920 174 .none, e P z3 193 (.ref 21), e P 1161971283 195 (.int (1) 194), e P 302078645080 197 (.int (2) 196), e P z4 217 (.ref 31), e P z5 233 (.ref 44), e P z6 249 (.ref 56), e P z7 265 (.ref 68), e P z8 281 (.ref 80), e P z9 297 (.ref 92), e P z10 313 (.ref 104), e P z11 329 (.ref 116), e P z12 345 (.ref 128), e P z13 361 (.ref 140), e P z14 377 (.ref 152), e P z15 386 (.ref 161), e P z16 395 (.ref 168), e P 101952521820057743536705614 399 (.int (3) 398), e P z17 406 (.ref 175), e P z18 413 (.ref 182), e P z19 422 (.ref 189), e P z20 432 (.ref 196), e P z21 440 (.ref 203), e P 111490630316139 450 (.ref 210), e P 2147201852470124049748 607 (.ref 329), e P z22 617 (.ref 340), e P 440040583241 826 (.ref 496), e P 500069068883 1088 (.ref 691), e P 380423630684598931079812568447209550 1092 (.int (64) 1091), e P z23 1101 (.ref 702), e P z24 1110 (.ref 709), e P 439988939092 1226 (.ref 796), e P z25 1236 (.ref 807), e P 2166583389145247411552 1246 (.ref 814), e P z26 1254 (.ref 821), e P 2054967305178938764640 1268 (.ref 828), e P z27 1280 (.ref 835), e P 1888875681219468225888 1291 (.ref 842), e P 7889517 1314 (.ref 849)]
def o15 (_ : Params) : Obj := tO []
def o17 (_ : Params) : Obj := tO [s 108 190]
def o20 (_ : Params) : Obj := cO [s z3 187, s z3 188, s z2 189, i 1, i 1, i 0, i 0, i 3, .ref 15, (.bool true), i 181, .ref 16, .none, .ref 17, .ref 18, .ref 19, i 191, i 1, s z2 192]
def o21 (_ : Params) : Obj := fO "_wall" "_wall" (top 0) (s 6944673128113922144 164) (.ref 20)
def o22 (_ : Params) : Obj := ⟨(.type "tuple"), none, .seq #[(.type "ValueError")] 0, #[]⟩
def o29 (_ : Params) : Obj := ⟨(.type "tuple"), none, .seq #[] 0, #[]⟩
def o30 (P : Params) : Obj := dO 3 [e P z28 207 (s z29 198), e P z30 211 (.int (7) 210), e P z31 212 (.ref 29), e P z32 214 (.ref 32), e P z1 215 .none]
def o31 (_ : Params) : Obj := ⟨(.type "type"), none, .cls { name := (Str.ofString "FrameError"), bases := [(.type "ValueError")], mro := [.ref 31, (.type "ValueError"), (.type "Exception"), (.type "BaseException"), (.type "object")], ns := 30, qualname := (Str.ofString "FrameError"), hasDict := true, slotNames := [], subclasses := [.ref 44, .ref 56, .ref 68, .ref 80, .ref 92, .ref 104, .ref 116, .ref 128, .ref 140, .ref 152], abstract := false, collection := none, hasDel := false }, #[(some (.ref 22)), none, (some (s z4 200)), (some (s z4 208)), (some (.builtin "ValueError.__new__")), (some (.bool true))]⟩
def o32 (_ : Params) : Obj := ⟨(.type "getset_descriptor"), none, .fields ⟨[s z32 213, .ref 31, (.builtin "ExceptionGroup.__weakref__"), .none]⟩, #[]⟩
def o35 (_ : Params) : Obj := ⟨(.type "tuple"), none, .seq #[.ref 31] 0, #[]⟩
def o43 (P : Params) : Obj := dO 2 [e P z28 225 (s z29 198), e P z30 229 (.int (9) 228), e P z31 230 (.ref 42), e P z1 231 .none]
def o44 (_ : Params) : Obj := ⟨(.type "type"), none, .cls { name := (Str.ofString "NoShape"), bases := [.ref 31], mro := [.ref 44, .ref 31, (.type "ValueError"), (.type "Exception"), (.type "BaseException"), (.type "object")], ns := 43, qualname := (Str.ofString "NoShape"), hasDict := true, slotNames := [], subclasses := [], abstract := false, collection := none, hasDel := false }, #[(some (.ref 35)), none, (some (s z5 218)), (some (s z5 226)), (some (.builtin "ValueError.__new__")), (some (.bool true))]⟩
def o55 (P : Params) : Obj := dO 2 [e P z28 241 (s z29 198), e P z30 245 (.int (11) 244), e P z31 246 (.ref 54), e P z1 247 .none]
def o56 (_ : Params) : Obj := ⟨(.type "type"), none, .cls { name := (Str.ofString "OutOfRoom"), bases := [.ref 31], mro := [.ref 56, .ref 31, (.type "ValueError"), (.type "Exception"), (.type "BaseException"), (.type "object")], ns := 55, qualname := (Str.ofString "OutOfRoom"), hasDict := true, slotNames := [], subclasses := [], abstract := false, collection := none, hasDel := false }, #[(some (.ref 47)), none, (some (s z6 234)), (some (s z6 242)), (some (.builtin "ValueError.__new__")), (some (.bool true))]⟩
def o67 (P : Params) : Obj := dO 2 [e P z28 257 (s z29 198), e P z30 261 (.int (13) 260), e P z31 262 (.ref 66), e P z1 263 .none]
def o68 (_ : Params) : Obj := ⟨(.type "type"), none, .cls { name := (Str.ofString "BadRights"), bases := [.ref 31], mro := [.ref 68, .ref 31, (.type "ValueError"), (.type "Exception"), (.type "BaseException"), (.type "object")], ns := 67, qualname := (Str.ofString "BadRights"), hasDict := true, slotNames := [], subclasses := [], abstract := false, collection := none, hasDel := false }, #[(some (.ref 59)), none, (some (s z7 250)), (some (s z7 258)), (some (.builtin "ValueError.__new__")), (some (.bool true))]⟩
def o79 (P : Params) : Obj := dO 2 [e P z28 273 (s z29 198), e P z30 277 (.int (15) 276), e P z31 278 (.ref 78), e P z1 279 .none]
def o80 (_ : Params) : Obj := ⟨(.type "type"), none, .cls { name := (Str.ofString "NoTask"), bases := [.ref 31], mro := [.ref 80, .ref 31, (.type "ValueError"), (.type "Exception"), (.type "BaseException"), (.type "object")], ns := 79, qualname := (Str.ofString "NoTask"), hasDict := true, slotNames := [], subclasses := [], abstract := false, collection := none, hasDel := false }, #[(some (.ref 71)), none, (some (s z8 266)), (some (s z8 274)), (some (.builtin "ValueError.__new__")), (some (.bool true))]⟩
def o91 (P : Params) : Obj := dO 2 [e P z28 289 (s z29 198), e P z30 293 (.int (17) 292), e P z31 294 (.ref 90), e P z1 295 .none]
def o92 (_ : Params) : Obj := ⟨(.type "type"), none, .cls { name := (Str.ofString "NoBank"), bases := [.ref 31], mro := [.ref 92, .ref 31, (.type "ValueError"), (.type "Exception"), (.type "BaseException"), (.type "object")], ns := 91, qualname := (Str.ofString "NoBank"), hasDict := true, slotNames := [], subclasses := [], abstract := false, collection := none, hasDel := false }, #[(some (.ref 83)), none, (some (s z9 282)), (some (s z9 290)), (some (.builtin "ValueError.__new__")), (some (.bool true))]⟩
def o103 (P : Params) : Obj := dO 2 [e P z28 305 (s z29 198), e P z30 309 (.int (19) 308), e P z31 310 (.ref 102), e P z1 311 .none]
def o104 (_ : Params) : Obj := ⟨(.type "type"), none, .cls { name := (Str.ofString "OutOfBank"), bases := [.ref 31], mro := [.ref 104, .ref 31, (.type "ValueError"), (.type "Exception"), (.type "BaseException"), (.type "object")], ns := 103, qualname := (Str.ofString "OutOfBank"), hasDict := true, slotNames := [], subclasses := [], abstract := false, collection := none, hasDel := false }, #[(some (.ref 95)), none, (some (s z10 298)), (some (s z10 306)), (some (.builtin "ValueError.__new__")), (some (.bool true))]⟩
def o115 (P : Params) : Obj := dO 2 [e P z28 321 (s z29 198), e P z30 325 (.int (21) 324), e P z31 326 (.ref 114), e P z1 327 .none]
def o116 (_ : Params) : Obj := ⟨(.type "type"), none, .cls { name := (Str.ofString "Taken"), bases := [.ref 31], mro := [.ref 116, .ref 31, (.type "ValueError"), (.type "Exception"), (.type "BaseException"), (.type "object")], ns := 115, qualname := (Str.ofString "Taken"), hasDict := true, slotNames := [], subclasses := [], abstract := false, collection := none, hasDel := false }, #[(some (.ref 107)), none, (some (s z11 314)), (some (s z11 322)), (some (.builtin "ValueError.__new__")), (some (.bool true))]⟩
def o127 (P : Params) : Obj := dO 2 [e P z28 337 (s z29 198), e P z30 341 (.int (23) 340), e P z31 342 (.ref 126), e P z1 343 .none]
def o128 (_ : Params) : Obj := ⟨(.type "type"), none, .cls { name := (Str.ofString "NotMapped"), bases := [.ref 31], mro := [.ref 128, .ref 31, (.type "ValueError"), (.type "Exception"), (.type "BaseException"), (.type "object")], ns := 127, qualname := (Str.ofString "NotMapped"), hasDict := true, slotNames := [], subclasses := [], abstract := false, collection := none, hasDel := false }, #[(some (.ref 119)), none, (some (s z12 330)), (some (s z12 338)), (some (.builtin "ValueError.__new__")), (some (.bool true))]⟩
def o139 (P : Params) : Obj := dO 2 [e P z28 353 (s z29 198), e P z30 357 (.int (25) 356), e P z31 358 (.ref 138), e P z1 359 .none]
def o140 (_ : Params) : Obj := ⟨(.type "type"), none, .cls { name := (Str.ofString "NoRight"), bases := [.ref 31], mro := [.ref 140, .ref 31, (.type "ValueError"), (.type "Exception"), (.type "BaseException"), (.type "object")], ns := 139, qualname := (Str.ofString "NoRight"), hasDict := true, slotNames := [], subclasses := [], abstract := false, collection := none, hasDel := false }, #[(some (.ref 131)), none, (some (s z13 346)), (some (s z13 354)), (some (.builtin "ValueError.__new__")), (some (.bool true))]⟩
def o151 (P : Params) : Obj := dO 2 [e P z28 369 (s z29 198), e P z30 373 (.int (27) 372), e P z31 374 (.ref 150), e P z1 375 .none]
def o152 (_ : Params) : Obj := ⟨(.type "type"), none, .cls { name := (Str.ofString "NoRoom"), bases := [.ref 31], mro := [.ref 152, .ref 31, (.type "ValueError"), (.type "Exception"), (.type "BaseException"), (.type "object")], ns := 151, qualname := (Str.ofString "NoRoom"), hasDict := true, slotNames := [], subclasses := [], abstract := false, collection := none, hasDel := false }, #[(some (.ref 143)), none, (some (s z14 362)), (some (s z14 370)), (some (.builtin "ValueError.__new__")), (some (.bool true))]⟩
def o157 (_ : Params) : Obj := tO [s 448545843573 383]
def o160 (_ : Params) : Obj := cO [s z15 380, s z15 381, s z2 382, i 30, i 1, i 0, i 0, i 3, .ref 155, (.bool true), i 181, .ref 156, .none, .ref 157, .ref 158, .ref 159, i 384, i 30, s z2 385]
def o161 (_ : Params) : Obj := fO "is_whole" "is_whole" (top 16) (s 154722281479463014256600682153103225703 378) (.ref 160)
def o164 (_ : Params) : Obj := tO [s 448545843573 390, s 7893101 391, s 1768450665 392]
def o167 (_ : Params) : Obj := cO [s z16 387, s z16 388, s z2 389, i 32, i 3, i 0, i 0, i 3, .ref 162, (.bool true), i 181, .ref 163, .none, .ref 164, .ref 165, .ref 166, i 393, i 32, s z2 394]
def o168 (_ : Params) : Obj := fO "is_within" "is_within" (top 17) (s 154722281479463014256600682153103225703 378) (.ref 167)
def o171 (_ : Params) : Obj := tO [s z33 403]
def o174 (_ : Params) : Obj := cO [s z17 400, s z17 401, s z2 402, i 36, i 1, i 0, i 0, i 3, .ref 169, (.bool true), i 181, .ref 170, .none, .ref 171, .ref 172, .ref 173, i 404, i 36, s z2 405]
def o175 (_ : Params) : Obj := fO "check_rights" "check_rights" (top 20) (s z34 396) (.ref 174)
def o178 (_ : Params) : Obj := tO [s 7304819 410]
def o181 (_ : Params) : Obj := cO [s z18 407, s z18 408, s z2 409, i 39, i 1, i 0, i 0, i 3, .ref 176, (.bool true), i 181, .ref 177, .none, .ref 178, .ref 179, .ref 180, i 411, i 39, s z2 412]
def o182 (_ : Params) : Obj := fO "end_of" "end_of" (top 21) (s z34 396) (.ref 181)
def o185 (_ : Params) : Obj := tO [s 7304819 417, s z35 418, s 6711925 419]
def o188 (_ : Params) : Obj := cO [s z19 414, s z19 415, s z2 416, i 41, i 2, i 0, i 0, i 3, .ref 183, (.bool true), i 181, .ref 184, .none, .ref 185, .ref 186, .ref 187, i 420, i 41, s z2 421]
def o189 (_ : Params) : Obj := fO "tie_from" "tie_from" (top 22) (s z34 396) (.ref 188)
def o192 (_ : Params) : Obj := tO [s 7304819 426, s 7893101 427, s 1768450665 428, s z36 429]
def o195 (_ : Params) : Obj := cO [s z20 423, s z20 424, s z2 425, i 46, i 3, i 0, i 0, i 3, .ref 190, (.bool true), i 181, .ref 191, .none, .ref 192, .ref 193, .ref 194, i 430, i 46, s z2 431]
def o196 (_ : Params) : Obj := fO "part_of" "part_of" (top 23) (s z34 396) (.ref 195)
def o199 (_ : Params) : Obj := tO [s 7304819 436, s 495640207981 437]
def o202 (_ : Params) : Obj := cO [s z21 433, s z21 434, s z2 435, i 49, i 2, i 0, i 0, i 3, .ref 197, (.bool true), i 181, .ref 198, .none, .ref 199, .ref 200, .ref 201, i 438, i 49, s z2 439]
def o203 (_ : Params) : Obj := fO "goes_on" "goes_on" (top 24) (s z34 396) (.ref 202)
def o206 (_ : Params) : Obj := tO [s 1953461875 444, s 495640405607 445, s 7304819 446, s 1970561645 447]
def o209 (_ : Params) : Obj := cO [s 111490630316139 441, s 111490630316139 442, s z2 443, i 51, i 1, i 0, i 0, i 3, .ref 204, (.bool true), i 181, .ref 205, .none, .ref 206, .ref 207, .ref 208, i 448, i 51, s z2 449]
def o210 (_ : Params) : Obj := fO "joined" "joined" (top 25) (s z34 396) (.ref 209)
def o220 (_ : Params) : Obj := tO [s z37 466]
def o223 (_ : Params) : Obj := cO [s z38 463, s 8395602628992143088491004079736651362039124 464, s z2 465, i 62, i 1, i 0, i 0, i 3, .ref 218, (.bool true), i 181, .ref 219, .none, .ref 220, .ref 221, .ref 222, i 467, i 62, s z2 468]
def o224 (_ : Params) : Obj := fO "__init__" "Stretches.__init__" (inClass (top 26) 0) (s z34 396) (.ref 223)
def o225 (_ : Params) : Obj := ⟨(.type "tuple"), none, .seq #[.none] 0, #[]⟩
def o228 (_ : Params) : Obj := tO [s z37 473, s z36 474, s z39 475, s z33 476, s 6711925 477]
def o231 (_ : Params) : Obj := cO [s 7698033 470, s 9306351078043889216994357245268 471, s z2 472, i 65, i 5, i 0, i 0, i 3, .ref 226, (.bool true), i 181, .ref 227, .none, .ref 228, .ref 229, .ref 230, i 478, i 65, s z2 479]
def o232 (_ : Params) : Obj := ⟨(.type "function"), none, .func (PySem.W.fnOf (Str.ofString "put") (Str.ofString "Stretches.put") (defArgs (inClass (top 26) 1)) (defBody (inClass (top 26) 1)) (defScope (inClass (top 26) 1)) (.ref 225) .none .none (s z34 396) none (.ref 231) .none), #[]⟩
def o235 (_ : Params) : Obj := tO [s z37 484, s z36 485, s z39 486]
def o238 (_ : Params) : Obj := cO [s 7698020 481, s 9306335362008234226815086064980 482, s z2 483, i 71, i 3, i 0, i 0, i 3, .ref 233, (.bool true), i 181, .ref 234, .none, .ref 235, .ref 236, .ref 237, i 487, i 71, s z2 488]
def o239 (_ : Params) : Obj := fO "cut" "Stretches.cut" (inClass (top 26) 2) (s z34 396) (.ref 238)
def o242 (_ : Params) : Obj := tO [s z37 493, s z36 494, s z39 495, s z33 496]
def o245 (_ : Params) : Obj := cO [s z40 490, s 526762260821547473070605117598954836 491, s z2 492, i 74, i 4, i 0, i 0, i 3, .ref 240, (.bool true), i 181, .ref 241, .none, .ref 242, .ref 243, .ref 244, i 497, i 74, s z2 498]
def o246 (_ : Params) : Obj := fO "guard" "Stretches.guard" (inClass (top 26) 3) (s z34 396) (.ref 245)
def o249 (_ : Params) : Obj := tO [s z37 503, s z36 504, s z39 505]
def o252 (_ : Params) : Obj := cO [s 516757173630863403280740 500, s 624721089673430778640529783835705258327388943700 501, s z2 502, i 77, i 3, i 0, i 0, i 3, .ref 247, (.bool true), i 181, .ref 248, .none, .ref 249, .ref 250, .ref 251, i 506, i 77, s z2 507]
def o253 (_ : Params) : Obj := fO "check_full" "Stretches.check_full" (inClass (top 26) 4) (s z34 396) (.ref 252)
def o256 (_ : Params) : Obj := tO [s z37 512, s z35 513, s 1970496113 514]
def o259 (_ : Params) : Obj := cO [s z41 509, s 2617757014156703991004303271023538183198700884 510, s z2 511, i 80, i 2, i 0, i 0, i 3, .ref 254, (.bool true), i 181, .ref 255, .none, .ref 256, .ref 257, .ref 258, i 515, i 80, s z2 516]
def o260 (_ : Params) : Obj := fO "rights_at" "Stretches.rights_at" (inClass (top 26) 5) (s z34 396) (.ref 259)
def o263 (_ : Params) : Obj := tO [s z37 521, s z35 522, s 1970496113 523]
def o266 (_ : Params) : Obj := cO [s 129065384569461 518, s 156030475824513176713048584412386784596 519, s z2 520, i 84, i 2, i 0, i 0, i 3, .ref 261, (.bool true), i 181, .ref 262, .none, .ref 263, .ref 264, .ref 265, i 524, i 84, s z2 525]
def o267 (_ : Params) : Obj := fO "tie_at" "Stretches.tie_at" (inClass (top 26) 6) (s z34 396) (.ref 266)
def o270 (_ : Params) : Obj := tO [s z37 530, s z36 531, s z39 532]
def o273 (_ : Params) : Obj := cO [s 28823093466133610 527, s 34844981892374637606343691086821957268820 528, s z2 529, i 88, i 3, i 0, i 0, i 3, .ref 268, (.bool true), i 181, .ref 269, .none, .ref 270, .ref 271, .ref 272, i 533, i 88, s z2 534]
def o274 (_ : Params) : Obj := fO "is_free" "Stretches.is_free" (inClass (top 26) 7) (s z34 396) (.ref 273)
def o277 (_ : Params) : Obj := tO [s z37 539, s z36 540, s z39 541]
def o280 (_ : Params) : Obj := cO [s 30801127769404522 536, s 37236278633682276866180525579755284821332 537, s z2 538, i 91, i 3, i 0, i 0, i 3, .ref 275, (.bool true), i 181, .ref 276, .none, .ref 277, .ref 278, .ref 279, i 542, i 91, s z2 543]
def o281 (_ : Params) : Obj := fO "is_full" "Stretches.is_full" (inClass (top 26) 8) (s z34 396) (.ref 280)
def o284 (_ : Params) : Obj := tO [s z37 548, s z42 549]
def o287 (_ : Params) : Obj := cO [s 28541580069598314 545, s 34504653078735706780555045640184744080724 546, s z2 547, i 94, i 2, i 0, i 0, i 3, .ref 282, (.bool true), i 181, .ref 283, .none, .ref 284, .ref 285, .ref 286, i 550, i 94, s z2 551]
def o288 (_ : Params) : Obj := fO "is_tied" "Stretches.is_tied" (inClass (top 26) 9) (s z34 396) (.ref 287)
def o291 (_ : Params) : Obj := tO [s z37 556]
def o294 (_ : Params) : Obj := cO [s 1701671029 553, s 2057194043672392837723022735668564 554, s z2 555, i 97, i 1, i 0, i 0, i 3, .ref 289, (.bool true), i 181, .ref 290, .none, .ref 291, .ref 292, .ref 293, i 557, i 97, s z2 558]
def o295 (_ : Params) : Obj := fO "told" "Stretches.told" (inClass (top 26) 10) (s z34 396) (.ref 294)
def o298 (_ : Params) : Obj := tO [s z37 563]
def o301 (_ : Params) : Obj := cO [s 111490546888804 560, s 134783800776830844550708368151093146964 561, s z2 562, i 100, i 1, i 0, i 0, i 3, .ref 296, (.bool true), i 181, .ref 297, .none, .ref 298, .ref 299, .ref 300, i 564, i 100, s z2 565]
def o302 (_ : Params) : Obj := fO "copied" "Stretches.copied" (inClass (top 26) 11) (s z34 396) (.ref 301)
def o305 (_ : Params) : Obj := tO [s z37 570, s z35 571, s 7893101 572, s 1768450665 573, s 112620038613614 574]
def o308 (_ : Params) : Obj := cO [s 31392679273066234308940950897 567, s 37951420520090778506602714804950266613495697467733332 568, s z2 569, i 103, i 2, i 0, i 0, i 3, .ref 303, (.bool true), i 181, .ref 304, .none, .ref 305, .ref 306, .ref 307, i 575, i 103, s z2 576]
def o309 (_ : Params) : Obj := fO "place_behind" "Stretches.place_behind" (inClass (top 26) 12) (s z34 396) (.ref 308)
def o313 (_ : Params) : Obj := cO [s 478922323667592571740785 578, s 578981562671587066094221509702201825946659681620 579, s z2 580, i 114, i 3, i 0, i 0, i 3, .ref 310, (.bool true), i 181, .ref 311, .none, .none, .none, .ref 312, i 581, i 114, s z2 582]
def o314 (_ : Params) : Obj := fO "parts_amid" "Stretches.parts_amid" (inClass (top 26) 13) (s z34 396) (.ref 313)
def o317 (_ : Params) : Obj := tO [s z37 587, s z35 588, s 500186702449 589]
def o320 (_ : Params) : Obj := cO [s 33040738702025329 584, s 39943802116018770004276114331333133825364 585, s z2 586, i 119, i 2, i 0, i 0, i 3, .ref 315, (.bool true), i 181, .ref 316, .none, .ref 317, .ref 318, .ref 319, i 590, i 119, s z2 591]
def o321 (_ : Params) : Obj := fO "part_at" "Stretches.part_at" (inClass (top 26) 14) (s z34 396) (.ref 320)
def o325 (_ : Params) : Obj := cO [s 7307774714166534765 593, s 8834557535882840484900534439152844413302100 594, s z2 595, i 123, i 4, i 0, i 0, i 3, .ref 322, (.bool true), i 181, .ref 323, .none, .none, .none, .ref 324, i 596, i 123, s z2 597]
def o326 (_ : Params) : Obj := fO "lay_amid" "Stretches.lay_amid" (inClass (top 26) 15) (s z34 396) (.ref 325)
def o327 (_ : Params) : Obj := ⟨(.type "tuple"), none, .seq #[(.str (Str.ofString "runs") 599)] 0, #[]⟩
def o328 (P : Params) : Obj := dO 4 [e P z28 458 (s z34 396), e P z30 462 (.int (60) 461), e P z38 469 (.ref 224), e P 7698033 480 (.ref 232), e P 7698020 489 (.ref 239), e P z40 499 (.ref 246), e P 516757173630863403280740 508 (.ref 253), e P z41 517 (.ref 260), e P 129065384569461 526 (.ref 267), e P 28823093466133610 535 (.ref 274), e P 30801127769404522 544 (.ref 281), e P 28541580069598314 552 (.ref 288), e P 1701671029 559 (.ref 295), e P 111490546888804 566 (.ref 302), e P 31392679273066234308940950897 577 (.ref 309), e P 478922323667592571740785 583 (.ref 314), e P 33040738702025329 592 (.ref 321), e P 7307774714166534765 598 (.ref 326), e P z31 600 (.ref 327), e P z43 602 (.ref 330), e P z32 604 (.ref 331), e P z1 605 .none]
def o329 (_ : Params) : Obj := ⟨(.type "type"), none, .cls { name := (Str.ofString "Stretches"), bases := [(.type "object")], mro := [.ref 329, (.type "object")], ns := 328, qualname := (Str.ofString "Stretches"), hasDict := true, slotNames := [], subclasses := [], abstract := false, collection := none, hasDel := false }, #[none, none, (some (s 2147201852470124049748 451)), (some (s 2147201852470124049748 459)), (some (.builtin "object.__new__")), (some (.bool true))]⟩
def o330 (_ : Params) : Obj := ⟨(.type "getset_descriptor"), none, .fields ⟨[s z43 601, .ref 329, (.builtin "function.__dict__"), (.builtin "function.__dict__#set")]⟩, #[]⟩
def o331 (_ : Params) : Obj := ⟨(.type "getset_descriptor"), none, .fields ⟨[s z32 603, .ref 329, (.builtin "ExceptionGroup.__weakref__"), .none]⟩, #[]⟩
def o336 (_ : Params) : Obj := tO [s 32777980890478191 613, s z44 614]
def o339 (_ : Params) : Obj := cO [s z22 610, s z22 611, s z2 612, i 132, i 1, i 0, i 0, i 3, .ref 334, (.bool true), i 181, .ref 335, .none, .ref 336, .ref 337, .ref 338, i 615, i 132, s z2 616]
def o340 (_ : Params) : Obj := fO "least_free" "least_free" (top 28) (s z45 608) (.ref 339)
def o350 (_ : Params) : Obj := tO [s z37 633, s 439988939124 634]
def o353 (_ : Params) : Obj := cO [s z38 630, s 1954753563970360692704735984513097 631, s z2 632, i 139, i 2, i 0, i 0, i 3, .ref 348, (.bool true), i 181, .ref 349, .none, .ref 350, .ref 351, .ref 352, i 635, i 139, s z2 636]
def o354 (_ : Params) : Obj := fO "__init__" "House.__init__" (inClass (top 29) 0) (s z45 608) (.ref 353)
def o357 (_ : Params) : Obj := tO [s z37 641, s z46 642]
def o360 (_ : Params) : Obj := cO [s z47 638, s 2199721175476886628490265163624521 639, s z2 640, i 144, i 1, i 0, i 0, i 3, .ref 355, (.bool true), i 181, .ref 356, .none, .ref 357, .ref 358, .ref 359, i 643, i 144, s z2 644]
def o361 (_ : Params) : Obj := fO "new_task" "House.new_task" (inClass (top 29) 1) (s z45 608) (.ref 360)
def o364 (_ : Params) : Obj := tO [s z37 649, s z46 650]
def o367 (_ : Params) : Obj := cO [s 1819504743 646, s 512145055212970217730121 647, s z2 648, i 149, i 2, i 0, i 0, i 3, .ref 362, (.bool true), i 181, .ref 363, .none, .ref 364, .ref 365, .ref 366, i 651, i 149, s z2 652]
def o368 (_ : Params) : Obj := fO "fork" "House.fork" (inClass (top 29) 2) (s z45 608) (.ref 367)
def o371 (_ : Params) : Obj := tO [s z37 657, s z46 658]
def o374 (_ : Params) : Obj := cO [s z48 654, s 2199721175476536786337936233099337 655, s z2 656, i 152, i 2, i 0, i 0, i 3, .ref 369, (.bool true), i 181, .ref 370, .none, .ref 371, .ref 372, .ref 373, i 659, i 152, s z2 660]
def o375 (_ : Params) : Obj := fO "end_task" "House.end_task" (inClass (top 29) 3) (s z45 608) (.ref 374)
def o378 (_ : Params) : Obj := tO [s z37 665, s z39 666]
def o381 (_ : Params) : Obj := cO [s z49 662, s 2199325012903650553738972299161673 663, s z2 664, i 155, i 2, i 0, i 0, i 3, .ref 376, (.bool true), i 181, .ref 377, .none, .ref 378, .ref 379, .ref 380, i 667, i 155, s z2 668]
def o382 (_ : Params) : Obj := fO "new_bank" "House.new_bank" (inClass (top 29) 4) (s z45 608) (.ref 381)
def o385 (_ : Params) : Obj := tO [s z37 673, s z42 674]
def o388 (_ : Params) : Obj := cO [s z50 670, s 563027203303301669962607049756274761 671, s z2 672, i 158, i 2, i 0, i 0, i 3, .ref 383, (.bool true), i 181, .ref 384, .none, .ref 385, .ref 386, .ref 387, i 675, i 158, s z2 676]
def o389 (_ : Params) : Obj := fO "drop_bank" "House.drop_bank" (inClass (top 29) 5) (s z45 608) (.ref 388)
def o390 (_ : Params) : Obj := ⟨(.type "tuple"), none, .seq #[.none, (.int (0) 678)] 0, #[]⟩
def o393 (_ : Params) : Obj := tO [s z37 682, s z46 683, s z36 684, s z39 685, s z33 686, s z42 687, s 504447006068 688, s 6711925 689]
def o396 (_ : Params) : Obj := cO [s 8020589 679, s 2257595154097830785097 680, s z2 681, i 161, i 7, i 0, i 0, i 3, .ref 391, (.bool true), i 181, .ref 392, .none, .ref 393, .ref 394, .ref 395, i 690, i 161, s z2 691]
def o397 (_ : Params) : Obj := ⟨(.type "function"), none, .func (PySem.W.fnOf (Str.ofString "lay") (Str.ofString "House.lay") (defArgs (inClass (top 29) 6)) (defBody (inClass (top 29) 6)) (defScope (inClass (top 29) 6)) (.ref 390) .none .none (s z45 608) none (.ref 396) .none), #[]⟩
def o400 (_ : Params) : Obj := tO [s z37 696, s z46 697, s z36 698, s z39 699]
def o403 (_ : Params) : Obj := cO [s 1969711725 693, s 554424561973198142730313 694, s z2 695, i 170, i 4, i 0, i 0, i 3, .ref 398, (.bool true), i 181, .ref 399, .none, .ref 400, .ref 401, .ref 402, i 700, i 170, s z2 701]
def o404 (_ : Params) : Obj := fO "lift" "House.lift" (inClass (top 29) 7) (s z45 608) (.ref 403)
def o407 (_ : Params) : Obj := tO [s z37 706, s z46 707, s z36 708, s z39 709, s z33 710]
def o410 (_ : Params) : Obj := cO [s z40 703, s 122646396239648390521450569 704, s z2 705, i 173, i 5, i 0, i 0, i 3, .ref 405, (.bool true), i 181, .ref 406, .none, .ref 407, .ref 408, .ref 409, i 711, i 173, s z2 712]
def o411 (_ : Params) : Obj := fO "guard" "House.guard" (inClass (top 29) 8) (s z45 608) (.ref 410)
def o414 (_ : Params) : Obj := tO [s z37 717, s z46 718, s z51 719, s 1970233976 720, s 500186702449 721, s z33 722]
def o417 (_ : Params) : Obj := cO [s 435510080610 714, s 122585189797007784293068873 715, s z2 716, i 176, i 4, i 0, i 0, i 3, .ref 412, (.bool true), i 181, .ref 413, .none, .ref 414, .ref 415, .ref 416, i 723, i 176, s z2 724]
def o418 (_ : Params) : Obj := fO "asked" "House.asked" (inClass (top 29) 9) (s z45 608) (.ref 417)
def o421 (_ : Params) : Obj := tO [s z37 729]
def o424 (_ : Params) : Obj := cO [s z52 726, s 609859923998260050033739136169832521 727, s z2 728, i 186, i 1, i 0, i 0, i 3, .ref 419, (.bool true), i 181, .ref 420, .none, .ref 421, .ref 422, .ref 423, i 730, i 186, s z2 731]
def o425 (_ : Params) : Obj := fO "task_list" "House.task_list" (inClass (top 29) 10) (s z45 608) (.ref 424)
def o428 (_ : Params) : Obj := tO [s z37 736]
def o431 (_ : Params) : Obj := cO [s z53 733, s 609859923998259957794952218041282633 734, s z2 735, i 189, i 1, i 0, i 0, i 3, .ref 426, (.bool true), i 181, .ref 427, .none, .ref 428, .ref 429, .ref 430, i 737, i 189, s z2 738]
def o432 (_ : Params) : Obj := fO "bank_list" "House.bank_list" (inClass (top 29) 11) (s z45 608) (.ref 431)
def o435 (_ : Params) : Obj := tO [s z37 743, s z42 744]
def o438 (_ : Params) : Obj := cO [s 1890460943890055651939 740, s 532117450153858173809377884935450697 741, s z2 742, i 192, i 2, i 0, i 0, i 3, .ref 433, (.bool true), i 181, .ref 434, .none, .ref 435, .ref 436, .ref 437, i 745, i 192, s z2 746]
def o439 (_ : Params) : Obj := fO "bank_size" "House.bank_size" (inClass (top 29) 12) (s z45 608) (.ref 438)
def o442 (_ : Params) : Obj := tO [s z37 751, s z46 752]
def o445 (_ : Params) : Obj := cO [s z54 748, s 9010805286337637281539545668179908239978569 749, s z2 750, i 195, i 2, i 0, i 0, i 3, .ref 440, (.bool true), i 181, .ref 441, .none, .ref 442, .ref 443, .ref 444, i 753, i 195, s z2 754]
def o446 (_ : Params) : Obj := fO "stretches_of" "House.stretches_of" (inClass (top 29) 13) (s z45 608) (.ref 445)
def o449 (_ : Params) : Obj := tO [s z37 759, s z46 760, s z35 761]
def o452 (_ : Params) : Obj := cO [s z41 756, s 609494050535537300399575152849219657 757, s z2 758, i 199, i 3, i 0, i 0, i 3, .ref 447, (.bool true), i 181, .ref 448, .none, .ref 449, .ref 450, .ref 451, i 762, i 199, s z2 763]
def o453 (_ : Params) : Obj := fO "rights_at" "House.rights_at" (inClass (top 29) 14) (s z45 608) (.ref 452)
def o456 (_ : Params) : Obj := tO [s z37 768, s z46 769, s z35 770]
def o459 (_ : Params) : Obj := cO [s 129065384569461 765, s 36328676115840947361617965129 766, s z2 767, i 203, i 3, i 0, i 0, i 3, .ref 454, (.bool true), i 181, .ref 455, .none, .ref 456, .ref 457, .ref 458, i 771, i 203, s z2 772]
def o460 (_ : Params) : Obj := fO "tie_at" "House.tie_at" (inClass (top 29) 15) (s z45 608) (.ref 459)
def o464 (_ : Params) : Obj := cO [s 7453563436348760689 774, s 2097991594657664520040000427290697 775, s z2 776, i 207, i 2, i 0, i 0, i 3, .ref 461, (.bool true), i 181, .ref 462, .none, .none, .none, .ref 463, i 777, i 207, s z2 778]
def o465 (_ : Params) : Obj := fO "pages_of" "House.pages_of" (inClass (top 29) 16) (s z45 608) (.ref 464)
def o468 (_ : Params) : Obj := tO [s z37 783, s z46 784]
def o471 (_ : Params) : Obj := cO [s 512162497145278640318820 780, s 144160926956038725368327681379818434633 781, s z2 782, i 213, i 2, i 0, i 0, i 3, .ref 466, (.bool true), i 181, .ref 467, .none, .ref 468, .ref 469, .ref 470, i 785, i 213, s z2 786]
def o472 (_ : Params) : Obj := fO "check_task" "House.check_task" (inClass (top 29) 17) (s z45 608) (.ref 471)
def o475 (_ : Params) : Obj := tO [s z37 791, s z42 792]
def o478 (_ : Params) : Obj := cO [s 512070258358360511768932 788, s 144134964045639125973426952214381228105 789, s z2 790, i 217, i 2, i 0, i 0, i 3, .ref 473, (.bool true), i 181, .ref 474, .none, .ref 475, .ref 476, .ref 477, i 793, i 217, s z2 794]
def o479 (_ : Params) : Obj := fO "check_bank" "House.check_bank" (inClass (top 29) 18) (s z45 608) (.ref 478)
def o482 (_ : Params) : Obj := tO [s z37 799, s z46 800, s z36 801, s z39 802]
def o485 (_ : Params) : Obj := cO [s 8350047493112005182606836918628 796, s 2350329423656573175351140194157426667259588681 797, s z2 798, i 221, i 4, i 0, i 0, i 3, .ref 480, (.bool true), i 181, .ref 481, .none, .ref 482, .ref 483, .ref 484, i 803, i 221, s z2 804]
def o486 (_ : Params) : Obj := fO "check_stretch" "House.check_stretch" (inClass (top 29) 19) (s z45 608) (.ref 485)
def o489 (_ : Params) : Obj := tO [s z37 809, s z42 810, s 504447006068 811, s z39 812]
def o492 (_ : Params) : Obj := cO [s 9446029003694613325605449134053798776826212 806, s 2658820793823122384803673107998479853226123854532207603785 807, s z2 808, i 226, i 4, i 0, i 0, i 3, .ref 487, (.bool true), i 181, .ref 488, .none, .ref 489, .ref 490, .ref 491, i 813, i 226, s z2 814]
def o493 (_ : Params) : Obj := fO "check_part_of_bank" "House.check_part_of_bank" (inClass (top 29) 20) (s z45 608) (.ref 492)
def o494 (_ : Params) : Obj := ⟨(.type "tuple"), none, .seq #[(.str (Str.ofString "banks") 816), (.str (Str.ofString "shape") 817), (.str (Str.ofString "tasks") 818)] 0, #[]⟩
def o495 (P : Params) : Obj := dO 4 [e P z28 625 (s z45 608), e P z30 629 (.int (137) 628), e P z38 637 (.ref 354), e P z47 645 (.ref 361), e P 1819504743 653 (.ref 368), e P z48 661 (.ref 375), e P z49 669 (.ref 382), e P z50 677 (.ref 389), e P 8020589 692 (.ref 397), e P 1969711725 702 (.ref 404), e P z40 713 (.ref 411), e P 435510080610 725 (.ref 418), e P z52 732 (.ref 425), e P z53 739 (.ref 432), e P 1890460943890055651939 747 (.ref 439), e P z54 755 (.ref 446), e P z41 764 (.ref 453), e P 129065384569461 773 (.ref 460), e P 7453563436348760689 779 (.ref 465), e P 512162497145278640318820 787 (.ref 472), e P 512070258358360511768932 795 (.ref 479), e P 8350047493112005182606836918628 805 (.ref 486), e P 9446029003694613325605449134053798776826212 815 (.ref 493), e P z31 819 (.ref 494), e P z43 821 (.ref 497), e P z32 823 (.ref 498), e P z1 824 .none]
def o496 (_ : Params) : Obj := ⟨(.type "type"), none, .cls { name := (Str.ofString "House"), bases := [(.type "object")], mro := [.ref 496, (.type "object")], ns := 495, qualname := (Str.ofString "House"), hasDict := true, slotNames := [], subclasses := [], abstract := false, collection := none, hasDel := false }, #[none, none, (some (s 440040583241 618)), (some (s 440040583241 626)), (some (.builtin "object.__new__")), (some (.bool true))]⟩
def o497 (_ : Params) : Obj := ⟨(.type "getset_descriptor"), none, .fields ⟨[s z43 820, .ref 496, (.builtin "function.__dict__"), (.builtin "function.__dict__#set")]⟩, #[]⟩
def o498 (_ : Params) : Obj := ⟨(.type "getset_descriptor"), none, .fields ⟨[s z32 822, .ref 496, (.builtin "ExceptionGroup.__weakref__"), .none]⟩, #[]⟩
def o510 (_ : Params) : Obj := tO [s z37 844, s 439988939124 845, s 1970565230 846]
def o513 (_ : Params) : Obj := cO [s z38 841, s 1954753563970360692704796012998739 842, s z2 843, i 233, i 3, i 0, i 0, i 3, .ref 508, (.bool true), i 181, .ref 509, .none, .ref 510, .ref 511, .ref 512, i 847, i 233, s z2 848]
def o514 (_ : Params) : Obj := fO "__init__" "Rooms.__init__" (inClass (top 31) 0) (s z55 827) (.ref 513)
def o517 (_ : Params) : Obj := tO [s z37 853, s z46 854]
def o520 (_ : Params) : Obj := cO [s z47 850, s 2199721175476886628490325192110163 851, s z2 852, i 243, i 1, i 0, i 0, i 3, .ref 515, (.bool true), i 181, .ref 516, .none, .ref 517, .ref 518, .ref 519, i 855, i 243, s z2 856]
def o521 (_ : Params) : Obj := fO "new_task" "Rooms.new_task" (inClass (top 31) 1) (s z55 827) (.ref 520)
def o524 (_ : Params) : Obj := tO [s z37 861, s z46 862]
def o527 (_ : Params) : Obj := cO [s 1819504743 858, s 512145055213030246215763 859, s z2 860, i 248, i 2, i 0, i 0, i 3, .ref 522, (.bool true), i 181, .ref 523, .none, .ref 524, .ref 525, .ref 526, i 863, i 248, s z2 864]
def o528 (_ : Params) : Obj := fO "fork" "Rooms.fork" (inClass (top 31) 2) (s z55 827) (.ref 527)
def o531 (_ : Params) : Obj := tO [s z37 869, s z46 870]
def o534 (_ : Params) : Obj := cO [s z48 866, s 2199721175476536786337996261584979 867, s z2 868, i 251, i 2, i 0, i 0, i 3, .ref 529, (.bool true), i 181, .ref 530, .none, .ref 531, .ref 532, .ref 533, i 871, i 251, s z2 872]
def o535 (_ : Params) : Obj := fO "end_task" "Rooms.end_task" (inClass (top 31) 3) (s z55 827) (.ref 534)
def o538 (_ : Params) : Obj := tO [s z37 877, s z39 878]
def o541 (_ : Params) : Obj := cO [s z49 874, s 2199325012903650553739032327647315 875, s z2 876, i 254, i 2, i 0, i 0, i 3, .ref 536, (.bool true), i 181, .ref 537, .none, .ref 538, .ref 539, .ref 540, i 879, i 254, s z2 880]
def o542 (_ : Params) : Obj := fO "new_bank" "Rooms.new_bank" (inClass (top 31) 4) (s z55 827) (.ref 541)
def o545 (_ : Params) : Obj := tO [s z37 885, s z42 886]
def o548 (_ : Params) : Obj := cO [s z50 882, s 563027203303301669962607109784760403 883, s z2 884, i 257, i 2, i 0, i 0, i 3, .ref 543, (.bool true), i 181, .ref 544, .none, .ref 545, .ref 546, .ref 547, i 887, i 257, s z2 888]
def o549 (_ : Params) : Obj := fO "drop_bank" "Rooms.drop_bank" (inClass (top 31) 5) (s z55 827) (.ref 548)
def o550 (_ : Params) : Obj := ⟨(.type "tuple"), none, .seq #[.none, (.int (0) 890)] 0, #[]⟩
def o553 (_ : Params) : Obj := tO [s z37 894, s z46 895, s z36 896, s z39 897, s z33 898, s z42 899, s 504447006068 900]
def o556 (_ : Params) : Obj := cO [s 8020589 891, s 2257595154157859270739 892, s z2 893, i 260, i 7, i 0, i 0, i 3, .ref 551, (.bool true), i 181, .ref 552, .none, .ref 553, .ref 554, .ref 555, i 901, i 260, s z2 902]
def o557 (_ : Params) : Obj := ⟨(.type "function"), none, .func (PySem.W.fnOf (Str.ofString "lay") (Str.ofString "Rooms.lay") (defArgs (inClass (top 31) 6)) (defBody (inClass (top 31) 6)) (defScope (inClass (top 31) 6)) (.ref 550) .none .none (s z55 827) none (.ref 556) .none), #[]⟩
def o560 (_ : Params) : Obj := tO [s z37 907, s z46 908, s z36 909, s z39 910]
def o563 (_ : Params) : Obj := cO [s 1969711725 904, s 554424561973258171215955 905, s z2 906, i 263, i 4, i 0, i 0, i 3, .ref 558, (.bool true), i 181, .ref 559, .none, .ref 560, .ref 561, .ref 562, i 911, i 263, s z2 912]
def o564 (_ : Params) : Obj := fO "lift" "Rooms.lift" (inClass (top 31) 7) (s z55 827) (.ref 563)
def o567 (_ : Params) : Obj := tO [s z37 917, s z46 918, s z36 919, s z39 920, s z33 921]
def o570 (_ : Params) : Obj := cO [s z40 914, s 122646396239648450549936211 915, s z2 916, i 266, i 5, i 0, i 0, i 3, .ref 565, (.bool true), i 181, .ref 566, .none, .ref 567, .ref 568, .ref 569, i 922, i 266, s z2 923]
def o571 (_ : Params) : Obj := fO "guard" "Rooms.guard" (inClass (top 31) 8) (s z55 827) (.ref 570)
def o574 (_ : Params) : Obj := tO [s z37 928, s z46 929, s z51 930, s 500186702449 931]
def o577 (_ : Params) : Obj := cO [s 1700947571 925, s 478774177985449008590931 926, s z2 927, i 269, i 3, i 0, i 0, i 3, .ref 572, (.bool true), i 181, .ref 573, .none, .ref 574, .ref 575, .ref 576, i 932, i 269, s z2 933]
def o578 (_ : Params) : Obj := fO "read" "Rooms.read" (inClass (top 31) 9) (s z55 827) (.ref 577)
def o581 (_ : Params) : Obj := tO [s z37 938, s z46 939, s z51 940, s 440073544311 941, s 500186702449 942]
def o584 (_ : Params) : Obj := cO [s 440056574840 935, s 123864914154512226205069395 936, s z2 937, i 273, i 4, i 0, i 0, i 3, .ref 579, (.bool true), i 181, .ref 580, .none, .ref 581, .ref 582, .ref 583, i 943, i 273, s z2 944]
def o585 (_ : Params) : Obj := fO "write" "Rooms.write" (inClass (top 31) 10) (s z55 827) (.ref 584)
def o588 (_ : Params) : Obj := tO [s z37 949]
def o591 (_ : Params) : Obj := cO [s 1701671015 946, s 478977809368500472410195 947, s z2 948, i 277, i 1, i 0, i 0, i 3, .ref 586, (.bool true), i 181, .ref 587, .none, .ref 588, .ref 589, .ref 590, i 950, i 277, s z2 951]
def o592 (_ : Params) : Obj := fO "fold" "Rooms.fold" (inClass (top 31) 11) (s z55 827) (.ref 591)
def o595 (_ : Params) : Obj := tO [s z37 956]
def o598 (_ : Params) : Obj := cO [s z52 953, s 609859923998260050033739196198318163 954, s z2 955, i 280, i 1, i 0, i 0, i 3, .ref 593, (.bool true), i 181, .ref 594, .none, .ref 595, .ref 596, .ref 597, i 957, i 280, s z2 958]
def o599 (_ : Params) : Obj := fO "task_list" "Rooms.task_list" (inClass (top 31) 12) (s z55 827) (.ref 598)
def o602 (_ : Params) : Obj := tO [s z37 963]
def o605 (_ : Params) : Obj := cO [s z53 960, s 609859923998259957794952278069768275 961, s z2 962, i 283, i 1, i 0, i 0, i 3, .ref 600, (.bool true), i 181, .ref 601, .none, .ref 602, .ref 603, .ref 604, i 964, i 283, s z2 965]
def o606 (_ : Params) : Obj := fO "bank_list" "Rooms.bank_list" (inClass (top 31) 13) (s z55 827) (.ref 605)
def o609 (_ : Params) : Obj := tO [s z37 970, s z46 971]
def o612 (_ : Params) : Obj := cO [s z54 967, s 9010805286337637281539545668179968268464211 968, s z2 969, i 286, i 2, i 0, i 0, i 3, .ref 607, (.bool true), i 181, .ref 608, .none, .ref 609, .ref 610, .ref 611, i 972, i 286, s z2 973]
def o613 (_ : Params) : Obj := fO "stretches_of" "Rooms.stretches_of" (inClass (top 31) 14) (s z55 827) (.ref 612)
def o617 (_ : Params) : Obj := cO [s 34449212995692148 975, s 9696591425662875424532162703443 976, s z2 977, i 289, i 2, i 0, i 0, i 3, .ref 614, (.bool true), i 181, .ref 615, .none, .none, .none, .ref 616, i 978, i 289, s z2 979]
def o618 (_ : Params) : Obj := fO "seen_by" "Rooms.seen_by" (inClass (top 31) 15) (s z55 827) (.ref 617)
def o621 (_ : Params) : Obj := tO [s z37 984]
def o624 (_ : Params) : Obj := cO [s 140789800901245672938236525 981, s 39628805929776020909669620356470931484755 982, s z2 983, i 292, i 1, i 0, i 0, i 3, .ref 619, (.bool true), i 181, .ref 620, .none, .ref 621, .ref 622, .ref 623, i 985, i 292, s z2 986]
def o625 (_ : Params) : Obj := fO "live_sheets" "Rooms.live_sheets" (inClass (top 31) 16) (s z55 827) (.ref 624)
def o628 (_ : Params) : Obj := tO [s z37 991, s z46 992, s z35 993, s 6711925 994, s z56 995, s z44 996]
def o631 (_ : Params) : Obj := cO [s 478762002804 988, s 134759523589255099684253779 989, s z2 990, i 295, i 4, i 0, i 0, i 3, .ref 626, (.bool true), i 181, .ref 627, .none, .ref 628, .ref 629, .ref 630, i 997, i 295, s z2 998]
def o632 (_ : Params) : Obj := fO "shown" "Rooms.shown" (inClass (top 31) 17) (s z55 827) (.ref 631)
def o635 (_ : Params) : Obj := tO [s z37 1003]
def o638 (_ : Params) : Obj := cO [s 32780192883044463 1000, s 9226804028325751835527849472083 1001, s z2 1002, i 300, i 1, i 0, i 0, i 3, .ref 633, (.bool true), i 181, .ref 634, .none, .ref 635, .ref 636, .ref 637, i 1004, i 300, s z2 1005]
def o639 (_ : Params) : Obj := fO "noughts" "Rooms.noughts" (inClass (top 31) 18) (s z55 827) (.ref 638)
def o642 (_ : Params) : Obj := tO [s z37 1010, s z46 1011, s z35 1012, s 6711925 1013]
def o645 (_ : Params) : Obj := cO [s 8032497800187927056105972590964 1007, s 2260947131236292320297530778482347951583686739 1008, s z2 1009, i 303, i 3, i 0, i 0, i 3, .ref 640, (.bool true), i 181, .ref 641, .none, .ref 642, .ref 643, .ref 644, i 1014, i 303, s z2 1015]
def o646 (_ : Params) : Obj := fO "sheet_to_read" "Rooms.sheet_to_read" (inClass (top 31) 19) (s z55 827) (.ref 645)
def o649 (_ : Params) : Obj := tO [s z37 1020, s z46 1021, s z35 1022, s z56 1023, s z44 1024]
def o652 (_ : Params) : Obj := cO [s 2078108419592612597865299602467188 1017, s 584935519007048777795440555185823689555525529683 1018, s z2 1019, i 309, i 3, i 0, i 0, i 3, .ref 647, (.bool true), i 181, .ref 648, .none, .ref 649, .ref 650, .ref 651, i 1025, i 309, s z2 1026]
def o653 (_ : Params) : Obj := fO "sheet_to_write" "Rooms.sheet_to_write" (inClass (top 31) 20) (s z55 827) (.ref 652)
def o656 (_ : Params) : Obj := tO [s z37 1031, s z56 1032, s z35 1033]
def o659 (_ : Params) : Obj := cO [s 123855394913203706996877684 1028, s 34862194398683115037494871830585806975059 1029, s z2 1030, i 317, i 3, i 0, i 0, i 3, .ref 654, (.bool true), i 181, .ref 655, .none, .ref 656, .ref 657, .ref 658, i 1034, i 317, s z2 1035]
def o660 (_ : Params) : Obj := fO "sheet_there" "Rooms.sheet_there" (inClass (top 31) 21) (s z55 827) (.ref 659)
def o663 (_ : Params) : Obj := tO [s z37 1040, s z56 1041, s 2360878370155222899437929793546855 1042]
def o666 (_ : Params) : Obj := cO [s 549683601607383713673319 1037, s 154722178960667841812885269966685761619 1038, s z2 1039, i 322, i 3, i 0, i 0, i 3, .ref 661, (.bool true), i 181, .ref 662, .none, .ref 663, .ref 664, .ref 665, i 1043, i 322, s z2 1044]
def o667 (_ : Params) : Obj := fO "fold_pages" "Rooms.fold_pages" (inClass (top 31) 22) (s z55 827) (.ref 666)
def o670 (_ : Params) : Obj := tO [s z37 1049, s 499935440995 1050, s z44 1051]
def o673 (_ : Params) : Obj := cO [s 2165647757612066301551 1046, s 609575652137340752373089254486601811 1047, s z2 1048, i 325, i 2, i 0, i 0, i 3, .ref 668, (.bool true), i 181, .ref 669, .none, .ref 670, .ref 671, .ref 672, i 1052, i 325, s z2 1053]
def o674 (_ : Params) : Obj := fO "new_sheet" "Rooms.new_sheet" (inClass (top 31) 23) (s z55 827) (.ref 673)
def o677 (_ : Params) : Obj := tO [s z37 1058, s z56 1059, s z35 1060, s z44 1061]
def o680 (_ : Params) : Obj := cO [s 135892596177744215321962093 1055, s 38250365344281133571179105536106176737363 1056, s z2 1057, i 334, i 3, i 0, i 0, i 3, .ref 675, (.bool true), i 181, .ref 676, .none, .ref 677, .ref 678, .ref 679, i 1062, i 334, s z2 1063]
def o681 (_ : Params) : Obj := fO "let_page_go" "Rooms.let_page_go" (inClass (top 31) 24) (s z55 827) (.ref 680)
def o684 (_ : Params) : Obj := tO [s z37 1068, s z56 1069]
def o687 (_ : Params) : Obj := cO [s 530830455795135452374637 1065, s 149415490182242660767447924803577606227 1066, s z2 1067, i 343, i 2, i 0, i 0, i 3, .ref 682, (.bool true), i 181, .ref 683, .none, .ref 684, .ref 685, .ref 686, i 1070, i 343, s z2 1071]
def o688 (_ : Params) : Obj := fO "let_all_go" "Rooms.let_all_go" (inClass (top 31) 25) (s z55 827) (.ref 687)
def o689 (_ : Params) : Obj := ⟨(.type "tuple"), none, .seq #[(.str (Str.ofString "banked") 1073), (.str (Str.ofString "havers") 1074), (.str (Str.ofString "house") 1075), (.str (Str.ofString "made") 1076), (.str (Str.ofString "most") 1077), (.str (Str.ofString "private") 1078), (.str (Str.ofString "shape") 1079), (.str (Str.ofString "sheets") 1080)] 0, #[]⟩
def o690 (P : Params) : Obj := dO 4 [e P z28 836 (s z55 827), e P z30 840 (.int (231) 839), e P z38 849 (.ref 514), e P z47 857 (.ref 521), e P 1819504743 865 (.ref 528), e P z48 873 (.ref 535), e P z49 881 (.ref 542), e P z50 889 (.ref 549), e P 8020589 903 (.ref 557), e P 1969711725 913 (.ref 564), e P z40 924 (.ref 571), e P 1700947571 934 (.ref 578), e P 440056574840 945 (.ref 585), e P 1701671015 952 (.ref 592), e P z52 959 (.ref 599), e P z53 966 (.ref 606), e P z54 974 (.ref 613), e P 34449212995692148 980 (.ref 618), e P 140789800901245672938236525 987 (.ref 625), e P 478762002804 999 (.ref 632), e P 32780192883044463 1006 (.ref 639), e P 8032497800187927056105972590964 1016 (.ref 646), e P 2078108419592612597865299602467188 1027 (.ref 653), e P 123855394913203706996877684 1036 (.ref 660), e P 549683601607383713673319 1045 (.ref 667), e P 2165647757612066301551 1054 (.ref 674), e P 135892596177744215321962093 1064 (.ref 681), e P 530830455795135452374637 1072 (.ref 688), e P z31 1081 (.ref 689), e P z43 1083 (.ref 692), e P z32 1085 (.ref 693), e P z1 1086 .none]
def o691 (_ : Params) : Obj := ⟨(.type "type"), none, .cls { name := (Str.ofString "Rooms"), bases := [(.type "object")], mro := [.ref 691, (.type "object")], ns := 690, qualname := (Str.ofString "Rooms"), hasDict := true, slotNames := [], subclasses := [], abstract := false, collection := none, hasDel := false }, #[none, none, (some (s 500069068883 829)), (some (s 500069068883 837)), (some (.builtin "object.__new__")), (some (.bool true))]⟩
def o692 (_ : Params) : Obj := ⟨(.type "getset_descriptor"), none, .fields ⟨[s z43 1082, .ref 691, (.builtin "function.__dict__"), (.builtin "function.__dict__#set")]⟩, #[]⟩
def o693 (_ : Params) : Obj := ⟨(.type "getset_descriptor"), none, .fields ⟨[s z32 1084, .ref 691, (.builtin "ExceptionGroup.__weakref__"), .none]⟩, #[]⟩
def o698 (_ : Params) : Obj := tO [s 8462094853666339174 1096, s 495640408177 1097, s 7525350520412074085 1098]
def o701 (_ : Params) : Obj := cO [s z23 1093, s z23 1094, s z2 1095, i 347, i 1, i 0, i 0, i 3, .ref 696, (.bool true), i 181, .ref 697, .none, .ref 698, .ref 699, .ref 700, i 1099, i 347, s z2 1100]
def o702 (_ : Params) : Obj := fO "power_of_two" "power_of_two" (top 34) (s z57 1089) (.ref 701)
def o705 (_ : Params) : Obj := tO [s 128013219358317 1105, s 7299687 1106, s 478526206824 1107]
def o708 (_ : Params) : Obj := cO [s z24 1102, s z24 1103, s z2 1104, i 352, i 3, i 0, i 0, i 3, .ref 703, (.bool true), i 181, .ref 704, .none, .ref 705, .ref 706, .ref 707, i 1108, i 352, s z2 1109]
def o709 (_ : Params) : Obj := fO "check_measures" "check_measures" (top 35) (s z57 1089) (.ref 708)
def o719 (_ : Params) : Obj := tO [s z37 1126, s 128013219358317 1127, s 7299687 1128, s 478526206824 1129]
def o722 (_ : Params) : Obj := cO [s z38 1123, s 1954753563970360692704735932868948 1124, s z2 1125, i 361, i 4, i 0, i 0, i 3, .ref 717, (.bool true), i 181, .ref 718, .none, .ref 719, .ref 720, .ref 721, i 1130, i 361, s z2 1131]
def o723 (_ : Params) : Obj := fO "__init__" "Shape.__init__" (inClass (top 36) 0) (s z57 1089) (.ref 722)
def o726 (_ : Params) : Obj := tO [s z37 1136]
def o729 (_ : Params) : Obj := cO [s 483958001635892750870900 1133, s 136222067239398530400517607478345754964 1134, s z2 1135, i 370, i 1, i 0, i 0, i 3, .ref 724, (.bool true), i 181, .ref 725, .none, .ref 726, .ref 727, .ref 728, i 1137, i 370, s z2 1138]
def o730 (_ : Params) : Obj := fO "sheet_size" "Shape.sheet_size" (inClass (top 36) 1) (s z57 1089) (.ref 729)
def o733 (_ : Params) : Obj := tO [s z37 1143]
def o736 (_ : Params) : Obj := cO [s 554573001519589315076721 1140, s 156098422687084996958981798045893683540 1141, s z2 1142, i 373, i 1, i 0, i 0, i 3, .ref 731, (.bool true), i 181, .ref 732, .none, .ref 733, .ref 734, .ref 735, i 1144, i 373, s z2 1145]
def o737 (_ : Params) : Obj := fO "page_count" "Shape.page_count" (inClass (top 36) 2) (s z57 1089) (.ref 736)
def o740 (_ : Params) : Obj := tO [s z37 1150, s z35 1151]
def o743 (_ : Params) : Obj := cO [s 7379256228535624297 1147, s 2077075975069028078541421527853396 1148, s z2 1149, i 376, i 2, i 0, i 0, i 3, .ref 738, (.bool true), i 181, .ref 739, .none, .ref 740, .ref 741, .ref 742, i 1152, i 376, s z2 1153]
def o744 (_ : Params) : Obj := fO "has_page" "Shape.has_page" (inClass (top 36) 3) (s z57 1089) (.ref 743)
def o747 (_ : Params) : Obj := tO [s z37 1158, s z35 1159]
def o750 (_ : Params) : Obj := cO [s 483606936193276347574628 1155, s 136123251102114162142305122687958280532 1156, s z2 1157, i 379, i 2, i 0, i 0, i 3, .ref 745, (.bool true), i 181, .ref 746, .none, .ref 747, .ref 748, .ref 749, i 1160, i 379, s z2 1161]
def o751 (_ : Params) : Obj := fO "check_page" "Shape.check_page" (inClass (top 36) 4) (s z57 1089) (.ref 750)
def o754 (_ : Params) : Obj := tO [s z37 1166, s z51 1167]
def o757 (_ : Params) : Obj := cO [s 140785079470369141693899369 1163, s 39627476965130008305525577047426929420628 1164, s z2 1165, i 383, i 2, i 0, i 0, i 3, .ref 752, (.bool true), i 181, .ref 753, .none, .ref 754, .ref 755, .ref 756, i 1168, i 383, s z2 1169]
def o758 (_ : Params) : Obj := fO "has_address" "Shape.has_address" (inClass (top 36) 5) (s z57 1089) (.ref 757)
def o761 (_ : Params) : Obj := tO [s z37 1174, s z51 1175]
def o764 (_ : Params) : Obj := cO [s 111490731565681 1171, s 31381851070904111347232041300 1172, s z2 1173, i 386, i 2, i 0, i 0, i 3, .ref 759, (.bool true), i 181, .ref 760, .none, .ref 761, .ref 762, .ref 763, i 1176, i 386, s z2 1177]
def o765 (_ : Params) : Obj := fO "parted" "Shape.parted" (inClass (top 36) 6) (s z57 1089) (.ref 764)
def o768 (_ : Params) : Obj := tO [s z37 1182, s z35 1183, s 7958627 1184]
def o771 (_ : Params) : Obj := cO [s z51 1179, s 9226490968170112016115440970068 1180, s z2 1181, i 391, i 3, i 0, i 0, i 3, .ref 766, (.bool true), i 181, .ref 767, .none, .ref 768, .ref 769, .ref 770, i 1185, i 391, s z2 1186]
def o772 (_ : Params) : Obj := fO "address" "Shape.address" (inClass (top 36) 7) (s z57 1089) (.ref 771)
def o775 (_ : Params) : Obj := tO [s z37 1191, s z35 1192]
def o778 (_ : Params) : Obj := cO [s 500118746484 1188, s 140770912519198489320778068 1189, s z2 1190, i 397, i 2, i 0, i 0, i 3, .ref 773, (.bool true), i 181, .ref 774, .none, .ref 775, .ref 776, .ref 777, i 1193, i 397, s z2 1194]
def o779 (_ : Params) : Obj := fO "steps" "Shape.steps" (inClass (top 36) 8) (s z57 1089) (.ref 778)
def o782 (_ : Params) : Obj := tO [s z37 1199, s 500118746484 1200]
def o785 (_ : Params) : Obj := cO [s 29115481938485873 1196, s 8195279600554836563607700007252 1197, s z2 1198, i 400, i 2, i 0, i 0, i 3, .ref 780, (.bool true), i 181, .ref 781, .none, .ref 782, .ref 783, .ref 784, i 1201, i 400, s z2 1202]
def o786 (_ : Params) : Obj := fO "page_of" "Shape.page_of" (inClass (top 36) 9) (s z57 1089) (.ref 785)
def o789 (_ : Params) : Obj := tO [s z37 1207, s z36 1208, s z39 1209]
def o792 (_ : Params) : Obj := cO [s 1953852007 1204, s 549960448218510519331156 1205, s z2 1206, i 403, i 3, i 0, i 0, i 3, .ref 787, (.bool true), i 181, .ref 788, .none, .ref 789, .ref 790, .ref 791, i 1210, i 403, s z2 1211]
def o793 (_ : Params) : Obj := fO "fits" "Shape.fits" (inClass (top 36) 10) (s z57 1089) (.ref 792)
def o794 (_ : Params) : Obj := ⟨(.type "tuple"), none, .seq #[(.str (Str.ofString "boxes") 1213), (.str (Str.ofString "fan") 1214), (.str (Str.ofString "grain") 1215), (.str (Str.ofString "levels") 1216), (.str (Str.ofString "pages") 1217), (.str (Str.ofString "ways") 1218)] 0, #[]⟩
def o795 (P : Params) : Obj := dO 4 [e P z28 1118 (s z57 1089), e P z30 1122 (.int (359) 1121), e P z38 1132 (.ref 723), e P 483958001635892750870900 1139 (.ref 730), e P 554573001519589315076721 1146 (.ref 737), e P 7379256228535624297 1154 (.ref 744), e P 483606936193276347574628 1162 (.ref 751), e P 140785079470369141693899369 1170 (.ref 758), e P 111490731565681 1178 (.ref 765), e P z51 1187 (.ref 772), e P 500118746484 1195 (.ref 779), e P 29115481938485873 1203 (.ref 786), e P 1953852007 1212 (.ref 793), e P z31 1219 (.ref 794), e P z43 1221 (.ref 797), e P z32 1223 (.ref 798), e P z1 1224 .none]
def o796 (_ : Params) : Obj := ⟨(.type "type"), none, .cls { name := (Str.ofString "Shape"), bases := [(.type "object")], mro := [.ref 796, (.type "object")], ns := 795, qualname := (Str.ofString "Shape"), hasDict := true, slotNames := [], subclasses := [], abstract := false, collection := none, hasDel := false }, #[none, none, (some (s 439988939092 1111)), (some (s 439988939092 1119)), (some (.builtin "object.__new__")), (some (.bool true))]⟩
def o797 (_ : Params) : Obj := ⟨(.type "getset_descriptor"), none, .fields ⟨[s z43 1220, .ref 796, (.builtin "function.__dict__"), (.builtin "function.__dict__#set")]⟩, #[]⟩
def o798 (_ : Params) : Obj := ⟨(.type "getset_descriptor"), none, .fields ⟨[s z32 1222, .ref 796, (.builtin "ExceptionGroup.__weakref__"), .none]⟩, #[]⟩
def o803 (_ : Params) : Obj := tO [s 141979911977246466280418656 1232, s 119161592376672 1233]
def o806 (_ : Params) : Obj := cO [s z25 1229, s z25 1230, s z2 1231, i 406, i 2, i 0, i 0, i 3, .ref 801, (.bool true), i 181, .ref 802, .none, .ref 803, .ref 804, .ref 805, i 1234, i 406, s z2 1235]
def o807 (_ : Params) : Obj := fO "_law_cell_at" "_law_cell_at" (top 38) (s z0 1227) (.ref 806)
def o810 (_ : Params) : Obj := tO [s z58 1240, s 483533148109722095873376 1241, s 2258528875839108574560 1242, s 483718193700061355076960 1243]
def o813 (_ : Params) : Obj := cO [s 2166583389145247411552 1237, s 2166583389145247411552 1238, s z2 1239, i 410, i 3, i 0, i 0, i 3, .ref 808, (.bool true), i 181, .ref 809, .none, .ref 810, .ref 811, .ref 812, i 1244, i 410, s z2 1245]
def o814 (_ : Params) : Obj := fO "_law_part" "_law_part" (top 39) (s z0 1227) (.ref 813)
def o817 (_ : Params) : Obj := tO [s 479015137796973828140384 1250, s 7383200104131489120 1251]
def o820 (_ : Params) : Obj := cO [s z26 1247, s z26 1248, s z2 1249, i 413, i 2, i 0, i 0, i 3, .ref 815, (.bool true), i 181, .ref 816, .none, .ref 817, .ref 818, .ref 819, i 1252, i 413, s z2 1253]
def o821 (_ : Params) : Obj := fO "_law_whole" "_law_whole" (top 40) (s z0 1227) (.ref 820)
def o824 (_ : Params) : Obj := tO [s 1871007083449387478368 1258, s 554665017381624725269856 1259, s 2258528875839108574560 1260, s 1890460943890256129376 1261, s z59 1262, s 119161592376672 1263, s 8678563340116716896 1264, s 8750603341968600416 1265]
def o827 (_ : Params) : Obj := cO [s 2054967305178938764640 1255, s 2054967305178938764640 1256, s z2 1257, i 415, i 5, i 0, i 0, i 3, .ref 822, (.bool true), i 181, .ref 823, .none, .ref 824, .ref 825, .ref 826, i 1266, i 415, s z2 1267]
def o828 (_ : Params) : Obj := fO "_law_seen" "_law_seen" (top 41) (s z0 1227) (.ref 827)
def o831 (_ : Params) : Obj := tO [s z60 1272, s 2000634754473945886048 1273, s 36040980344414500273705348448 1274, s z59 1275, s z58 1276, s 483865979046955610959200 1277]
def o834 (_ : Params) : Obj := cO [s z27 1269, s z27 1270, s z2 1271, i 428, i 5, i 0, i 0, i 3, .ref 829, (.bool true), i 181, .ref 830, .none, .ref 831, .ref 832, .ref 833, i 1278, i 428, s z2 1279]
def o835 (_ : Params) : Obj := fO "_law_access" "_law_access" (top 42) (s z0 1227) (.ref 834)
def o838 (_ : Params) : Obj := tO [s z58 1284, s z60 1285, s 2000634754473945886048 1286, s 1890460943890256129376 1287, s 119161592376672 1288]
def o841 (_ : Params) : Obj := cO [s 1888875681219468225888 1281, s 1888875681219468225888 1282, s z2 1283, i 436, i 1, i 0, i 0, i 3, .ref 836, (.bool true), i 181, .ref 837, .none, .ref 838, .ref 839, .ref 840, i 1289, i 436, s z2 1290]
def o842 (_ : Params) : Obj := fO "_law_wide" "_law_wide" (top 43) (s z0 1227) (.ref 841)
def o845 (_ : Params) : Obj := tO [s 141979911977246466280418656 1295, s 140752023193509693210389856 1296, s 8026091149961882976 1297, s 526145128598945415720288 1298, s 1890460943890256129376 1299, s 554573001519589616676192 1300, s 2258528875839108574560 1301, s 554665017381624725269856 1302, s z60 1303, s 2000634754473945886048 1304, s 123789356357834445210938720 1305, s z59 1306, s 31381794127246103151789632864 1307, s z58 1308, s 1889089594505186930016 1309, s 36040980344414500273705348448 1310, s 1871007083449387478368 1311]
def o848 (_ : Params) : Obj := cO [s 7889517 1292, s 7889517 1293, s z2 1294, i 447, i 1, i 0, i 0, i 3, .ref 843, (.bool true), i 181, .ref 844, .none, .ref 845, .ref 846, .ref 847, i 1312, i 447, s z2 1313]
def o849 (_ : Params) : Obj := fO "law" "law" (top 44) (s z0 1227) (.ref 848)
def Kf : Params → PySem.W.Frag := fun P => (nat_lit 2, o2 P) :: (nat_lit 3, o3 P) :: (nat_lit 15, o15 P) :: (nat_lit 17, o17 P) :: (nat_lit 18, o15 P) :: (nat_lit 20, o20 P) :: (nat_lit 21, o21 P) :: (nat_lit 22, o22 P) :: (nat_lit 29, o29 P) :: (nat_lit 30, o30 P) :: (nat_lit 31, o31 P) :: (nat_lit 32, o32 P) :: (nat_lit 35, o35 P) :: (nat_lit 42, o29 P) :: (nat_lit 43, o43 P) :: (nat_lit 44, o44 P) :: (nat_lit 47, o35 P) :: (nat_lit 54, o29 P) :: (nat_lit 55, o55 P) :: (nat_lit 56, o56 P) :: (nat_lit 59, o35 P) :: (nat_lit 66, o29 P) :: (nat_lit 67, o67 P) :: (nat_lit 68, o68 P) :: (nat_lit 71, o35 P) :: (nat_lit 78, o29 P) :: (nat_lit 79, o79 P) :: (nat_lit 80, o80 P) :: (nat_lit 83, o35 P) :: (nat_lit 90, o29 P) :: (nat_lit 91, o91 P) :: (nat_lit 92, o92 P) :: (nat_lit 95, o35 P) :: (nat_lit 102, o29 P) :: (nat_lit 103, o103 P) :: (nat_lit 104, o104 P) :: (nat_lit 107, o35 P) :: (nat_lit 114, o29 P) :: (nat_lit 115, o115 P) :: (nat_lit 116, o116 P) :: (nat_lit 119, o35 P) :: (nat_lit 126, o29 P) :: (nat_lit 127, o127 P) :: (nat_lit 128, o128 P) :: (nat_lit 131, o35 P) :: (nat_lit 138, o29 P) :: (nat_lit 139, o139 P) :: (nat_lit 140, o140 P) :: (nat_lit 143, o35 P) :: (nat_lit 150, o29 P) :: (nat_lit 151, o151 P) :: (nat_lit 152, o152 P) :: (nat_lit 155, o15 P) :: (nat_lit 157, o157 P) :: (nat_lit 158, o15 P) :: (nat_lit 160, o160 P) :: (nat_lit 161, o161 P) :: (nat_lit 162, o15 P) :: (nat_lit 164, o164 P) :: (nat_lit 165, o15 P) :: (nat_lit 167, o167 P) :: (nat_lit 168, o168 P) :: (nat_lit 169, o15 P) :: (nat_lit 171, o171 P) :: (nat_lit 172, o15 P) :: (nat_lit 174, o174 P) :: (nat_lit 175, o175 P) :: (nat_lit 176, o15 P) :: (nat_lit 178, o178 P) :: (nat_lit 179, o15 P) :: (nat_lit 181, o181 P) :: (nat_lit 182, o182 P) :: (nat_lit 183, o15 P) :: (nat_lit 185, o185 P) :: (nat_lit 186, o15 P) :: (nat_lit 188, o188 P) :: (nat_lit 189, o189 P) :: (nat_lit 190, o15 P) :: (nat_lit 192, o192 P) :: (nat_lit 193, o15 P) :: (nat_lit 195, o195 P) :: (nat_lit 196, o196 P) :: (nat_lit 197, o15 P) :: (nat_lit 199, o199 P) :: (nat_lit 200, o15 P) :: (nat_lit 202, o202 P) :: (nat_lit 203, o203 P) :: (nat_lit 204, o15 P) :: (nat_lit 206, o206 P) :: (nat_lit 207, o15 P) :: (nat_lit 209, o209 P) :: (nat_lit 210, o210 P) :: (nat_lit 218, o15 P) :: (nat_lit 220, o220 P) :: (nat_lit 221, o15 P) :: (nat_lit 223, o223 P) :: (nat_lit 224, o224 P) :: (nat_lit 225, o225 P) :: (nat_lit 226, o15 P) :: (nat_lit 228, o228 P) :: (nat_lit 229, o15 P) :: (nat_lit 231, o231 P) :: (nat_lit 232, o232 P) :: (nat_lit 233, o15 P) :: (nat_lit 235, o235 P) :: (nat_lit 236, o15 P) :: (nat_lit 238, o238 P) :: (nat_lit 239, o239 P) :: (nat_lit 240, o15 P) :: (nat_lit 242, o242 P) :: (nat_lit 243, o15 P) :: (nat_lit 245, o245 P) :: (nat_lit 246, o246 P) :: (nat_lit 247, o15 P) :: (nat_lit 249, o249 P) :: (nat_lit 250, o15 P) :: (nat_lit 252, o252 P) :: (nat_lit 253, o253 P) :: (nat_lit 254, o15 P) :: (nat_lit 256, o256 P) :: (nat_lit 257, o15 P) :: (nat_lit 259, o259 P) :: (nat_lit 260, o260 P) :: (nat_lit 261, o15 P) :: (nat_lit 263, o263 P) :: (nat_lit 264, o15 P) :: (nat_lit 266, o266 P) :: (nat_lit 267, o267 P) :: (nat_lit 268, o15 P) :: (nat_lit 270, o270 P) :: (nat_lit 271, o15 P) :: (nat_lit 273, o273 P) :: (nat_lit 274, o274 P) :: (nat_lit 275, o15 P) :: (nat_lit 277, o277 P) :: (nat_lit 278, o15 P) :: (nat_lit 280, o280 P) :: (nat_lit 281, o281 P) :: (nat_lit 282, o15 P) :: (nat_lit 284, o284 P) :: (nat_lit 285, o15 P) :: (nat_lit 287, o287 P) :: (nat_lit 288, o288 P) :: (nat_lit 289, o15 P) :: (nat_lit 291, o291 P) :: (nat_lit 292, o15 P) :: (nat_lit 294, o294 P) :: (nat_lit 295, o295 P) :: (nat_lit 296, o15 P) :: (nat_lit 298, o298 P) :: (nat_lit 299, o15 P) :: (nat_lit 301, o301 P) :: (nat_lit 302, o302 P) :: (nat_lit 303, o15 P) :: (nat_lit 305, o305 P) :: (nat_lit 306, o15 P) :: (nat_lit 308, o308 P) :: (nat_lit 309, o309 P) :: (nat_lit 310, o15 P) :: (nat_lit 313, o313 P) :: (nat_lit 314, o314 P) :: (nat_lit 315, o15 P) :: (nat_lit 317, o317 P) :: (nat_lit 318, o15 P) :: (nat_lit 320, o320 P) :: (nat_lit 321, o321 P) :: (nat_lit 322, o15 P) :: (nat_lit 325, o325 P) :: (nat_lit 326, o326 P) :: (nat_lit 327, o327 P) :: (nat_lit 328, o328 P) :: (nat_lit 329, o329 P) :: (nat_lit 330, o330 P) :: (nat_lit 331, o331 P) :: (nat_lit 334, o15 P) :: (nat_lit 336, o336 P) :: (nat_lit 337, o15 P) :: (nat_lit 339, o339 P) :: (nat_lit 340, o340 P) :: (nat_lit 348, o15 P) :: (nat_lit 350, o350 P) :: (nat_lit 351, o15 P) :: (nat_lit 353, o353 P) :: (nat_lit 354, o354 P) :: (nat_lit 355, o15 P) :: (nat_lit 357, o357 P) :: (nat_lit 358, o15 P) :: (nat_lit 360, o360 P) :: (nat_lit 361, o361 P) :: (nat_lit 362, o15 P) :: (nat_lit 364, o364 P) :: (nat_lit 365, o15 P) :: (nat_lit 367, o367 P) :: (nat_lit 368, o368 P) :: (nat_lit 369, o15 P) :: (nat_lit 371, o371 P) :: (nat_lit 372, o15 P) :: (nat_lit 374, o374 P) :: (nat_lit 375, o375 P) :: (nat_lit 376, o15 P) :: (nat_lit 378, o378 P) :: (nat_lit 379, o15 P) :: (nat_lit 381, o381 P) :: (nat_lit 382, o382 P) :: (nat_lit 383, o15 P) :: (nat_lit 385, o385 P) :: (nat_lit 386, o15 P) :: (nat_lit 388, o388 P) :: (nat_lit 389, o389 P) :: (nat_lit 390, o390 P) :: (nat_lit 391, o15 P) :: (nat_lit 393, o393 P) :: (nat_lit 394, o15 P) :: (nat_lit 396, o396 P) :: (nat_lit 397, o397 P) :: (nat_lit 398, o15 P) :: (nat_lit 400, o400 P) :: (nat_lit 401, o15 P) :: (nat_lit 403, o403 P) :: (nat_lit 404, o404 P) :: (nat_lit 405, o15 P) :: (nat_lit 407, o407 P) :: (nat_lit 408, o15 P) :: (nat_lit 410, o410 P) :: (nat_lit 411, o411 P) :: (nat_lit 412, o15 P) :: (nat_lit 414, o414 P) :: (nat_lit 415, o15 P) :: (nat_lit 417, o417 P) :: (nat_lit 418, o418 P) :: (nat_lit 419, o15 P) :: (nat_lit 421, o421 P) :: (nat_lit 422, o15 P) :: (nat_lit 424, o424 P) :: (nat_lit 425, o425 P) :: (nat_lit 426, o15 P) :: (nat_lit 428, o428 P) :: (nat_lit 429, o15 P) :: (nat_lit 431, o431 P) :: (nat_lit 432, o432 P) :: (nat_lit 433, o15 P) :: (nat_lit 435, o435 P) :: (nat_lit 436, o15 P) :: (nat_lit 438, o438 P) :: (nat_lit 439, o439 P) :: (nat_lit 440, o15 P) :: (nat_lit 442, o442 P) :: (nat_lit 443, o15 P) :: (nat_lit 445, o445 P) :: (nat_lit 446, o446 P) :: (nat_lit 447, o15 P) :: (nat_lit 449, o449 P) :: (nat_lit 450, o15 P) :: (nat_lit 452, o452 P) :: (nat_lit 453, o453 P) :: (nat_lit 454, o15 P) :: (nat_lit 456, o456 P) :: (nat_lit 457, o15 P) :: (nat_lit 459, o459 P) :: (nat_lit 460, o460 P) :: (nat_lit 461, o15 P) :: (nat_lit 464, o464 P) :: (nat_lit 465, o465 P) :: (nat_lit 466, o15 P) :: (nat_lit 468, o468 P) :: (nat_lit 469, o15 P) :: (nat_lit 471, o471 P) :: (nat_lit 472, o472 P) :: (nat_lit 473, o15 P) :: (nat_lit 475, o475 P) :: (nat_lit 476, o15 P) :: (nat_lit 478, o478 P) :: (nat_lit 479, o479 P) :: (nat_lit 480, o15 P) :: (nat_lit 482, o482 P) :: (nat_lit 483, o15 P) :: (nat_lit 485, o485 P) :: (nat_lit 486, o486 P) :: (nat_lit 487, o15 P) :: (nat_lit 489, o489 P) :: (nat_lit 490, o15 P) :: (nat_lit 492, o492 P) :: (nat_lit 493, o493 P) :: (nat_lit 494, o494 P) :: (nat_lit 495, o495 P) :: (nat_lit 496, o496 P) :: (nat_lit 497, o497 P) :: (nat_lit 498, o498 P) :: (nat_lit 508, o15 P) :: (nat_lit 510, o510 P) :: (nat_lit 511, o15 P) :: (nat_lit 513, o513 P) :: (nat_lit 514, o514 P) :: (nat_lit 515, o15 P) :: (nat_lit 517, o517 P) :: (nat_lit 518, o15 P) :: (nat_lit 520, o520 P) :: (nat_lit 521, o521 P) :: (nat_lit 522, o15 P) :: (nat_lit 524, o524 P) :: (nat_lit 525, o15 P) :: (nat_lit 527, o527 P) :: (nat_lit 528, o528 P) :: (nat_lit 529, o15 P) :: (nat_lit 531, o531 P) :: (nat_lit 532, o15 P) :: (nat_lit 534, o534 P) :: (nat_lit 535, o535 P) :: (nat_lit 536, o15 P) :: (nat_lit 538, o538 P) :: (nat_lit 539, o15 P) :: (nat_lit 541, o541 P) :: (nat_lit 542, o542 P) :: (nat_lit 543, o15 P) :: (nat_lit 545, o545 P) :: (nat_lit 546, o15 P) :: (nat_lit 548, o548 P) :: (nat_lit 549, o549 P) :: (nat_lit 550, o550 P) :: (nat_lit 551, o15 P) :: (nat_lit 553, o553 P) :: (nat_lit 554, o15 P) :: (nat_lit 556, o556 P) :: (nat_lit 557, o557 P) :: (nat_lit 558, o15 P) :: (nat_lit 560, o560 P) :: (nat_lit 561, o15 P) :: (nat_lit 563, o563 P) :: (nat_lit 564, o564 P) :: (nat_lit 565, o15 P) :: (nat_lit 567, o567 P) :: (nat_lit 568, o15 P) :: (nat_lit 570, o570 P) :: (nat_lit 571, o571 P) :: (nat_lit 572, o15 P) :: (nat_lit 574, o574 P) :: (nat_lit 575, o15 P) :: (nat_lit 577, o577 P) :: (nat_lit 578, o578 P) :: (nat_lit 579, o15 P) :: (nat_lit 581, o581 P) :: (nat_lit 582, o15 P) :: (nat_lit 584, o584 P) :: (nat_lit 585, o585 P) :: (nat_lit 586, o15 P) :: (nat_lit 588, o588 P) :: (nat_lit 589, o15 P) :: (nat_lit 591, o591 P) :: (nat_lit 592, o592 P) :: (nat_lit 593, o15 P) :: (nat_lit 595, o595 P) :: (nat_lit 596, o15 P) :: (nat_lit 598, o598 P) :: (nat_lit 599, o599 P) :: (nat_lit 600, o15 P) :: (nat_lit 602, o602 P) :: (nat_lit 603, o15 P) :: (nat_lit 605, o605 P) :: (nat_lit 606, o606 P) :: (nat_lit 607, o15 P) :: (nat_lit 609, o609 P) :: (nat_lit 610, o15 P) :: (nat_lit 612, o612 P) :: (nat_lit 613, o613 P) :: (nat_lit 614, o15 P) :: (nat_lit 617, o617 P) :: (nat_lit 618, o618 P) :: (nat_lit 619, o15 P) :: (nat_lit 621, o621 P) :: (nat_lit 622, o15 P) :: (nat_lit 624, o624 P) :: (nat_lit 625, o625 P) :: (nat_lit 626, o15 P) :: (nat_lit 628, o628 P) :: (nat_lit 629, o15 P) :: (nat_lit 631, o631 P) :: (nat_lit 632, o632 P) :: (nat_lit 633, o15 P) :: (nat_lit 635, o635 P) :: (nat_lit 636, o15 P) :: (nat_lit 638, o638 P) :: (nat_lit 639, o639 P) :: (nat_lit 640, o15 P) :: (nat_lit 642, o642 P) :: (nat_lit 643, o15 P) :: (nat_lit 645, o645 P) :: (nat_lit 646, o646 P) :: (nat_lit 647, o15 P) :: (nat_lit 649, o649 P) :: (nat_lit 650, o15 P) :: (nat_lit 652, o652 P) :: (nat_lit 653, o653 P) :: (nat_lit 654, o15 P) :: (nat_lit 656, o656 P) :: (nat_lit 657, o15 P) :: (nat_lit 659, o659 P) :: (nat_lit 660, o660 P) :: (nat_lit 661, o15 P) :: (nat_lit 663, o663 P) :: (nat_lit 664, o15 P) :: (nat_lit 666, o666 P) :: (nat_lit 667, o667 P) :: (nat_lit 668, o15 P) :: (nat_lit 670, o670 P) :: (nat_lit 671, o15 P) :: (nat_lit 673, o673 P) :: (nat_lit 674, o674 P) :: (nat_lit 675, o15 P) :: (nat_lit 677, o677 P) :: (nat_lit 678, o15 P) :: (nat_lit 680, o680 P) :: (nat_lit 681, o681 P) :: (nat_lit 682, o15 P) :: (nat_lit 684, o684 P) :: (nat_lit 685, o15 P) :: (nat_lit 687, o687 P) :: (nat_lit 688, o688 P) :: (nat_lit 689, o689 P) :: (nat_lit 690, o690 P) :: (nat_lit 691, o691 P) :: (nat_lit 692, o692 P) :: (nat_lit 693, o693 P) :: (nat_lit 696, o15 P) :: (nat_lit 698, o698 P) :: (nat_lit 699, o15 P) :: (nat_lit 701, o701 P) :: (nat_lit 702, o702 P) :: (nat_lit 703, o15 P) :: (nat_lit 705, o705 P) :: (nat_lit 706, o15 P) :: (nat_lit 708, o708 P) :: (nat_lit 709, o709 P) :: (nat_lit 717, o15 P) :: (nat_lit 719, o719 P) :: (nat_lit 720, o15 P) :: (nat_lit 722, o722 P) :: (nat_lit 723, o723 P) :: (nat_lit 724, o15 P) :: (nat_lit 726, o726 P) :: (nat_lit 727, o15 P) :: (nat_lit 729, o729 P) :: (nat_lit 730, o730 P) :: (nat_lit 731, o15 P) :: (nat_lit 733, o733 P) :: (nat_lit 734, o15 P) :: (nat_lit 736, o736 P) :: (nat_lit 737, o737 P) :: (nat_lit 738, o15 P) :: (nat_lit 740, o740 P) :: (nat_lit 741, o15 P) :: (nat_lit 743, o743 P) :: (nat_lit 744, o744 P) :: (nat_lit 745, o15 P) :: (nat_lit 747, o747 P) :: (nat_lit 748, o15 P) :: (nat_lit 750, o750 P) :: (nat_lit 751, o751 P) :: (nat_lit 752, o15 P) :: (nat_lit 754, o754 P) :: (nat_lit 755, o15 P) :: (nat_lit 757, o757 P) :: (nat_lit 758, o758 P) :: (nat_lit 759, o15 P) :: (nat_lit 761, o761 P) :: (nat_lit 762, o15 P) :: (nat_lit 764, o764 P) :: (nat_lit 765, o765 P) :: (nat_lit 766, o15 P) :: (nat_lit 768, o768 P) :: (nat_lit 769, o15 P) :: (nat_lit 771, o771 P) :: (nat_lit 772, o772 P) :: (nat_lit 773, o15 P) :: (nat_lit 775, o775 P) :: (nat_lit 776, o15 P) :: (nat_lit 778, o778 P) :: (nat_lit 779, o779 P) :: (nat_lit 780, o15 P) :: (nat_lit 782, o782 P) :: (nat_lit 783, o15 P) :: (nat_lit 785, o785 P) :: (nat_lit 786, o786 P) :: (nat_lit 787, o15 P) :: (nat_lit 789, o789 P) :: (nat_lit 790, o15 P) :: (nat_lit 792, o792 P) :: (nat_lit 793, o793 P) :: (nat_lit 794, o794 P) :: (nat_lit 795, o795 P) :: (nat_lit 796, o796 P) :: (nat_lit 797, o797 P) :: (nat_lit 798, o798 P) :: (nat_lit 801, o15 P) :: (nat_lit 803, o803 P) :: (nat_lit 804, o15 P) :: (nat_lit 806, o806 P) :: (nat_lit 807, o807 P) :: (nat_lit 808, o15 P) :: (nat_lit 810, o810 P) :: (nat_lit 811, o15 P) :: (nat_lit 813, o813 P) :: (nat_lit 814, o814 P) :: (nat_lit 815, o15 P) :: (nat_lit 817, o817 P) :: (nat_lit 818, o15 P) :: (nat_lit 820, o820 P) :: (nat_lit 821, o821 P) :: (nat_lit 822, o15 P) :: (nat_lit 824, o824 P) :: (nat_lit 825, o15 P) :: (nat_lit 827, o827 P) :: (nat_lit 828, o828 P) :: (nat_lit 829, o15 P) :: (nat_lit 831, o831 P) :: (nat_lit 832, o15 P) :: (nat_lit 834, o834 P) :: (nat_lit 835, o835 P) :: (nat_lit 836, o15 P) :: (nat_lit 838, o838 P) :: (nat_lit 839, o15 P) :: (nat_lit 841, o841 P) :: (nat_lit 842, o842 P) :: (nat_lit 843, o15 P) :: (nat_lit 845, o845 P) :: (nat_lit 846, o15 P) :: (nat_lit 848, o848 P) :: (nat_lit 849, o849 P) :: []
def Kc0 (P : Params) : List (Option Obj) := [some (o2 P), some (o3 P), some (o15 P), some (o17 P), some (o15 P), some (o20 P), some (o21 P), some (o22 P), some (o29 P), some (o30 P), some (o31 P), some (o32 P), some (o35 P), some (o29 P)]
def Kc1 (P : Params) : List (Option Obj) := [some (o43 P), some (o44 P), some (o35 P), some (o29 P), some (o55 P), some (o56 P), some (o35 P), some (o29 P), some (o67 P), some (o68 P), some (o35 P), some (o29 P), some (o79 P), some (o80 P)]
def Kc2 (P : Params) : List (Option Obj) := [some (o35 P), some (o29 P), some (o91 P), some (o92 P), some (o35 P), some (o29 P), some (o103 P), some (o104 P), some (o35 P), some (o29 P), some (o115 P), some (o116 P), some (o35 P), some (o29 P)]
def Kc3 (P : Params) : List (Option Obj) := [some (o127 P), some (o128 P), some (o35 P), some (o29 P), some (o139 P), some (o140 P), some (o35 P), some (o29 P), some (o151 P), some (o152 P), some (o15 P), some (o157 P), some (o15 P), some (o160 P)]
def Kc4 (P : Params) : List (Option Obj) := [some (o161 P), some (o15 P), some (o164 P), some (o15 P), some (o167 P), some (o168 P), some (o15 P), some (o171 P), some (o15 P), some (o174 P), some (o175 P), some (o15 P), some (o178 P), some (o15 P)]
def Kc5 (P : Params) : List (Option Obj) := [some (o181 P), some (o182 P), some (o15 P), some (o185 P), some (o15 P), some (o188 P), some (o189 P), some (o15 P), some (o192 P), some (o15 P), some (o195 P), some (o196 P), some (o15 P), some (o199 P)]
def Kc6 (P : Params) : List (Option Obj) := [some (o15 P), some (o202 P), some (o203 P), some (o15 P), some (o206 P), some (o15 P), some (o209 P), some (o210 P), some (o15 P), some (o220 P), some (o15 P), some (o223 P), some (o224 P), some (o225 P)]
def Kc7 (P : Params) : List (Option Obj) := [some (o15 P), some (o228 P), some (o15 P), some (o231 P), some (o232 P), some (o15 P), some (o235 P), some (o15 P), some (o238 P), some (o239 P), some (o15 P), some (o242 P), some (o15 P), some (o245 P)]
def Kc8 (P : Params) : List (Option Obj) := [some (o246 P), some (o15 P), some (o249 P), some (o15 P), some (o252 P), some (o253 P), some (o15 P), some (o256 P), some (o15 P), some (o259 P), some (o260 P), some (o15 P), some (o263 P), some (o15 P)]
def Kc9 (P : Params) : List (Option Obj) := [some (o266 P), some (o267 P), some (o15 P), some (o270 P), some (o15 P), some (o273 P), some (o274 P), some (o15 P), some (o277 P), some (o15 P), some (o280 P), some (o281 P), some (o15 P), some (o284 P)]
def Kc10 (P : Params) : List (Option Obj) := [some (o15 P), some (o287 P), some (o288 P), some (o15 P), some (o291 P), some (o15 P), some (o294 P), some (o295 P), some (o15 P), some (o298 P), some (o15 P), some (o301 P), some (o302 P), some (o15 P)]
def Kc11 (P : Params) : List (Option Obj) := [some (o305 P), some (o15 P), some (o308 P), some (o309 P), some (o15 P), some (o313 P), some (o314 P), some (o15 P), some (o317 P), some (o15 P), some (o320 P), some (o321 P), some (o15 P), some (o325 P)]
def Kc12 (P : Params) : List (Option Obj) := [some (o326 P), some (o327 P), some (o328 P), some (o329 P), some (o330 P), some (o331 P), some (o15 P), some (o336 P), some (o15 P), some (o339 P), some (o340 P), some (o15 P), some (o350 P), some (o15 P)]
def Kc13 (P : Params) : List (Option Obj) := [some (o353 P), some (o354 P), some (o15 P), some (o357 P), some (o15 P), some (o360 P), some (o361 P), some (o15 P), some (o364 P), some (o15 P), some (o367 P), some (o368 P), some (o15 P), some (o371 P)]
def Kc14 (P : Params) : List (Option Obj) := [some (o15 P), some (o374 P), some (o375 P), some (o15 P), some (o378 P), some (o15 P), some (o381 P), some (o382 P), some (o15 P), some (o385 P), some (o15 P), some (o388 P), some (o389 P), some (o390 P)]
def Kc15 (P : Params) : List (Option Obj) := [some (o15 P), some (o393 P), some (o15 P), some (o396 P), some (o397 P), some (o15 P), some (o400 P), some (o15 P), some (o403 P), some (o404 P), some (o15 P), some (o407 P), some (o15 P), some (o410 P)]
def Kc16 (P : Params) : List (Option Obj) := [some (o411 P), some (o15 P), some (o414 P), some (o15 P), some (o417 P), some (o418 P), some (o15 P), some (o421 P), some (o15 P), some (o424 P), some (o425 P), some (o15 P), some (o428 P), some (o15 P)]
def Kc17 (P : Params) : List (Option Obj) := [some (o431 P), some (o432 P), some (o15 P), some (o435 P), some (o15 P), some (o438 P), some (o439 P), some (o15 P), some (o442 P), some (o15 P), some (o445 P), some (o446 P), some (o15 P), some (o449 P)]
def Kc18 (P : Params) : List (Option Obj) := [some (o15 P), some (o452 P), some (o453 P), some (o15 P), some (o456 P), some (o15 P), some (o459 P), some (o460 P), some (o15 P), some (o464 P), some (o465 P), some (o15 P), some (o468 P), some (o15 P)]
def Kc19 (P : Params) : List (Option Obj) := [some (o471 P), some (o472 P), some (o15 P), some (o475 P), some (o15 P), some (o478 P), some (o479 P), some (o15 P), some (o482 P), some (o15 P), some (o485 P), some (o486 P), some (o15 P), some (o489 P)]
def Kc20 (P : Params) : List (Option Obj) := [some (o15 P), some (o492 P), some (o493 P), some (o494 P), some (o495 P), some (o496 P), some (o497 P), some (o498 P), some (o15 P), some (o510 P), some (o15 P), some (o513 P), some (o514 P), some (o15 P)]
def Kc21 (P : Params) : List (Option Obj) := [some (o517 P), some (o15 P), some (o520 P), some (o521 P), some (o15 P), some (o524 P), some (o15 P), some (o527 P), some (o528 P), some (o15 P), some (o531 P), some (o15 P), some (o534 P), some (o535 P)]
def Kc22 (P : Params) : List (Option Obj) := [some (o15 P), some (o538 P), some (o15 P), some (o541 P), some (o542 P), some (o15 P), some (o545 P), some (o15 P), some (o548 P), some (o549 P), some (o550 P), some (o15 P), some (o553 P), some (o15 P)]
def Kc23 (P : Params) : List (Option Obj) := [some (o556 P), some (o557 P), some (o15 P), some (o560 P), some (o15 P), some (o563 P), some (o564 P), some (o15 P), some (o567 P), some (o15 P), some (o570 P), some (o571 P), some (o15 P), some (o574 P)]
def Kc24 (P : Params) : List (Option Obj) := [some (o15 P), some (o577 P), some (o578 P), some (o15 P), some (o581 P), some (o15 P), some (o584 P), some (o585 P), some (o15 P), some (o588 P), some (o15 P), some (o591 P), some (o592 P), some (o15 P)]
def Kc25 (P : Params) : List (Option Obj) := [some (o595 P), some (o15 P), some (o598 P), some (o599 P), some (o15 P), some (o602 P), some (o15 P), some (o605 P), some (o606 P), some (o15 P), some (o609 P), some (o15 P), some (o612 P), some (o613 P)]
def Kc26 (P : Params) : List (Option Obj) := [some (o15 P), some (o617 P), some (o618 P), some (o15 P), some (o621 P), some (o15 P), some (o624 P), some (o625 P), some (o15 P), some (o628 P), some (o15 P), some (o631 P), some (o632 P), some (o15 P)]
def Kc27 (P : Params) : List (Option Obj) := [some (o635 P), some (o15 P), some (o638 P), some (o639 P), some (o15 P), some (o642 P), some (o15 P), some (o645 P), some (o646 P), some (o15 P), some (o649 P), some (o15 P), some (o652 P), some (o653 P)]
def Kc28 (P : Params) : List (Option Obj) := [some (o15 P), some (o656 P), some (o15 P), some (o659 P), some (o660 P), some (o15 P), some (o663 P), some (o15 P), some (o666 P), some (o667 P), some (o15 P), some (o670 P), some (o15 P), some (o673 P)]
def Kc29 (P : Params) : List (Option Obj) := [some (o674 P), some (o15 P), some (o677 P), some (o15 P), some (o680 P), some (o681 P), some (o15 P), some (o684 P), some (o15 P), some (o687 P), some (o688 P), some (o689 P), some (o690 P), some (o691 P)]
def Kc30 (P : Params) : List (Option Obj) := [some (o692 P), some (o693 P), some (o15 P), some (o698 P), some (o15 P), some (o701 P), some (o702 P), some (o15 P), some (o705 P), some (o15 P), some (o708 P), some (o709 P), some (o15 P), some (o719 P)]
def Kc31 (P : Params) : List (Option Obj) := [some (o15 P), some (o722 P), some (o723 P), some (o15 P), some (o726 P), some (o15 P), some (o729 P), some (o730 P), some (o15 P), some (o733 P), some (o15 P), some (o736 P), some (o737 P), some (o15 P)]
def Kc32 (P : Params) : List (Option Obj) := [some (o740 P), some (o15 P), some (o743 P), some (o744 P), some (o15 P), some (o747 P), some (o15 P), some (o750 P), some (o751 P), some (o15 P), some (o754 P), some (o15 P), some (o757 P), some (o758 P)]
def Kc33 (P : Params) : List (Option Obj) := [some (o15 P), some (o761 P), some (o15 P), some (o764 P), some (o765 P), some (o15 P), some (o768 P), some (o15 P), some (o771 P), some (o772 P), some (o15 P), some (o775 P), some (o15 P), some (o778 P)]
def Kc34 (P : Params) : List (Option Obj) := [some (o779 P), some (o15 P), some (o782 P), some (o15 P), some (o785 P), some (o786 P), some (o15 P), some (o789 P), some (o15 P), some (o792 P), some (o793 P), some (o794 P), some (o795 P), some (o796 P)]
def Kc35 (P : Params) : List (Option Obj) := [some (o797 P), some (o798 P), some (o15 P), some (o803 P), some (o15 P), some (o806 P), some (o807 P), some (o15 P), some (o810 P), some (o15 P), some (o813 P), some (o814 P), some (o15 P), some (o817 P)]
def Kc36 (P : Params) : List (Option Obj) := [some (o15 P), some (o820 P), some (o821 P), some (o15 P), some (o824 P), some (o15 P), some (o827 P), some (o828 P), some (o15 P), some (o831 P), some (o15 P), some (o834 P), some (o835 P), some (o15 P)]
def Kc37 (P : Params) : List (Option Obj) := [some (o838 P), some (o15 P), some (o841 P), some (o842 P), some (o15 P), some (o845 P), some (o15 P), some (o848 P), some (o849 P)]
def Kc (P : Params) : List (Option Obj) := Kc0 P ++ (Kc1 P ++ (Kc2 P ++ (Kc3 P ++ (Kc4 P ++ (Kc5 P ++ (Kc6 P ++ (Kc7 P ++ (Kc8 P ++ (Kc9 P ++ (Kc10 P ++ (Kc11 P ++ (Kc12 P ++ (Kc13 P ++ (Kc14 P ++ (Kc15 P ++ (Kc16 P ++ (Kc17 P ++ (Kc18 P ++ (Kc19 P ++ (Kc20 P ++ (Kc21 P ++ (Kc22 P ++ (Kc23 P ++ (Kc24 P ++ (Kc25 P ++ (Kc26 P ++ (Kc27 P ++ (Kc28 P ++ (Kc29 P ++ (Kc30 P ++ (Kc31 P ++ (Kc32 P ++ (Kc33 P ++ (Kc34 P ++ (Kc35 P ++ (Kc36 P ++ (Kc37 P)))))))))))))))))))))))))))))))))))))
def adr : List Addr := nat_lit 2 :: nat_lit 3 :: nat_lit 15 :: nat_lit 17 :: nat_lit 18 :: nat_lit 20 :: nat_lit 21 :: nat_lit 22 :: nat_lit 29 :: nat_lit 30 :: nat_lit 31 :: nat_lit 32 :: nat_lit 35 :: nat_lit 42 :: nat_lit 43 :: nat_lit 44 :: nat_lit 47 :: nat_lit 54 :: nat_lit 55 :: nat_lit 56 :: nat_lit 59 :: nat_lit 66 :: nat_lit 67 :: nat_lit 68 :: nat_lit 71 :: nat_lit 78 :: nat_lit 79 :: nat_lit 80 :: nat_lit 83 :: nat_lit 90 :: nat_lit 91 :: nat_lit 92 :: nat_lit 95 :: nat_lit 102 :: nat_lit 103 :: nat_lit 104 :: nat_lit 107 :: nat_lit 114 :: nat_lit 115 :: nat_lit 116 :: nat_lit 119 :: nat_lit 126 :: nat_lit 127 :: nat_lit 128 :: nat_lit 131 :: nat_lit 138 :: nat_lit 139 :: nat_lit 140 :: nat_lit 143 :: nat_lit 150 :: nat_lit 151 :: nat_lit 152 :: nat_lit 155 :: nat_lit 157 :: nat_lit 158 :: nat_lit 160 :: nat_lit 161 :: nat_lit 162 :: nat_lit 164 :: nat_lit 165 :: nat_lit 167 :: nat_lit 168 :: nat_lit 169 :: nat_lit 171 :: nat_lit 172 :: nat_lit 174 :: nat_lit 175 :: nat_lit 176 :: nat_lit 178 :: nat_lit 179 :: nat_lit 181 :: nat_lit 182 :: nat_lit 183 :: nat_lit 185 :: nat_lit 186 :: nat_lit 188 :: nat_lit 189 :: nat_lit 190 :: nat_lit 192 :: nat_lit 193 :: nat_lit 195 :: nat_lit 196 :: nat_lit 197 :: nat_lit 199 :: nat_lit 200 :: nat_lit 202 :: nat_lit 203 :: nat_lit 204 :: nat_lit 206 :: nat_lit 207 :: nat_lit 209 :: nat_lit 210 :: nat_lit 218 :: nat_lit 220 :: nat_lit 221 :: nat_lit 223 :: nat_lit 224 :: nat_lit 225 :: nat_lit 226 :: nat_lit 228 :: nat_lit 229 :: nat_lit 231 :: nat_lit 232 :: nat_lit 233 :: nat_lit 235 :: nat_lit 236 :: nat_lit 238 :: nat_lit 239 :: nat_lit 240 :: nat_lit 242 :: nat_lit 243 :: nat_lit 245 :: nat_lit 246 :: nat_lit 247 :: nat_lit 249 :: nat_lit 250 :: nat_lit 252 :: nat_lit 253 :: nat_lit 254 :: nat_lit 256 :: nat_lit 257 :: nat_lit 259 :: nat_lit 260 :: nat_lit 261 :: nat_lit 263 :: nat_lit 264 :: nat_lit 266 :: nat_lit 267 :: nat_lit 268 :: nat_lit 270 :: nat_lit 271 :: nat_lit 273 :: nat_lit 274 :: nat_lit 275 :: nat_lit 277 :: nat_lit 278 :: nat_lit 280 :: nat_lit 281 :: nat_lit 282 :: nat_lit 284 :: nat_lit 285 :: nat_lit 287 :: nat_lit 288 :: nat_lit 289 :: nat_lit 291 :: nat_lit 292 :: nat_lit 294 :: nat_lit 295 :: nat_lit 296 :: nat_lit 298 :: nat_lit 299 :: nat_lit 301 :: nat_lit 302 :: nat_lit 303 :: nat_lit 305 :: nat_lit 306 :: nat_lit 308 :: nat_lit 309 :: nat_lit 310 :: nat_lit 313 :: nat_lit 314 :: nat_lit 315 :: nat_lit 317 :: nat_lit 318 :: nat_lit 320 :: nat_lit 321 :: nat_lit 322 :: nat_lit 325 :: nat_lit 326 :: nat_lit 327 :: nat_lit 328 :: nat_lit 329 :: nat_lit 330 :: nat_lit 331 :: nat_lit 334 :: nat_lit 336 :: nat_lit 337 :: nat_lit 339 :: nat_lit 340 :: nat_lit 348 :: nat_lit 350 :: nat_lit 351 :: nat_lit 353 :: nat_lit 354 :: nat_lit 355 :: nat_lit 357 :: nat_lit 358 :: nat_lit 360 :: nat_lit 361 :: nat_lit 362 :: nat_lit 364 :: nat_lit 365 :: nat_lit 367 :: nat_lit 368 :: nat_lit 369 :: nat_lit 371 :: nat_lit 372 :: nat_lit 374 :: nat_lit 375 :: nat_lit 376 :: nat_lit 378 :: nat_lit 379 :: nat_lit 381 :: nat_lit 382 :: nat_lit 383 :: nat_lit 385 :: nat_lit 386 :: nat_lit 388 :: nat_lit 389 :: nat_lit 390 :: nat_lit 391 :: nat_lit 393 :: nat_lit 394 :: nat_lit 396 :: nat_lit 397 :: nat_lit 398 :: nat_lit 400 :: nat_lit 401 :: nat_lit 403 :: nat_lit 404 :: nat_lit 405 :: nat_lit 407 :: nat_lit 408 :: nat_lit 410 :: nat_lit 411 :: nat_lit 412 :: nat_lit 414 :: nat_lit 415 :: nat_lit 417 :: nat_lit 418 :: nat_lit 419 :: nat_lit 421 :: nat_lit 422 :: nat_lit 424 :: nat_lit 425 :: nat_lit 426 :: nat_lit 428 :: nat_lit 429 :: nat_lit 431 :: nat_lit 432 :: nat_lit 433 :: nat_lit 435 :: nat_lit 436 :: nat_lit 438 :: nat_lit 439 :: nat_lit 440 :: nat_lit 442 :: nat_lit 443 :: nat_lit 445 :: nat_lit 446 :: nat_lit 447 :: nat_lit 449 :: nat_lit 450 :: nat_lit 452 :: nat_lit 453 :: nat_lit 454 :: nat_lit 456 :: nat_lit 457 :: nat_lit 459 :: nat_lit 460 :: nat_lit 461 :: nat_lit 464 :: nat_lit 465 :: nat_lit 466 :: nat_lit 468 :: nat_lit 469 :: nat_lit 471 :: nat_lit 472 :: nat_lit 473 :: nat_lit 475 :: nat_lit 476 :: nat_lit 478 :: nat_lit 479 :: nat_lit 480 :: nat_lit 482 :: nat_lit 483 :: nat_lit 485 :: nat_lit 486 :: nat_lit 487 :: nat_lit 489 :: nat_lit 490 :: nat_lit 492 :: nat_lit 493 :: nat_lit 494 :: nat_lit 495 :: nat_lit 496 :: nat_lit 497 :: nat_lit 498 :: nat_lit 508 :: nat_lit 510 :: nat_lit 511 :: nat_lit 513 :: nat_lit 514 :: nat_lit 515 :: nat_lit 517 :: nat_lit 518 :: nat_lit 520 :: nat_lit 521 :: nat_lit 522 :: nat_lit 524 :: nat_lit 525 :: nat_lit 527 :: nat_lit 528 :: nat_lit 529 :: nat_lit 531 :: nat_lit 532 :: nat_lit 534 :: nat_lit 535 :: nat_lit 536 :: nat_lit 538 :: nat_lit 539 :: nat_lit 541 :: nat_lit 542 :: nat_lit 543 :: nat_lit 545 :: nat_lit 546 :: nat_lit 548 :: nat_lit 549 :: nat_lit 550 :: nat_lit 551 :: nat_lit 553 :: nat_lit 554 :: nat_lit 556 :: nat_lit 557 :: nat_lit 558 :: nat_lit 560 :: nat_lit 561 :: nat_lit 563 :: nat_lit 564 :: nat_lit 565 :: nat_lit 567 :: nat_lit 568 :: nat_lit 570 :: nat_lit 571 :: nat_lit 572 :: nat_lit 574 :: nat_lit 575 :: nat_lit 577 :: nat_lit 578 :: nat_lit 579 :: nat_lit 581 :: nat_lit 582 :: nat_lit 584 :: nat_lit 585 :: nat_lit 586 :: nat_lit 588 :: nat_lit 589 :: nat_lit 591 :: nat_lit 592 :: nat_lit 593 :: nat_lit 595 :: nat_lit 596 :: nat_lit 598 :: nat_lit 599 :: nat_lit 600 :: nat_lit 602 :: nat_lit 603 :: nat_lit 605 :: nat_lit 606 :: nat_lit 607 :: nat_lit 609 :: nat_lit 610 :: nat_lit 612 :: nat_lit 613 :: nat_lit 614 :: nat_lit 617 :: nat_lit 618 :: nat_lit 619 :: nat_lit 621 :: nat_lit 622 :: nat_lit 624 :: nat_lit 625 :: nat_lit 626 :: nat_lit 628 :: nat_lit 629 :: nat_lit 631 :: nat_lit 632 :: nat_lit 633 :: nat_lit 635 :: nat_lit 636 :: nat_lit 638 :: nat_lit 639 :: nat_lit 640 :: nat_lit 642 :: nat_lit 643 :: nat_lit 645 :: nat_lit 646 :: nat_lit 647 :: nat_lit 649 :: nat_lit 650 :: nat_lit 652 :: nat_lit 653 :: nat_lit 654 :: nat_lit 656 :: nat_lit 657 :: nat_lit 659 :: nat_lit 660 :: nat_lit 661 :: nat_lit 663 :: nat_lit 664 :: nat_lit 666 :: nat_lit 667 :: nat_lit 668 :: nat_lit 670 :: nat_lit 671 :: nat_lit 673 :: nat_lit 674 :: nat_lit 675 :: nat_lit 677 :: nat_lit 678 :: nat_lit 680 :: nat_lit 681 :: nat_lit 682 :: nat_lit 684 :: nat_lit 685 :: nat_lit 687 :: nat_lit 688 :: nat_lit 689 :: nat_lit 690 :: nat_lit 691 :: nat_lit 692 :: nat_lit 693 :: nat_lit 696 :: nat_lit 698 :: nat_lit 699 :: nat_lit 701 :: nat_lit 702 :: nat_lit 703 :: nat_lit 705 :: nat_lit 706 :: nat_lit 708 :: nat_lit 709 :: nat_lit 717 :: nat_lit 719 :: nat_lit 720 :: nat_lit 722 :: nat_lit 723 :: nat_lit 724 :: nat_lit 726 :: nat_lit 727 :: nat_lit 729 :: nat_lit 730 :: nat_lit 731 :: nat_lit 733 :: nat_lit 734 :: nat_lit 736 :: nat_lit 737 :: nat_lit 738 :: nat_lit 740 :: nat_lit 741 :: nat_lit 743 :: nat_lit 744 :: nat_lit 745 :: nat_lit 747 :: nat_lit 748 :: nat_lit 750 :: nat_lit 751 :: nat_lit 752 :: nat_lit 754 :: nat_lit 755 :: nat_lit 757 :: nat_lit 758 :: nat_lit 759 :: nat_lit 761 :: nat_lit 762 :: nat_lit 764 :: nat_lit 765 :: nat_lit 766 :: nat_lit 768 :: nat_lit 769 :: nat_lit 771 :: nat_lit 772 :: nat_lit 773 :: nat_lit 775 :: nat_lit 776 :: nat_lit 778 :: nat_lit 779 :: nat_lit 780 :: nat_lit 782 :: nat_lit 783 :: nat_lit 785 :: nat_lit 786 :: nat_lit 787 :: nat_lit 789 :: nat_lit 790 :: nat_lit 792 :: nat_lit 793 :: nat_lit 794 :: nat_lit 795 :: nat_lit 796 :: nat_lit 797 :: nat_lit 798 :: nat_lit 801 :: nat_lit 803 :: nat_lit 804 :: nat_lit 806 :: nat_lit 807 :: nat_lit 808 :: nat_lit 810 :: nat_lit 811 :: nat_lit 813 :: nat_lit 814 :: nat_lit 815 :: nat_lit 817 :: nat_lit 818 :: nat_lit 820 :: nat_lit 821 :: nat_lit 822 :: nat_lit 824 :: nat_lit 825 :: nat_lit 827 :: nat_lit 828 :: nat_lit 829 :: nat_lit 831 :: nat_lit 832 :: nat_lit 834 :: nat_lit 835 :: nat_lit 836 :: nat_lit 838 :: nat_lit 839 :: nat_lit 841 :: nat_lit 842 :: nat_lit 843 :: nat_lit 845 :: nat_lit 846 :: nat_lit 848 :: nat_lit 849 :: []
theorem adr_eq (P : Params) : adr = (Kf P).map (·.1) := by kernel_rfl
theorem kc_eq (P : Params) : Kc P = (Kf P).map fun p => some p.2 := by kernel_rfl
def vw : Program := PySem.W.view PySem.Challenge.pw_frameland_k51_own_boxes [0, 1, 2, 4, 5, 6, 7, 8, 9, 10, 11, 12, 13, 14, 16, 17, 19, 20, 21, 22, 23, 24, 25, 26, 28, 29, 31, 33, 34, 35, 36, 38, 39, 40, 41, 42, 43, 44]
def o12_pa (_ : Params) : Obj := ⟨.none, none, .fields ⟨[]⟩, #[]⟩
def o13_pa (_ : Params) : Obj := cO [s 4568459227289382461 182, s 4568459227289382461 183, s z2 184, i 1, i 0, i 0, i 0, i 0, .ref 11, (.bool false), i 181, .ref 12, .none, .none, .none, .none, i 185, i 1, s z2 186]
def o14_pa (_ : Params) : Obj := ⟨(.type "frame"), none, .plain, #[(some (.ref 13)), (some (.ref 3)), (some (.ref 3)), none, (some (s 6944673128113922144 164)), none, (some (.ref 0))]⟩
def tpa_8_7 (P : Params) : PySem.W.BT := .node (PySem.W.boot_o_7 P) (.nil) (.nil)
def tpa_8_11 (P : Params) : PySem.W.BT := .node (o15 P) (.nil) (.nil)
def tpa_8_9 (P : Params) : PySem.W.BT := .node (PySem.W.boot_o_9 P) (.nil) (.nil)
def tpa_8_13 (P : Params) : PySem.W.BT := .node (o13_pa P) (.nil) (.nil)
def tpa_8_8 (P : Params) : PySem.W.BT := .node (PySem.W.boot_o_8 P) (.nil) (.nil)
def tpa_8_12 (P : Params) : PySem.W.BT := .node (o12_pa P) (.nil) (.nil)
def tpa_8_10 (P : Params) : PySem.W.BT := .node (PySem.W.boot_o_10 P) (.nil) (.nil)
def tpa_8_14 (P : Params) : PySem.W.BT := .node (o14_pa P) (.nil) (.nil)
def tpa_1_0 (P : Params) : PySem.W.BT := .node (PySem.W.boot_o_0 P) (.node (PySem.W.boot_o_1 P) (.node (PySem.W.boot_o_3 P) (tpa_8_7 P) (tpa_8_11 P)) (.node (PySem.W.boot_o_5 P) (tpa_8_9 P) (tpa_8_13 P))) (.node (PySem.W.boot_o_2 P) (.node (PySem.W.boot_o_4 P) (tpa_8_8 P) (tpa_8_12 P)) (.node (PySem.W.boot_o_6 P) (tpa_8_10 P) (tpa_8_14 P)))
def spa (w : World) (os : OsState) : PySem.W.SharedT := ⟨tpa_1_0 w.params, 15, (PySem.W.boot_heap w.params).life, #[], PySem.W.boot_drawn, 187, os⟩
def tpb_8_7 (P : Params) : PySem.W.BT := .node (PySem.W.boot_o_7 P) (.nil) (.nil)
def tpb_8_11 (P : Params) : PySem.W.BT := .node (o15 P) (.nil) (.nil)
def tpb_8_9 (P : Params) : PySem.W.BT := .node (PySem.W.boot_o_9 P) (.nil) (.nil)
def tpb_8_13 (P : Params) : PySem.W.BT := .node (o13_pa P) (.nil) (.nil)
def tpb_8_8 (P : Params) : PySem.W.BT := .node (PySem.W.boot_o_8 P) (.nil) (.nil)
def tpb_8_12 (P : Params) : PySem.W.BT := .node (o12_pa P) (.nil) (.nil)
def tpb_8_10 (P : Params) : PySem.W.BT := .node (PySem.W.boot_o_10 P) (.nil) (.nil)
def tpb_8_14 (P : Params) : PySem.W.BT := .node (o14_pa P) (.nil) (.nil)
def tpb_1_0 (P : Params) : PySem.W.BT := .node (PySem.W.boot_o_0 P) (.node (PySem.W.boot_o_1 P) (.node (PySem.W.boot_o_3 P) (tpb_8_7 P) (tpb_8_11 P)) (.node (PySem.W.boot_o_5 P) (tpb_8_9 P) (tpb_8_13 P))) (.node (PySem.W.boot_o_2 P) (.node (PySem.W.boot_o_4 P) (tpb_8_8 P) (tpb_8_12 P)) (.node (PySem.W.boot_o_6 P) (tpb_8_10 P) (tpb_8_14 P)))
def spb (w : World) (os : OsState) : PySem.W.SharedT := ⟨tpb_1_0 w.params, 15, (PySem.W.boot_heap w.params).life, #[], PySem.W.boot_drawn, 187, os⟩
def o3_c25 (P : Params) : Obj := dO 31 [e P 6944663249689206880 165 (s z34 396), e P z1 166 .none, e P 116512114954948911152848992 167 .none, e P 455126385231797511086176 168 (.builtin "__main__.__loader__#opaque"), e P 6944661016558198880 169 .none, e P 500416834696884185539869749159288928 170 (.ref 6), e P 29827167671303893903271485536 171 (.ref 4), e P 6944663245527933024 173 (s z2 172), e P 455125376429887381069920 174 .none, e P z3 193 (.ref 21), e P 1161971283 195 (.int (1) 194), e P 302078645080 197 (.int (2) 196), e P z4 217 (.ref 31), e P z5 233 (.ref 44), e P z6 249 (.ref 56), e P z7 265 (.ref 68), e P z8 281 (.ref 80), e P z9 297 (.ref 92), e P z10 313 (.ref 104), e P z11 329 (.ref 116), e P z12 345 (.ref 128), e P z13 361 (.ref 140), e P z14 377 (.ref 152), e P z15 386 (.ref 161), e P z16 395 (.ref 168), e P 101952521820057743536705614 399 (.int (3) 398), e P z17 406 (.ref 175), e P z18 413 (.ref 182), e P z19 422 (.ref 189), e P z20 432 (.ref 196), e P z21 440 (.ref 203)]
def o12_c25 (_ : Params) : Obj := ⟨.none, none, .fields ⟨[i 1, i 0, .ref 20, i 7, i 0, .ref 27, i 9, i 0, .ref 40, i 11, i 0, .ref 52, i 13, i 0, .ref 64, i 15, i 0, .ref 76, i 17, i 0, .ref 88, i 19, i 0, .ref 100, i 21, i 0, .ref 112, i 23, i 0, .ref 124, i 25, i 0, .ref 136, i 27, i 0, .ref 148, i 30, i 0, .ref 160, i 32, i 0, .ref 167, i 36, i 0, .ref 174, i 39, i 0, .ref 181, i 41, i 0, .ref 188, i 46, i 0, .ref 195, i 49, i 0, .ref 202]⟩, #[]⟩
def o19_c25 (_ : Params) : Obj := ⟨.none, none, .func { name := (S z3), qualname := (S z3), params := defArgs (top 0), body := .stmts (defBody (top 0)), scope := defScope (top 0), globals := 0, closure := [], defaults := .none, kwdefaults := .none, doc := .none, pyModule := .none, annotations := none, code := .none, closureTuple := .none, builtins := 0 }, #[]⟩
def o23_c25 (_ : Params) : Obj := ⟨(.type "builtin_function_or_method"), none, .fields ⟨[(.builtin "type.__prepare__"), (.type "type")]⟩, #[]⟩
def o24_c25 (P : Params) : Obj := dO 4 [e P z28 207 (s z29 198), e P z61 209 (s z4 208), e P z30 211 (.int (7) 210), e P z31 212 (.ref 29)]
def o27_c25 (_ : Params) : Obj := cO [s z4 202, s z4 203, s z2 204, i 7, i 0, i 0, i 0, i 0, .ref 25, (.bool false), i 181, .ref 26, .none, .none, .none, .none, i 205, i 7, s z2 206]
def o28_c25 (_ : Params) : Obj := ⟨(.type "frame"), none, .plain, #[(some (.ref 27)), (some (.ref 3)), (some (.ref 24)), none, (some (s z29 198)), none, (some (.ref 0))]⟩
def o33_c25 (_ : Params) : Obj := ⟨(.type "super"), none, .fields ⟨[.ref 31, .ref 31, .ref 31]⟩, #[]⟩
def o34_c25 (_ : Params) : Obj := ⟨(.type "builtin_function_or_method"), none, .fields ⟨[(.builtin "object.__init_subclass__"), .ref 31]⟩, #[]⟩
def o37_c25 (P : Params) : Obj := dO 4 [e P z28 225 (s z29 198), e P z61 227 (s z5 226), e P z30 229 (.int (9) 228), e P z31 230 (.ref 42)]
def o40_c25 (_ : Params) : Obj := cO [s z5 220, s z5 221, s z2 222, i 9, i 0, i 0, i 0, i 0, .ref 38, (.bool false), i 181, .ref 39, .none, .none, .none, .none, i 223, i 9, s z2 224]
def o41_c25 (_ : Params) : Obj := ⟨(.type "frame"), none, .plain, #[(some (.ref 40)), (some (.ref 3)), (some (.ref 37)), none, (some (s z29 198)), none, (some (.ref 0))]⟩
def o45_c25 (_ : Params) : Obj := ⟨(.type "super"), none, .fields ⟨[.ref 44, .ref 44, .ref 44]⟩, #[]⟩
def o46_c25 (_ : Params) : Obj := ⟨(.type "builtin_function_or_method"), none, .fields ⟨[(.builtin "object.__init_subclass__"), .ref 44]⟩, #[]⟩
def o49_c25 (P : Params) : Obj := dO 4 [e P z28 241 (s z29 198), e P z61 243 (s z6 242), e P z30 245 (.int (11) 244), e P z31 246 (.ref 54)]
def o52_c25 (_ : Params) : Obj := cO [s z6 236, s z6 237, s z2 238, i 11, i 0, i 0, i 0, i 0, .ref 50, (.bool false), i 181, .ref 51, .none, .none, .none, .none, i 239, i 11, s z2 240]
def o53_c25 (_ : Params) : Obj := ⟨(.type "frame"), none, .plain, #[(some (.ref 52)), (some (.ref 3)), (some (.ref 49)), none, (some (s z29 198)), none, (some (.ref 0))]⟩
def o57_c25 (_ : Params) : Obj := ⟨(.type "super"), none, .fields ⟨[.ref 56, .ref 56, .ref 56]⟩, #[]⟩
def o58_c25 (_ : Params) : Obj := ⟨(.type "builtin_function_or_method"), none, .fields ⟨[(.builtin "object.__init_subclass__"), .ref 56]⟩, #[]⟩
def o61_c25 (P : Params) : Obj := dO 4 [e P z28 257 (s z29 198), e P z61 259 (s z7 258), e P z30 261 (.int (13) 260), e P z31 262 (.ref 66)]
def o64_c25 (_ : Params) : Obj := cO [s z7 252, s z7 253, s z2 254, i 13, i 0, i 0, i 0, i 0, .ref 62, (.bool false), i 181, .ref 63, .none, .none, .none, .none, i 255, i 13, s z2 256]
def o65_c25 (_ : Params) : Obj := ⟨(.type "frame"), none, .plain, #[(some (.ref 64)), (some (.ref 3)), (some (.ref 61)), none, (some (s z29 198)), none, (some (.ref 0))]⟩
def o69_c25 (_ : Params) : Obj := ⟨(.type "super"), none, .fields ⟨[.ref 68, .ref 68, .ref 68]⟩, #[]⟩
def o70_c25 (_ : Params) : Obj := ⟨(.type "builtin_function_or_method"), none, .fields ⟨[(.builtin "object.__init_subclass__"), .ref 68]⟩, #[]⟩
def o73_c25 (P : Params) : Obj := dO 4 [e P z28 273 (s z29 198), e P z61 275 (s z8 274), e P z30 277 (.int (15) 276), e P z31 278 (.ref 78)]
def o76_c25 (_ : Params) : Obj := cO [s z8 268, s z8 269, s z2 270, i 15, i 0, i 0, i 0, i 0, .ref 74, (.bool false), i 181, .ref 75, .none, .none, .none, .none, i 271, i 15, s z2 272]
def o77_c25 (_ : Params) : Obj := ⟨(.type "frame"), none, .plain, #[(some (.ref 76)), (some (.ref 3)), (some (.ref 73)), none, (some (s z29 198)), none, (some (.ref 0))]⟩
def o81_c25 (_ : Params) : Obj := ⟨(.type "super"), none, .fields ⟨[.ref 80, .ref 80, .ref 80]⟩, #[]⟩
def o82_c25 (_ : Params) : Obj := ⟨(.type "builtin_function_or_method"), none, .fields ⟨[(.builtin "object.__init_subclass__"), .ref 80]⟩, #[]⟩
def o85_c25 (P : Params) : Obj := dO 4 [e P z28 289 (s z29 198), e P z61 291 (s z9 290), e P z30 293 (.int (17) 292), e P z31 294 (.ref 90)]
def o88_c25 (_ : Params) : Obj := cO [s z9 284, s z9 285, s z2 286, i 17, i 0, i 0, i 0, i 0, .ref 86, (.bool false), i 181, .ref 87, .none, .none, .none, .none, i 287, i 17, s z2 288]
def o89_c25 (_ : Params) : Obj := ⟨(.type "frame"), none, .plain, #[(some (.ref 88)), (some (.ref 3)), (some (.ref 85)), none, (some (s z29 198)), none, (some (.ref 0))]⟩
def o93_c25 (_ : Params) : Obj := ⟨(.type "super"), none, .fields ⟨[.ref 92, .ref 92, .ref 92]⟩, #[]⟩
def o94_c25 (_ : Params) : Obj := ⟨(.type "builtin_function_or_method"), none, .fields ⟨[(.builtin "object.__init_subclass__"), .ref 92]⟩, #[]⟩
def o97_c25 (P : Params) : Obj := dO 4 [e P z28 305 (s z29 198), e P z61 307 (s z10 306), e P z30 309 (.int (19) 308), e P z31 310 (.ref 102)]
def o100_c25 (_ : Params) : Obj := cO [s z10 300, s z10 301, s z2 302, i 19, i 0, i 0, i 0, i 0, .ref 98, (.bool false), i 181, .ref 99, .none, .none, .none, .none, i 303, i 19, s z2 304]
def o101_c25 (_ : Params) : Obj := ⟨(.type "frame"), none, .plain, #[(some (.ref 100)), (some (.ref 3)), (some (.ref 97)), none, (some (s z29 198)), none, (some (.ref 0))]⟩
def o105_c25 (_ : Params) : Obj := ⟨(.type "super"), none, .fields ⟨[.ref 104, .ref 104, .ref 104]⟩, #[]⟩
def o106_c25 (_ : Params) : Obj := ⟨(.type "builtin_function_or_method"), none, .fields ⟨[(.builtin "object.__init_subclass__"), .ref 104]⟩, #[]⟩
def o109_c25 (P : Params) : Obj := dO 4 [e P z28 321 (s z29 198), e P z61 323 (s z11 322), e P z30 325 (.int (21) 324), e P z31 326 (.ref 114)]
def o112_c25 (_ : Params) : Obj := cO [s z11 316, s z11 317, s z2 318, i 21, i 0, i 0, i 0, i 0, .ref 110, (.bool false), i 181, .ref 111, .none, .none, .none, .none, i 319, i 21, s z2 320]
def o113_c25 (_ : Params) : Obj := ⟨(.type "frame"), none, .plain, #[(some (.ref 112)), (some (.ref 3)), (some (.ref 109)), none, (some (s z29 198)), none, (some (.ref 0))]⟩
def o117_c25 (_ : Params) : Obj := ⟨(.type "super"), none, .fields ⟨[.ref 116, .ref 116, .ref 116]⟩, #[]⟩
def o118_c25 (_ : Params) : Obj := ⟨(.type "builtin_function_or_method"), none, .fields ⟨[(.builtin "object.__init_subclass__"), .ref 116]⟩, #[]⟩
def o121_c25 (P : Params) : Obj := dO 4 [e P z28 337 (s z29 198), e P z61 339 (s z12 338), e P z30 341 (.int (23) 340), e P z31 342 (.ref 126)]
def o124_c25 (_ : Params) : Obj := cO [s z12 332, s z12 333, s z2 334, i 23, i 0, i 0, i 0, i 0, .ref 122, (.bool false), i 181, .ref 123, .none, .none, .none, .none, i 335, i 23, s z2 336]
def o125_c25 (_ : Params) : Obj := ⟨(.type "frame"), none, .plain, #[(some (.ref 124)), (some (.ref 3)), (some (.ref 121)), none, (some (s z29 198)), none, (some (.ref 0))]⟩
def o129_c25 (_ : Params) : Obj := ⟨(.type "super"), none, .fields ⟨[.ref 128, .ref 128, .ref 128]⟩, #[]⟩
def o130_c25 (_ : Params) : Obj := ⟨(.type "builtin_function_or_method"), none, .fields ⟨[(.builtin "object.__init_subclass__"), .ref 128]⟩, #[]⟩
def o133_c25 (P : Params) : Obj := dO 4 [e P z28 353 (s z29 198), e P z61 355 (s z13 354), e P z30 357 (.int (25) 356), e P z31 358 (.ref 138)]
def o136_c25 (_ : Params) : Obj := cO [s z13 348, s z13 349, s z2 350, i 25, i 0, i 0, i 0, i 0, .ref 134, (.bool false), i 181, .ref 135, .none, .none, .none, .none, i 351, i 25, s z2 352]
def o137_c25 (_ : Params) : Obj := ⟨(.type "frame"), none, .plain, #[(some (.ref 136)), (some (.ref 3)), (some (.ref 133)), none, (some (s z29 198)), none, (some (.ref 0))]⟩
def o141_c25 (_ : Params) : Obj := ⟨(.type "super"), none, .fields ⟨[.ref 140, .ref 140, .ref 140]⟩, #[]⟩
def o142_c25 (_ : Params) : Obj := ⟨(.type "builtin_function_or_method"), none, .fields ⟨[(.builtin "object.__init_subclass__"), .ref 140]⟩, #[]⟩
def o145_c25 (P : Params) : Obj := dO 4 [e P z28 369 (s z29 198), e P z61 371 (s z14 370), e P z30 373 (.int (27) 372), e P z31 374 (.ref 150)]
def o148_c25 (_ : Params) : Obj := cO [s z14 364, s z14 365, s z2 366, i 27, i 0, i 0, i 0, i 0, .ref 146, (.bool false), i 181, .ref 147, .none, .none, .none, .none, i 367, i 27, s z2 368]
def o149_c25 (_ : Params) : Obj := ⟨(.type "frame"), none, .plain, #[(some (.ref 148)), (some (.ref 3)), (some (.ref 145)), none, (some (s z29 198)), none, (some (.ref 0))]⟩
def o153_c25 (_ : Params) : Obj := ⟨(.type "super"), none, .fields ⟨[.ref 152, .ref 152, .ref 152]⟩, #[]⟩
def o154_c25 (_ : Params) : Obj := ⟨(.type "builtin_function_or_method"), none, .fields ⟨[(.builtin "object.__init_subclass__"), .ref 152]⟩, #[]⟩
def o159_c25 (_ : Params) : Obj := ⟨.none, none, .func { name := (S z15), qualname := (S z15), params := defArgs (top 16), body := .stmts (defBody (top 16)), scope := defScope (top 16), globals := 0, closure := [], defaults := .none, kwdefaults := .none, doc := .none, pyModule := .none, annotations := none, code := .none, closureTuple := .none, builtins := 0 }, #[]⟩
def o166_c25 (_ : Params) : Obj := ⟨.none, none, .func { name := (S z16), qualname := (S z16), params := defArgs (top 17), body := .stmts (defBody (top 17)), scope := defScope (top 17), globals := 0, closure := [], defaults := .none, kwdefaults := .none, doc := .none, pyModule := .none, annotations := none, code := .none, closureTuple := .none, builtins := 0 }, #[]⟩
def o173_c25 (_ : Params) : Obj := ⟨.none, none, .func { name := (S z17), qualname := (S z17), params := defArgs (top 20), body := .stmts (defBody (top 20)), scope := defScope (top 20), globals := 0, closure := [], defaults := .none, kwdefaults := .none, doc := .none, pyModule := .none, annotations := none, code := .none, closureTuple := .none, builtins := 0 }, #[]⟩
def o180_c25 (_ : Params) : Obj := ⟨.none, none, .func { name := (S z18), qualname := (S z18), params := defArgs (top 21), body := .stmts (defBody (top 21)), scope := defScope (top 21), globals := 0, closure := [], defaults := .none, kwdefaults := .none, doc := .none, pyModule := .none, annotations := none, code := .none, closureTuple := .none, builtins := 0 }, #[]⟩
def o187_c25 (_ : Params) : Obj := ⟨.none, none, .func { name := (S z19), qualname := (S z19), params := defArgs (top 22), body := .stmts (defBody (top 22)), scope := defScope (top 22), globals := 0, closure := [], defaults := .none, kwdefaults := .none, doc := .none, pyModule := .none, annotations := none, code := .none, closureTuple := .none, builtins := 0 }, #[]⟩
def o194_c25 (_ : Params) : Obj := ⟨.none, none, .func { name := (S z20), qualname := (S z20), params := defArgs (top 23), body := .stmts (defBody (top 23)), scope := defScope (top 23), globals := 0, closure := [], defaults := .none, kwdefaults := .none, doc := .none, pyModule := .none, annotations := none, code := .none, closureTuple := .none, builtins := 0 }, #[]⟩
def o201_c25 (_ : Params) : Obj := ⟨.none, none, .func { name := (S z21), qualname := (S z21), params := defArgs (top 24), body := .stmts (defBody (top 24)), scope := defScope (top 24), globals := 0, closure := [], defaults := .none, kwdefaults := .none, doc := .none, pyModule := .none, annotations := none, code := .none, closureTuple := .none, builtins := 0 }, #[]⟩
def tc25_64_63 (P : Params) : PySem.W.BT := .node (o12_pa P) (.node (o127 P) (.nil) (.nil)) (.node (o12_pa P) (.nil) (.nil))
def tc25_64_95 (P : Params) : PySem.W.BT := .node (o35 P) (.node (o159_c25 P) (.nil) (.nil)) (.nil)
def tc25_64_79 (P : Params) : PySem.W.BT := .node (o79 P) (.node (o35 P) (.nil) (.nil)) (.nil)
def tc25_64_111 (P : Params) : PySem.W.BT := .node (o12_pa P) (.node (o175 P) (.nil) (.nil)) (.nil)
def tc25_64_71 (P : Params) : PySem.W.BT := .node (o35 P) (.node (o12_pa P) (.nil) (.nil)) (.node (o199 P) (.nil) (.nil))
def tc25_64_103 (P : Params) : PySem.W.BT := .node (o103 P) (.node (o167 P) (.nil) (.nil)) (.nil)
def tc25_64_87 (P : Params) : PySem.W.BT := .node (o12_pa P) (.node (o151 P) (.nil) (.nil)) (.nil)
def tc25_64_119 (P : Params) : PySem.W.BT := .node (o35 P) (.node (o15 P) (.nil) (.nil)) (.nil)
def tc25_8_7 (P : Params) : PySem.W.BT := .node (PySem.W.boot_o_7 P) (.node (o15 P) (.node (o31 P) (tc25_64_63 P) (tc25_64_95 P)) (.node (o35 P) (tc25_64_79 P) (tc25_64_111 P))) (.node (o23_c25 P) (.node (o12_pa P) (tc25_64_71 P) (tc25_64_103 P)) (.node (o55 P) (tc25_64_87 P) (tc25_64_119 P)))
def tc25_64_67 (P : Params) : PySem.W.BT := .node (o67 P) (.node (o35 P) (.nil) (.nil)) (.node (o195 P) (.nil) (.nil))
def tc25_64_99 (P : Params) : PySem.W.BT := .node (o12_pa P) (.node (o12_pa P) (.nil) (.nil)) (.nil)
def tc25_64_83 (P : Params) : PySem.W.BT := .node (o35 P) (.node (o12_pa P) (.nil) (.nil)) (.nil)
def tc25_64_115 (P : Params) : PySem.W.BT := .node (o115 P) (.node (o15 P) (.nil) (.nil)) (.nil)
def tc25_64_75 (P : Params) : PySem.W.BT := .node (o12_pa P) (.node (o139 P) (.nil) (.nil)) (.node (o203 P) (.nil) (.nil))
def tc25_64_107 (P : Params) : PySem.W.BT := .node (o35 P) (.node (o171 P) (.nil) (.nil)) (.nil)
def tc25_64_91 (P : Params) : PySem.W.BT := .node (o91 P) (.node (o15 P) (.nil) (.nil)) (.nil)
def tc25_64_123 (P : Params) : PySem.W.BT := .node (o12_pa P) (.node (o187_c25 P) (.nil) (.nil)) (.nil)
def tc25_8_11 (P : Params) : PySem.W.BT := .node (o15 P) (.node (o19_c25 P) (.node (o35 P) (tc25_64_67 P) (tc25_64_99 P)) (.node (o12_pa P) (tc25_64_83 P) (tc25_64_115 P))) (.node (o27_c25 P) (.node (o43 P) (tc25_64_75 P) (tc25_64_107 P)) (.node (o35 P) (tc25_64_91 P) (tc25_64_123 P)))
def tc25_64_65 (P : Params) : PySem.W.BT := .node (o65_c25 P) (.node (o129_c25 P) (.nil) (.nil)) (.node (o15 P) (.nil) (.nil))
def tc25_64_97 (P : Params) : PySem.W.BT := .node (o97_c25 P) (.node (o161 P) (.nil) (.nil)) (.nil)
def tc25_64_81 (P : Params) : PySem.W.BT := .node (o81_c25 P) (.node (o145_c25 P) (.nil) (.nil)) (.nil)
def tc25_64_113 (P : Params) : PySem.W.BT := .node (o113_c25 P) (.node (o12_pa P) (.nil) (.nil)) (.nil)
def tc25_64_73 (P : Params) : PySem.W.BT := .node (o73_c25 P) (.node (o137_c25 P) (.nil) (.nil)) (.node (o201_c25 P) (.nil) (.nil))
def tc25_64_105 (P : Params) : PySem.W.BT := .node (o105_c25 P) (.node (o15 P) (.nil) (.nil)) (.nil)
def tc25_64_89 (P : Params) : PySem.W.BT := .node (o89_c25 P) (.node (o153_c25 P) (.nil) (.nil)) (.nil)
def tc25_64_121 (P : Params) : PySem.W.BT := .node (o121_c25 P) (.node (o185 P) (.nil) (.nil)) (.nil)
def tc25_8_9 (P : Params) : PySem.W.BT := .node (PySem.W.boot_o_9 P) (.node (o17 P) (.node (o33_c25 P) (tc25_64_65 P) (tc25_64_97 P)) (.node (o49_c25 P) (tc25_64_81 P) (tc25_64_113 P))) (.node (o15 P) (.node (o41_c25 P) (tc25_64_73 P) (tc25_64_105 P)) (.node (o57_c25 P) (tc25_64_89 P) (tc25_64_121 P)))
def tc25_64_69 (P : Params) : PySem.W.BT := .node (o69_c25 P) (.node (o133_c25 P) (.nil) (.nil)) (.node (o15 P) (.nil) (.nil))
def tc25_64_101 (P : Params) : PySem.W.BT := .node (o101_c25 P) (.node (o15 P) (.nil) (.nil)) (.nil)
def tc25_64_85 (P : Params) : PySem.W.BT := .node (o85_c25 P) (.node (o149_c25 P) (.nil) (.nil)) (.nil)
def tc25_64_117 (P : Params) : PySem.W.BT := .node (o117_c25 P) (.node (o181 P) (.nil) (.nil)) (.nil)
def tc25_64_77 (P : Params) : PySem.W.BT := .node (o77_c25 P) (.node (o141_c25 P) (.nil) (.nil)) (.nil)
def tc25_64_109 (P : Params) : PySem.W.BT := .node (o109_c25 P) (.node (o173_c25 P) (.nil) (.nil)) (.nil)
def tc25_64_93 (P : Params) : PySem.W.BT := .node (o93_c25 P) (.node (o157 P) (.nil) (.nil)) (.nil)
def tc25_64_125 (P : Params) : PySem.W.BT := .node (o125_c25 P) (.node (o189 P) (.nil) (.nil)) (.nil)
def tc25_8_13 (P : Params) : PySem.W.BT := .node (o13_pa P) (.node (o21 P) (.node (o37_c25 P) (tc25_64_69 P) (tc25_64_101 P)) (.node (o53_c25 P) (tc25_64_85 P) (tc25_64_117 P))) (.node (o29 P) (.node (o45_c25 P) (tc25_64_77 P) (tc25_64_109 P)) (.node (o61_c25 P) (tc25_64_93 P) (tc25_64_125 P)))
def tc25_64_64 (P : Params) : PySem.W.BT := .node (o64_c25 P) (.node (o128 P) (.nil) (.nil)) (.node (o192 P) (.nil) (.nil))
def tc25_64_96 (P : Params) : PySem.W.BT := .node (o23_c25 P) (.node (o160 P) (.nil) (.nil)) (.nil)
def tc25_64_80 (P : Params) : PySem.W.BT := .node (o80 P) (.node (o23_c25 P) (.nil) (.nil)) (.nil)
def tc25_64_112 (P : Params) : PySem.W.BT := .node (o112_c25 P) (.node (o15 P) (.nil) (.nil)) (.nil)
def tc25_64_72 (P : Params) : PySem.W.BT := .node (o23_c25 P) (.node (o136_c25 P) (.nil) (.nil)) (.node (o15 P) (.nil) (.nil))
def tc25_64_104 (P : Params) : PySem.W.BT := .node (o104 P) (.node (o168 P) (.nil) (.nil)) (.nil)
def tc25_64_88 (P : Params) : PySem.W.BT := .node (o88_c25 P) (.node (o152 P) (.nil) (.nil)) (.nil)
def tc25_64_120 (P : Params) : PySem.W.BT := .node (o23_c25 P) (.node (o12_pa P) (.nil) (.nil)) (.nil)
def tc25_8_8 (P : Params) : PySem.W.BT := .node (PySem.W.boot_o_8 P) (.node (o12_pa P) (.node (o32 P) (tc25_64_64 P) (tc25_64_96 P)) (.node (o23_c25 P) (tc25_64_80 P) (tc25_64_112 P))) (.node (o24_c25 P) (.node (o40_c25 P) (tc25_64_72 P) (tc25_64_104 P)) (.node (o56 P) (tc25_64_88 P) (tc25_64_120 P)))
def tc25_64_68 (P : Params) : PySem.W.BT := .node (o68 P) (.node (o23_c25 P) (.nil) (.nil)) (.node (o196 P) (.nil) (.nil))
def tc25_64_100 (P : Params) : PySem.W.BT := .node (o100_c25 P) (.node (o164 P) (.nil) (.nil)) (.nil)
def tc25_64_84 (P : Params) : PySem.W.BT := .node (o23_c25 P) (.node (o148_c25 P) (.nil) (.nil)) (.nil)
def tc25_64_116 (P : Params) : PySem.W.BT := .node (o116 P) (.node (o180_c25 P) (.nil) (.nil)) (.nil)
def tc25_64_76 (P : Params) : PySem.W.BT := .node (o76_c25 P) (.node (o140 P) (.nil) (.nil)) (.nil)
def tc25_64_108 (P : Params) : PySem.W.BT := .node (o23_c25 P) (.node (o15 P) (.nil) (.nil)) (.nil)
def tc25_64_92 (P : Params) : PySem.W.BT := .node (o92 P) (.node (o12_pa P) (.nil) (.nil)) (.nil)
def tc25_64_124 (P : Params) : PySem.W.BT := .node (o124_c25 P) (.node (o188 P) (.nil) (.nil)) (.nil)
def tc25_8_12 (P : Params) : PySem.W.BT := .node (o12_c25 P) (.node (o20 P) (.node (o23_c25 P) (tc25_64_68 P) (tc25_64_100 P)) (.node (o52_c25 P) (tc25_64_84 P) (tc25_64_116 P))) (.node (o28_c25 P) (.node (o44 P) (tc25_64_76 P) (tc25_64_108 P)) (.node (o23_c25 P) (tc25_64_92 P) (tc25_64_124 P)))
def tc25_64_66 (P : Params) : PySem.W.BT := .node (o29 P) (.node (o130_c25 P) (.nil) (.nil)) (.node (o194_c25 P) (.nil) (.nil))
def tc25_64_98 (P : Params) : PySem.W.BT := .node (o15 P) (.node (o15 P) (.nil) (.nil)) (.nil)
def tc25_64_82 (P : Params) : PySem.W.BT := .node (o82_c25 P) (.node (o15 P) (.nil) (.nil)) (.nil)
def tc25_64_114 (P : Params) : PySem.W.BT := .node (o29 P) (.node (o178 P) (.nil) (.nil)) (.nil)
def tc25_64_74 (P : Params) : PySem.W.BT := .node (o15 P) (.node (o29 P) (.nil) (.nil)) (.node (o202 P) (.nil) (.nil))
def tc25_64_106 (P : Params) : PySem.W.BT := .node (o106_c25 P) (.node (o12_pa P) (.nil) (.nil)) (.nil)
def tc25_64_90 (P : Params) : PySem.W.BT := .node (o29 P) (.node (o154_c25 P) (.nil) (.nil)) (.nil)
def tc25_64_122 (P : Params) : PySem.W.BT := .node (o15 P) (.node (o15 P) (.nil) (.nil)) (.nil)
def tc25_8_10 (P : Params) : PySem.W.BT := .node (PySem.W.boot_o_10 P) (.node (o15 P) (.node (o34_c25 P) (tc25_64_66 P) (tc25_64_98 P)) (.node (o15 P) (tc25_64_82 P) (tc25_64_114 P))) (.node (o12_pa P) (.node (o29 P) (tc25_64_74 P) (tc25_64_106 P)) (.node (o58_c25 P) (tc25_64_90 P) (tc25_64_122 P)))
def tc25_64_70 (P : Params) : PySem.W.BT := .node (o70_c25 P) (.node (o15 P) (.nil) (.nil)) (.node (o12_pa P) (.nil) (.nil))
def tc25_64_102 (P : Params) : PySem.W.BT := .node (o29 P) (.node (o166_c25 P) (.nil) (.nil)) (.nil)
def tc25_64_86 (P : Params) : PySem.W.BT := .node (o15 P) (.node (o29 P) (.nil) (.nil)) (.nil)
def tc25_64_118 (P : Params) : PySem.W.BT := .node (o118_c25 P) (.node (o182 P) (.nil) (.nil)) (.nil)
def tc25_64_78 (P : Params) : PySem.W.BT := .node (o29 P) (.node (o142_c25 P) (.nil) (.nil)) (.nil)
def tc25_64_110 (P : Params) : PySem.W.BT := .node (o15 P) (.node (o174 P) (.nil) (.nil)) (.nil)
def tc25_64_94 (P : Params) : PySem.W.BT := .node (o94_c25 P) (.node (o15 P) (.nil) (.nil)) (.nil)
def tc25_64_126 (P : Params) : PySem.W.BT := .node (o29 P) (.node (o15 P) (.nil) (.nil)) (.nil)
def tc25_8_14 (P : Params) : PySem.W.BT := .node (o14_pa P) (.node (o22 P) (.node (o15 P) (tc25_64_70 P) (tc25_64_102 P)) (.node (o29 P) (tc25_64_86 P) (tc25_64_118 P))) (.node (o30 P) (.node (o46_c25 P) (tc25_64_78 P) (tc25_64_110 P)) (.node (o15 P) (tc25_64_94 P) (tc25_64_126 P)))
def tc25_1_0 (P : Params) : PySem.W.BT := .node (PySem.W.boot_o_0 P) (.node (PySem.W.boot_o_1 P) (.node (o3_c25 P) (tc25_8_7 P) (tc25_8_11 P)) (.node (PySem.W.boot_o_5 P) (tc25_8_9 P) (tc25_8_13 P))) (.node (PySem.W.boot_o_2 P) (.node (PySem.W.boot_o_4 P) (tc25_8_8 P) (tc25_8_12 P)) (.node (PySem.W.boot_o_6 P) (tc25_8_10 P) (tc25_8_14 P)))
def sc25 (w : World) (os : OsState) : PySem.W.SharedT := ⟨tc25_1_0 w.params, 204, (PySem.W.boot_heap w.params).life, #[], PySem.W.boot_drawn, 441, os⟩
def bs : List Stmt := PySem.W.behindTheImports PySem.Challenge.pw_frameland_k51_own_boxes
def env : Env := { scope := PySem.Challenge.pw_frameland_k51_own_boxes.main.scope, locals := mainNs, globals := mainNs, cells := [], code := (.ref 13), frame := some 14 }
def L0 (w : World) (os : OsState) := goT treeTable PySem.Challenge.pw_frameland_k51_own_boxes w (PySem.W.boot_heap w.params).objs.size (ann0 w) 12 (bootS w os) (PySem.W.topStub PySem.Challenge.pw_frameland_k51_own_boxes)
def R0 (w : World) (os : OsState) := some (spa w os, (⟨denote treeTable (Code.body bs env), (Code.body bs env), ⟨0, 0, 0, 0⟩, [PySem.W.topFrame ⟨0, 0, 0, 0⟩]⟩ : Thread))
def L1 (w : World) (os : OsState) := PySem.W.segRunT treeTable PySem.Challenge.pw_frameland_k51_own_boxes w (PySem.W.boot_heap w.params).objs.size (ann0 w) 1 1 (spa w os) (PySem.W.blockOf bs env (Code.body bs env) ⟨0, 0, 0, 0⟩ [PySem.W.topFrame ⟨0, 0, 0, 0⟩])
def R1 (w : World) (os : OsState) := some (Flow.next, spb w os, (Code.body bs env), (⟨0, 0, 0, 0⟩ : Pos))
def L2 (w : World) (os : OsState) := PySem.W.segRunT treeTable PySem.Challenge.pw_frameland_k51_own_boxes w (PySem.W.boot_heap w.params).objs.size (ann0 w) 1 2611 (spb w os) (PySem.W.piecesOf ((bs).take 25) env (Code.body bs env) ⟨0, 0, 0, 0⟩ [PySem.W.topFrame ⟨0, 0, 0, 0⟩])
def R2 (w : World) (os : OsState) := some (Flow.next, sc25 w os, (Code.body bs env), (⟨49, 0, 50, 99⟩ : Pos))
def lhs (w : World) (os : OsState) := (runT treeTable PySem.Challenge.pw_frameland_k51_own_boxes w (PySem.W.boot_heap w.params).objs.size (ann0 w) 6321 (sc25 w os) (PySem.W.restOf ((bs).drop 25) env (Code.body bs env) ⟨49, 0, 50, 99⟩ [PySem.W.topFrame ⟨0, 0, 0, 0⟩])).map (fun s => look PySem.Challenge.pw_frameland_k51_own_boxes (fun s => adr.map s.heap.get?) (PySem.W.boot_heap w.params) s.abs)
def rhs (w : World) := some (true, Kc w.params)
def lht (w : World) (os : OsState) := (runT treeTable PySem.Challenge.pw_frameland_k51_own_boxes w (PySem.W.boot_heap w.params).objs.size (ann0 w) 6321 (sc25 w os) (PySem.W.restOf ((bs).drop 25) env (Code.body bs env) ⟨49, 0, 50, 99⟩ [PySem.W.topFrame ⟨0, 0, 0, 0⟩])).map (fun s => PySem.W.openSeen vw [] (PySem.importedModules PySem.Challenge.pw_frameland_k51_own_boxes.main.body) (fun s => PySem.W.xlAt vw [] s && PySem.W.recOk (PySem.W.RowW.records (PySem.Challenge.rw_frameland_k51_own_boxes).row.toRowW) s) true s.abs)
def rht := some (PySem.W.openGood vw [])
theorem twins0 : (fun (_ _ : World → OsState → _) => true) L0 R0 = true := by k_qdec
theorem run0 : ∀ (w : World) (os : OsState), PySem.W.Fast.tw6480634986709459259 w os = PySem.W.Fast.tw3368112316094526086 w os := by intro w os; kernel_rfl
theorem h0 (w : World) (os : OsState) : goT treeTable PySem.Challenge.pw_frameland_k51_own_boxes w (PySem.W.boot_heap w.params).objs.size (ann0 w) 12 (bootS w os) (PySem.W.topStub PySem.Challenge.pw_frameland_k51_own_boxes) = some (spa w os, (⟨denote treeTable (Code.body bs env), (Code.body bs env), ⟨0, 0, 0, 0⟩, [PySem.W.topFrame ⟨0, 0, 0, 0⟩]⟩ : Thread)) := (congrFun (congrFun PySem.W.Fast.te6480634986709459259 w) os).trans ((run0 w os).trans (congrFun (congrFun PySem.W.Fast.te3368112316094526086 w) os).symm)
theorem twins1 : (fun (_ _ : World → OsState → _) => true) L1 R1 = true := by k_qdec
theorem run1 : ∀ (w : World) (os : OsState), PySem.W.Fast.tw6549898218072122711 w os = PySem.W.Fast.tw8138977323033037049 w os := by intro w os; kernel_rfl
theorem h1 (w : World) (os : OsState) : PySem.W.segRunT treeTable PySem.Challenge.pw_frameland_k51_own_boxes w (PySem.W.boot_heap w.params).objs.size (ann0 w) 1 1 (spa w os) (PySem.W.blockOf bs env (Code.body bs env) ⟨0, 0, 0, 0⟩ [PySem.W.topFrame ⟨0, 0, 0, 0⟩]) = some (Flow.next, spb w os, (Code.body bs env), (⟨0, 0, 0, 0⟩ : Pos)) := (congrFun (congrFun PySem.W.Fast.te6549898218072122711 w) os).trans ((run1 w os).trans (congrFun (congrFun PySem.W.Fast.te8138977323033037049 w) os).symm)
theorem twins2 : (fun (_ _ : World → OsState → _) => true) L2 R2 = true := by k_qdec
theorem run2 : ∀ (w : World) (os : OsState), PySem.W.Fast.tw5255168214638199525 w os = PySem.W.Fast.tw18023110596874490952 w os := by intro w os; kernel_rfl
theorem h2 (w : World) (os : OsState) : PySem.W.segRunT treeTable PySem.Challenge.pw_frameland_k51_own_boxes w (PySem.W.boot_heap w.params).objs.size (ann0 w) 1 2611 (spb w os) (PySem.W.piecesOf ((bs).take 25) env (Code.body bs env) ⟨0, 0, 0, 0⟩ [PySem.W.topFrame ⟨0, 0, 0, 0⟩]) = some (Flow.next, sc25 w os, (Code.body bs env), (⟨49, 0, 50, 99⟩ : Pos)) := (congrFun (congrFun PySem.W.Fast.te5255168214638199525 w) os).trans ((run2 w os).trans (congrFun (congrFun PySem.W.Fast.te18023110596874490952 w) os).symm)
theorem twins : (fun (_ : World → OsState → _) (_ : World → _) (_ : World → OsState → _) (_ : Option _) => true) lhs rhs lht rht = true := by k_qdec
theorem run_one : ∀ (w : World) (os : OsState), PySem.W.Fast.tw7128866508377749982 w os = PySem.W.Fast.tw12590348191598281069 w := by intro w os; kernel_rfl
theorem run_two : ∀ (w : World) (os : OsState), PySem.W.Fast.tw7374437481920917934 w os = PySem.W.Fast.tw10733892774512676622 := by intro w os; kernel_rfl
theorem left : PySem.W.LeftO PySem.Challenge.pw_frameland_k51_own_boxes vw [] (fun s => PySem.W.xlAt vw [] s && PySem.W.recOk (PySem.W.RowW.records (PySem.Challenge.rw_frameland_k51_own_boxes).row.toRowW) s) (fun s => adr.map s.heap.get?) (fun w => (Kf w.params).map fun p => some p.2) (12 + (1 + (2611 + (6321)))) := by
  refine left_lead (Nl := 6321) (S := sc25) (t := (PySem.W.restOf ((bs).drop 25) env (Code.body bs env) ⟨49, 0, 50, 99⟩ [PySem.W.topFrame ⟨0, 0, 0, 0⟩])) (by kernel_rfl) (by kernel_rfl) (by intro s; kernel_rfl) (fun w os r k => PySem.W.go_top (n := 12) (N := 1 + (2611 + (6321))) (goT_of (h0 w os)) (PySem.W.piece_block (n := 1) (N := 2611 + (6321)) (PySem.W.segRun_of (h1 w os)) (seg_on (n := 2611) (N := 6321) (h2 w os) k))) (fun w os => ?_) fun w os => ?_
  · rw [← kc_eq]; exact (congrFun (congrFun PySem.W.Fast.te7128866508377749982 w) os).trans ((run_one w os).trans (congrFun PySem.W.Fast.te12590348191598281069 w).symm)
  · exact (congrFun (congrFun PySem.W.Fast.te7374437481920917934 w) os).trans ((run_two w os).trans PySem.W.Fast.te10733892774512676622.symm)
end

end Pf
open PySem PySem.W PyProof.Rows
set_option maxRecDepth 100000 in
set_option maxHeartbeats 0 in
theorem PySem.Challenge.cw_frameland_k51_own_boxes_holds : PySem.Challenge.rw_frameland_k51_own_boxes.Holds := by
  w_on; o_law
  refine holds_open (q := Pf.vw) (loose := []) (Xt := fun s => xlAt Pf.vw [] s && recOk (RowW.records (PySem.Challenge.rw_frameland_k51_own_boxes).row.toRowW) s) (XP := XL Pf.vw []) (Yf := Hook.obs (kHook Pf.Kf Pf.adr Pf.adr_eq)) (Ya := Hook.val (kHook Pf.Kf Pf.adr Pf.adr_eq)) (YP := Hook.says (kHook Pf.Kf Pf.adr Pf.adr_eq)) (N := (12 + (1 + (2611 + (6321))))) Pf.left (Hook.of (kHook Pf.Kf Pf.adr Pf.adr_eq)) (Hook.keeps (kHook Pf.Kf Pf.adr Pf.adr_eq)) (fun s e => xl_of s (Bool.and_eq_true_iff.mp e).1) XL.keeps (by rfl) (by rfl) (by rfl) (fun s e => recFacts_of (Bool.and_eq_true_iff.mp e).2) (by rfl) (by first | assumption | decide +kernel) (by decide +kernel) ⟨rfl, rfl, rfl, rfl, rfl, by decide +kernel⟩ ?hw ?hc
  case hw => w_witness2
  k_fill
  refine Pf.walk (l := PySem.Challenge.rw_frameland_k51_own_boxes) rfl rfl rfl (fun w h Y => PySem.W.kIn_of Y) ?F
  case F =>
    intro w mg h KX G
    refine' Pf.txt_mk KX G ?g0 ?g1 ?g2 ?g3 ?g4 ?g5 ?g6 ?g7 ?g8 ?g9 ?g10 ?g11 ?g12 ?g13 ?g14 ?g15 ?g16 ?g17 ?g18 ?g19 ?g20 ?g21 ?g22 ?g23 ?g24 ?g25 ?g26 ?g27 ?g28 ?g29 ?g30 ?g31 ?g32 ?g33 ?g34 ?g35 ?g36 ?g37 ?g38 ?g39 ?g40 ?g41 ?g42 ?g43 ?g44 ?g45 ?g46 ?g47 ?g48 ?g49 ?g50 ?g51 ?g52 ?g53 ?g54 ?g55 ?g56 ?g57 ?g58 ?g59 ?g60 ?g61 ?g62 ?g63 ?g64 ?g65 ?g66 ?g67 ?g68 ?g69 ?g70 ?g71 ?g72 ?g73 ?g74 ?g75 ?g76 ?g77 ?g78 ?g79 ?g80 ?g81 ?g82 ?g83 ?g84 ?g85 ?g86 ?g87 ?g88 ?g89 ?g90 ?g91 ?g92 ?g93 ?g94 ?g95 ?g96 ?g97 ?g98 ?g99 ?g100 ?g101 ?g102 ?g103 ?g104 ?g105 ?g106 ?g107 ?g108 ?g109 ?g110 ?g111 ?g112 ?g113 ?g114 ?g115 ?g116 ?g117 ?g118 ?g119 ?g120 ?g121 ?g122 ?g123 ?g124 ?g125 ?g126 ?g127 ?g128 ?g129 ?g130 ?g131 ?g132 ?g133 ?g134 ?g135 ?g136 ?g137 ?g138 ?g139 ?g140 ?g141 ?g142 ?g143 ?g144 ?g145 ?g146 ?g147 ?g148 ?g149 ?g150 ?g151 ?g152 ?g153 ?g154 ?g155 ?g156 ?g157 ?g158 ?g159 ?g160 ?g161 ?g162 ?g163 ?g164 ?g165 ?g166 ?g167 ?g168 ?g169 ?g170 ?g171 ?g172 ?g173 ?g174 ?g175 ?g176 ?g177 ?g178 ?g179 ?g180 ?g181 ?g182 ?g183 ?g184 ?g185 ?g186 ?g187 ?g188 ?g189 ?g190 ?g191 ?g192 ?g193 ?g194 ?g195 ?g196 ?g197 ?g198 ?g199 ?g200 ?g201 ?g202 ?g203 ?g204 ?g205 ?g206 ?g207 ?g208 ?g209 ?g210 ?g211 ?g212 ?g213 ?g214 ?g215 ?g216 ?g217 ?g218 ?g219 ?g220 ?g221 ?g222 ?g223 ?g224 ?g225 ?g226 ?g227 ?g228 ?g229 ?g230 ?g231 ?g232 ?g233 ?g234 ?g235 ?g236 ?g237 ?g238 ?g239 ?g240 ?g241 ?g242 ?g243 ?g244 ?g245 ?g246 ?g247 ?g248 ?g249 ?g250 ?g251 ?g252 ?g253 ?g254 ?g255 ?g256 ?g257 ?g258 ?g259 ?g260 ?g261 ?g262 ?g263 ?g264 ?g265 ?g266 ?g267 ?g268 ?g269 ?g270 ?g271 ?g272 ?g273 ?g274 ?g275 ?g276 ?g277 ?g278 ?g279 ?g280 ?g281 ?g282 ?g283 ?g284 ?g285 ?g286 ?g287 ?g288 ?g289 ?g290 ?g291 ?g292 ?g293 ?g294 ?g295 ?g296 ?g297 ?g298 ?g299 ?g300 ?g301 ?g302 ?g303 ?g304 ?g305 ?g306 ?g307 ?g308 ?g309 ?g310 ?g311 ?g312 ?g313 ?g314 ?g315 ?g316 ?g317 ?g318 ?g319 ?g320 ?g321 ?g322 ?g323 ?g324 ?g325 ?g326 ?g327 ?g328 ?g329 ?g330 ?g331 ?g332 ?g333 ?g334 ?g335 ?g336 ?g337 ?g338 ?g339 ?g340 ?g341 ?g342 ?g343 ?g344 ?g345 ?g346 ?g347 ?g348 ?g349 ?g350 ?g351 ?g352 ?g353 ?g354 ?g355 ?g356 ?g357 ?g358
    (case g0 => k_is); (case g1 => k_is); (case g2 => k_is); (case g3 => k_is); (case g4 => k_is); (case g5 => k_is)
    (case g6 => k_is); (case g7 => k_is); (case g8 => k_is); (case g9 => k_is); (case g10 => k_is); (case g11 => k_is)
    (case g12 => k_is); (case g13 => k_is); (case g14 => k_is); (case g15 => k_is); (case g16 => k_is); (case g17 => k_is)
    (case g18 => k_is); (case g19 => k_is); (case g20 => k_is); (case g21 => k_is); (case g22 => k_is); (case g23 => k_is)
    (case g24 => k_is); (case g25 => k_is); (case g26 => k_is); (case g27 => k_is); (case g28 => k_is); (case g29 => k_is)
    (case g30 => k_is); (case g31 => k_is); (case g32 => k_is); (case g33 => k_is); (case g34 => k_is); (case g35 => k_is)
    (case g36 => k_is); (case g37 => k_is); (case g38 => k_is); (case g39 => k_is); (case g40 => k_is); (case g41 => k_is)
    (case g42 => k_is); (case g43 => k_is); (case g44 => k_is); (case g45 => k_is); (case g46 => k_is); (case g47 => k_is)
    (case g48 => k_is); (case g49 => k_is); (case g50 => k_is); (case g51 => k_is); (case g52 => k_is); (case g53 => k_is)
    (case g54 => k_is); (case g55 => k_is); (case g56 => k_is); (case g57 => k_is); (case g58 => k_is); (case g59 => k_is)
    (case g60 => k_is); (case g61 => k_is); (case g62 => k_is); (case g63 => k_is); (case g64 => k_is); (case g65 => k_is)
    (case g66 => k_is); (case g67 => k_is); (case g68 => k_is); (case g69 => k_is); (case g70 => k_is); (case g71 => k_is)
    (case g72 => k_is); (case g73 => k_is); (case g74 => k_is); (case g75 => k_is); (case g76 => k_is); (case g77 => k_is)
    (case g78 => k_is); (case g79 => k_is); (case g80 => k_is); (case g81 => k_is); (case g82 => k_is); (case g83 => k_is)
    (case g84 => k_is); (case g85 => k_is); (case g86 => k_is); (case g87 => k_is); (case g88 => k_is); (case g89 => k_is)
    (case g90 => k_is); (case g91 => k_is); (case g92 => k_is); (case g93 => k_is); (case g94 => k_is); (case g95 => k_is)
    (case g96 => k_is); (case g97 => k_is); (case g98 => k_is); (case g99 => k_is); (case g100 => k_is); (case g101 => k_is)
    (case g102 => k_is); (case g103 => k_is); (case g104 => k_is); (case g105 => k_is); (case g106 => k_is); (case g107 => k_is)
    (case g108 => k_is); (case g109 => k_is); (case g110 => k_is); (case g111 => k_is); (case g112 => k_is); (case g113 => k_is)
    (case g114 => k_is); (case g115 => k_is); (case g116 => k_is); (case g117 => k_is); (case g118 => k_is); (case g119 => k_is)
    (case g120 => k_is); (case g121 => k_is); (case g122 => k_is); (case g123 => k_is); (case g124 => k_is); (case g125 => k_is)
    (case g126 => k_is); (case g127 => k_is); (case g128 => k_is); (case g129 => k_is); (case g130 => k_is); (case g131 => k_is)
    (case g132 => k_is); (case g133 => k_is); (case g134 => k_is); (case g135 => k_is); (case g136 => k_is); (case g137 => k_is)
    (case g138 => k_is); (case g139 => k_is); (case g140 => k_is); (case g141 => k_is); (case g142 => k_is); (case g143 => k_is)
    (case g144 => k_is); (case g145 => k_is); (case g146 => k_is); (case g147 => k_is); (case g148 => k_is); (case g149 => k_is)
    (case g150 => k_is); (case g151 => k_is); (case g152 => k_is); (case g153 => k_is); (case g154 => k_is); (case g155 => k_is)
    (case g156 => k_is); (case g157 => k_is); (case g158 => k_is); (case g159 => k_is); (case g160 => k_is); (case g161 => k_is)
    (case g162 => k_is); (case g163 => k_is); (case g164 => k_is); (case g165 => k_is); (case g166 => k_is); (case g167 => k_is)
    (case g168 => k_is); (case g169 => k_is); (case g170 => k_is); (case g171 => k_is); (case g172 => k_is); (case g173 => k_is)
    (case g174 => k_is); (case g175 => k_is); (case g176 => k_is); (case g177 => k_is); (case g178 => k_is); (case g179 => k_is)
    (case g180 => k_is); (case g181 => k_is); (case g182 => k_is); (case g183 => k_is); (case g184 => k_is); (case g185 => k_is)
    (case g186 => k_is); (case g187 => k_is); (case g188 => k_is); (case g189 => k_is); (case g190 => k_is); (case g191 => k_is)
    (case g192 => k_is); (case g193 => k_is); (case g194 => k_is); (case g195 => k_is); (case g196 => k_is); (case g197 => k_is)
    (case g198 => k_is); (case g199 => k_is); (case g200 => k_is); (case g201 => k_is); (case g202 => k_is); (case g203 => k_is)
    (case g204 => k_is); (case g205 => k_is); (case g206 => k_is); (case g207 => k_is); (case g208 => k_is); (case g209 => k_is)
    (case g210 => k_is); (case g211 => k_is); (case g212 => k_is); (case g213 => k_is); (case g214 => k_is); (case g215 => k_is)
    (case g216 => k_is); (case g217 => k_is); (case g218 => k_is); (case g219 => k_is); (case g220 => k_is); (case g221 => k_is)
    (case g222 => k_is); (case g223 => k_is); (case g224 => k_is); (case g225 => k_is); (case g226 => k_is); (case g227 => k_is)
    (case g228 => k_is); (case g229 => k_is); (case g230 => k_is); (case g231 => k_is); (case g232 => k_is); (case g233 => k_is)
    (case g234 => k_is); (case g235 => k_is); (case g236 => k_is); (case g237 => k_is); (case g238 => k_is); (case g239 => k_is)
    (case g240 => k_is); (case g241 => k_is); (case g242 => k_is); (case g243 => k_is); (case g244 => k_is); (case g245 => k_is)
    (case g246 => k_is); (case g247 => k_is); (case g248 => k_is); (case g249 => k_is); (case g250 => k_is); (case g251 => k_is)
    (case g252 => k_is); (case g253 => k_is); (case g254 => k_is); (case g255 => k_is); (case g256 => k_is); (case g257 => k_is)
    (case g258 => k_is); (case g259 => k_is); (case g260 => k_is); (case g261 => k_is); (case g262 => k_is); (case g263 => k_is)
    (case g264 => k_is); (case g265 => k_is); (case g266 => k_is); (case g267 => k_is); (case g268 => k_is); (case g269 => k_is)
    (case g270 => k_is); (case g271 => k_is); (case g272 => k_is); (case g273 => k_is); (case g274 => k_is); (case g275 => k_is)
    (case g276 => k_is); (case g277 => k_is); (case g278 => k_is); (case g279 => k_is); (case g280 => k_is); (case g281 => k_is)
    (case g282 => k_is); (case g283 => k_is); (case g284 => k_is); (case g285 => k_is); (case g286 => k_is); (case g287 => k_is)
    (case g288 => k_is); (case g289 => k_is); (case g290 => k_is); (case g291 => k_is); (case g292 => k_is); (case g293 => k_is)
    (case g294 => k_is); (case g295 => k_is); (case g296 => k_is); (case g297 => k_is); (case g298 => k_is); (case g299 => k_is)
    (case g300 => k_is); (case g301 => k_is); (case g302 => k_is); (case g303 => k_is); (case g304 => k_is); (case g305 => k_is)
    (case g306 => k_is); (case g307 => k_is); (case g308 => k_is); (case g309 => k_is); (case g310 => k_is); (case g311 => k_is)
    (case g312 => k_is); (case g313 => k_is); (case g314 => k_is); (case g315 => k_is); (case g316 => k_is); (case g317 => k_is)
    (case g318 => k_is); (case g319 => k_is); (case g320 => k_is); (case g321 => k_is); (case g322 => k_is); (case g323 => k_is)
    (case g324 => k_is); (case g325 => k_is); (case g326 => k_is); (case g327 => k_is); (case g328 => k_is); (case g329 => k_is)
    (case g330 => k_is); (case g331 => k_is); (case g332 => k_is); (case g333 => k_is); (case g334 => k_is); (case g335 => k_is)
    (case g336 => k_is); (case g337 => k_is); (case g338 => k_is); (case g339 => k_is); (case g340 => k_is); (case g341 => k_is)
    (case g342 => k_is); (case g343 => k_is); (case g344 => k_is); (case g345 => k_exc); (case g346 => k_exc); (case g347 => k_exc)
    (case g348 => k_exc); (case g349 => k_exc); (case g350 => k_exc); (case g351 => k_exc); (case g352 => k_exc); (case g353 => k_exc)
    (case g354 => k_exc); (case g355 => k_is); (case g356 => k_is); (case g357 => k_is); (case g358 => k_is)
