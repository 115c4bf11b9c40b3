import PyProof.Rows.All
import Wide.All
import OpenK.AllK
import Wide.FinOn
import Lean
import PyProof.EqAt
import PyProof.EqKinds
import PyProof.TupleCall
import PySem.Challenge.RW_roundmill_k03_refusals
-- CHANGE: your row's module here, as the last of these rows
set_option Elab.async false
set_option linter.all false
set_option maxRecDepth 100000
/-! THE HAND LAYER, for ints, bools, texts, own classes, LISTS and tuples (index, slices, in, append, pop ..), calls, loops. Paste it whole ahead of your own text; what your proof does not reach may be deleted. -/
namespace L2
open PySem PySem.Spec PyProof.Rows

/-- a key: an int or a str -/
noncomputable abbrev Key := Sum Int Str
noncomputable def keyIs : Key → Value → Bool
  | .inl k, v => Value.isInt k v
  | .inr x, v => Value.isStrOf x v
noncomputable def keyH (w : World) : Key → Int
  | .inl k => hashInt k
  | .inr x => hashStr w x
theorem keyIs_shape : ∀ {k : Key} {v : Value}, keyIs k v = true → (∃ i t, k = Sum.inl i ∧ v = Value.int i t) ∨ (∃ x t, k = Sum.inr x ∧ v = Value.str x t)
  | .inl i, v, h => by
    obtain ⟨t, e⟩ := Value.isInt_shape (k := i) (v := v) h
    exact .inl ⟨i, t, rfl, e⟩
  | .inr x, v, h => by
    obtain ⟨t, e⟩ := Value.isStrOf_shape (x := x) (v := v) h
    exact .inr ⟨x, t, rfl, e⟩
theorem key_ll (a b : Int) : decide ((Sum.inl a : Key) = Sum.inl b) = (a == b) := by
  by_cases e : a = b
  · subst e; simp
  · have h : ¬ (Sum.inl a : Key) = Sum.inl b := fun q => e (Sum.inl.inj q)
    rw [decide_eq_false h]
    exact (beq_eq_false_iff_ne.mpr e).symm
theorem key_rr (a b : Str) : decide ((Sum.inr a : Key) = Sum.inr b) = decide (a = b) := by
  by_cases e : a = b
  · subst e; simp
  · have h : ¬ (Sum.inr a : Key) = Sum.inr b := fun q => e (Sum.inr.inj q)
    rw [decide_eq_false h, decide_eq_false e]
theorem key_lr (a : Int) (b : Str) : decide ((Sum.inl a : Key) = Sum.inr b) = false := decide_eq_false (fun q => nomatch q)
theorem key_rl (a : Str) (b : Int) : decide ((Sum.inr a : Key) = Sum.inl b) = false := decide_eq_false (fun q => nomatch q)

noncomputable def mixKind (prog : Program) (w : World) : PySem.KeyKind prog w Key where
  is := keyIs
  hash := keyH w
  inj := fun v a b ha hb => by
    rcases keyIs_shape ha with ⟨i, t, rfl, rfl⟩ | ⟨x, t, rfl, rfl⟩
    · rcases keyIs_shape hb with ⟨j, u, rfl, e⟩ | ⟨y, u, rfl, e⟩
      · injection e with e1 _; rw [e1]
      · exact nomatch e
    · rcases keyIs_shape hb with ⟨j, u, rfl, e⟩ | ⟨y, u, rfl, e⟩
      · exact nomatch e
      · injection e with e1 _; rw [e1]
  byValue := fun k v h => by
    rcases keyIs_shape h with ⟨i, t, rfl, rfl⟩ | ⟨x, t, rfl, rfl⟩ <;> rfl
  pyHash := fun hv h => by
    rcases keyIs_shape hv with ⟨i, t, rfl, rfl⟩ | ⟨x, t, rfl, rfl⟩
    · exact wpAny_pyHash_int h
    · exact wpAny_pyHash_str h
  eqBool := fun hu hv h => by
    rcases keyIs_shape hu with ⟨i, t, rfl, rfl⟩ | ⟨x, t, rfl, rfl⟩
    · rcases keyIs_shape hv with ⟨j, u, rfl, rfl⟩ | ⟨y, u, rfl, rfl⟩
      · rw [key_ll] at h; exact wpAny_eqBool_int h
      · rw [key_lr] at h; exact SeqAt.EqAt.int_str i t y u _ _ _ _ h
    · rcases keyIs_shape hv with ⟨j, u, rfl, rfl⟩ | ⟨y, u, rfl, rfl⟩
      · rw [key_rl] at h; exact SeqAt.EqAt.str_int x t j u _ _ _ _ h
      · rw [key_rr] at h; exact wpAny_eqBool_str h
  «strs» := fun k x t v h => by
    rcases keyIs_shape h with ⟨i, u, rfl, e⟩ | ⟨y, u, rfl, e⟩
    · exact nomatch e
    · injection e with e1 _
      subst e1
      cases v <;> rfl

end L2

namespace L2
open PySem PySem.Spec PyProof.Rows

/-- a value, without the heap -/
inductive V where
  | non | bl (b : Bool) | int (i : Int) | str (x : Str) | byt (b : Array UInt8) | flt (b : UInt64) | ref (a : Addr) | ty (n : String)
  deriving DecidableEq

noncomputable def RelV : V → Value → Prop
  | .non, u => u = Value.none
  | .bl b, u => u = Value.bool b
  | .int i, u => ∃ t, u = Value.int i t
  | .str x, u => ∃ t, u = Value.str x t
  | .byt b, u => ∃ t, u = Value.bytes b t
  | .flt b, u => ∃ t, u = Value.float b t
  | .ref a, u => u = Value.ref a
  | .ty n, u => u = Value.type n

noncomputable abbrev Vals : List V → List Value → Prop := Paired RelV
theorem Vals.length {xs : List V} {us : List Value} (r : Vals xs us) : xs.length = us.length := Paired.length r
theorem Vals.get : ∀ {xs : List V} {us : List Value} {i : Nat} {x : V}, Vals xs us → xs[i]? = some x → ∃ u, us[i]? = some u ∧ RelV x u
  | _, _, _, _, .nil, e => by simp at e
  | _, _, 0, _, .cons r _, e => by simp at e; subst e; exact ⟨_, rfl, r⟩
  | _, _, i + 1, x, .cons _ t, e => by
    obtain ⟨u, h1, h2⟩ := Vals.get (i := i) (x := x) t (by simpa using e)
    exact ⟨u, by simpa using h1, h2⟩
theorem Vals.set {x : V} {u : Value} (r : RelV x u) : ∀ {xs : List V} {us : List Value} (i : Nat), Vals xs us → Vals (xs.set i x) (us.set i u)
  | _, _, _, .nil => .nil
  | _, _, 0, .cons _ t => .cons r t
  | _, _, i + 1, .cons q t => .cons q (Vals.set r i t)
theorem Vals.append : ∀ {xs ys : List V} {us ws : List Value}, Vals xs us → Vals ys ws → Vals (xs ++ ys) (us ++ ws)
  | _, _, _, _, .nil, s => s
  | _, _, _, _, .cons r t, s => .cons r (Vals.append t s)
theorem Vals.take : ∀ {xs : List V} {us : List Value} (n : Nat), Vals xs us → Vals (xs.take n) (us.take n)
  | _, _, 0, _ => .nil
  | _, _, _ + 1, .nil => .nil
  | _, _, n + 1, .cons r t => .cons r (Vals.take n t)
theorem Vals.drop : ∀ {xs : List V} {us : List Value} (n : Nat), Vals xs us → Vals (xs.drop n) (us.drop n)
  | _, _, 0, r => r
  | _, _, _ + 1, .nil => .nil
  | _, _, n + 1, .cons _ t => Vals.drop n t
noncomputable def RelO : Option V → Option Value → Prop
  | some v, some u => RelV v u
  | none, none => True
  | _, _ => False
noncomputable def KV {κ : Type} : List (κ × V) → List (κ × Value) → Prop := Paired fun (p : κ × V) (q : κ × Value) => p.1 = q.1 ∧ RelV p.2 q.2

/-- a key of a dict (00_mix): an int or a text -/
noncomputable def kV : Key → V
  | .inl i => .int i
  | .inr x => .str x

/-- what stands at a tracked address -/
inductive HO where
  /-- a list -/
  | lst (xs : List V)
  /-- a tuple (never changes) -/
  | tup (xs : List V)
  /-- a dict whose keys are ints and texts; one whose keys are tuples of ints and texts (the empty one is both) -/
  | dK (kvs : List (Key × V)) | dT (kvs : List (List Key × V))
  /-- a set of ints: its members, its size -/
  | set (S : Int → Bool) (n : Nat)
  /-- an instance of the class at C, its dict at dx, its attributes -/
  | ins (C dx : Addr) (fs : List (Str × V))
  /-- the dict of the instance at x -/
  | own (x : Addr)
  /-- the dict of an exception -/
  | xd (fs : List (Str × V))
  /-- a bound method, f of x -/
  | met (f x : Addr)
  /-- a range object lo, lo + 1, .. below hi -/
  | rng (lo hi : Int)
  /-- a thing that is known to the object (the script; a dict while a loop walks it): read, never written while it is so -/
  | frz (o : Obj) (u : HO)
  /-- a code object's table -/
  | tbl (ps : Array Value)
  /-- any other thing, by what is true of its one object (a def of one's own: SetO a S n := HO.ext fun h => ..) -/
  | ext (φ : Heap → Prop)

noncomputable abbrev Hp := Addr → Option HO
noncomputable def upd (H : Hp) (a : Addr) (o : HO) : Hp := fun b => if b = a then some o else H b
theorem upd_same {H : Hp} {a : Addr} {o : HO} : upd H a o a = some o := by unfold upd; rw [if_pos rfl]
theorem upd_ne {H : Hp} {a b : Addr} {o : HO} (h : b ≠ a) : upd H a o b = H b := by unfold upd; rw [if_neg h]
theorem ne_of_none {H : Hp} {a b : Addr} {o : HO} (h : H a = some o) (h' : H b = none) : a ≠ b := by
  intro e; subst e; rw [h] at h'; cases h'

section
variable (P : Program) (w : World)
noncomputable def ObjOk (H : Hp) (h : Heap) (a : Addr) : HO → Prop
  | .lst xs => xs.length ≤ sizeLine ∧ ∃ (its : List Value) (n : Nat), Vals xs its ∧ h.get? a = some { cls := .type "list", data := .seq its.toArray n }
  | .tup xs => xs.length ≤ sizeLine ∧ ∃ its : List Value, Vals xs its ∧ IsTup h a its.toArray
  | .dK kvs => kvs.length ≤ sizeLine ∧ (a == sysModules) = false ∧ ∃ vs, KV kvs vs ∧ h.DictOf (mixKind P w) a vs
  | .dT kvs => kvs.length ≤ sizeLine ∧ (a == sysModules) = false ∧ ∃ xs : List (List Key × Addr × Value),
      Paired (fun (p : List Key × V) (q : List Key × Addr × Value) => p.1 = q.1 ∧ H q.2.1 = some (.tup (p.1.map kV)) ∧ RelV p.2 q.2.2) kvs xs ∧
      ∃ o es ep, h.get? a = some o ∧ o.ExactDict ∧ o.data = .dict es ep ∧ es.toList = xs.map (entryOfKey (tupleKind (mixKind P w))) ∧ (xs.map (·.1)).Nodup
  | .set S n => h.SetOf (intKind P w) a S n
  | .ins C dx fs => H dx = some (.own a) ∧ fs.length ≤ 1000 ∧ dx ≠ a ∧ h.get? a = some (PySem.W.instObj C dx) ∧
      ∃ mA, h.Ns1 dx mA ∧ (∀ f, RelO (fs.lookup f) (mA f)) ∧ PySem.Within mA (fs.map (·.1))
  | .own _ => ∃ o, h.get? a = some o
  | .xd fs => ∃ mA, h.Ns1 a mA ∧ ∀ f, RelO (fs.lookup f) (mA f)
  | .rng lo hi => ∃ t u v, h.get? a = some { cls := .type "range", data := .fields #[.int lo t, .int hi u, .int 1 v] }
  | .frz o u => h.get? a = some o ∧ ObjOk H h a u
  | .tbl ps => h.get? a = some { cls := .none, data := .fields ps }
  | .met f x => h.get? a = some (PySem.W.methodObj (.ref f) (.ref x))
  | .ext φ => φ h ∧ (∃ o, h.get? a = some o) ∧ ∀ h1 h2 : Heap, φ h1 → (∀ o, h1.get? a = some o → h2.get? a = some o) → φ h2
/-- the abstract heap is held -/
noncomputable def HOk (H : Hp) (h : Heap) : Prop := ∀ a o, H a = some o → ObjOk P w H h a o
end

section
variable {P : Program} {w : World} {H H' : Hp} {h h' : Heap} {a : Addr} {o : HO}
theorem ObjOk.lt (x : ObjOk P w H h a o) : a < h.objs.size := by
  cases o with
  | lst xs => obtain ⟨_, _, _, _, e⟩ := x; exact Heap.lt_size e
  | tup xs => obtain ⟨_, _, _, p⟩ := x; exact p.lt
  | dK kvs => obtain ⟨_, _, _, _, o, _, _, e, _⟩ := x; exact Heap.lt_size e
  | dT kvs => obtain ⟨_, _, _, _, o, _, _, e, _⟩ := x; exact Heap.lt_size e
  | set S n => obtain ⟨o, _, _, _, e, _⟩ := x; exact Heap.lt_size e
  | ins C dx fs => obtain ⟨_, _, _, e, _⟩ := x; exact Heap.lt_size e
  | own y => obtain ⟨_, e⟩ := x; exact Heap.lt_size e
  | xd fs => obtain ⟨_, ⟨_, _, _, e, _⟩, _⟩ := x; exact Heap.lt_size e
  | rng lo hi => obtain ⟨_, _, _, e⟩ := x; exact Heap.lt_size e
  | frz ob u => obtain ⟨e, _⟩ := x; exact Heap.lt_size e
  | tbl ps => exact Heap.lt_size (show h.get? a = some _ from x)
  | met f y => exact Heap.lt_size (show h.get? a = some _ from x)
  | ext φ => obtain ⟨_, ⟨_, e⟩, _⟩ := x; exact Heap.lt_size e
theorem Paired.mapP {α β : Type} {F G : α → β → Prop} : ∀ {l₁ : List α} {l₂ : List β}, Paired F l₁ l₂ → (∀ a b, F a b → G a b) → Paired G l₁ l₂
  | _, _, .nil, _ => .nil
  | _, _, .cons r t, f => .cons (f _ _ r) (Paired.mapP t f)
/-- what an object's description leans on: its own object, its own dict, the tuples -/
theorem ObjOk.stay (x : ObjOk P w H h a o) (k : ∀ b u, (b = a ∨ H b = some (.own a)) → h.get? b = some u → h'.get? b = some u)
    (ho : ∀ b, H b = some (.own a) → H' b = some (.own a)) (ht : ∀ b xs, H b = some (.tup xs) → H' b = some (.tup xs)) : ObjOk P w H' h' a o := by
  induction o with
  | lst xs => obtain ⟨z, its, n, r, e⟩ := x; exact ⟨z, its, n, r, k _ _ (.inl rfl) e⟩
  | tup xs => obtain ⟨z, its, r, ob, e, c⟩ := x; exact ⟨z, its, r, ob, k _ _ (.inl rfl) e, c⟩
  | dK kvs => obtain ⟨z, y, vs, r, ob, es, ep, e, c⟩ := x; exact ⟨z, y, vs, r, ob, es, ep, k _ _ (.inl rfl) e, c⟩
  | dT kvs =>
    obtain ⟨z, y, xs, r, ob, es, ep, e, c⟩ := x
    exact ⟨z, y, xs, Paired.mapP r fun p q z => ⟨z.1, ht _ _ z.2.1, z.2.2⟩, ob, es, ep, k _ _ (.inl rfl) e, c⟩
  | set S n => obtain ⟨ob, es, ep, t, e, c⟩ := x; exact ⟨ob, es, ep, t, k _ _ (.inl rfl) e, c⟩
  | ins C dx fs =>
    obtain ⟨d, z, ne, e, mA, ⟨od, es, ep, e2, c⟩, r⟩ := x
    exact ⟨ho _ d, z, ne, k _ _ (.inl rfl) e, mA, ⟨od, es, ep, k _ _ (.inr d) e2, c⟩, r⟩
  | own y => obtain ⟨ob, e⟩ := x; exact ⟨ob, k _ _ (.inl rfl) e⟩
  | xd fs => obtain ⟨mA, ⟨od, es, ep, e, c⟩, r⟩ := x; exact ⟨mA, ⟨od, es, ep, k _ _ (.inl rfl) e, c⟩, r⟩
  | rng lo hi => obtain ⟨t, u, v, e⟩ := x; exact ⟨t, u, v, k _ _ (.inl rfl) e⟩
  | frz ob u ih => obtain ⟨e, q⟩ := x; exact ⟨k _ _ (.inl rfl) e, ih q⟩
  | tbl ps =>
    have e : h.get? a = some { cls := .none, data := .fields ps } := x
    show h'.get? a = some { cls := .none, data := .fields ps }
    exact k a _ (.inl rfl) e
  | met f y =>
    have e : h.get? a = some (PySem.W.methodObj (.ref f) (.ref y)) := x
    show h'.get? a = some (PySem.W.methodObj (.ref f) (.ref y))
    exact k a _ (.inl rfl) e
  | ext φ => obtain ⟨p, ⟨o, e⟩, st⟩ := x; exact ⟨st _ _ p fun o q => k _ _ (.inl rfl) q, ⟨o, k _ _ (.inl rfl) e⟩, st⟩
theorem HOk.lt (x : HOk P w H h) (e : H a = some o) : a < h.objs.size := (x a o e).lt
theorem HOk.fresh (x : HOk P w H h) (e : h.objs.size ≤ a) : H a = none := by
  cases q : H a with
  | none => rfl
  | some u => exact absurd (Nat.lt_of_lt_of_le (x.lt q) e) (Nat.lt_irrefl _)
/-- every object of the heap is kept -/
theorem HOk.kept (x : HOk P w H h) (k : ∀ b u, h.get? b = some u → h'.get? b = some u) : HOk P w H h' := fun a o e =>
  (x a o e).stay (fun b u _ q => k b u q) (fun _ q => q) fun _ _ q => q
/-- a new object is laid and tracked -/
theorem HOk.laid (x : HOk P w H h) (k : ∀ b u, h.get? b = some u → h'.get? b = some u) (hp : h.objs.size ≤ a) (new : ObjOk P w (upd H a o) h' a o) : HOk P w (upd H a o) h' := fun b u e => by
  have hn := x.fresh hp
  by_cases hb : b = a
  · subst hb; rw [upd_same] at e; cases e; exact new
  · rw [upd_ne hb] at e
    exact (x b u e).stay (fun c v _ q => k c v q) (fun c q => by rw [upd_ne (ne_of_none q hn)]; exact q) fun c xs q => by rw [upd_ne (ne_of_none q hn)]; exact q
end

/-- what may be read as u: it is u, or a known u -/
noncomputable def Rd (H : Hp) (a : Addr) (u : HO) : Prop := H a = some u ∨ ∃ o, H a = some (.frz o u)
theorem Rd.ok {P : Program} {w : World} {H : Hp} {h : Heap} {a : Addr} {u : HO} (r : Rd H a u) (x : HOk P w H h) : ObjOk P w H h a u := by
  rcases r with r | ⟨o, r⟩
  · exact x a u r
  · obtain ⟨_, q⟩ := x a _ r
    exact q
/-- what may be written -/
noncomputable def Mut : Option HO → Prop
  | some (.lst _) => True
  | some (.dK _) => True
  | some (.dT _) => True
  | some (.set _ _) => True
  | some (.ins _ _ _) => True
  | some (.ext _) => True
  | _ => False
section
variable {P : Program} {w : World} {H : Hp} {h h' : Heap} {x e : Addr} {o' : HO}
/-- the object at e is changed: x itself, or the dict of the instance x -/
theorem HOk.write (ok : HOk P w H h) (mu : Mut (H x)) (he : e = x ∨ H e = some (.own x)) (k : ∀ b u, b ≠ e → h.get? b = some u → h'.get? b = some u) (heo : ∃ u, h'.get? e = some u)
    (new : ObjOk P w (upd H x o') h' x o') : HOk P w (upd H x o') h' := fun b u q => by
  have nown : ∀ c y, H c = some (.own y) → c ≠ x := fun c y r z => by subst z; rw [r] at mu; exact mu
  have ntup : ∀ c xs, H c = some (.tup xs) → c ≠ x := fun c xs r z => by subst z; rw [r] at mu; exact mu
  by_cases hb : b = x
  · subst hb; rw [upd_same] at q; cases q; exact new
  · rw [upd_ne hb] at q
    by_cases hbe : b = e
    · have q' : H b = some (.own x) := by
        rcases he with z | z
        · exact absurd (hbe.trans z) hb
        · rw [hbe]; exact z
      rw [q] at q'; cases q'
      obtain ⟨v, hv⟩ := heo
      exact ⟨v, by rw [hbe]; exact hv⟩
    · refine (ok b u q).stay (fun c v hc r => k c v ?_ r) (fun c r => by rw [upd_ne (nown c b r)]; exact r) fun c xs r => by rw [upd_ne (ntup c xs r)]; exact r
      rcases hc with rfl | hc
      · exact hbe
      · rintro rfl
        rcases he with z | z
        · exact nown c b hc z
        · rw [hc] at z; cases z; exact hb rfl
end

/-! ### kept unless tracked; of the frames at fs (the callers') the slots may change (an exception that passes writes there); of the records at ex (iterators) nothing is said -/
structure Un (fs ex : List Addr) (H H' : Hp) (h h' : Heap) : Prop where
  keep : ∀ b o, h.get? b = some o → H b = none → b ∉ fs → b ∉ ex → h'.get? b = some o
  slot : ∀ b o, h.get? b = some o → H b = none → b ∈ fs → b ∉ ex → ∃ sl, h'.get? b = some { o with slots := sl }
  free : ∀ b o, h.get? b = some o → H b = none → b ∉ ex → H' b = none
  there : ∀ b o, h.get? b = some o → b ∉ ex → ∃ o', h'.get? b = some o'
  tups : ∀ b xs, H b = some (.tup xs) → H' b = some (.tup xs)
  frzs : ∀ b o u, H b = some (.frz o u) → H' b = some (.frz o u)
  tbls : ∀ b ps, H b = some (.tbl ps) → ∃ more, H' b = some (.tbl (ps ++ more))
section
variable {fs fs' ex ex' : List Addr} {H H1 H2 : Hp} {h h1 h2 h' : Heap} {a x e : Addr} {o : HO}
theorem Un.any (u : Un fs ex H H1 h h1) {b : Addr} {ob : Obj} (q : h.get? b = some ob) (n : H b = none) (hx : b ∉ ex) : ∃ sl, h1.get? b = some { ob with slots := sl } := by
  by_cases hb : b ∈ fs
  · exact u.slot b ob q n hb hx
  · exact ⟨ob.slots, u.keep b ob q n hb hx⟩
theorem Un.kept (k : ∀ b u, h.get? b = some u → h'.get? b = some u) : Un fs ex H H h h' :=
  ⟨fun b ob q _ _ _ => k b ob q, fun b ob q _ _ _ => ⟨ob.slots, k b ob q⟩, fun _ _ _ n _ => n, fun b ob q _ => ⟨ob, k b ob q⟩, fun _ _ q => q, fun _ _ _ q => q, fun _ ps q => ⟨#[], by rw [q]; simp⟩⟩
theorem Un.refl : Un fs ex H H h h := Un.kept fun _ _ q => q
theorem Un.laid (k : ∀ b u, h.get? b = some u → h'.get? b = some u) (hp : h.objs.size ≤ a) (hn : H a = none) : Un fs ex H (upd H a o) h h' where
  keep := fun b u q _ _ _ => k b u q
  slot := fun b u q _ _ _ => ⟨u.slots, k b u q⟩
  free := fun b u q n _ => by rw [upd_ne (Nat.ne_of_lt (Nat.lt_of_lt_of_le (Heap.lt_size q) hp))]; exact n
  there := fun b u q _ => ⟨u, k b u q⟩
  tups := fun b xs q => by rw [upd_ne (ne_of_none q hn)]; exact q
  frzs := fun b u xs q => by rw [upd_ne (ne_of_none q hn)]; exact q
  tbls := fun b ps q => ⟨#[], by rw [upd_ne (ne_of_none q hn), q]; simp⟩
theorem Un.write (mu : Mut (H x)) (he : e = x ∨ H e = some (.own x)) (k : ∀ b u, b ≠ e → h.get? b = some u → h'.get? b = some u) (heo : ∃ u, h'.get? e = some u) : Un fs ex H (upd H x o) h h' := by
  have hx : ∀ b, H b = none → b ≠ x := fun b n z => by subst z; rw [n] at mu; exact mu
  have hb : ∀ b, H b = none → b ≠ e := fun b n z => by
    subst z
    rcases he with r | r
    · exact hx b n r
    · rw [n] at r; cases r
  have hm : ∀ b u, H b = some u → ¬ Mut (some u) → b ≠ x := fun b u q nm z => by subst z; rw [q] at mu; exact nm mu
  refine ⟨fun b u q n _ _ => k b u (hb b n) q, fun b u q n _ _ => ⟨u.slots, k b u (hb b n) q⟩, fun b u q n _ => by rw [upd_ne (hx b n)]; exact n, fun b u q _ => ?_,
    fun b xs q => by rw [upd_ne (hm b _ q fun z => z)]; exact q, fun b u xs q => by rw [upd_ne (hm b _ q fun z => z)]; exact q, fun b ps q => ⟨#[], by rw [upd_ne (hm b _ q fun z => z), q]; simp⟩⟩
  by_cases hbe : b = e
  · subst hbe; exact heo
  · exact ⟨u, k b u hbe q⟩
end

/-! ### the heap without what is tracked -/
noncomputable def trk (h : Heap) (H : Hp) : List Addr := (List.range h.objs.size).filter fun a => (H a).isSome
noncomputable def hidT (h : Heap) (H : Hp) : Heap := PySem.W.hideAll h (trk h H)
theorem hidT_size (h : Heap) (H : Hp) : (hidT h H).objs.size = h.objs.size := PySem.W.hideAll_size _ _
theorem hidT_get {h : Heap} {H : Hp} {b : Addr} {o : Obj} (e : h.get? b = some o) (n : H b = none) : (hidT h H).get? b = some o :=
  PySem.W.hideAll_get _ e fun hm => by
    have q : (H b).isSome = true := (List.mem_filter.mp hm).2
    rw [n] at q; simp at q
theorem of_hidT {h : Heap} {H : Hp} {b : Addr} {o : Obj} (e : (hidT h H).get? b = some o) : h.get? b = some o ∧ H b = none := by
  have e' : h.get? b = some o := PySem.W.of_hideAll (trk h H) e
  refine ⟨e', ?_⟩
  cases q : H b with
  | none => rfl
  | some x =>
    have hm : b ∈ trk h H := List.mem_filter.mpr ⟨List.mem_range.mpr (Heap.lt_size e'), by simp [q]⟩
    have z : (hidT h H).get? b = none := PySem.W.hideAll_none (trk h H) hm
    rw [z] at e; cases e

/-! ### OpenK's ledger, filled with every new object but one -/
noncomputable def allNews (g h : Heap) (L : Addr) : List (Addr × Obj) := (List.range h.objs.size).filterMap fun a => if a = L ∨ (g.get? a).isSome = true then none else (h.get? a).map fun o => (a, o)
noncomputable def rest (g h : Heap) (L d : Addr) : List (Addr × Obj) := (allNews g h L).filter fun p => decide (p.1 ≠ d)
end L2

namespace L2
open PySem PySem.Spec PyProof.Rows

/-- the module's facts, over the base: the heap at the law's entry without what is tracked there -/
structure Mod (K : PySem.W.Frag) (mg : Str → Option Value) (base : Heap) : Prop where
  kin : K.In base
  glob : base.Ns mainGlobals mg
  blt : ∃ mb, base.Ns builtinsNs mb ∧ ∀ x : Str, x ≠ "__name__" → mb x = bootBuiltins x
  nolimit : base.NoLimit

/-- the context: a def's body (or a comprehension's block) running. base: fixed through the whole law; s₀, H₀: the entry; outer: the frames whose slots others may change (a def's callers); stack: all frames that run;
   ex: iterators that were made ahead of the entry and are walked here (a comprehension's); fn: the names whose cells were made at the entry (a def: all; a comprehension's block: its own); calm: not within an except suite; pn: pins that every state bears; xe: what is wanted of an exception that leaves the code -/
structure Cx where
  prog : Program
  w : World
  K : PySem.W.Frag
  mg : Str → Option Value
  base : Heap
  A : Around
  N : List Str
  s₀ : Shared
  H₀ : Hp
  env : Env
  outer : List Env
  stack : List Env
  ex : List Addr
  fn : Str → Bool
  calm : Bool
  pn : List (Addr × Obj)
  xe : Value → Shared → Prop
/-- the callers' frames -/
noncomputable def frs (l : List Env) : List Addr := l.filterMap (·.frame)
noncomputable abbrev Cx.fs (X : Cx) : List Addr := frs X.outer

noncomputable def Vis (sc : Scope) (x : Str) : Prop := sc.names.lookup x = some .local ∨ sc.names.lookup x = some .cell ∨ sc.names.lookup x = some .free
noncomputable def Loc (sc : Scope) (x : Str) : Prop := sc.names.lookup x = some .local ∨ sc.names.lookup x = some .cell
noncomputable def Look (env : Env) (h : Heap) (m : Str → Option Value) (x : Str) (u : Value) : Prop :=
  (env.kindOf x = some .local ∧ m x = some u) ∨ ((env.kindOf x = some .cell ∨ env.kindOf x = some .free) ∧ ∃ c, env.cells.lookup x = some c ∧ h.IsCell c (some u))

structure Cx.Ok (X : Cx) : Prop where
  mod : Mod X.K X.mg X.base
  kind : X.env.scope.kind = .function
  glob : X.env.globals = mainGlobals
  blt : X.env.builtins = builtinsNs
  above : X.s₀.heap.objs.size ≤ X.env.locals
  inj : ∀ x y c, X.env.cells.lookup x = some c → X.env.cells.lookup y = some c → x = y
  has : ∀ x, (X.env.kindOf x = some .cell ∨ X.env.kindOf x = some .free) → ∃ c, X.env.cells.lookup x = some c
  cab : ∀ x c, X.fn x = true → X.env.cells.lookup x = some c → X.s₀.heap.objs.size ≤ c
  hd : X.calm = true → X.A.handled = none
  frames : X.A.frames = some X.stack
  stk : X.stack = X.outer ∨ (X.stack = X.env :: X.outer ∧ X.env.frame = some X.env.locals)
  exf : ∀ b ∈ X.ex, b ≠ X.env.locals ∧ ∀ x c, X.env.cells.lookup x = some c → c ≠ b
  bs : ∀ b o, X.base.get? b = some o → X.s₀.heap.get? b = some o ∧ X.H₀ b = none
  bsz : X.base.objs.size ≤ X.s₀.heap.objs.size
  noex : ∀ b o, X.base.get? b = some o → b ∉ X.ex
  exfs : ∀ b ∈ X.ex, b ∉ X.fs
  funs : X.s₀.heap.FunFrames X.base X.outer
  frf : ∀ b ∈ X.fs, X.H₀ b = none

structure Inv (X : Cx) (pins : List (Addr × Obj)) (σ : List (Option V)) (H : Hp) (s : Shared) : Prop where
  ok : X.Ok
  os : s.os = X.s₀.os
  bare : AllBare s.gens
  base : Un X.fs X.ex X.H₀ H X.s₀.heap s.heap
  loc : ∃ m, s.heap.Ns X.env.locals m ∧ ∀ (i : Nat) (x : Str) (v : V), X.N[i]? = some x → σ[i]? = some (some v) → Vis X.env.scope x → ∃ u, RelV v u ∧ Look X.env s.heap m x u
  cell : ∀ x c, X.env.cells.lookup x = some c → ∃ v, s.heap.IsCell c v
  free : H X.env.locals = none
  freeC : ∀ x c, X.env.cells.lookup x = some c → H c = none
  pin : ∀ p ∈ X.pn ++ pins, s.heap.get? p.1 = some p.2 ∧ H p.1 = none ∧ p.1 ≠ X.env.locals ∧ p.1 ∉ X.fs ∧ ∀ v, p.2.data ≠ .cell v
  hok : HOk X.prog X.w H s.heap
  len : σ.length = X.N.length

section
variable {X : Cx} {pins : List (Addr × Obj)} {σ : List (Option V)} {H H' : Hp} {s : Shared} {h' : Heap}

theorem Cx.Ok.nofr (ok : X.Ok) {b : Addr} {o : Obj} (e : X.base.get? b = some o) : b ∉ X.fs := fun hb => by
  have := (ok.funs.mem hb).1
  rw [e] at this; cases this
theorem Inv.bs (I : Inv X pins σ H s) : ∀ b o, X.base.get? b = some o → s.heap.get? b = some o ∧ H b = none := fun b o e =>
  ⟨I.base.keep b o (I.ok.bs b o e).1 (I.ok.bs b o e).2 (I.ok.nofr e) (I.ok.noex b o e), I.base.free b o (I.ok.bs b o e).1 (I.ok.bs b o e).2 (I.ok.noex b o e)⟩
theorem Inv.bk (I : Inv X pins σ H s) : ∀ b o, X.base.get? b = some o → s.heap.get? b = some o := fun b o e => (I.bs b o e).1
theorem Inv.mod (I : Inv X pins σ H s) : Mod X.K X.mg X.base := I.ok.mod
theorem Inv.kIn (I : Inv X pins σ H s) : X.K.In s.heap := I.ok.mod.kin.keeps I.bk
theorem Inv.lt (I : Inv X pins σ H s) : X.env.locals < s.heap.objs.size := let ⟨_, hn, _⟩ := I.loc; hn.lt
theorem Inv.sz (I : Inv X pins σ H s) : X.s₀.heap.objs.size ≤ s.heap.objs.size := Nat.le_trans I.ok.above (Nat.le_of_lt I.lt)
theorem Inv.nofs (I : Inv X pins σ H s) {a : Addr} (h : s.heap.objs.size ≤ a) : a ∉ X.fs := fun hb => by
  obtain ⟨_, o, ho, _⟩ := I.ok.funs.mem hb
  exact absurd (Nat.lt_of_lt_of_le (Heap.lt_size ho) (Nat.le_trans I.sz h)) (Nat.lt_irrefl _)
theorem Inv.cne (I : Inv X pins σ H s) : ∀ x c, X.env.cells.lookup x = some c → c ≠ X.env.locals := fun x c e z => by
  obtain ⟨v, o, ho, hd⟩ := I.cell x c e
  obtain ⟨m, ⟨o', es, ep, ho', hd', _⟩, _⟩ := I.loc
  rw [z, ho'] at ho; cases ho; rw [hd'] at hd; cases hd
theorem Inv.funs (I : Inv X pins σ H s) : s.heap.FunFrames X.base X.outer := by
  have all : ∀ (l : List Env), (∀ b ∈ frs l, b ∈ X.fs) → X.s₀.heap.FunFrames X.base l → s.heap.FunFrames X.base l := by
    intro l
    induction l with
    | nil => intro _ _; trivial
    | cons env r ih =>
      intro hs hl
      obtain ⟨hk, ⟨L, o, hf, hn, ho, hd⟩, hr⟩ := hl
      have hL : L ∈ X.fs := hs L (by unfold frs; rw [List.filterMap_cons, hf]; exact List.mem_cons_self)
      obtain ⟨sl, e⟩ := I.base.slot L o ho (I.ok.frf L hL) hL fun z => I.ok.exfs L z hL
      exact ⟨hk, ⟨L, _, hf, hn, e, hd⟩, ih (fun b hb => hs b (by unfold frs; rw [List.filterMap_cons, hf]; exact List.mem_cons_of_mem _ hb)) hr⟩
  exact all X.outer (fun _ hb => hb) I.ok.funs

/-- the frames that run, for a call -/
theorem Inv.stack (I : Inv X pins σ H s) : s.heap.FunFrames X.base X.stack := by
  rcases I.ok.stk with e | ⟨e, hf⟩
  · rw [e]; exact I.funs
  · rw [e]
    obtain ⟨m, hn, _⟩ := I.loc
    refine .cons (by rw [I.ok.kind]; decide) hf hn ?_ I.funs
    exact Heap.get?_none_of_le (Nat.le_trans I.ok.bsz I.ok.above)
theorem Inv.stkSub (I : Inv X pins σ H s) : ∀ b ∈ frs X.stack, b ∈ X.env.locals :: X.fs := fun b hb => by
  rcases I.ok.stk with e | ⟨e, hf⟩
  · rw [e] at hb; exact List.mem_cons_of_mem _ hb
  · rw [e] at hb
    unfold frs at hb
    rw [List.filterMap_cons, hf] at hb
    exact hb
theorem Inv.stkFree (I : Inv X pins σ H s) : ∀ b ∈ frs X.stack, H b = none := fun b hb => by
  rcases List.mem_cons.mp (I.stkSub b hb) with e | hb
  · rw [e]; exact I.free
  · obtain ⟨_, o, ho, _⟩ := I.ok.funs.mem hb
    exact I.base.free b o ho (I.ok.frf b hb) fun z => I.ok.exfs b z hb

/-- THE STEP: the untracked objects but the frame and the records at ch are kept (the callers' frames up to slots), the frame's map is kept, the new abstract heap is held -/
theorem Inv.step {g' : Array GenState} {t' : Nat} {d' : Drawn} {ch : List Addr} (I : Inv X pins σ H s)
    (hch : ∀ b ∈ ch, (b ∈ X.ex ∨ X.s₀.heap.objs.size ≤ b) ∧ b ≠ X.env.locals ∧ (∀ x c, X.env.cells.lookup x = some c → c ≠ b) ∧ ∀ p ∈ X.pn ++ pins, p.1 ≠ b)
    (keep : ∀ b o, b ≠ X.env.locals → b ∉ X.fs → b ∉ ch → s.heap.get? b = some o → H b = none → h'.get? b = some o)
    (slot : ∀ b o, b ≠ X.env.locals → b ∈ X.fs → b ∉ ch → s.heap.get? b = some o → H b = none → ∃ sl, h'.get? b = some { o with slots := sl }) (free : ∀ b o, b ∉ ch → s.heap.get? b = some o → H b = none → H' b = none)
    (there : ∀ b o, b ∉ ch → s.heap.get? b = some o → ∃ o', h'.get? b = some o')
    (tups : ∀ b xs, H b = some (.tup xs) → H' b = some (.tup xs)) (frzs : ∀ b o u, H b = some (.frz o u) → H' b = some (.frz o u)) (tbls : ∀ b ps, H b = some (.tbl ps) → ∃ more, H' b = some (.tbl (ps ++ more)))
    (ns : ∀ m, s.heap.Ns X.env.locals m → h'.Ns X.env.locals m) (hok : HOk X.prog X.w H' h') (hg : AllBare g') :
    Inv X pins σ H' { s with heap := h', gens := g', drawn := d', toks := t' } := by
  have neL : ∀ b o, X.s₀.heap.get? b = some o → b ≠ X.env.locals := fun b o e => Nat.ne_of_lt (Nat.lt_of_lt_of_le (Heap.lt_size e) I.ok.above)
  have neC : ∀ b o, X.s₀.heap.get? b = some o → b ∉ X.ex → b ∉ ch := fun b o e hx hb => by
    rcases (hch b hb).1 with z | z
    · exact hx z
    · exact absurd (Nat.lt_of_lt_of_le (Heap.lt_size e) z) (Nat.lt_irrefl _)
  have cellK : ∀ x c, X.env.cells.lookup x = some c → ∀ v, s.heap.IsCell c v → h'.IsCell c v := fun x c e v ⟨o, ho, hd⟩ => by
    have nch : c ∉ ch := fun z => (hch c z).2.2.1 x c e rfl
    by_cases hc : c ∈ X.fs
    · obtain ⟨sl, q⟩ := slot c o (I.cne x c e) hc nch ho (I.freeC x c e)
      exact ⟨_, q, hd⟩
    · exact ⟨o, keep c o (I.cne x c e) hc nch ho (I.freeC x c e), hd⟩
  refine ⟨I.ok, I.os, hg, ⟨fun b o e n hb hx => ?_, fun b o e n hb hx => ?_, fun b o e n hx => ?_, fun b o e hx => ?_, fun b xs e => tups b xs (I.base.tups b xs e), fun b o xs e => frzs b o xs (I.base.frzs b o xs e), fun b ps e => ?_⟩, ?_, fun x c e => ?_, ?_, fun x c e => ?_, fun p hp => ?_, hok, I.len⟩
  · exact keep b o (neL b o e) hb (neC b o e hx) (I.base.keep b o e n hb hx) (I.base.free b o e n hx)
  · obtain ⟨sl, e1⟩ := I.base.slot b o e n hb hx
    obtain ⟨sl', e2⟩ := slot b _ (neL b o e) hb (neC b o e hx) e1 (I.base.free b o e n hx)
    exact ⟨sl', e2⟩
  · obtain ⟨o', e1⟩ := I.base.there b o e hx
    exact free b o' (neC b o e hx) e1 (I.base.free b o e n hx)
  · obtain ⟨o', e1⟩ := I.base.there b o e hx
    exact there b o' (neC b o e hx) e1
  · obtain ⟨m1, e1⟩ := I.base.tbls b ps e
    obtain ⟨m2, e2⟩ := tbls b _ e1
    exact ⟨m1 ++ m2, by rw [e2, Array.append_assoc]⟩
  · obtain ⟨m, hn, hl⟩ := I.loc
    refine ⟨m, ns m hn, fun i x v e1 e2 e3 => ?_⟩
    obtain ⟨u, r, l⟩ := hl i x v e1 e2 e3
    refine ⟨u, r, ?_⟩
    rcases l with l | ⟨k, c, e, z⟩
    · exact .inl l
    · exact .inr ⟨k, c, e, cellK x c e _ z⟩
  · obtain ⟨v, z⟩ := I.cell x c e
    exact ⟨v, cellK x c e v z⟩
  · obtain ⟨m, ⟨o, _, _, ho, _⟩, _⟩ := I.loc
    exact free _ o (fun z => (hch _ z).2.1 rfl) ho I.free
  · obtain ⟨v, o, ho, hd⟩ := I.cell x c e
    exact free c o (fun z => (hch c z).2.2.1 x c e rfl) ho (I.freeC x c e)
  · obtain ⟨e, n, ne, nf, d⟩ := I.pin p hp
    have nch : p.1 ∉ ch := fun z => (hch p.1 z).2.2.2 p hp rfl
    exact ⟨keep p.1 p.2 ne nf nch e n, free p.1 p.2 nch e n, ne, nf, d⟩
/-- .. where the frame's own object is kept too -/
theorem Inv.un {t' : Nat} (I : Inv X pins σ H s) (u : Un X.fs [] H H' s.heap h') (hok : HOk X.prog X.w H' h') : Inv X pins σ H' { s with heap := h', toks := t' } := by
  obtain ⟨m, ⟨o, es, ep, ho, r⟩, _⟩ := id I.loc
  obtain ⟨sl, hL⟩ := u.any ho I.free (by simp)
  exact I.step (g' := s.gens) (d' := s.drawn) (ch := []) (fun _ z => nomatch z) (fun b o _ hb _ e n => u.keep b o e n hb (by simp)) (fun b o _ hb _ e n => u.slot b o e n hb (by simp)) (fun b o _ e n => u.free b o e n (by simp)) (fun b o _ e => u.there b o e (by simp)) u.tups u.frzs u.tbls (fun m' hm => by
    obtain ⟨o', es', ep', ho', r'⟩ := hm
    rw [ho] at ho'; cases ho'
    exact ⟨_, es', ep', hL, r'⟩) hok I.bare
/-- behind a call (or a comprehension's block): the slots of this frame may have changed too, the records at ch may have turned -/
theorem Inv.call {g' : Array GenState} {t' : Nat} {d' : Drawn} {ch : List Addr} (I : Inv X pins σ H s) (u : Un (frs X.stack) ch H H' s.heap h') (hok : HOk X.prog X.w H' h') (hg : AllBare g')
    (hch : ∀ b ∈ ch, (b ∈ X.ex ∨ X.s₀.heap.objs.size ≤ b) ∧ b ≠ X.env.locals ∧ (∀ x c, X.env.cells.lookup x = some c → c ≠ b) ∧ ∀ p ∈ X.pn ++ pins, p.1 ≠ b) :
    Inv X pins σ H' { s with heap := h', gens := g', drawn := d', toks := t' } := by
  obtain ⟨m, ⟨o, es, ep, ho, r⟩, _⟩ := id I.loc
  obtain ⟨sl, hL⟩ := u.any ho I.free fun z => (hch _ z).2.1 rfl
  exact I.step (ch := ch) hch (fun b o hL hb hc e n => u.keep b o e n (fun z => (List.mem_cons.mp (I.stkSub b z)).elim hL hb) hc) (fun b o _ _ hc e n => u.any e n hc) (fun b o hc e n => u.free b o e n hc) (fun b o hc e => u.there b o e hc) u.tups u.frzs u.tbls (fun m' hm => by
    obtain ⟨o', es', ep', ho', r'⟩ := hm
    rw [ho] at ho'; cases ho'
    exact ⟨_, es', ep', hL, r'⟩) hok hg
/-- an untracked record of ours (an iterator) has turned -/
theorem Inv.turned {t' : Nat} {it : Addr} (I : Inv X pins σ H s) (k : ∀ b o, b ≠ it → s.heap.get? b = some o → h'.get? b = some o) (hn : H it = none) (hL : it ≠ X.env.locals)
    (h1 : it ∈ X.ex ∨ X.s₀.heap.objs.size ≤ it) (h2 : ∀ x c, X.env.cells.lookup x = some c → c ≠ it) (h3 : ∀ p ∈ X.pn ++ pins, p.1 ≠ it) : Inv X pins σ H { s with heap := h', toks := t' } := by
  have nit : ∀ b u, H b = some u → b ≠ it := fun b u e z => by rw [z, hn] at e; cases e
  refine I.step (g' := s.gens) (d' := s.drawn) (ch := [it]) (fun b hb => ?_) (fun b o _ _ hc e _ => k b o (fun z => hc (by simp [z])) e) (fun b o _ _ hc e _ => ⟨o.slots, k b o (fun z => hc (by simp [z])) e⟩) (fun _ _ _ _ n => n)
    (fun b o hc e => ⟨o, k b o (fun z => hc (by simp [z])) e⟩) (fun _ _ e => e) (fun _ _ _ e => e) (fun b ps e => ⟨#[], by rw [e]; simp⟩) (fun m hm => ?_) (fun b u e => ?_) I.bare
  · have e : b = it := by simpa using hb
    subst e
    exact ⟨h1, hL, h2, h3⟩
  · obtain ⟨o, es, ep, ho, r⟩ := hm
    exact ⟨o, es, ep, k _ o (Ne.symm hL) ho, r⟩
  · refine (I.hok b u e).stay (fun c v hc q => k c v ?_ q) (fun _ q => q) fun _ _ q => q
    rcases hc with z | z
    · rw [z]; exact nit b u e
    · exact nit c _ z
theorem Inv.tok (I : Inv X pins σ H s) (t : Nat) : Inv X pins σ H { s with toks := t } := I.un (h' := s.heap) (t' := t) Un.refl I.hok
/-- all objects kept -/
theorem Inv.kept {t' : Nat} (I : Inv X pins σ H s) (k : ∀ b u, s.heap.get? b = some u → h'.get? b = some u) : Inv X pins σ H { s with heap := h', toks := t' } := I.un (Un.kept k) (I.hok.kept k)
/-- a new object laid and tracked -/
theorem Inv.laid {a : Addr} {o : HO} {t' : Nat} (I : Inv X pins σ H s) (k : ∀ b u, s.heap.get? b = some u → h'.get? b = some u) (hp : s.heap.objs.size ≤ a) (new : ObjOk X.prog X.w (upd H a o) h' a o) :
    Inv X pins σ (upd H a o) { s with heap := h', toks := t' } := I.un (Un.laid k hp (I.hok.fresh hp)) (I.hok.laid k hp new)
/-- an object written -/
theorem Inv.write {x e : Addr} {o : HO} {t' : Nat} (I : Inv X pins σ H s) (mu : Mut (H x)) (he : e = x ∨ H e = some (.own x)) (k : ∀ b u, b ≠ e → s.heap.get? b = some u → h'.get? b = some u) (heo : ∃ u, h'.get? e = some u)
    (new : ObjOk X.prog X.w (upd H x o) h' x o) : Inv X pins σ (upd H x o) { s with heap := h', toks := t' } := I.un (Un.write mu he k heo) (I.hok.write mu he k heo new)
theorem Inv.pins_of {pins' : List (Addr × Obj)} (I : Inv X pins σ H s) (h : ∀ p ∈ pins', s.heap.get? p.1 = some p.2 ∧ H p.1 = none ∧ p.1 ≠ X.env.locals ∧ p.1 ∉ X.fs ∧ ∀ v, p.2.data ≠ .cell v) : Inv X pins' σ H s :=
  ⟨I.ok, I.os, I.bare, I.base, I.loc, I.cell, I.free, I.freeC, fun p hp => (List.mem_append.mp hp).elim (fun z => I.pin p (List.mem_append_left _ z)) (h p), I.hok, I.len⟩

theorem nodup_ix {N : List Str} (hN : N.Nodup) {i j : Nat} {x : Str} (a : N[i]? = some x) (b : N[j]? = some x) : i = j := by
  obtain ⟨h1, e1⟩ := List.getElem?_eq_some_iff.mp a
  obtain ⟨h2, e2⟩ := List.getElem?_eq_some_iff.mp b
  exact (List.getElem_inj hN).mp (e1.trans e2.symm)

/-- a name is stored; what changed -/
theorem store_ok2 {M : Model} {A : Around} {E : Value → Shared → Prop} {i : Nat} {x : Str} {v : V} {u : Value} {Q : Unit → Shared → Prop} (I : Inv X pins σ H s) (hN : X.N.Nodup) (hi : X.N[i]? = some x) (hx : Loc X.env.scope x) (r : RelV v u)
    (h : ∀ s', Inv X pins (σ.set i (some v)) H s' → (∃ a, Heap.SameBut a s.heap s'.heap ∧ (a = X.env.locals ∨ X.env.cells.lookup x = some a)) → Q () s') (hf : X.fn x = true ∨ X.env.scope.names.lookup x = some .local := by first | exact .inl rfl | exact .inr rfl | assumption) : wpAny M A (storeName X.env x u) Q E s := by
  obtain ⟨m, hn, hl⟩ := id I.loc
  have hcls : (X.env.scope.kind == .class || (X.env.scope.kind == .module && X.env.locals != X.env.globals)) = false := by rw [I.ok.kind]; rfl
  have hiσ : i < σ.length := by rw [I.len]; exact (List.getElem?_eq_some_iff.mp hi).1
  have cne := I.cne
  have tracked : ∀ {a : Addr} {h' : Heap}, (∃ o, s.heap.get? a = some o ∧ H a = none) → Heap.SameBut a s.heap h' → HOk X.prog X.w H h' := fun {a h'} ha hs b ob e => by
    obtain ⟨_, _, hfree⟩ := ha
    refine (I.hok b ob e).stay (fun c w' hc q => (hs.2 c ?_).trans q) (fun _ q => q) fun _ _ q => q
    rintro rfl
    rcases hc with rfl | hc
    · rw [hfree] at e; cases e
    · rw [hfree] at hc; cases hc
  rcases hx with hk | hk
  · refine wpAny_storeName_local hk hn (fun h' hn' hs => ?_) hcls
    obtain ⟨oL, _, _, hoL, _⟩ := id hn
    refine h _ ⟨I.ok, I.os, I.bare, ⟨fun b o e n hb hx => ?_, fun b o e n hb hx => ?_, I.base.free, fun b o e hx => ?_, I.base.tups, I.base.frzs, I.base.tbls⟩, ⟨_, hn', fun j y v' e1 e2 e3 => ?_⟩, fun y c e => ?_, I.free, I.freeC, fun p hp => ?_, tracked ⟨oL, hoL, I.free⟩ hs, by simpa using I.len⟩ ⟨_, hs, .inl rfl⟩
    · exact (hs.2 b (Nat.ne_of_lt (Nat.lt_of_lt_of_le (Heap.lt_size e) I.ok.above))).trans (I.base.keep b o e n hb hx)
    · obtain ⟨sl, e1⟩ := I.base.slot b o e n hb hx
      exact ⟨sl, (hs.2 b (Nat.ne_of_lt (Nat.lt_of_lt_of_le (Heap.lt_size e) I.ok.above))).trans e1⟩
    · obtain ⟨o', e1⟩ := I.base.there b o e hx
      exact ⟨o', (hs.2 b (Nat.ne_of_lt (Nat.lt_of_lt_of_le (Heap.lt_size e) I.ok.above))).trans e1⟩
    · by_cases hj : j = i
      · subst hj
        rw [hi] at e1; cases e1
        rw [List.getElem?_set_self hiσ] at e2
        cases e2
        exact ⟨u, r, .inl ⟨hk, by simp⟩⟩
      · rw [List.getElem?_set_ne (Ne.symm hj)] at e2
        obtain ⟨u', r', q⟩ := hl j y v' e1 e2 e3
        refine ⟨u', r', ?_⟩
        rcases q with ⟨k, e⟩ | ⟨k, c, e, z⟩
        · refine .inl ⟨k, ?_⟩
          have : y ≠ x := fun e => hj (nodup_ix hN e1 (e ▸ hi))
          simp [this, e]
        · exact .inr ⟨k, c, e, z.sameBut hs (cne y c e)⟩
    · obtain ⟨w', z⟩ := I.cell y c e
      exact ⟨w', z.sameBut hs (cne y c e)⟩
    · obtain ⟨e, n, ne, nf, d⟩ := I.pin p hp
      exact ⟨(hs.2 p.1 ne).trans e, n, ne, nf, d⟩
  · have hfn : X.fn x = true := by
      rcases hf with z | z
      · exact z
      · rw [z] at hk; cases hk
    obtain ⟨c, hc⟩ := I.ok.has x (.inl hk)
    obtain ⟨w', z⟩ := I.cell x c hc
    refine wpAny_storeName_cell I.ok.kind hk hc z (fun h' hc' hs => ?_)
    obtain ⟨oc, hoc, hocd⟩ := id z
    refine h { s with heap := h' } ⟨I.ok, I.os, I.bare, ⟨fun b o e n hb hx => ?_, fun b o e n hb hx => ?_, I.base.free, fun b o e hx => ?_, I.base.tups, I.base.frzs, I.base.tbls⟩, ⟨m, hn.sameBut hs (Ne.symm (cne x c hc)), fun j y v' e1 e2 e3 => ?_⟩, fun y c' e => ?_, I.free, I.freeC, fun p hp => ?_, tracked ⟨oc, hoc, I.freeC x c hc⟩ hs, by simpa using I.len⟩ ⟨c, hs, .inr hc⟩
    · exact (hs.2 b (Nat.ne_of_lt (Nat.lt_of_lt_of_le (Heap.lt_size e) (I.ok.cab x c hfn hc)))).trans (I.base.keep b o e n hb hx)
    · obtain ⟨sl, e1⟩ := I.base.slot b o e n hb hx
      exact ⟨sl, (hs.2 b (Nat.ne_of_lt (Nat.lt_of_lt_of_le (Heap.lt_size e) (I.ok.cab x c hfn hc)))).trans e1⟩
    · obtain ⟨o', e1⟩ := I.base.there b o e hx
      exact ⟨o', (hs.2 b (Nat.ne_of_lt (Nat.lt_of_lt_of_le (Heap.lt_size e) (I.ok.cab x c hfn hc)))).trans e1⟩
    · by_cases hj : j = i
      · subst hj
        rw [hi] at e1; cases e1
        rw [List.getElem?_set_self hiσ] at e2
        cases e2
        exact ⟨u, r, .inr ⟨.inl hk, c, hc, hc'⟩⟩
      · rw [List.getElem?_set_ne (Ne.symm hj)] at e2
        obtain ⟨u', r', q⟩ := hl j y v' e1 e2 e3
        refine ⟨u', r', ?_⟩
        rcases q with q | ⟨k, c', e, z'⟩
        · exact .inl q
        · refine .inr ⟨k, c', e, z'.sameBut hs ?_⟩
          rintro rfl
          exact hj (nodup_ix hN e1 (I.ok.inj _ _ _ e hc ▸ hi))
    · by_cases hcc : c' = c
      · subst hcc; exact ⟨_, hc'⟩
      · obtain ⟨w2, z2⟩ := I.cell y c' e
        exact ⟨w2, z2.sameBut hs hcc⟩
    · obtain ⟨e, n, ne, nf, d⟩ := I.pin p hp
      refine ⟨(hs.2 p.1 ?_).trans e, n, ne, nf, d⟩
      intro q
      rw [q, hoc] at e
      have q' : oc = p.2 := Option.some.inj e
      exact d w' (by rw [← q']; exact hocd)
theorem store_ok {M : Model} {A : Around} {E : Value → Shared → Prop} {i : Nat} {x : Str} {v : V} {u : Value} {Q : Unit → Shared → Prop} (I : Inv X pins σ H s) (hN : X.N.Nodup) (hi : X.N[i]? = some x) (hx : Loc X.env.scope x) (r : RelV v u)
    (h : ∀ s', Inv X pins (σ.set i (some v)) H s' → Q () s') (hf : X.fn x = true ∨ X.env.scope.names.lookup x = some .local := by first | exact .inl rfl | exact .inr rfl | assumption) : wpAny M A (storeName X.env x u) Q E s :=
  store_ok2 I hN hi hx r (fun s' I' _ => h s' I') hf
/-- behind a call or a block, the state as it is -/
theorem Inv.call' {s' : Shared} {ch : List Addr} (I : Inv X pins σ H s) (ho : s'.os = s.os) (u : Un (frs X.stack) ch H H' s.heap s'.heap) (hok : HOk X.prog X.w H' s'.heap) (hg : AllBare s'.gens)
    (hch : ∀ b ∈ ch, (b ∈ X.ex ∨ X.s₀.heap.objs.size ≤ b) ∧ b ≠ X.env.locals ∧ (∀ x c, X.env.cells.lookup x = some c → c ≠ b) ∧ ∀ p ∈ X.pn ++ pins, p.1 ≠ b) : Inv X pins σ H' s' := by
  obtain ⟨h', g', d', t', o'⟩ := s'
  have e : o' = s.os := ho
  subst e
  exact I.call (g' := g') (t' := t') (d' := d') u hok hg hch
end

/-! ### the judgements -/
/-- an exception: its class, its own dict's address (where it has one), the abstract heap behind it -/
noncomputable abbrev XK := Value → Option Addr → Hp → Prop
noncomputable abbrev St := List (Option V)
noncomputable abbrev VK := V → Hp → Prop
/-- an expression's reading; a test's; an argument list's -/
noncomputable abbrev TE := St → Hp → VK → Prop
noncomputable abbrev TT := St → Hp → (Bool → Hp → Prop) → Prop
noncomputable abbrev TA := St → Hp → (List V → Hp → Prop) → Prop
/-- what is wanted behind a statement -/
structure Ends where
  nx : St → Hp → Prop
  rt : VK
  bk : St → Hp → Prop := fun _ _ => False
  ct : St → Hp → Prop := fun _ _ => False
noncomputable abbrev TS := Ends → St → Hp → Prop

noncomputable def EP (X : Cx) (pins : List (Addr × Obj)) (σ : St) (Q : VK) (u : Value) (s' : Shared) : Prop := ∃ v H', Inv X pins σ H' s' ∧ RelV v u ∧ Q v H'
noncomputable def TP (X : Cx) (pins : List (Addr × Obj)) (σ : St) (Q : Bool → Hp → Prop) (b : Bool) (s' : Shared) : Prop := ∃ H', Inv X pins σ H' s' ∧ Q b H'
noncomputable def AP (X : Cx) (pins : List (Addr × Obj)) (σ : St) (Q : List V → Hp → Prop) (us : List Value) (s' : Shared) : Prop := ∃ vs H', Inv X pins σ H' s' ∧ Vals vs us ∧ Q vs H'
noncomputable def SP (X : Cx) (pins : List (Addr × Obj)) (D : Ends) (f : Flow) (s' : Shared) : Prop :=
  match f with
  | .next => ∃ σ' H', Inv X pins σ' H' s' ∧ D.nx σ' H'
  | .brk => ∃ σ' H', Inv X pins σ' H' s' ∧ D.bk σ' H'
  | .cont => ∃ σ' H', Inv X pins σ' H' s' ∧ D.ct σ' H'
  | .ret u => ∃ v σ' H', Inv X pins σ' H' s' ∧ RelV v u ∧ D.rt v H'

noncomputable def PE (X : Cx) (e : Expr) (t : TE) : Prop :=
  ∀ (pins : List (Addr × Obj)) (s : Shared) (σ : St) (H : Hp) (Q : VK), Inv X pins σ H s → t σ H Q → wpAny (model X.prog X.w) X.A (eval e X.env) (EP X pins σ Q) X.xe s
noncomputable def PT (X : Cx) (e : Expr) (t : TT) : Prop :=
  ∀ (pins : List (Addr × Obj)) (s : Shared) (σ : St) (H : Hp) (Q : Bool → Hp → Prop), Inv X pins σ H s → t σ H Q → wpAny (model X.prog X.w) X.A (isTrue e X.env (eval e X.env)) (TP X pins σ Q) X.xe s
/-- a test whatever its 'whole' is (and, or) -/
noncomputable def PW (X : Cx) (e : Expr) (t : TT) : Prop :=
  ∀ (whole : Sem Value) (pins : List (Addr × Obj)) (s : Shared) (σ : St) (H : Hp) (Q : Bool → Hp → Prop), Inv X pins σ H s → t σ H Q → wpAny (model X.prog X.w) X.A (isTrue e X.env whole) (TP X pins σ Q) X.xe s
theorem PW.pt {X : Cx} {e : Expr} {t : TT} (h : PW X e t) : PT X e t := h _
/-- an argument list (no star), from the left -/
noncomputable def PA (X : Cx) (es : List Expr) (t : TA) : Prop :=
  ∀ (pos : Pos) (pins : List (Addr × Obj)) (s : Shared) (σ : St) (H : Hp) (Q : List V → Hp → Prop), Inv X pins σ H s → t σ H Q → wpAny (model X.prog X.w) X.A (spliced (backTo pos (starEach es X.env))) (AP X pins σ Q) X.xe s
noncomputable def PS (X : Cx) (st : Stmt) (t : TS) : Prop :=
  ∀ (pins : List (Addr × Obj)) (s : Shared) (σ : St) (H : Hp) (D : Ends), Inv X pins σ H s → t D σ H → wpAny (model X.prog X.w) X.A (exec st X.env) (SP X pins D) X.xe s
noncomputable def PSs (X : Cx) (st : List Stmt) (t : TS) : Prop :=
  ∀ (pins : List (Addr × Obj)) (s : Shared) (σ : St) (H : Hp) (D : Ends), Inv X pins σ H s → t D σ H → wpAny (model X.prog X.w) X.A (execs st X.env) (SP X pins D) X.xe s
/-- weaken the end -/
theorem thn {α : Type} {t : Sem α} {Q Q' : α → Shared → Prop} {M : Model} {A : Around} {E : Value → Shared → Prop} {s : Shared} (h : wpAny M A t Q E s) (hQ : ∀ a s, Q a s → Q' a s) : wpAny M A t Q' E s := wpAny_mono h hQ fun _ _ x => x
end L2

namespace L2
open PySem PySem.Spec PyProof.Rows
section
variable {X : Cx}

/-- two expressions in a row -/
theorem bin {a b : Expr} {ta tb : TE} (ha : PE X a ta) (hb : PE X b tb) {pins : List (Addr × Obj)} {s : Shared} {σ : St} {H : Hp} {R : V → V → Hp → Prop} (I : Inv X pins σ H s) (h : ta σ H fun x H1 => tb σ H1 fun y H2 => R x y H2)
    {α : Type} {Q : α → Shared → Prop} {f : Value → Value → Sem α}
    (hf : ∀ v u s2 x y H2, Inv X pins σ H2 s2 → RelV x v → RelV y u → R x y H2 → wpAny (model X.prog X.w) X.A (f v u) Q X.xe s2) :
    wpAny (model X.prog X.w) X.A (eval a X.env) (fun v s₁ => wpAny (model X.prog X.w) X.A (eval b X.env) (fun u s₂ => wpAny (model X.prog X.w) X.A (f v u) Q X.xe s₂) X.xe s₁) X.xe s := by
  refine thn (ha pins s σ H _ I h) fun v s1 ⟨x, H1, I1, r1, q1⟩ => ?_
  refine thn (hb pins s1 σ H1 _ I1 q1) fun u s2 ⟨y, H2, I2, r2, q2⟩ => ?_
  exact hf v u s2 x y H2 I2 r1 r2 q2

/-! ### names and constants -/
noncomputable def tVar (i : Nat) : TE := fun σ H Q => ∃ v, σ[i]? = some (some v) ∧ Q v H
noncomputable def tC (v : V) : TE := fun _ H Q => Q v H
theorem pe_var {i : Nat} {x : Str} {pos : Pos} (hN : X.N[i]? = some x) (hv : Vis X.env.scope x) (hd : (x == ("__debug__" : Str)) = false := by decide) (hcd : (x == ("__classdict__" : Str)) = false := by decide) : PE X (.Name x pos) (tVar i) := by
  intro pins s σ H Q I h
  obtain ⟨v, e, h⟩ := h
  obtain ⟨m, hn, hl⟩ := I.loc
  obtain ⟨u, r, l⟩ := hl i x v hN e hv
  have fin : EP X pins σ Q u s := ⟨v, H, I, r, h⟩
  rcases l with ⟨hk, hm⟩ | ⟨hk, c, hc, hcell⟩
  · exact wpAny_Name (wpAny_loadName_local I.ok.kind hk hn hm fin) hd
  · rcases hk with hk | hk
    · exact wpAny_Name (wpAny_loadName_cell I.ok.kind hk hc hcell fin) hd
    · exact wpAny_Name (wpAny_loadName_free I.ok.kind hk hc hcell fin hcd) hd
theorem pe_int {i j pos} : PE X (.Constant (.int i) j pos) (tC (.int i)) := fun _ _ _ H _ I h => wpAny_Constant_int ⟨.int i, H, I.tok _, ⟨_, rfl⟩, h⟩
theorem pe_bl {b j pos} : PE X (.Constant (.bool b) j pos) (tC (.bl b)) := fun _ _ _ H _ I h => Constant_bool ⟨.bl b, H, I, rfl, h⟩
theorem pe_non {j pos} : PE X (.Constant .none j pos) (tC .non) := fun _ _ _ H _ I h => Constant_none ⟨.non, H, I, rfl, h⟩
theorem pe_str {x j pos} : PE X (.Constant (.str x) j pos) (tC (.str x)) := fun _ _ _ H _ I h => Calls.Constant_str ⟨.str x, H, I.tok _, ⟨_, rfl⟩, h⟩

/-- a global name of the def -/
noncomputable def Gl (X : Cx) (x : Str) : Prop := X.env.kindOf x = some .globalImplicit
theorem ld_glob {E : Value → Shared → Prop} {pins : List (Addr × Obj)} {s : Shared} {σ : St} {H : Hp} {x : Str} {u : Value} {pos : Pos} {Q : Value → Shared → Prop} (I : Inv X pins σ H s) (hg : Gl X x) (hm : X.mg x = some u) (h : Q u s)
    (hd : (x == ("__debug__" : Str)) = false := by decide) : wpAny (model X.prog X.w) X.A (eval (.Name x pos) X.env) Q E s :=
  Calls.Name_function_global I.ok.kind hg (Calls.loadGlobal_global (by rw [I.ok.glob]; exact I.mod.glob.keeps I.bk) hm h) hd
theorem ld_blt {E : Value → Shared → Prop} {pins : List (Addr × Obj)} {s : Shared} {σ : St} {H : Hp} {x : Str} {u : Value} {pos : Pos} {Q : Value → Shared → Prop} (I : Inv X pins σ H s) (hg : Gl X x) (hm : X.mg x = none) (hv : bootBuiltins x = some u) (h : Q u s)
    (hn : x ≠ "__name__" := by decide) (hd : (x == ("__debug__" : Str)) = false := by decide) : wpAny (model X.prog X.w) X.A (eval (.Name x pos) X.env) Q E s := by
  obtain ⟨mb, h1, h2⟩ := I.mod.blt
  exact Calls.Name_function_global I.ok.kind hg (Calls.loadGlobal_builtin (by rw [I.ok.glob]; exact I.mod.glob.keeps I.bk) hm (by rw [I.ok.blt]; exact h1.keeps I.bk) ((h2 x hn).trans hv) h) hd
/-- a module's constant, a class, a function, as a value -/
theorem pe_glob {x : Str} {v : V} {u : Value} {pos : Pos} (hg : Gl X x) (hm : X.mg x = some u) (r : RelV v u) (hd : (x == ("__debug__" : Str)) = false := by decide) : PE X (.Name x pos) (tC v) :=
  fun _ _ _ H _ I h => ld_glob I hg hm ⟨v, H, I, r, h⟩ hd
theorem pe_bltn {x : Str} {v : V} {u : Value} {pos : Pos} (hg : Gl X x) (hm : X.mg x = none) (hv : bootBuiltins x = some u) (r : RelV v u) (hn : x ≠ "__name__" := by decide) (hd : (x == ("__debug__" : Str)) = false := by decide) : PE X (.Name x pos) (tC v) :=
  fun _ _ _ H _ I h => ld_blt I hg hm hv ⟨v, H, I, r, h⟩ hn hd

/-! ### arithmetic -/
variable {a b : Expr} {ta tb : TE} {pos : Pos}
/-! ### comparisons -/
/-- a comparison as a value, as a test -/
noncomputable def tB (t : TE) : TT := fun σ H Q => t σ H fun x H1 => ∃ c, x = .bl c ∧ Q c H1
/-- an expression whose value is a bool, as a test -/
theorem pt_val {e : Expr} {t : TE} (h : PE X e t) (he : ∀ whole, isTrue e X.env whole = (do let v ← whole; standAt e.pos; holding [v] (truthy v)) := by intro _; rfl) : PT X e (tB t) := by
  intro pins s σ H Q I hw
  refine isTrue_plain (thn (h pins s σ H _ I hw) fun v s1 ⟨x, H1, I1, r1, q1⟩ => ?_) (he _)
  obtain ⟨d, rfl, q⟩ := q1
  cases r1
  exact wpAny_truthy_bool ⟨H1, I1, q⟩

/-! ### and, or, not -/
variable {tA tB' : TT} {rest : List Expr}
noncomputable def tAnd (t u : TT) : TT := fun σ H Q => t σ H fun c H1 => if c = true then u σ H1 Q else Q false H1
noncomputable def tOr (t u : TT) : TT := fun σ H Q => t σ H fun c H1 => if c = true then Q true H1 else u σ H1 Q
noncomputable def tNot (t : TT) : TT := fun σ H Q => t σ H fun c H1 => Q (!c) H1
theorem pw_and1 (ha : PT X a tA) : PW X (.BoolOp .And [a] pos) tA := by
  intro wh pins s σ H Q I h
  refine isTrue_and (thn (ha pins s σ H Q I h) fun c s1 e => ?_)
  cases c with
  | true => exact isTrue_and_nil e
  | false => exact e
theorem pw_or1 (ha : PT X a tA) : PW X (.BoolOp .Or [a] pos) tA := by
  intro wh pins s σ H Q I h
  refine isTrue_or (thn (ha pins s σ H Q I h) fun c s1 e => ?_)
  cases c with
  | false => exact isTrue_or_nil e
  | true => exact e
theorem pw_and (ha : PT X a tA) (hb : PW X (.BoolOp .And (b :: rest) pos) tB') : PW X (.BoolOp .And (a :: b :: rest) pos) (tAnd tA tB') := by
  intro wh pins s σ H Q I h
  refine isTrue_and (thn (ha pins s σ H _ I h) fun c s1 ⟨H1, I1, q1⟩ => ?_)
  cases c with
  | true => exact hb wh pins s1 σ H1 Q I1 q1
  | false => exact ⟨H1, I1, q1⟩
theorem pw_or (ha : PT X a tA) (hb : PW X (.BoolOp .Or (b :: rest) pos) tB') : PW X (.BoolOp .Or (a :: b :: rest) pos) (tOr tA tB') := by
  intro wh pins s σ H Q I h
  refine isTrue_or (thn (ha pins s σ H _ I h) fun c s1 ⟨H1, I1, q1⟩ => ?_)
  cases c with
  | true => exact ⟨H1, I1, q1⟩
  | false => exact hb wh pins s1 σ H1 Q I1 q1
theorem pt_not (ha : PT X a tA) : PT X (.UnaryOp .Not a pos) (tNot tA) := by
  intro pins s σ H Q I h
  exact isTrue_not (ha pins s σ H (fun c H1 => Q (!c) H1) I h)
/-- .. as values (bools) -/
noncomputable def tAndV (ta tb : TE) : TE := fun σ H Q => ta σ H fun x H1 => ∃ c, x = .bl c ∧ if c = true then tb σ H1 Q else Q (.bl false) H1
theorem pe_one {op} {t : TE} (h : PE X a t) : PE X (.BoolOp op [a] pos) t := fun pins s σ H Q I hw => BoolOp_one (h pins s σ H Q I hw)
theorem pe_and (ha : PE X a ta) (hb : PE X (.BoolOp .And (b :: rest) pos) tb) : PE X (.BoolOp .And (a :: b :: rest) pos) (tAndV ta tb) := by
  intro pins s σ H Q I h
  refine BoolOp_and (thn (ha pins s σ H _ I h) fun v s1 ⟨x, H1, I1, r1, q1⟩ => ?_)
  obtain ⟨c, rfl, q1⟩ := q1
  cases r1
  refine wpAny_truthy_bool ?_
  cases c with
  | true => exact hb pins s1 σ H1 Q I1 q1
  | false => exact ⟨.bl false, H1, I1, rfl, q1⟩
/-- a if t else b -/
noncomputable def tIf (t : TT) (ta tb : TE) : TE := fun σ H Q => t σ H fun c H1 => if c = true then ta σ H1 Q else tb σ H1 Q
theorem pe_ifExp {c : Expr} (hc : PT X c tA) (ha : PE X a ta) (hb : PE X b tb) : PE X (.IfExp c a b pos) (tIf tA ta tb) := by
  intro pins s σ H Q I h
  refine wpAny_IfExp (thn (hc pins s σ H _ I h) fun d s1 ⟨H1, I1, q1⟩ => ?_)
  cases d with
  | true => exact ha pins s1 σ H1 Q I1 q1
  | false => exact hb pins s1 σ H1 Q I1 q1
end
end L2

namespace L2
open PySem PySem.Spec PyProof.Rows

/-! ### a list, a tuple that is read: tracked, frozen, or an object of the module -/
noncomputable def SqL (K : PySem.W.Frag) (H : Hp) (a : Addr) (xs : List V) : Prop :=
  Rd H a (.lst xs) ∨
    ∃ (o : Obj) (its : Array Value) (n : Nat), K.lookup a = some o ∧ o.cls = .type "list" ∧ o.dict = none ∧ o.data = .seq its n ∧ its.size ≤ sizeLine ∧ Vals xs its.toList
noncomputable def SqT (K : PySem.W.Frag) (H : Hp) (a : Addr) (xs : List V) : Prop :=
  Rd H a (.tup xs) ∨
    ∃ (o : Obj) (its : Array Value) (n : Nat), K.lookup a = some o ∧ o.cls = .type "tuple" ∧ o.data = .seq its n ∧ its.size ≤ sizeLine ∧ Vals xs its.toList
noncomputable def absV : Value → Option V
  | .none => some .non
  | .bool b => some (.bl b)
  | .int i _ => some (.int i)
  | .str x _ => some (.str x)
  | .bytes b _ => some (.byt b)
  | .float b _ => some (.flt b)
  | .ref a => some (.ref a)
  | .type n => some (.ty n)
  | _ => none
theorem RelV.abs {x : V} {u : Value} (r : RelV x u) : absV u = some x := by
  cases x with
  | non => cases r; rfl
  | bl _ => cases r; rfl
  | int _ => obtain ⟨t, rfl⟩ := r; rfl
  | str _ => obtain ⟨t, rfl⟩ := r; rfl
  | byt _ => obtain ⟨t, rfl⟩ := r; rfl
  | flt _ => obtain ⟨t, rfl⟩ := r; rfl
  | ref _ => cases r; rfl
  | ty _ => cases r; rfl
theorem RelV.inj {x y : V} {u : Value} (r : RelV x u) (q : RelV y u) : x = y := Option.some.inj (r.abs.symm.trans q.abs)
theorem Vals.inj : ∀ {xs ys : List V} {us : List Value}, Vals xs us → Vals ys us → xs = ys
  | _, _, _, .nil, .nil => rfl
  | _, _, _, .cons r t, .cons r' t' => by rw [r.inj r', Vals.inj t t']
section
variable {X : Cx} {pins : List (Addr × Obj)} {σ : St} {H : Hp} {s : Shared} {a : Addr} {xs ys : List V}
theorem SqL.of {K : PySem.W.Frag} (h : H a = some (.lst xs)) : SqL K H a xs := .inl (.inl h)
theorem SqT.of {K : PySem.W.Frag} (h : H a = some (.tup xs)) : SqT K H a xs := .inl (.inl h)
theorem Inv.list (I : Inv X pins σ H s) (h : SqL X.K H a xs) : ∃ its : List Value, Vals xs its ∧ PlainL s.heap a its.toArray ∧ xs.length ≤ sizeLine := by
  rcases h with h | ⟨o, its, n, hk, hc, hd, hs, hz, r⟩
  · obtain ⟨z, its, n, r, e⟩ := h.ok I.hok
    exact ⟨its, r, ⟨_, n, e, rfl, rfl, rfl⟩, z⟩
  · refine ⟨its.toList, r, ⟨o, n, I.kIn a o hk, hc, hd, by simpa using hs⟩, ?_⟩
    have e := r.length
    simp only [Array.length_toList] at e
    omega
theorem Inv.tuple (I : Inv X pins σ H s) (h : SqT X.K H a xs) : ∃ its : List Value, Vals xs its ∧ IsTup s.heap a its.toArray ∧ xs.length ≤ sizeLine := by
  rcases h with h | ⟨o, its, n, hk, hc, hs, hz, r⟩
  · obtain ⟨z, its, r, p⟩ := h.ok I.hok
    exact ⟨its, r, p, z⟩
  · refine ⟨its.toList, r, ⟨o, I.kIn a o hk, hc, n, by simpa using hs⟩, ?_⟩
    have e := r.length
    simp only [Array.length_toList] at e
    omega
theorem Inv.list_inj (I : Inv X pins σ H s) (h : SqL X.K H a xs) (h' : SqL X.K H a ys) : xs = ys := by
  obtain ⟨its, r, ⟨o, n, e, _, _, d⟩, _⟩ := I.list h
  obtain ⟨its', r', ⟨o', n', e', _, _, d'⟩, _⟩ := I.list h'
  rw [e] at e'; cases e'
  rw [d] at d'
  injection d' with d1 _
  have : its = its' := by simpa using congrArg Array.toList d1
  subst this
  exact r.inj r'
theorem Inv.tuple_inj (I : Inv X pins σ H s) (h : SqT X.K H a xs) (h' : SqT X.K H a ys) : xs = ys := by
  obtain ⟨its, r, ⟨o, e, _, n, d⟩, _⟩ := I.tuple h
  obtain ⟨its', r', ⟨o', e', _, n', d'⟩, _⟩ := I.tuple h'
  rw [e] at e'; cases e'
  rw [d] at d'
  injection d' with d1 _
  have : its = its' := by simpa using congrArg Array.toList d1
  subst this
  exact r.inj r'
end

/-! ### another wish about exceptions -/
section
variable {X : Cx} {pins : List (Addr × Obj)} {σ : St} {H : Hp} {s : Shared} {E : Value → Shared → Prop}
end

/-! ### blocks and small statements -/
section
variable {X : Cx} {st : Stmt} {rest : List Stmt} {t u : TS} {e : Expr} {te : TE} {pos : Pos}
noncomputable def tNext : TS := fun D σ H => D.nx σ H
noncomputable def tSeq (t u : TS) : TS := fun D σ H => t { D with nx := u D } σ H
theorem pss_nil : PSs X [] tNext := fun _ _ σ H _ I h => wpAny_execs_nil ⟨σ, H, I, h⟩
theorem pss_cons (h1 : PS X st t) (h2 : PSs X rest u) : PSs X (st :: rest) (tSeq t u) := by
  intro pins s σ H D I h
  refine wpAny_execs_cons (thn (h1 pins s σ H { D with nx := u D } I h) fun f s1 q => ?_)
  cases f with
  | next =>
    obtain ⟨σ', H', I', q⟩ := q
    exact h2 pins s1 σ' H' D I' q
  | ret v => exact q
  | brk => exact q
  | cont => exact q
theorem pss_one (h1 : PS X st t) : PSs X [st] t := by
  intro pins s σ H D I h
  refine wpAny_execs_cons (thn (h1 pins s σ H D I h) fun f s1 q => ?_)
  cases f with
  | next => exact wpAny_execs_nil q
  | ret v => exact q
  | brk => exact q
  | cont => exact q
/-- in a def's body nothing is shown -/
theorem Inv.quiet {pins : List (Addr × Obj)} {σ : St} {H : Hp} {s : Shared} (I : Inv X pins σ H s) : interactive X.env = false := by simp [interactive, I.ok.kind]
/-- an expression whose value is dropped -/
noncomputable def tDrop (te : TE) : TS := fun D σ H => te σ H fun _ H1 => D.nx σ H1
theorem ps_expr (he : PE X e te) (hs : swapsWith e none pos.line X.env = pure false := by rfl) : PS X (.Expr e pos) (tDrop te) := by
  intro pins s σ H D I h
  exact wpAny_Expr_any (thn (he pins s σ H _ I h) fun v s1 ⟨x, H1, I1, r1, q1⟩ => ⟨σ, H1, I1, q1⟩) I.quiet hs
noncomputable def tRet (te : TE) : TS := fun D σ H => te σ H D.rt
theorem ps_ret (he : PE X e te) : PS X (.Return (some e) pos) (tRet te) := by
  intro pins s σ H D I h
  exact wpAny_Return_some (thn (he pins s σ H _ I h) fun v s1 ⟨x, H1, I1, r1, q1⟩ => ⟨x, σ, H1, I1, r1, q1⟩)
noncomputable def tIfS (c : TT) (t u : TS) : TS := fun D σ H => c σ H fun b H1 => if b = true then t D σ H1 else u D σ H1
theorem ps_if {c : Expr} {a b : List Stmt} {tc : TT} (hc : PT X c tc) (ha : PSs X a t) (hb : PSs X b u) : PS X (.If c a b pos) (tIfS tc t u) := by
  intro pins s σ H D I h
  refine wpAny_If (thn (hc pins s σ H _ I h) fun d s1 ⟨H1, I1, q1⟩ => ?_)
  cases d with
  | true => exact ha pins s1 σ H1 D I1 q1
  | false => exact hb pins s1 σ H1 D I1 q1
end

/-! ### targets -/
noncomputable abbrev TG := V → St → Hp → (St → Hp → Prop) → Prop
noncomputable def PG (X : Cx) (target : Expr) (t : TG) : Prop :=
  ∀ (pins : List (Addr × Obj)) (s : Shared) (σ : St) (H : Hp) (v : V) (u : Value) (Q : St → Hp → Prop), Inv X pins σ H s → RelV v u → t v σ H Q →
    wpAny (model X.prog X.w) X.A (assign target X.env u) (fun _ s' => ∃ σ' H', Inv X pins σ' H' s' ∧ Q σ' H') X.xe s
/-- o[i] = v, by values -/
noncomputable abbrev TSet := V → V → V → Hp → (Hp → Prop) → Prop
noncomputable def PSet (X : Cx) (t : TSet) : Prop :=
  ∀ (pins : List (Addr × Obj)) (s : Shared) (σ : St) (H : Hp) (o i v : V) (ov iv u : Value) (Q : Hp → Prop), Inv X pins σ H s → RelV o ov → RelV i iv → RelV v u → t o i v H Q →
    wpAny (model X.prog X.w) X.A (setItem ov iv u) (fun _ s' => ∃ H', Inv X pins σ H' s' ∧ Q H') X.xe s
section
variable {X : Cx} {pos : Pos}
noncomputable def gName (i : Nat) : TG := fun v σ H Q => Q (σ.set i (some v)) H
theorem pg_name {i : Nat} {x : Str} (hN : X.N.Nodup) (hi : X.N[i]? = some x) (hx : Loc X.env.scope x) (hf : X.fn x = true ∨ X.env.scope.names.lookup x = some .local := by first | exact .inl rfl | exact .inr rfl | assumption) : PG X (.Name x pos) (gName i) := by
  intro pins s σ H v u Q I r h
  exact wpAny_assign_Name (store_ok I hN hi hx r (fun s' I' => ⟨_, H, I', h⟩) hf)
/-- o[i] = .. -/
noncomputable def gSub (to ti : TE) (t : TSet) : TG := fun v σ H Q => to σ H fun o H1 => ti σ H1 fun i H2 => t o i v H2 fun H3 => Q σ H3
theorem pg_sub {o i : Expr} {to ti : TE} {t : TSet} (ho : PE X o to) (hi : PE X i ti) (hs : PSet X t)
    (ha : ∀ v, assign (.Subscript o i pos) X.env v = (do
      let ov ← holding [v] (eval o X.env)
      let iv ← holding [v, ov] (eval i X.env)
      standAt pos
      holding [v, ov, iv] (setItem ov iv v)
      release [v, ov, iv] []) := by intro _; rfl) : PG X (.Subscript o i pos) (gSub to ti t) := by
  intro pins s σ H v u Q I r h
  rw [ha]
  refine wpAny_bind (wpAny_holding (thn (ho pins s σ H _ I h) fun ov s1 ⟨x, H1, I1, r1, q1⟩ => ?_))
  refine wpAny_bind (wpAny_holding (thn (hi pins s1 σ H1 _ I1 q1) fun iv s2 ⟨y, H2, I2, r2, q2⟩ => ?_))
  refine wpAny_bind (wpAny_standAt (wpAny_bind (wpAny_holding (thn (hs pins s2 σ H2 x y v ov iv u _ I2 r1 r2 r q2) fun _ s3 ⟨H3, I3, q3⟩ => ?_))))
  exact wpAny_release ⟨σ, H3, I3, q3⟩
/-- target = value -/
noncomputable def tAsg (te : TE) (g : TG) : TS := fun D σ H => te σ H fun x H1 => g x σ H1 D.nx
theorem ps_asg {tg e : Expr} {te : TE} {g : TG} (he : PE X e te) (hg : PG X tg g) (hs : swapsWithSole [tg] e pos.line X.env = pure false := by rfl) (hw : swappedStores [tg] e X.env = pure none := by rfl)
    (h1 : (assignEach [tg] X.env).map (·.2) = [assign tg X.env] := by rfl) : PS X (.Assign [tg] e pos) (tAsg te g) := by
  intro pins s σ H D I h
  refine wpAny_Assign_stores (thn (he pins s σ H _ I h) fun v s1 ⟨x, H1, I1, r1, q1⟩ => ?_) hs hw
  rw [h1]
  exact thn (hg pins s1 σ H1 x v _ I1 r1 q1) fun _ s2 q => q
/-- name = value -/
theorem ps_set {i : Nat} {x : Str} {e : Expr} {te : TE} {pos' : Pos} (hN : X.N.Nodup) (hi : X.N[i]? = some x) (hx : Loc X.env.scope x) (he : PE X e te) (hs : swapsWith e (some (.Name x pos')) pos.line X.env = pure false := by rfl) (hf : X.fn x = true ∨ X.env.scope.names.lookup x = some .local := by first | exact .inl rfl | exact .inr rfl | assumption) :
    PS X (.Assign [.Name x pos'] e pos) (tAsg te (gName i)) := by
  intro pins s σ H D I h
  refine wpAny_Assign_Name (thn (he pins s σ H _ I h) fun v s1 ⟨y, H1, I1, r1, q1⟩ => ?_) hs
  exact store_ok I1 hN hi hx r1 (fun s2 I2 => ⟨_, H1, I2, q1⟩) hf
end

/-! ### while -/
section
variable {X : Cx} {pos : Pos}
end

/-! ### what a loop or a comprehension walks -/
/-- at turn i: it yields x (the heap may grow), or it stops -/
structure It where
  go : Nat → Hp → Prop
  yld : Nat → Hp → V → Hp → Prop
  stop : Nat → Hp → Prop
/-- the iterator's own objects may turn: they are not the frame's, not pinned, younger than the entry (or a comprehension's own) -/
noncomputable def FpOk (X : Cx) (pins : List (Addr × Obj)) (H : Hp) (b : Addr) : Prop :=
  H b = none ∧ b ≠ X.env.locals ∧ b ∉ X.fs ∧ (b ∈ X.ex ∨ X.s₀.heap.objs.size ≤ b) ∧ (∀ x c, X.env.cells.lookup x = some c → c ≠ b) ∧ ∀ p ∈ X.pn ++ pins, p.1 ≠ b
theorem Inv.fpOk {X : Cx} {pins : List (Addr × Obj)} {σ : St} {H H' : Hp} {s : Shared} {b : Addr} (I : Inv X pins σ H s) (hb : s.heap.objs.size ≤ b) (hn : H' b = none) : FpOk X pins H' b := by
  refine ⟨hn, Nat.ne_of_gt (Nat.lt_of_lt_of_le I.lt hb), I.nofs hb, .inr (Nat.le_trans I.sz hb), fun x c e z => ?_, fun p hp z => ?_⟩
  · obtain ⟨v, q⟩ := I.cell x c e
    exact absurd (Nat.lt_of_lt_of_le q.lt (by rw [z]; exact hb)) (Nat.lt_irrefl _)
  · exact absurd (Nat.lt_of_lt_of_le (Heap.lt_size (I.pin p hp).1) (by rw [z]; exact hb)) (Nat.lt_irrefl _)
structure Turn (P : Program) (w : World) (K : PySem.W.Frag) (tg : Expr) (J : It) (fp : List Addr) (it : Addr) (tn : Nat → Heap → Prop) : Prop where
  mem : it ∈ fp
  obj : ∀ i h, tn i h → ∀ b ∈ fp, ∃ o, h.get? b = some o ∧ ∀ v, o.data ≠ .cell v
  keep : ∀ i h h', tn i h → (∀ b ∈ fp, ∀ o, h.get? b = some o → h'.get? b = some o) → tn i h'
  item : ∀ (X : Cx), X.prog = P → X.w = w → X.K = K → X.calm = true → ∀ (i : Nat) (pins : List (Addr × Obj)) (s : Shared) (σ : St) (H : Hp) (E : Value → Shared → Prop), Inv X pins σ H s → (∀ b ∈ fp, FpOk X pins H b) → tn i s.heap → J.go i H →
    wpAny (model P w) X.A (pyNext (.ref it)) (fun r s1 => ∃ u, r = some u ∧
      wpAny (model P w) X.A (letOwnedTupleGo tg (.ref it) u) (fun _ s2 => ∃ x H', Inv X pins σ H' s2 ∧ RelV x u ∧ J.yld i H x H' ∧ tn (i + 1) s2.heap ∧ ∀ b ∈ fp, H' b = none) E s1) E s
  done : ∀ (X : Cx), X.prog = P → X.w = w → X.K = K → X.calm = true → ∀ (i : Nat) (pins : List (Addr × Obj)) (s : Shared) (σ : St) (H : Hp) (E : Value → Shared → Prop), Inv X pins σ H s → (∀ b ∈ fp, FpOk X pins H b) → tn i s.heap → J.stop i H →
    wpAny (model P w) X.A (pyNext (.ref it)) (fun r s1 => r = none ∧ Inv X pins σ H s1) E s
  self : ∀ (A : Around) (i : Nat) (s : Shared) (Q : Value → Shared → Prop) (E : Value → Shared → Prop), tn i s.heap → Q (.ref it) s → wpAny (model P w) A (pyIter (.ref it)) Q E s
noncomputable abbrev TI := St → Hp → (It → Hp → Prop) → Prop
/-- an iterator has come -/
noncomputable def PIE (X : Cx) (pins : List (Addr × Obj)) (σ : St) (tg : Expr) (R : It → Hp → Prop) (itv : Value) (s2 : Shared) : Prop :=
  ∃ (it : Addr) (fp : List Addr) (tn : Nat → Heap → Prop) (J : It) (H' : Hp), itv = .ref it ∧ Inv X pins σ H' s2 ∧ Turn X.prog X.w X.K tg J fp it tn ∧ tn 0 s2.heap ∧ (∀ b ∈ fp, FpOk X pins H' b) ∧ R J H'
noncomputable def PI (X : Cx) (tg iter : Expr) (wi : TI) : Prop :=
  ∀ (pins : List (Addr × Obj)) (s : Shared) (σ : St) (H : Hp) (R : It → Hp → Prop), Inv X pins σ H s → wi σ H R →
    wpAny (model X.prog X.w) X.A (eval iter X.env) (fun v s1 => wpAny (model X.prog X.w) X.A (pyIter v) (PIE X pins σ tg R) X.xe s1) X.xe s

/-- the step ahead of the store is nothing for an iterator that keeps no tuple -/
theorem go_of {M : Model} {A : Around} {E : Value → Shared → Prop} {s : Shared} {tg : Expr} {it : Addr} {u : Value} {o : Obj} {n : String} {vs : Array Value} {Q : Unit → Shared → Prop} (ho : s.heap.get? it = some o) (hc : o.cls = .type n) (hd : o.data = .fields vs)
    (hn : ["enumerate", "zip", "dict_itemiterator", "dict_reverseitemiterator", "odict_iterator", "itertools.zip_longest", "itertools.pairwise"].contains n = false) (hQ : Q () s) : wpAny M A (letOwnedTupleGo tg (.ref it) u) Q E s := by
  unfold letOwnedTupleGo
  cases tg <;> first
    | exact wpAny_pure hQ
    | (cases u <;> first
        | exact wpAny_pure hQ
        | (refine wpAny_bind (wpAny_load ho ?_)
           rw [hc, hd]
           show wpAny M A (if (["enumerate", "zip", "dict_itemiterator", "dict_reverseitemiterator", "odict_iterator", "itertools.zip_longest", "itertools.pairwise"].contains n && vs[0]? == some (rawInt _)) = true then _ else _) Q E s
           rw [if_neg (by intro h; rw [hn, Bool.false_and] at h; cases h)]
           exact wpAny_pure hQ))

/-- the list at a, as it stands at each turn (a loop may append to it) -/
noncomputable def Itl (K : PySem.W.Frag) (a : Addr) : It :=
  ⟨fun i H => ∃ xs x, SqL K H a xs ∧ xs[i]? = some x, fun i H x H' => H' = H ∧ ∀ xs, SqL K H a xs → xs[i]? = some x, fun i H => ∃ xs, SqL K H a xs ∧ xs.length ≤ i⟩
noncomputable def Itt (K : PySem.W.Frag) (a : Addr) : It :=
  ⟨fun i H => ∃ xs x, SqT K H a xs ∧ xs[i]? = some x, fun i H x H' => H' = H ∧ ∀ xs, SqT K H a xs → xs[i]? = some x, fun i H => ∃ xs, SqT K H a xs ∧ xs.length ≤ i⟩
/-- lo, lo + 1, .. (n of them) -/
noncomputable def Itr (lo : Int) (n : Nat) : It := ⟨fun i _ => i < n, fun i H x H' => H' = H ∧ x = .int (lo + i), fun i _ => n ≤ i⟩
theorem turn_list {P : Program} {w : World} {K : PySem.W.Frag} {tg : Expr} (a it : Addr) : Turn P w K tg (Itl K a) [it] it (fun i h => h.IsListIter it a i) where
  mem := by simp
  obj := fun i h st b hb => by
    have e : b = it := by simpa using hb
    subst e
    obtain ⟨o, e, c, d⟩ := st
    exact ⟨o, e, fun v z => by rw [d] at z; cases z⟩
  keep := fun i h h' st k => st.at fun o e => k it (by simp) o e
  item := by
    intro X hP hw hK hc i pins s σ H E I hf st hg
    subst hP hw hK
    obtain ⟨xs, x, hq, hx⟩ := hg
    obtain ⟨its, rv, p, hz⟩ := I.list hq
    obtain ⟨u, hu, ru⟩ := rv.get hx
    obtain ⟨f0, f1, f2, f3, f4, f5⟩ := hf it (by simp)
    refine wpAny_pyNext_list_item st p.isList (x := u) (by simpa using hu) fun h' st' sb => ?_
    have I1 : Inv X pins σ H { s with heap := h' } := I.turned (t' := s.toks) (fun b o hb e => (sb.2 b hb).trans e) f0 f1 f3 f4 f5
    obtain ⟨o, e, c, d⟩ := id st'
    exact ⟨u, rfl, go_of (s := { s with heap := h' }) e c d (by decide) ⟨x, H, I1, ru, ⟨rfl, fun ys hy => by rw [I.list_inj hy hq]; exact hx⟩, st', fun b hb => (hf b hb).1⟩⟩
  done := by
    intro X hP hw hK hc i pins s σ H E I hf st hg
    subst hP hw hK
    obtain ⟨xs, hq, hx⟩ := hg
    obtain ⟨its, rv, p, hz⟩ := I.list hq
    obtain ⟨f0, f1, f2, f3, f4, f5⟩ := hf it (by simp)
    have hl := rv.length
    exact wpAny_pyNext_list_end (I.ok.hd hc) st p.isList (by simp; omega) fun h' eb => ⟨rfl, I.turned (t' := s.toks) (fun b o hb e => eb b o hb e) f0 f1 f3 f4 f5⟩
  self := fun _ _ _ _ _ st h => wpAny_pyIter_listiter st h
theorem turn_tuple {P : Program} {w : World} {K : PySem.W.Frag} {tg : Expr} (a it : Addr) : Turn P w K tg (Itt K a) [it] it (fun i h => h.IsTupleIter it a i) where
  mem := by simp
  obj := fun i h st b hb => by
    have e : b = it := by simpa using hb
    subst e
    obtain ⟨o, e, c, d⟩ := st
    exact ⟨o, e, fun v z => by rw [d] at z; cases z⟩
  keep := fun i h h' st k => st.at fun o e => k it (by simp) o e
  item := by
    intro X hP hw hK hc i pins s σ H E I hf st hg
    subst hP hw hK
    obtain ⟨xs, x, hq, hx⟩ := hg
    obtain ⟨its, rv, p, hz⟩ := I.tuple hq
    obtain ⟨u, hu, ru⟩ := rv.get hx
    obtain ⟨f0, f1, f2, f3, f4, f5⟩ := hf it (by simp)
    refine wpAny_pyNext_tuple_item st (show s.heap.IsTuple a its.toArray from p) (x := u) (by simpa using hu) fun h' st' sb => ?_
    have I1 : Inv X pins σ H { s with heap := h' } := I.turned (t' := s.toks) (fun b o hb e => (sb.2 b hb).trans e) f0 f1 f3 f4 f5
    obtain ⟨o, e, c, d⟩ := id st'
    exact ⟨u, rfl, go_of (s := { s with heap := h' }) e c d (by decide) ⟨x, H, I1, ru, ⟨rfl, fun ys hy => by rw [I.tuple_inj hy hq]; exact hx⟩, st', fun b hb => (hf b hb).1⟩⟩
  done := by
    intro X hP hw hK hc i pins s σ H E I hf st hg
    subst hP hw hK
    obtain ⟨xs, hq, hx⟩ := hg
    obtain ⟨its, rv, p, hz⟩ := I.tuple hq
    obtain ⟨f0, f1, f2, f3, f4, f5⟩ := hf it (by simp)
    have hl := rv.length
    exact wpAny_pyNext_tuple_end (I.ok.hd hc) st (show s.heap.IsTuple a its.toArray from p) (by simp; omega) fun h' eb => ⟨rfl, I.turned (t' := s.toks) (fun b o hb e => eb b o hb e) f0 f1 f3 f4 f5⟩
  self := fun _ _ _ _ _ st h => wpAny_pyIter_tupleiter st h
theorem turn_range {P : Program} {w : World} {K : PySem.W.Frag} {tg : Expr} (it : Addr) (lo : Int) (n : Nat) : Turn P w K tg (Itr lo n) [it] it (fun i h => IsRangeIter h it (lo + (i : Nat) * 1) ((n : Int) - (i : Nat)) 1) where
  mem := by simp
  obj := fun i h st b hb => by
    have e : b = it := by simpa using hb
    subst e
    exact ⟨_, st, fun v z => by
      have z' : Data.fields _ = Data.cell v := z
      cases z'⟩
  keep := fun i h h' st k => k it (by simp) _ st
  item := by
    intro X hP hw hK hc i pins s σ H E I hf st hg
    subst hP hw hK
    obtain ⟨f0, f1, f2, f3, f4, f5⟩ := hf it (by simp)
    have W := Walks.range (prog := X.prog) (w := X.w) (I.ok.hd hc) it lo 1 n
    refine W.item i s _ _ hg st fun v h' tk hv st' kk => ?_
    obtain ⟨t, rfl⟩ := hv
    have I1 : Inv X pins σ H { s with heap := h', toks := tk } := I.turned (fun b o hb e => kk b o (by simpa using hb) e) f0 f1 f3 f4 f5
    refine ⟨_, rfl, go_of (s := { s with heap := h', toks := tk }) (n := "range_iterator") st' rfl rfl (by decide) ⟨.int (lo + i), H, I1, ⟨t, ?_⟩, ⟨rfl, rfl⟩, st', fun b hb => (hf b hb).1⟩⟩
    rw [Int.mul_one]
  done := by
    intro X hP hw hK hc i pins s σ H E I hf st hg
    subst hP hw hK
    obtain ⟨f0, f1, f2, f3, f4, f5⟩ := hf it (by simp)
    exact wpAny_pyNext_range_end (I.ok.hd hc) st (by have : n ≤ i := hg; omega) fun h' eb => ⟨rfl, I.turned (t' := s.toks) (fun b o hb e => eb b o hb e) f0 f1 f3 f4 f5⟩
  self := fun _ _ _ _ _ st h => wpAny_pyIter_rangeiter st h
end L2

namespace L2
open PySem PySem.Spec PyProof.Rows
section
variable {X : Cx} {tg : Expr}
noncomputable def iList (K : PySem.W.Frag) (tl : TE) : TI := fun σ H R => tl σ H fun x H1 => ∃ a, x = .ref a ∧ (∃ xs, SqL K H1 a xs) ∧ R (Itl K a) H1
noncomputable def iTup (K : PySem.W.Frag) (tl : TE) : TI := fun σ H R => tl σ H fun x H1 => ∃ a, x = .ref a ∧ (∃ xs, SqT K H1 a xs) ∧ R (Itt K a) H1
theorem pi_list {l : Expr} {tl : TE} (hl : PE X l tl) : PI X tg l (iList X.K tl) := by
  intro pins s σ H R I h
  refine thn (hl pins s σ H _ I h) fun v s1 ⟨x, H1, I1, r1, q1⟩ => ?_
  obtain ⟨a, e, ⟨xs, hq⟩, q⟩ := q1
  subst e
  cases r1
  obtain ⟨its, rv, p, hz⟩ := I1.list hq
  refine wpAny_pyIter_list p.isList ?_
  refine ⟨s1.heap.objs.size, [s1.heap.objs.size], _, _, H1, rfl, I1.kept (t' := s1.toks) fun b o e => Heap.get?_push_of_some _ e, turn_list a _, ⟨_, Heap.get?_push_size _ rfl, rfl, rfl⟩, fun b hb => ?_, q⟩
  have e : b = s1.heap.objs.size := by simpa using hb
  subst e
  exact I1.fpOk (Nat.le_refl _) (I1.hok.fresh (Nat.le_refl _))
theorem pi_tup {l : Expr} {tl : TE} (hl : PE X l tl) : PI X tg l (iTup X.K tl) := by
  intro pins s σ H R I h
  refine thn (hl pins s σ H _ I h) fun v s1 ⟨x, H1, I1, r1, q1⟩ => ?_
  obtain ⟨a, e, ⟨xs, hq⟩, q⟩ := q1
  subst e
  cases r1
  obtain ⟨its, rv, p, hz⟩ := I1.tuple hq
  refine wpAny_pyIter_tuple (show s1.heap.IsTuple a its.toArray from p) ?_
  refine ⟨s1.heap.objs.size, [s1.heap.objs.size], _, _, H1, rfl, I1.kept (t' := s1.toks) fun b o e => Heap.get?_push_of_some _ e, turn_tuple a _, ⟨_, Heap.get?_push_size _ rfl, rfl, rfl⟩, fun b hb => ?_, q⟩
  have e : b = s1.heap.objs.size := by simpa using hb
  subst e
  exact I1.fpOk (Nat.le_refl _) (I1.hok.fresh (Nat.le_refl _))
/-- a range object just made, walked -/
theorem range_it {pins : List (Addr × Obj)} {σ : St} {H : Hp} {s : Shared} {R : It → Hp → Prop} {E : Value → Shared → Prop} {lo hi : Int} {t u v : Tok} {tk : Nat} (I : Inv X pins σ H s) (h1 : -(2 ^ 62) ≤ lo) (h2 : lo < 2 ^ 62) (h3 : -(2 ^ 62) ≤ hi) (h4 : hi < 2 ^ 62)
    (q : R (Itr lo (hi - lo).toNat) H) : wpAny (model X.prog X.w) X.A (pyIter (.ref s.heap.objs.size)) (PIE X pins σ tg R) E { s with heap := s.heap.push { cls := .type "range", data := .fields #[.int lo t, .int hi u, .int 1 v] }, toks := tk } := by
  refine wpAny_pyIter_range (IsRange.new ..) (small_one h1 h2 h3 h4) ?_
  have I1 : Inv X pins σ H { s with heap := s.heap.push { cls := .type "range", data := .fields #[.int lo t, .int hi u, .int 1 v] }, toks := tk } := I.kept fun b o e => Heap.get?_push_of_some _ e
  refine ⟨(s.heap.push { cls := .type "range", data := .fields #[.int lo t, .int hi u, .int 1 v] }).objs.size, [(s.heap.push { cls := .type "range", data := .fields #[.int lo t, .int hi u, .int 1 v] }).objs.size], _, _, H, rfl,
    I1.kept (t' := tk) fun b o e => Heap.get?_push_of_some _ e, turn_range _ lo (hi - lo).toNat, ?_, fun b hb => ?_, q⟩
  · have e1 : lo + ((0 : Nat) : Int) * 1 = lo := by simp
    have e2 : (((hi - lo).toNat : Nat) : Int) - ((0 : Nat) : Int) = Builtin.Range.rangeSize lo hi 1 := by rw [rangeSize_one]; split <;> omega
    show IsRangeIter _ _ (lo + ((0 : Nat) : Int) * 1) ((((hi - lo).toNat : Nat) : Int) - ((0 : Nat) : Int)) 1
    rw [e1, e2]
    exact Heap.get?_push_size _ rfl
  · have e : b = (s.heap.push { cls := .type "range", data := .fields #[.int lo t, .int hi u, .int 1 v] }).objs.size := by simpa using hb
    subst e
    exact I1.fpOk (Nat.le_refl _) (I1.hok.fresh (Nat.le_refl _))
noncomputable def iRng1 (ta : TA) : TI := fun σ H R => ta σ H fun vs H1 => ∃ j : Int, vs = [.int j] ∧ -(2 ^ 62) ≤ j ∧ j < 2 ^ 62 ∧ R (Itr 0 j.toNat) H1
theorem pi_range1 {a : Expr} {ta : TA} {p pos : Pos} (hg : Gl X "range") (hm : X.mg "range" = none) (ha : PA X [a] ta) (hs : starEach [a] X.env = [(false, eval a X.env)] := by rfl) : PI X tg (.Call (.Name "range" p) [a] [] pos) (iRng1 ta) := by
  intro pins s σ H R I h
  refine Call_ (ld_blt I hg hm boot_range (PyProof.Rows.callWith_type1 (thn (ha pos pins s σ H _ I h) fun us s1 ⟨vs, H1, I1, r1, q1⟩ => ?_) hs rfl))
  obtain ⟨j, e, q1, q2, q⟩ := q1
  subst e
  cases r1 with
  | cons r rr =>
    cases rr
    obtain ⟨t, rfl⟩ := r
    exact call_range_1 (range_it I1 (by omega) (by omega) q1 q2 (by simpa using q))
/-! ### for -/
/-- W: the invariant by the turn and a measure; N: what the body is to reach -/
noncomputable def tFor (wi : TI) (g : TG) (tb : TS) : TS := fun D σ H => wi σ H fun J H1 => ∃ W : Nat → Nat → St → Hp → Prop, (∃ m, W 0 m σ H1) ∧ ∀ i m σ H, W i m σ H →
  (J.stop i H ∧ D.nx σ H) ∨ (J.go i H ∧ ∃ N : St → Hp → Prop, (∀ σ' H', N σ' H' → ∃ m', m' < m ∧ W (i + 1) m' σ' H') ∧ ∀ x H', J.yld i H x H' → g x σ H' fun σ2 H2 => tb { D with nx := N, ct := N, bk := D.nx } σ2 H2)
/-- the records at fp as they stand -/
noncomputable def pinsAt (fp : List Addr) (h : Heap) : List (Addr × Obj) := fp.filterMap fun b => (h.get? b).map fun o => (b, o)
theorem mem_pinsAt {fp : List Addr} {h : Heap} {b : Addr} {o : Obj} (hb : b ∈ fp) (e : h.get? b = some o) : (b, o) ∈ pinsAt fp h := List.mem_filterMap.mpr ⟨b, hb, by rw [e]; rfl⟩
theorem of_pinsAt {fp : List Addr} {h : Heap} {p : Addr × Obj} (hp : p ∈ pinsAt fp h) : p.1 ∈ fp ∧ h.get? p.1 = some p.2 := by
  obtain ⟨b, hb, e⟩ := List.mem_filterMap.mp hp
  cases q : h.get? b with
  | none => rw [q] at e; cases e
  | some o =>
    rw [q] at e
    have e' : (b, o) = p := Option.some.inj e
    subst e'
    exact ⟨hb, q⟩
theorem Inv.pinned {pins : List (Addr × Obj)} {σ : St} {H : Hp} {s : Shared} {fp : List Addr} (I : Inv X pins σ H s) (hf : ∀ b ∈ fp, FpOk X pins H b) (ho : ∀ b ∈ fp, ∃ o, s.heap.get? b = some o ∧ ∀ v, o.data ≠ .cell v) : Inv X (pins ++ pinsAt fp s.heap) σ H s :=
  I.pins_of fun p hp => (List.mem_append.mp hp).elim (fun z => I.pin p (List.mem_append_right _ z)) fun z => by
    obtain ⟨hb, e⟩ := of_pinsAt z
    obtain ⟨f0, f1, f2, _⟩ := hf p.1 hb
    obtain ⟨o, e', d⟩ := ho p.1 hb
    rw [e] at e'; cases e'
    exact ⟨e, f0, f1, f2, d⟩
theorem Inv.unpinned {pins pl : List (Addr × Obj)} {σ : St} {H : Hp} {s : Shared} (I : Inv X (pins ++ pl) σ H s) : Inv X pins σ H s := I.pins_of fun p hp => I.pin p (List.mem_append_right _ (List.mem_append_left _ hp))
theorem ps_for {iter : Expr} {body : List Stmt} {wi : TI} {g : TG} {tb : TS} {pos : Pos} (hp : PassesOwn (model X.prog X.w) X.A X.env X.xe) (hc : X.calm = true) (hi : PI X tg iter wi) (hg : PG X tg g) (hb : PSs X body tb)
    (hs : ∀ x, foldedSetIterable iter X.env x = pure x := by intro _; rfl) : PS X (.For tg iter body [] pos) (tFor wi g tb) := by
  intro pins s σ H D I h
  refine wpAny_For (thn (hi pins s σ H _ I h) fun v s1 h1 => thn h1 fun itv s2 h2 => ?_) hs
  obtain ⟨it, fp, tn, J, H2, e, I2, T, st2, f2, W, ⟨m0, w0⟩, turn⟩ := h2
  subst e
  -- what stays true of the iterator's objects through the loop
  have stat : ∀ {H' : Hp}, (∀ b ∈ fp, H' b = none) → ∀ b ∈ fp, FpOk X pins H' b := fun hn b hb => ⟨hn b hb, (f2 b hb).2⟩
  refine codeAny_forLoop_any (fun n s' => ∃ i σ' H', Inv X pins σ' H' s' ∧ tn i s'.heap ∧ (∀ b ∈ fp, H' b = none) ∧ W i n σ' H') ?_ m0 ⟨0, σ, H2, I2, st2, fun b hb => (f2 b hb).1, w0⟩
  rintro n s3 ⟨i, σ3, H3, I3, st3, fr3, w3⟩
  rcases turn i n σ3 H3 w3 with ⟨stop, qn⟩ | ⟨go, N, hN, step⟩
  · refine wpAny_passesOwn hp (thn (T.done X rfl rfl rfl hc i pins s3 σ3 H3 X.xe I3 (stat fr3) st3 stop) fun r s4 ⟨hr, I4⟩ => ?_)
    subst hr
    exact wpAny_execs_nil ⟨σ3, H3, I4, qn⟩
  · refine wpAny_passesOwn hp (thn (T.item X rfl rfl rfl hc i pins s3 σ3 H3 X.xe I3 (stat fr3) st3 go) fun r s4 ⟨u, hr, h4⟩ => ?_)
    subst hr
    refine wpAny_passesOwn hp (thn h4 fun _ s5 ⟨x, H5, I5, r5, y5, st5, fr5⟩ => ?_)
    have I5' := I5.pinned (stat fr5) (T.obj _ _ st5)
    refine wpAny_passesOwn hp (thn (hg _ s5 σ3 H5 x u _ I5' r5 (step x H5 y5)) fun _ s6 ⟨σ6, H6, I6, q6⟩ => ?_)
    refine wpAny_passesOwn hp (thn (hb _ s6 σ6 H6 _ I6 q6) fun f s7 q7 => ?_)
    have again : ∀ {σ7 : St} {H7 : Hp}, Inv X (pins ++ pinsAt fp s5.heap) σ7 H7 s7 → N σ7 H7 → ∃ m, m < n ∧ ∃ i σ' H', Inv X pins σ' H' s7 ∧ tn i s7.heap ∧ (∀ b ∈ fp, H' b = none) ∧ W i m σ' H' := fun {σ7 H7} I7 n7 => by
      obtain ⟨m', hm, w7⟩ := hN σ7 H7 n7
      refine ⟨m', hm, i + 1, σ7, H7, I7.unpinned, T.keep _ _ _ st5 fun b hb o e => (I7.pin (b, o) (List.mem_append_right _ (List.mem_append_right _ (mem_pinsAt hb e)))).1, fun b hb => ?_, w7⟩
      obtain ⟨o, e, d⟩ := T.obj _ _ st5 b hb
      exact (I7.pin (b, o) (List.mem_append_right _ (List.mem_append_right _ (mem_pinsAt hb e)))).2.1
    cases f with
    | next => obtain ⟨σ7, H7, I7, n7⟩ := q7; exact again I7 n7
    | cont => obtain ⟨σ7, H7, I7, n7⟩ := q7; exact again I7 n7
    | brk => obtain ⟨σ7, H7, I7, q7⟩ := q7; exact ⟨σ7, H7, I7.unpinned, q7⟩
    | ret v => obtain ⟨x7, σ7, H7, I7, r7, q7⟩ := q7; exact ⟨x7, σ7, H7, I7.unpinned, r7, q7⟩
end

/-! ### the forms one uses -/
end L2

namespace L2
open PySem PySem.Spec PyProof.Rows

noncomputable abbrev R2 := V → V → Hp → VK → Prop
/-- a two-place operation on values: f is binaryOp op, inplaceOp op or compareOp op -/
noncomputable def OpR (X : Cx) (f : Value → Value → Sem Value) (r : R2) : Prop :=
  ∀ (pins : List (Addr × Obj)) (s : Shared) (σ : St) (H : Hp) (x y : V) (v u : Value) (Q : VK), Inv X pins σ H s → RelV x v → RelV y u → r x y H Q →
    wpAny (model X.prog X.w) X.A (f v u) (EP X pins σ Q) X.xe s
/-- a one-place operation -/
noncomputable def UnR (X : Cx) (f : Value → Sem Value) (r : V → Hp → VK → Prop) : Prop :=
  ∀ (pins : List (Addr × Obj)) (s : Shared) (σ : St) (H : Hp) (x : V) (v : Value) (Q : VK), Inv X pins σ H s → RelV x v → r x H Q →
    wpAny (model X.prog X.w) X.A (f v) (EP X pins σ Q) X.xe s
/-- a call of a value that is known (a builtin, a type) with values -/
noncomputable def CallR (X : Cx) (f : Value) (r : List V → Hp → VK → Prop) : Prop :=
  ∀ (pins : List (Addr × Obj)) (s : Shared) (σ : St) (H : Hp) (xs : List V) (us : List Value) (Q : VK), Inv X pins σ H s → Vals xs us → r xs H Q →
    wpAny (model X.prog X.w) X.A (call f us) (EP X pins σ Q) X.xe s
noncomputable def tOp (r : R2) (ta tb : TE) : TE := fun σ H Q => ta σ H fun x H1 => tb σ H1 fun y H2 => r x y H2 Q
noncomputable def tUn (r : V → Hp → VK → Prop) (ta : TE) : TE := fun σ H Q => ta σ H fun x H1 => r x H1 Q
/-- ints in, under C, and a value out -/
noncomputable def rI (C : Int → Int → Prop) (g : Int → Int → V) : R2 := fun x y H Q => ∃ i j, x = .int i ∧ y = .int j ∧ C i j ∧ Q (g i j) H
noncomputable def rI0 (g : Int → Int → V) : R2 := fun x y H Q => ∃ i j, x = .int i ∧ y = .int j ∧ Q (g i j) H
noncomputable def rU (g : Int → V) : V → Hp → VK → Prop := fun x H Q => ∃ i, x = .int i ∧ Q (g i) H

section
variable {X : Cx} {a b c : Expr} {ta tb tc : TE} {pos : Pos}

theorem binT (ha : PE X a ta) (hb : PE X b tb) {pins : List (Addr × Obj)} {s : Shared} {σ : St} {H : Hp} {R : V → V → Hp → Prop} (I : Inv X pins σ H s)
    (h : ta σ H fun x H1 => tb σ H1 fun y H2 => R x y H2) {Q : Value → Shared → Prop} {f : Value → Value → Sem Value}
    (hf : ∀ v u s2 x y H2, Inv X pins σ H2 s2 → RelV x v → RelV y u → R x y H2 → wpAny (model X.prog X.w) X.A (f v u) Q X.xe s2) :
    wpAny (model X.prog X.w) X.A (eval a X.env) (fun v s₁ => wpAny (model X.prog X.w) X.A (eval b X.env) (fun u s₂ => wpAny (model X.prog X.w) X.A (f v u) Q X.xe s₂) X.xe s₁) X.xe s := by
  refine thn (ha pins s σ H _ I h) fun v s1 ⟨x, H1, I1, r1, q1⟩ => ?_
  refine thn (hb pins s1 σ H1 _ I1 q1) fun u s2 ⟨y, H2, I2, r2, q2⟩ => ?_
  exact hf v u s2 x y H2 I2 r1 r2 q2

theorem pe_op {op : Operator} {r : R2} (ho : OpR X (binaryOp op) r) (ha : PE X a ta) (hb : PE X b tb) : PE X (.BinOp a op b pos) (tOp r ta tb) := by
  intro pins s σ H Q I h
  exact wpAny_BinOp (binT ha hb I h fun v u s2 x y H2 I2 rx ry q => ho pins s2 σ H2 x y v u Q I2 rx ry q)
theorem pe_un {op : UnaryOp} {r : V → Hp → VK → Prop} (ho : UnR X (unaryOp op) r) (ha : PE X a ta) : PE X (.UnaryOp op a pos) (tUn r ta) := by
  intro pins s σ H Q I h
  exact UnaryOp_ (thn (ha pins s σ H _ I h) fun v s1 ⟨x, H1, I1, r1, q1⟩ => ho pins s1 σ H1 x v Q I1 r1 q1)
/-! ### ints -/
theorem opI {f : Value → Value → Sem Value} {C : Int → Int → Prop} {g : Int → Int → Int}
    (rule : ∀ (i j : Int) (t u : Tok) (s : Shared) (Q : Value → Shared → Prop) (E : Value → Shared → Prop), C i j → Q (.int (g i j) s.toks) { s with toks := s.toks + 1 } → wpAny (model X.prog X.w) X.A (f (.int i t) (.int j u)) Q E s) :
    OpR X f (rI C fun i j => .int (g i j)) := by
  intro pins s σ H x y v u Q I rx ry h
  obtain ⟨i, j, rfl, rfl, hc, q⟩ := h
  obtain ⟨t, rfl⟩ := rx
  obtain ⟨t', rfl⟩ := ry
  exact rule i j t t' s _ _ hc ⟨.int (g i j), H, I.tok _, ⟨_, rfl⟩, q⟩
theorem opI0 {f : Value → Value → Sem Value} {g : Int → Int → Int}
    (rule : ∀ (i j : Int) (t u : Tok) (s : Shared) (Q : Value → Shared → Prop) (E : Value → Shared → Prop), Q (.int (g i j) s.toks) { s with toks := s.toks + 1 } → wpAny (model X.prog X.w) X.A (f (.int i t) (.int j u)) Q E s) :
    OpR X f (rI0 fun i j => .int (g i j)) := by
  intro pins s σ H x y v u Q I rx ry h
  obtain ⟨i, j, rfl, rfl, q⟩ := h
  obtain ⟨t, rfl⟩ := rx
  obtain ⟨t', rfl⟩ := ry
  exact rule i j t t' s _ _ ⟨.int (g i j), H, I.tok _, ⟨_, rfl⟩, q⟩
theorem opB0 {f : Value → Value → Sem Value} {g : Int → Int → Bool}
    (rule : ∀ (i j : Int) (t u : Tok) (s : Shared) (Q : Value → Shared → Prop) (E : Value → Shared → Prop), Q (.bool (g i j)) s → wpAny (model X.prog X.w) X.A (f (.int i t) (.int j u)) Q E s) :
    OpR X f (rI0 fun i j => .bl (g i j)) := by
  intro pins s σ H x y v u Q I rx ry h
  obtain ⟨i, j, rfl, rfl, q⟩ := h
  obtain ⟨t, rfl⟩ := rx
  obtain ⟨t', rfl⟩ := ry
  exact rule i j t t' s _ _ ⟨.bl (g i j), H, I, rfl, q⟩

theorem two_pow_nn (k : Nat) : (0 : Int) ≤ 2 ^ k := by
  rw [two_pow_cast]
  exact Int.natCast_nonneg _

theorem op_add : OpR X (binaryOp .Add) (rI0 fun i j => .int (i + j)) := opI0 fun _ _ _ _ _ _ _ q => add_int q
theorem op_sub : OpR X (binaryOp .Sub) (rI0 fun i j => .int (i - j)) := opI0 fun _ _ _ _ _ _ _ q => sub_int q
/-- % by a positive divisor of any size -/
theorem op_mod : OpR X (binaryOp .Mod) (rI (fun _ j => 0 < j) fun i j => .int (i % j)) := opI fun i j _ _ _ _ _ hc q => by
  have h1 : (0 : Int) < j := hc
  exact mod_int' (by omega) (by rw [Int.fmod_eq_emod_of_nonneg i (by omega)]; exact q)
theorem op_shr : OpR X (binaryOp .RShift) (rI (fun _ j => 0 ≤ j) fun i j => .int (i / 2 ^ j.toNat)) := opI fun i j _ _ _ _ _ hc q =>
  rshift_int hc (by rw [Int.fdiv_eq_ediv_of_nonneg i (two_pow_nn _)]; exact q)
theorem op_and : OpR X (binaryOp .BitAnd) (rI0 fun i j => .int (Builtin.bitAnd i j)) := opI0 fun _ _ _ _ _ _ _ q => and_int q
theorem unI {f : Value → Sem Value} {g : Int → Int}
    (rule : ∀ (i : Int) (t : Tok) (s : Shared) (Q : Value → Shared → Prop) (E : Value → Shared → Prop), Q (.int (g i) s.toks) { s with toks := s.toks + 1 } → wpAny (model X.prog X.w) X.A (f (.int i t)) Q E s) :
    UnR X f (rU fun i => .int (g i)) := by
  intro pins s σ H x v Q I rx h
  obtain ⟨i, rfl, q⟩ := h
  obtain ⟨t, rfl⟩ := rx
  exact rule i t s _ _ ⟨.int (g i), H, I.tok _, ⟨_, rfl⟩, q⟩
theorem un_neg : UnR X (unaryOp .USub) (rU fun i => .int (-i)) := unI fun _ _ _ _ _ q => neg_int q
/-! ### bools among ints: n += (a < b) -/
end

/-! ### comparisons -/
/-- the scalars that == tells apart as data does -/
noncomputable def scal : V → V → Bool
  | .non, .non => true | .non, .int _ => true | .int _, .non => true | .non, .bl _ => true | .bl _, .non => true | .non, .str _ => true | .str _, .non => true
  | .int _, .int _ => true | .bl _, .bl _ => true | .str _, .str _ => true | .byt _, .byt _ => true
  | .int _, .str _ => true | .str _, .int _ => true | .bl _, .str _ => true | .str _, .bl _ => true
  | _, _ => false
noncomputable def rEq : R2 := fun x y H Q => scal x y = true ∧ Q (.bl (decide (x = y))) H
noncomputable def rNe : R2 := fun x y H Q => scal x y = true ∧ Q (.bl (!decide (x = y))) H

theorem dec_int {i j : Int} : decide (V.int i = V.int j) = (i == j) := by
  rw [Bool.eq_iff_iff]
  simp
theorem dec_bl {i j : Bool} : decide (V.bl i = V.bl j) = (i == j) := by
  rw [Bool.eq_iff_iff]
  simp
theorem dec_str {i j : Str} : decide (V.str i = V.str j) = (i == j) := by
  rw [Bool.eq_iff_iff]
  simp
theorem dec_byt {i j : Array UInt8} : decide (V.byt i = V.byt j) = (i.toList == j.toList) := by
  rw [Bool.eq_iff_iff]
  cases i
  cases j
  simp

section
variable {X : Cx} {a b c : Expr} {ta tb tc : TE} {pos : Pos}
theorem fin_bl {pins : List (Addr × Obj)} {σ : St} {H : Hp} {s : Shared} {Q : VK} {k k' : Bool} (I : Inv X pins σ H s) (q : Q (.bl k) H) (e : k = k') : EP X pins σ Q (.bool k') s := by
  subst e
  exact ⟨.bl k, H, I, rfl, q⟩
theorem op_eq : OpR X (compareOp .Eq) rEq := by
  intro pins s σ H x y v u Q I rx ry h
  obtain ⟨hs, q⟩ := h
  cases x with
  | non =>
    cases rx
    cases y with
    | non => cases ry; exact PySem.EqNone.eq_none_none (fin_bl I q (by simp))
    | bl j => cases ry; exact PySem.EqNone.eq_none_bool (fin_bl I q (by simp))
    | int j => obtain ⟨t', rfl⟩ := ry; exact PySem.EqNone.eq_none_int (fin_bl I q (by simp))
    | str j => obtain ⟨t', rfl⟩ := ry; exact PySem.EqNone.eq_none_str (fin_bl I q (by simp))
    | _ => exact absurd (show false = true from hs) Bool.false_ne_true
  | bl i =>
    cases rx
    cases y with
    | non => cases ry; exact PySem.EqNone.eq_bool_none (fin_bl I q (by simp))
    | bl j => cases ry; exact eq_bool (fin_bl I q dec_bl)
    | str j => obtain ⟨t', rfl⟩ := ry; exact PySem.EqMixed.eq_bool_str (fin_bl I q (by simp))
    | _ => exact absurd (show false = true from hs) Bool.false_ne_true
  | int i =>
    obtain ⟨t, rfl⟩ := rx
    cases y with
    | non => cases ry; exact PySem.EqNone.eq_int_none (fin_bl I q (by simp))
    | int j => obtain ⟨t', rfl⟩ := ry; exact eq_int (fin_bl I q dec_int)
    | str j => obtain ⟨t', rfl⟩ := ry; exact PySem.EqMixed.eq_int_str (fin_bl I q (by simp))
    | _ => exact absurd (show false = true from hs) Bool.false_ne_true
  | str i =>
    obtain ⟨t, rfl⟩ := rx
    cases y with
    | non => cases ry; exact PySem.EqNone.eq_str_none (fin_bl I q (by simp))
    | bl j => cases ry; exact PySem.EqMixed.eq_str_bool (fin_bl I q (by simp))
    | int j => obtain ⟨t', rfl⟩ := ry; exact PySem.EqMixed.eq_str_int (fin_bl I q (by simp))
    | str j => obtain ⟨t', rfl⟩ := ry; exact eq_str (fin_bl I q dec_str)
    | _ => exact absurd (show false = true from hs) Bool.false_ne_true
  | byt i =>
    obtain ⟨t, rfl⟩ := rx
    cases y with
    | byt j => obtain ⟨t', rfl⟩ := ry; exact PySem.W.eq_bytes (fin_bl I q dec_byt)
    | _ => exact absurd (show false = true from hs) Bool.false_ne_true
  | _ => cases y <;> exact absurd (show false = true from hs) Bool.false_ne_true
theorem op_ne : OpR X (compareOp .NotEq) rNe := by
  intro pins s σ H x y v u Q I rx ry h
  obtain ⟨hs, q⟩ := h
  cases x with
  | non =>
    cases rx
    cases y with
    | non => cases ry; exact PySem.EqNone.ne_none_none (fin_bl I q (by simp))
    | bl j => cases ry; exact PySem.EqNone.ne_none_bool (fin_bl I q (by simp))
    | int j => obtain ⟨t', rfl⟩ := ry; exact PySem.EqNone.ne_none_int (fin_bl I q (by simp))
    | str j => obtain ⟨t', rfl⟩ := ry; exact PySem.EqNone.ne_none_str (fin_bl I q (by simp))
    | _ => exact absurd (show false = true from hs) Bool.false_ne_true
  | bl i =>
    cases rx
    cases y with
    | non => cases ry; exact PySem.EqNone.ne_bool_none (fin_bl I q (by simp))
    | bl j => cases ry; exact ne_bool (fin_bl I q (congrArg not dec_bl))
    | str j => obtain ⟨t', rfl⟩ := ry; exact PySem.EqMixed.ne_bool_str (fin_bl I q (by simp))
    | _ => exact absurd (show false = true from hs) Bool.false_ne_true
  | int i =>
    obtain ⟨t, rfl⟩ := rx
    cases y with
    | non => cases ry; exact PySem.EqNone.ne_int_none (fin_bl I q (by simp))
    | int j => obtain ⟨t', rfl⟩ := ry; exact ne_int (fin_bl I q (congrArg not dec_int))
    | str j => obtain ⟨t', rfl⟩ := ry; exact PySem.EqMixed.ne_int_str (fin_bl I q (by simp))
    | _ => exact absurd (show false = true from hs) Bool.false_ne_true
  | str i =>
    obtain ⟨t, rfl⟩ := rx
    cases y with
    | non => cases ry; exact PySem.EqNone.ne_str_none (fin_bl I q (by simp))
    | bl j => cases ry; exact PySem.EqMixed.ne_str_bool (fin_bl I q (by simp))
    | int j => obtain ⟨t', rfl⟩ := ry; exact PySem.EqMixed.ne_str_int (fin_bl I q (by simp))
    | str j => obtain ⟨t', rfl⟩ := ry; exact ne_str (fin_bl I q (congrArg not dec_str))
    | _ => exact absurd (show false = true from hs) Bool.false_ne_true
  | byt i =>
    obtain ⟨t, rfl⟩ := rx
    cases y with
    | byt j => obtain ⟨t', rfl⟩ := ry; exact PySem.W.ne_bytes (fin_bl I q (congrArg not dec_byt))
    | _ => exact absurd (show false = true from hs) Bool.false_ne_true
  | _ => cases y <;> exact absurd (show false = true from hs) Bool.false_ne_true

theorem op_lt : OpR X (compareOp .Lt) (rI0 fun i j => .bl (decide (i < j))) := opB0 fun _ _ _ _ _ _ _ q => lt_int q
theorem op_gt : OpR X (compareOp .Gt) (rI0 fun i j => .bl (decide (j < i))) := opB0 fun _ _ _ _ _ _ _ q => gt_int q
theorem op_ge : OpR X (compareOp .GtE) (rI0 fun i j => .bl (decide (j ≤ i))) := opB0 fun _ _ _ _ _ _ _ q => ge_int q
/-- the one string within the other -/
theorem op_in_str : OpR X (compareOp .In) (fun x y H Q => ∃ i j, x = .str i ∧ y = .str j ∧ Q (.bl (!(Builtin.Str.occurrences j i 0 j.length 1).isEmpty)) H) := by
  intro pins s σ H x y v u Q I rx ry h
  obtain ⟨i, j, rfl, rfl, q⟩ := h
  obtain ⟨t, rfl⟩ := rx
  obtain ⟨t', rfl⟩ := ry
  exact in_str (fin_bl I q rfl)

/-- is None, is not None: the right side a value none -/
theorem op_isN : OpR X (compareOp .Is) (fun x y H Q => y = .non ∧ Q (.bl (decide (x = .non))) H) := by
  intro pins s σ H x y v u Q I rx ry h
  obtain ⟨rfl, q⟩ := h
  cases ry
  refine is_none_gen (fin_bl I q ?_)
  cases x <;> first
    | (cases rx; rfl)
    | (obtain ⟨t, rfl⟩ := rx; rfl)
/-- is, is not of two objects that are tracked lists or instances -/
noncomputable def isObj : HO → Bool
  | .lst _ => true
  | .ins _ _ _ => true
  | _ => false
theorem obj_there {pins : List (Addr × Obj)} {s : Shared} {σ : St} {H : Hp} {a : Addr} {o : HO} (I : Inv X pins σ H s) (h : H a = some o) (p : isObj o = true) : ∃ ob, s.heap.get? a = some ob ∧ ob.cls ≠ .type "tuple" := by
  cases o with
  | lst xs =>
    obtain ⟨_, its, n, _, e⟩ : xs.length ≤ sizeLine ∧ ∃ (its : List Value) (n : Nat), Vals xs its ∧ s.heap.get? a = some { cls := .type "list", data := .seq its.toArray n } := I.hok a _ h
    exact ⟨_, e, (by show Value.type "list" ≠ .type "tuple"; decide +kernel)⟩
  | ins C dx fs =>
    have x := I.hok a _ h
    obtain ⟨_, _, _, e, _⟩ := x
    exact ⟨_, e, (by show Value.ref C ≠ .type "tuple"; exact fun z => by cases z)⟩
  | _ => exact absurd (show false = true from p) Bool.false_ne_true
theorem nomark (b : Expr) {op : CmpOp} (h : op ≠ .In := by decide) (h2 : op ≠ .NotIn := by decide) : behindInMarks op b = false := by
  have e1 : (op == CmpOp.In) = false := by cases op <;> first | rfl | exact absurd rfl h
  have e2 : (op == CmpOp.NotIn) = false := by cases op <;> first | rfl | exact absurd rfl h2
  cases b <;> simp [behindInMarks, e1, e2]
/-- a comparison as a value; hm: nomark b, or (for in, not in) by with_unfolding_all rfl -/
theorem pe_cmpR {op : CmpOp} {r : R2} (ho : OpR X (compareOp op) r) (ha : PE X a ta) (hb : PE X b tb) (hm : behindInMarks op b = false) : PE X (.Compare a [op] [b] pos) (tOp r ta tb) := by
  intro pins s σ H Q I h
  exact wpAny_Compare1 (binT ha hb I h fun v u s2 x y H2 I2 rx ry q => ho pins s2 σ H2 x y v u Q I2 rx ry q) hm
/-- a reading of a value as a test -/
noncomputable def tTest (t : TE) : TT := fun σ H Q => t σ H fun x H' => ∃ k, x = .bl k ∧ Q k H'
theorem pt_cmpR {op : CmpOp} {r : R2} (ho : OpR X (compareOp op) r) (ha : PE X a ta) (hb : PE X b tb) (hm : behindInMarks op b = false) : PT X (.Compare a [op] [b] pos) (tTest (tOp r ta tb)) := by
  intro pins s σ H Q I h
  refine wpAny_isTrue_Compare1 (thn (ha pins s σ H _ I h) fun v s1 ⟨x, H1, I1, r1, q1⟩ => thn (hb pins s1 σ H1 _ I1 q1) fun u s2 ⟨y, H2, I2, r2, q2⟩ =>
    thn (ho pins s2 σ H2 x y v u _ I2 r1 r2 q2) fun c s3 ⟨z, H3, I3, r3, k, e, q3⟩ => ?_) hm
  subst e
  cases r3
  exact wpAny_truthy_bool ⟨H3, I3, q3⟩
/-! ### truth -/
theorem line63 : (sizeLine : Nat) < 2 ^ 63 := by rw [sizeLine_eq]; decide
/-! ### strs and bytes -/
theorem op_add_str : OpR X (binaryOp .Add) (fun x y H Q => ∃ i j, x = .str i ∧ y = .str j ∧ i.length + j.length ≤ sizeLine ∧ Q (.str (i ++ j)) H) := by
  intro pins s σ H x y v u Q I rx ry h
  obtain ⟨i, j, rfl, rfl, hz, q⟩ := h
  obtain ⟨t, rfl⟩ := rx
  obtain ⟨t', rfl⟩ := ry
  exact add_str (fun t' tk => ⟨.str (i ++ j), H, I.tok _, ⟨_, rfl⟩, q⟩) hz
/-! ### scalar builtins, by CallR -/
theorem vals1 {x : V} {us : List Value} (r : Vals [x] us) : ∃ u, us = [u] ∧ RelV x u := by
  cases r with
  | cons r1 r2 => cases r2; exact ⟨_, rfl, r1⟩
theorem call_int1 : CallR X (.type "int") (fun xs H Q => (∃ i, xs = [.int i] ∧ Q (.int i) H) ∨ ∃ k, xs = [.bl k] ∧ Q (.int (if k then 1 else 0)) H) := by
  intro pins s σ H xs us Q I r h
  rcases h with ⟨i, rfl, q⟩ | ⟨k, rfl, q⟩
  · obtain ⟨u, rfl, t, rfl⟩ := vals1 r
    exact call_int_int ⟨.int i, H, I, ⟨_, rfl⟩, q⟩
  · obtain ⟨u, rfl, r1⟩ := vals1 r
    cases r1
    exact call_int_bool ⟨.int (if k then 1 else 0), H, I.tok _, ⟨_, rfl⟩, q⟩
end
end L2

namespace L2
open PySem PySem.Spec PyProof.Rows

/-! ### an instance, its attributes a map -/
structure ObjM (h : Heap) (x dx C : Addr) (mA : Str → Option Value) : Prop where
  obj : h.get? x = some (PySem.W.instObj C dx)
  ns : h.Ns1 dx mA
  ne : dx ≠ x

section
variable {prog : Program} {w : World} {A : Around} {E : Value → Shared → Prop} {s : Shared} {K : PySem.W.Frag} {x dx C f : Addr} {mA : Str → Option Value} {name : Str} {v : Value}

end

/-! ### the attributes as a list of pairs -/
section
variable {P : Program} {w : World} {H H' : Hp} {h h' : Heap} {a C dx : Addr} {fs fs' : List (Str × V)}
end

/-! ### what of the text a class must have -/
structure Cls (K : PySem.W.Frag) (C : Addr) : Prop where
  pg : PySem.W.plainGet K C Str.empty = true
  hd : PySem.W.hasDictIn K C = true
  po : PySem.W.plainOver K C = true
  sa : PySem.W.findIn K (.ref C) "__setattr__" = some (some (.builtin "object.__setattr__"))
/-- no class of it has the name -/
noncomputable def NoAttr (K : PySem.W.Frag) (C : Addr) (f : Str) : Prop := PySem.W.findIn K (.ref C) f = some none
/-- a constant of the class -/
structure Con (K : PySem.W.Frag) (C : Addr) (f : Str) (v : V) (u : Value) : Prop where
  at_ : PySem.W.findIn K (.ref C) f = some (some u)
  rel : RelV v u
  get : PySem.W.specialIn K u "__get__" = some none
  cp : PySem.W.copiedNames.contains f = false
/-- a method: a plain def of the class or of one above it -/
structure Meth (K : PySem.W.Frag) (C : Addr) (m : Str) (f : Addr) : Prop where
  at_ : PySem.W.findIn K (.ref C) m = some (some (.ref f))
  fn : PySem.W.isFn K (.ref f) = true
  kp : PySem.W.keepIn K (.ref f) = true

section
variable {X : Cx} {pins : List (Addr × Obj)} {σ : St} {H : Hp} {s : Shared} {a C dx : Addr} {fs : List (Str × V)} {f : Str} {v : V} {A : Around} {E : Value → Shared → Prop}

end

/-! ### readings and rules -/
section
variable {X : Cx} {o e value : Expr} {f : Str} {pos pos' tpos : Pos} {ta tv : TE}
end

/-! ### isinstance -/
section
variable {X : Cx} {pins : List (Addr × Obj)} {σ : St} {H : Hp} {s : Shared} {A : Around} {E : Value → Shared → Prop} {Q : Value → Shared → Prop} {c : Value} {b : Bool}
/-- the type of a value, as the fragment's deciders take it; for an instance its class -/
inductive TyOf (K : PySem.W.Frag) (H : Hp) : V → Value → Prop where
  | non : TyOf K H .non (.type "NoneType")
  | bl (x : Bool) : TyOf K H (.bl x) (.type "bool")
  | int (i : Int) : TyOf K H (.int i) (.type "int")
  | str (x : Str) : TyOf K H (.str x) (.type "str")
  | flt (x : UInt64) : TyOf K H (.flt x) (.type "float")
  | lst {a : Addr} {xs : List V} (e : H a = some (.lst xs)) : TyOf K H (.ref a) (.type "list")
  | frz {a : Addr} {o : Obj} {xs : List V} (e : H a = some (.frz o (.lst xs))) : TyOf K H (.ref a) (.type "list")
  | tup {a : Addr} {xs : List V} (e : H a = some (.tup xs)) : TyOf K H (.ref a) (.type "tuple")
  | dK {a : Addr} {kvs : List (Key × V)} (e : H a = some (.dK kvs)) : TyOf K H (.ref a) (.type "dict")
  | dT {a : Addr} {kvs : List (List Key × V)} (e : H a = some (.dT kvs)) : TyOf K H (.ref a) (.type "dict")
  | ins {a C dx : Addr} {fs : List (Str × V)} (e : H a = some (.ins C dx fs)) (cl : Cls K C) (ha : PySem.W.findIn K (.ref C) "__class__" = some (some (.builtin "object.__class__")))
      (hn : PySem.W.specialIn K (.builtin "object.__class__") "__get__" = some (some (.builtin "getset_descriptor.__get__"))) (htk : PySem.W.takesIn K (.builtin "object.__class__") = some true)
      (hm : PySem.W.mroIn K C (.type "object") = some true) : TyOf K H (.ref a) (.ref C)
end
end L2

namespace L2
open PySem PySem.Spec PyProof.Rows

/-! ### room -/
structure Room (k : Nat) (A : Around) : Prop where
  hd : A.handled = none
  dp : A.depth + 3 * k + 5 < recursionLimit
  un : A.units + 16 * k + 200 < cLine
theorem Room.mono {j k : Nat} {A : Around} (r : Room k A) (h : j ≤ k) : Room j A := ⟨r.hd, by have := r.dp; omega, by have := r.un; omega⟩
theorem Room.deeper {k : Nat} {A : Around} (r : Room (k + 1) A) (env : Env) : Room k (A.deeper env) :=
  ⟨r.hd, by have := r.dp; show A.depth + 1 + 3 * k + 5 < _; omega, by have := r.un; show A.units + 3 + 16 * k + 200 < _; omega⟩
theorem Room.depth {k : Nat} {A : Around} (r : Room k A) : A.depth < recursionLimit := by have := r.dp; omega
theorem Room.units {k : Nat} {A : Around} (r : Room k A) : A.units + 64 < cLine := by have := r.un; omega
/-! ### argument lists and displays -/
noncomputable def tNil : TA := fun _ H Q => Q [] H
noncomputable def tCons (ta : TE) (tr : TA) : TA := fun σ H Q => ta σ H fun x H1 => tr σ H1 fun xs H2 => Q (x :: xs) H2
section
variable {X : Cx} {e : Expr} {es : List Expr} {te : TE} {t : TA} {pos : Pos}
theorem pa_nil : PA X [] tNil := fun _ _ _ _ H Q I h => Calls.spliced_nil ⟨[], H, I, .nil, h⟩
theorem pa_cons (ha : PE X e te) (hr : PA X es t) (hs : starEach (e :: es) X.env = (false, eval e X.env) :: starEach es X.env := by rfl) : PA X (e :: es) (tCons te t) := by
  intro pos pins s σ H Q I h
  rw [hs]
  show wpAny _ _ (spliced ((false, eval e X.env) :: backTo pos (starEach es X.env))) _ _ s
  refine Calls.spliced_cons (thn (ha pins s σ H _ I h) fun u s1 ⟨x, H1, I1, r1, q1⟩ => ?_)
  exact thn (hr pos pins s1 σ H1 _ I1 q1) fun us s2 ⟨xs, H2, I2, r2, q2⟩ => ⟨x :: xs, H2, I2, .cons r1 r2, q2⟩

/-- a tuple, a list of written items -/
noncomputable def tTup (t : TA) : TE := fun σ H Q => t σ H fun xs H1 => xs.length ≤ sizeLine ∧ ∀ p, H1 p = none → Q (.ref p) (upd H1 p (.tup xs))
noncomputable def tLst (t : TA) : TE := fun σ H Q => t σ H fun xs H1 => xs.length ≤ sizeLine ∧ ∀ p, H1 p = none → Q (.ref p) (upd H1 p (.lst xs))
theorem pe_tup {x1} (h : PA X es t) : PE X (.Tuple es x1 pos) (tTup t) := by
  intro pins s σ H Q I hq
  refine wpAny_Tuple_spliced (thn (h pos pins s σ H _ I hq) fun us s1 ⟨xs, H1, I1, r, z, q⟩ => ⟨by rw [← r.length]; exact z, ?_⟩)
  have hf : H1 s1.heap.objs.size = none := I1.hok.fresh (Nat.le_refl _)
  refine ⟨.ref s1.heap.objs.size, upd H1 s1.heap.objs.size (.tup xs), I1.laid (t' := s1.toks) (fun b u e => Heap.get?_push_of_some _ e) (Nat.le_refl _) ?_, rfl, q _ hf⟩
  exact ⟨z, us, r, ⟨_, Heap.get?_push_size _ rfl, rfl, _, rfl⟩⟩
theorem pe_lst (h : PA X es t) : PE X (.List es pos) (tLst t) := by
  intro pins s σ H Q I hq
  refine wpAny_List_spliced (thn (h pos pins s σ H _ I hq) fun us s1 ⟨xs, H1, I1, r, z, q⟩ => ⟨by rw [← r.length]; exact z, ?_⟩)
  have hf : H1 s1.heap.objs.size = none := I1.hok.fresh (Nat.le_refl _)
  refine ⟨.ref s1.heap.objs.size, upd H1 s1.heap.objs.size (.lst xs), I1.laid (t' := s1.toks) (fun b u e => Heap.get?_push_of_some _ e) (Nat.le_refl _) ?_, rfl, q _ hf⟩
  exact ⟨z, us, 0, r, Heap.get?_push_size _ rfl⟩
end

/-! ### what a def promises -/
/-- a def's promise: the bound arguments in the parameters' order, the heap, the wanted end, the wanted exception -/
noncomputable abbrev Sp := List V → Hp → VK → XK → Prop
/-- how an exception lies behind a call (file 08 gives it): the callers' frames, abstract heap and state ahead of the call, the wish, the exception, the state -/
noncomputable abbrev CXT := List Env → Hp → Shared → XK → Value → Shared → Prop

/-- the state at a call -/
structure Env0 (P : Program) (w : World) (K : PySem.W.Frag) (mg : Str → Option Value) (base : Heap) (A : Around) (outer : List Env) (s : Shared) (H : Hp) : Prop where
  frames : A.frames = some outer
  mod : Mod K mg base
  bs : ∀ b o, base.get? b = some o → s.heap.get? b = some o ∧ H b = none
  bsz : base.objs.size ≤ s.heap.objs.size
  funs : s.heap.FunFrames base outer
  frf : ∀ b ∈ frs outer, H b = none
  hok : HOk P w H s.heap
  bare : AllBare s.gens
/-- a call's end -/
noncomputable def CE (outer : List Env) (P : Program) (w : World) (H : Hp) (s : Shared) (Q : VK) (u : Value) (s' : Shared) : Prop :=
  ∃ v H', s'.os = s.os ∧ AllBare s'.gens ∧ Un (frs outer) [] H H' s.heap s'.heap ∧ HOk P w H' s'.heap ∧ RelV v u ∧ Q v H'
noncomputable def CR (CX : CXT) (outer : List Env) (P : Program) (w : World) (H : Hp) (s : Shared) (Q : VK) (E : XK) (r : Result) (s' : Shared) : Prop :=
  match r with
  | .ok (.ret u) => CE outer P w H s Q u s'
  | .ok _ => False
  | .error e => CX outer H s E e s'
structure FnOk (P : Program) (w : World) (K : PySem.W.Frag) (mg : Str → Option Value) (base : Heap) (CX : CXT) (k : Nat) (f : Addr) (fd : FuncData) (ps : List Str) (sp : Sp) : Prop where
  len : ∀ vs H Q E, sp vs H Q E → vs.length = ps.length
  run : ∀ (A : Around) (outer : List Env) (s : Shared) (H : Hp) (args : Args) (us : List Value) (vs : List V) (Q : VK) (E : XK), Room k A → Env0 P w K mg base A outer s H → BindsTo s fd args (ps.zip us) → Vals vs us → sp vs H Q E →
    codeAny (model P w) A (.call (.ref f) args) (CR CX outer P w H s Q E) s
section
variable {X : Cx} {pins : List (Addr × Obj)} {σ : St} {H : Hp} {s s' : Shared}
/-- from a body: what a callee wants -/
theorem Inv.env0 (I : Inv X pins σ H s) : Env0 X.prog X.w X.K X.mg X.base X.A X.stack s H :=
  ⟨I.ok.frames, I.ok.mod, I.bs, Nat.le_trans I.ok.bsz I.sz, I.stack, I.stkFree, I.hok, I.bare⟩
/-- behind a call -/
theorem Inv.after {Q : VK} {u : Value} (I : Inv X pins σ H s) (h : CE X.stack X.prog X.w H s Q u s') : EP X pins σ Q u s' := by
  obtain ⟨v, H', os, bare, un, hok, r, q⟩ := h
  obtain ⟨hh, g, d, t, os'⟩ := s'
  obtain rfl : os' = s.os := os
  exact ⟨v, H', I.call (h' := hh) (g' := g) (d' := d) (t' := t) (ch := []) un hok bare (fun b z => absurd z (by simp)), r, q⟩
end

/-! ### calls -/
/-- how the parameters are bound: us the positional arguments, kw the keywords' values by name, ds the defaults that fill up -/
noncomputable def Binds (K : PySem.W.Frag) (fd : FuncData) (ps : List Str) (ds : List Value) : Prop :=
  ∀ (s : Shared) (us : List Value), K.In s.heap → (us ++ ds).length = ps.length → BindsTo s fd ⟨us, []⟩ (ps.zip (us ++ ds))
/-- every parameter is given -/
theorem Binds.all {K : PySem.W.Frag} {fd : FuncData} {ps : List Str} (h : ∀ us : List Value, us.length = ps.length → bindArgs fd ⟨us, []⟩ = pure (ps.zip us)) : Binds K fd ps [] := fun s us _ hl => by
  rw [List.append_nil] at hl ⊢
  exact .of_eq (h us hl)

section
variable {X : Cx} {CX : CXT} {k : Nat} {f C : Addr} {fd : FuncData} {ps : List Str} {sp : Sp} {dvs : List V} {ds : List Value} {E : XK} {x m : Str} {p pos apos : Pos} {e o : Expr} {es : List Expr} {ta : TE} {t : TA}

/-- what a class must have to be made -/
structure Mk (K : PySem.W.Frag) (C f : Addr) : Prop where
  makes : PySem.W.makesIn K C = true
  init : PySem.W.findIn K (.ref C) "__init__" = some (some (.ref f))
  fn : PySem.W.isFn K (.ref f) = true
  kp : PySem.W.keepIn K (.ref C) = true

end

/-! ### keywords -/
section
variable {X : Cx} {CX : CXT} {k : Nat} {f C : Addr} {fd : FuncData} {ps ks : List Str} {sp : Sp} {E : XK} {x m : Str} {p pos apos kpos : Pos} {e o : Expr} {es : List Expr} {kws : List Keyword} {te ta : TE} {t tk : TA} {nm : Option Str}
/-- how a call with keywords binds: g puts the positional values us and the keywords' values ws (names ks) in the parameters' order, defaults among them -/
structure KBinds (K : PySem.W.Frag) (fd : FuncData) (ps ks : List Str) (g : List Value → List Value → List Value) (gV : List V → List V → List V) : Prop where
  to : ∀ (s : Shared) (us ws : List Value), K.In s.heap → (g us ws).length = ps.length → BindsTo s fd ⟨us, ks.zip ws⟩ (ps.zip (g us ws))
  rel : ∀ {vs : List V} {us : List Value} {zs : List V} {ws : List Value}, Vals vs us → Vals zs ws → Vals (gV vs zs) (g us ws)
variable {g : List Value → List Value → List Value} {gV : List V → List V → List V}
end

/-! ### a def's body keeps its promise -/
/-- names: the parameters first -/
structure FnScope (N P : List Str) (sc : Scope) : Prop where
  kind : sc.kind = .function
  co : sc.isCoroutine = false
  gen : sc.isGenerator = false
  nd : N.Nodup
  pre : N.take P.length = P
  par : ∀ x ∈ P, sc.names.lookup x = some .local ∨ sc.names.lookup x = some .cell
  nofree : ∀ y ∈ sc.names, y.2 ≠ .free

theorem bindL_out {kindOf : Str → Option NameKind} {x : Str} : ∀ {binds : List (Str × Value)} {m : Str → Option Value}, (∀ v, (x, v) ∉ binds) → bindL kindOf binds m x = m x
  | [], _, _ => rfl
  | (n, v) :: r, m, h => by
    unfold bindL
    rw [bindL_out fun w hw => h w (List.mem_cons_of_mem _ hw)]
    split
    · have : x ≠ n := by rintro rfl; exact h v List.mem_cons_self
      simp [this]
    · rfl
theorem bindC_out {kindOf : Str → Option NameKind} {x : Str} : ∀ {binds : List (Str × Value)} {m : Str → Option Value}, (∀ v, (x, v) ∉ binds) → bindC kindOf binds m x = m x
  | [], _, _ => rfl
  | (n, v) :: r, m, h => by
    unfold bindC
    rw [bindC_out fun w hw => h w (List.mem_cons_of_mem _ hw)]
    split
    · rfl
    · have : x ≠ n := by rintro rfl; exact h v List.mem_cons_self
      simp [this]
theorem bindL_get {kindOf : Str → Option NameKind} {x : Str} {v : Value} : ∀ {P : List Str} {vs : List Value} {i : Nat} {m : Str → Option Value}, P.Nodup → P[i]? = some x → vs[i]? = some v → kindOf x = some .local →
    bindL kindOf (P.zip vs) m x = some v
  | [], _, _, _, _, h, _, _ => by simp at h
  | _ :: _, [], _, _, _, _, h, _ => by simp at h
  | p :: P, w :: vs, 0, m, nd, h1, h2, hk => by
    simp at h1 h2; subst h1; subst h2
    show bindL kindOf ((p, w) :: P.zip vs) m p = _
    unfold bindL
    rw [bindL_out fun v hv => (List.nodup_cons.mp nd).1 (List.of_mem_zip hv).1, if_pos hk]
    simp
  | p :: P, w :: vs, i + 1, m, nd, h1, h2, hk => by
    show bindL kindOf ((p, w) :: P.zip vs) m x = _
    unfold bindL
    exact bindL_get (i := i) (List.nodup_cons.mp nd).2 (by simpa using h1) (by simpa using h2) hk
theorem bindC_get {kindOf : Str → Option NameKind} {x : Str} {v : Value} : ∀ {P : List Str} {vs : List Value} {i : Nat} {m : Str → Option Value}, P.Nodup → P[i]? = some x → vs[i]? = some v → kindOf x ≠ some .local →
    bindC kindOf (P.zip vs) m x = some v
  | [], _, _, _, _, h, _, _ => by simp at h
  | _ :: _, [], _, _, _, _, h, _ => by simp at h
  | p :: P, w :: vs, 0, m, nd, h1, h2, hk => by
    simp at h1 h2; subst h1; subst h2
    show bindC kindOf ((p, w) :: P.zip vs) m p = _
    unfold bindC
    rw [bindC_out fun v hv => (List.nodup_cons.mp nd).1 (List.of_mem_zip hv).1, if_neg hk]
    simp
  | p :: P, w :: vs, i + 1, m, nd, h1, h2, hk => by
    show bindC kindOf ((p, w) :: P.zip vs) m x = _
    unfold bindC
    exact bindC_get (i := i) (List.nodup_cons.mp nd).2 (by simpa using h1) (by simpa using h2) hk

/-- the names' values at the entry -/
noncomputable def start (N : List Str) (vs : List V) : St := vs.map some ++ List.replicate (N.length - vs.length) none

/-- the context of a def's body, at its entry; an exception leaves the frame, then lies as CX says -/
noncomputable def cxOf (CX : CXT) (P : Program) (w : World) (K : PySem.W.Frag) (mg : Str → Option Value) (base : Heap) (N : List Str) (qual : Str) (scope : Scope) (f : Addr) (cd : Value) (A : Around) (outer : List Env) (s : Shared) (H : Hp) (E : XK) : Cx where
  prog := P
  w := w
  K := K
  mg := mg
  base := base
  A := A.deeper (envOfC qual scope s.heap.objs.size f cd)
  N := N
  s₀ := s
  H₀ := H
  env := envOfC qual scope s.heap.objs.size f cd
  outer := outer
  stack := envOfC qual scope s.heap.objs.size f cd :: outer
  ex := []
  calm := true
  fn := fun _ => true
  pn := []
  xe := fun e s' => wpAny (model P w) (A.deeper (envOfC qual scope s.heap.objs.size f cd)) (leaving (envOfC qual scope s.heap.objs.size f cd) e) (fun _ s'' => CX outer H s E e s'') (fun e' s'' => CX outer H s E e' s'') s'

theorem cell_has {sc : Scope} {n : Nat} {x : Str} (h : sc.names.lookup x = some .cell) : ∃ c, (cellsFrom n sc.names []).lookup x = some c := by
  have q := PySem.W.cellsFrom_some sc.names n [] (.inl h)
  exact Option.isSome_iff_exists.mp q

theorem inv_start {CX : CXT} {P : Program} {w : World} {K : PySem.W.Frag} {mg : Str → Option Value} {base : Heap} {N ps : List Str} {qual : Str} {scope : Scope} {f : Addr} {cd : Value} {A : Around} {outer : List Env} {s s1 : Shared} {H : Hp} {E : XK} {us : List Value} {vs : List V}
    (S : FnScope N ps scope) (hd : A.handled = none) (e0 : Env0 P w K mg base A outer s H) (hl : vs.length = ps.length) (r : Vals vs us)
    (x : InCallC s s.heap.objs.size (bindL (envOfC qual scope s.heap.objs.size f cd).kindOf (ps.zip us) fun _ => none) (cellsFrom (s.heap.objs.size + 1) scope.names []) (bindC (envOfC qual scope s.heap.objs.size f cd).kindOf (ps.zip us) fun _ => none) s1) :
    Inv (cxOf CX P w K mg base N qual scope f cd A outer s H E) [] (start N vs) H s1 := by
  have hpl : ps.length ≤ N.length := by have := congrArg List.length S.pre; rw [List.length_take] at this; omega
  obtain ⟨h1, tk, rfl, hk⟩ := x.done
  have noA : ∀ b : Addr, b ∉ (cxOf CX P w K mg base N qual scope f cd A outer s H E).ex := fun b z => absurd (show b ∈ ([] : List Addr) from z) (by simp)
  refine ⟨⟨e0.mod, S.kind, rfl, rfl, Nat.le_refl _, fun y z c h1 h2 => ?_, fun y hy => ?_, fun y c _ h => ?_, fun _ => hd, Around.frames_deeper e0.frames, .inr ⟨rfl, rfl⟩, fun b z => absurd z (noA b), e0.bs, e0.bsz, fun b _ _ => noA b, fun b z => absurd z (noA b), e0.funs, e0.frf⟩,
    rfl, e0.bare, Un.kept hk, ⟨_, x.toInCall.ns, fun i y v h1 h2 h3 => ?_⟩, fun y c h => ⟨_, x.cell y c h⟩, e0.hok.fresh (Nat.le_refl _), fun y c h => ?_, fun p hp => absurd (show p ∈ ([] : List (Addr × Obj)) from hp) (by simp), e0.hok.kept hk, ?_⟩
  · exact name_of_addr x.apart (PySem.mem_of_lookup h1) (PySem.mem_of_lookup h2)
  · have hy : scope.names.lookup y = some .cell ∨ scope.names.lookup y = some .free := hy
    rcases hy with hy | hy
    · exact cell_has hy
    · exact absurd rfl (S.nofree _ (PySem.mem_of_lookup hy))
  · exact Nat.le_of_lt (x.above y c (PySem.mem_of_lookup h))
  · have hi : i < vs.length := by
      unfold start at h2
      by_cases hi : i < vs.length
      · exact hi
      · rw [List.getElem?_append_right (by simpa using hi)] at h2
        rw [List.getElem?_replicate] at h2
        split at h2 <;> cases h2
    have ha : vs[i]? = some v := by
      unfold start at h2
      rw [List.getElem?_append_left (by simpa using hi), List.getElem?_map] at h2
      cases e : vs[i]? with
      | none => rw [e] at h2; cases h2
      | some a => rw [e] at h2; cases h2; rfl
    obtain ⟨u, hu, rv⟩ := r.get ha
    have hp : ps[i]? = some y := by
      rw [← S.pre, List.getElem?_take_of_lt (by omega)]; exact h1
    have ndP : ps.Nodup := by rw [← S.pre]; exact S.nd.sublist (List.take_sublist _ _)
    refine ⟨u, rv, ?_⟩
    rcases S.par y (List.mem_of_getElem? hp) with k | k
    · exact .inl ⟨k, bindL_get ndP hp hu k⟩
    · obtain ⟨c, e⟩ := cell_has (n := s.heap.objs.size + 1) k
      refine .inr ⟨.inl k, c, e, ?_⟩
      have q := x.cell y c e
      rw [bindC_get ndP hp hu (by show scope.names.lookup y ≠ _; rw [k]; decide)] at q
      exact q
  · exact e0.hok.fresh (Nat.le_of_lt (x.above y c (PySem.mem_of_lookup h)))
  · unfold start
    show _ = N.length
    rw [List.length_append, List.length_map, List.length_replicate]
    omega

/-- THE RULE: a def (or a method) of the text, by its body. The body's reading t is chosen for each entry; it is run at the parameters' values -/
theorem fn_of {CX : CXT} {P : Program} {w : World} {K : PySem.W.Frag} {mg : Str → Option Value} {base : Heap} {k : Nat} {f : Addr} {name qual : Str} {params : Arguments} {body : List Stmt} {scope : Scope} {dV kV doc pm cdv ct oc : Value} {an od : Option Addr}
    {osl : Array (Option Value)} {N ps : List Str} {sp : Sp} (lk : K.lookup f = some ⟨oc, od, .func (PySem.W.fnOf name qual params body scope dV kV doc pm an cdv ct), osl⟩) (hcd : PySem.W.codeIn K cdv qual = true) (S : FnScope N ps scope)
    (len : ∀ vs H Q E, sp vs H Q E → vs.length = ps.length)
    (hbody : ∀ (A : Around) (outer : List Env) (s : Shared) (H : Hp) (vs : List V) (Q : VK) (E : XK), Room k (A.deeper (envOfC qual scope s.heap.objs.size f cdv)) → sp vs H Q E →
      ∃ t, PSs (cxOf CX P w K mg base N qual scope f cdv A outer s H E) body t ∧ t { nx := fun _ H' => Q .non H', rt := Q } (start N vs) H) :
    FnOk P w K mg base CX (k + 1) f (PySem.W.fnOf name qual params body scope dV kV doc pm an cdv ct) ps sp := by
  refine ⟨len, fun A outer s H args us vs Q E hr e0 hb r hsp => ?_⟩
  have hl := len _ _ _ _ hsp
  have KX : K.In s.heap := e0.mod.kin.keeps fun b o e => (e0.bs b o e).1
  have lim : s.heap.NoLimit := e0.mod.nolimit.keeps fun b o e => (e0.bs b o e).1
  have hkind : ∀ y ∈ ps.zip us, scope.names.lookup y.1 = some .local ∨ (scope.names.lookup y.1 = some .cell ∧ ((cellsFrom (s.heap.objs.size + 1) scope.names []).lookup y.1).isSome = true) := fun ⟨n, v⟩ hy => by
    rcases S.par n (List.of_mem_zip hy).1 with q | q
    · exact .inl q
    · exact .inr ⟨q, PySem.W.cellsFrom_some _ _ _ (.inl q)⟩
  refine codeAny_call_function hr.depth (KX _ _ lk) rfl S.co S.gen rfl (PySem.W.codeRec_of KX hcd) (hb _ _ _ _ ?_)
  refine wpAny_newFunctionEnv_cells S.kind hkind fun env he s1 x => ?_
  subst he
  refine ⟨lim.keeps x.toInCall.keep, codeAny_func ?_⟩
  obtain ⟨t, ht, hq⟩ := hbody A outer s H vs Q E (hr.deeper _) hsp
  have I : Inv (cxOf CX P w K mg base N qual scope f cdv A outer s H E) [] (start N vs) H s1 := inv_start S hr.hd e0 hl r x
  refine wpAny_mono (ht [] s1 (start N vs) H _ I hq) (fun fl s' hs => ?_) fun e s' hs => hs
  have fin : ∀ {σ' : St} {H' : Hp} {v : V} {u : Value}, Inv (cxOf CX P w K mg base N qual scope f cdv A outer s H E) [] σ' H' s' → RelV v u → Q v H' → CE outer P w H s Q u s' :=
    fun {σ' H' v u} J rv q => ⟨v, H', J.os, J.bare, J.base, J.hok, rv, q⟩
  cases fl with
  | ret u =>
    obtain ⟨v, σ', H', J, rv, q⟩ := hs
    exact fin J rv q
  | next =>
    obtain ⟨σ', H', J, q⟩ := hs
    exact fin (v := V.non) (u := Value.none) J rfl q
  | brk =>
    obtain ⟨_, _, _, q⟩ := hs
    exact False.elim q
  | cont =>
    obtain ⟨_, _, _, q⟩ := hs
    exact False.elim q
end L2

namespace L2
open PySem PySem.Spec PyProof.Rows
section
variable {X : Cx} {x : Str} {p pos : Pos} {e : Expr} {es : List Expr} {t : TA} {id T : String} {r : List V → Hp → VK → Prop}

noncomputable def tCB (r : List V → Hp → VK → Prop) (t : TA) : TE := fun σ H Q => t σ H fun vs H1 => r vs H1 Q
/-- f(e, ..), f a built-in function -/
theorem pe_callB (hc : CallR X (.builtin id) r) (hg : Gl X x) (hm : X.mg x = none) (hv : bootBuiltins x = some (.builtin id)) (ha : PA X (e :: es) t) (hn : x ≠ "__name__" := by decide) (hdb : (x == ("__debug__" : Str)) = false := by decide)
    (he : starEach (e :: es) X.env = (false, eval e X.env) :: starEach es X.env := by rfl) (hpl : (backTo pos (starEach es X.env)).any (·.1) = false := by rfl) : PE X (.Call (.Name x p) (e :: es) [] pos) (tCB r t) := by
  intro pins s σ H Q I h
  refine wpAny_Call_Name_kw (ld_blt I hg hm hv ?_ hn hdb)
  exact PyProof.Rows.callWith_builtin1 (thn (ha pos pins s σ H _ I h) fun us s1 ⟨vs, H1, I1, r1, q1⟩ => hc pins s1 σ H1 vs us Q I1 r1 q1) he hpl
/-- T(e, ..), T a built-in type -/
theorem pe_callTy (hc : CallR X (.type T) r) (hg : Gl X x) (hm : X.mg x = none) (hv : bootBuiltins x = some (.type T)) (ha : PA X (e :: es) t) (hn : x ≠ "__name__" := by decide) (hdb : (x == ("__debug__" : Str)) = false := by decide)
    (he : starEach (e :: es) X.env = (false, eval e X.env) :: starEach es X.env := by rfl) (hpl : (backTo pos (starEach es X.env)).any (·.1) = false := by rfl) : PE X (.Call (.Name x p) (e :: es) [] pos) (tCB r t) := by
  intro pins s σ H Q I h
  refine wpAny_Call_Name_kw (ld_blt I hg hm hv ?_ hn hdb)
  exact PyProof.Rows.callWith_type1 (thn (ha pos pins s σ H _ I h) fun us s1 ⟨vs, H1, I1, r1, q1⟩ => hc pins s1 σ H1 vs us Q I1 r1 q1) he hpl
end
end L2

namespace HT
open PySem PyProof.Rows

section
open PySem.SeqAt
open PySem.AutoSeq1 (wpAny_loadPart')
open PySem.MeetsSeq PySem.MeetsSeq2 PySem.MeetsSeq3

end

section
variable {prog : Program} {w : World} {A : Around} {E : Value → Shared → Prop} {s : Shared}

/-- t + u, t not empty -/
theorem cat_tup {t b : Addr} {vs ws : List Value} {Q : Value → Shared → Prop} (ht : IsTup s.heap t vs.toArray) (hb : IsTup s.heap b ws.toArray) (hv : vs ≠ [])
    (h1 : ws = [] → Q (.ref t) s) (h2 : ws ≠ [] → Q (.ref s.heap.objs.size) { s with heap := s.heap.push { cls := .type "tuple", data := .seq (vs ++ ws).toArray } })
    (hsz : vs.length + ws.length ≤ sizeLine) : wpAny (model prog w) A (binaryOp .Add (.ref t) (.ref b)) Q E s := by
  obtain ⟨⟨cls, dd, data, sl⟩, ho, hc, n, hd⟩ := id ht
  obtain ⟨⟨cls2, dd2, data2, sl2⟩, ho2, hc2, n2, hd2⟩ := id hb
  simp only at hc hd hc2 hd2
  subst hc hd hc2 hd2
  have e : vs.toArray ++ ws.toArray = (vs ++ ws).toArray := by simp
  by_cases hw : ws = []
  · exact concat_meets ⟨_, ho, rfl⟩ ⟨_, ho2, rfl⟩ noFill_tuple_add seq_tuple_add PySem.F.slot_tuple_add PySem.F.entry_tuple_add (PySem.F.args_tuple_add_2 _ _)
      (tuple_addW1 t b vs.toArray ws.toArray n n2 dd dd2 sl sl2 (by simpa using hv) (by simp [hw])) ⟨ho, ho2, h1 hw⟩
  · refine concat_meets ⟨_, ho, rfl⟩ ⟨_, ho2, rfl⟩ noFill_tuple_add seq_tuple_add PySem.F.slot_tuple_add PySem.F.entry_tuple_add (PySem.F.args_tuple_add_2 _ _)
      (tuple_addW2 t b vs.toArray ws.toArray n n2 dd dd2 sl sl2 (by simpa using hv) (by simpa using hw) (by rw [List.size_toArray, List.size_toArray]; exact hsz)) ⟨ho, ho2, ?_⟩
    rw [e]
    exact h2 hw

/-! ### t[a:b], not the whole -/
/-- a slice's bound as a place among n (d where it is left out) -/
noncomputable def sIx (n d : Nat) : Option Int → Nat
  | none => d
  | some v => if v < 0 then (v + (n : Int)).toNat else min v.toNat n
theorem sIx_le (n d : Nat) (hd : d ≤ n) (o : Option Int) : sIx n d o ≤ n := by
  cases o with
  | none => exact hd
  | some v =>
    show (if v < 0 then (v + (n : Int)).toNat else min v.toNat n) ≤ n
    by_cases hv : v < 0
    · rw [if_pos hv]; omega
    · rw [if_neg hv]; exact Nat.min_le_right _ _
theorem clip_eq (v : Int) (n d : Nat) : (if v < 0 then max (v + (n : Int)) 0 else min v (n : Int)) = ((sIx n d (some v) : Nat) : Int) := by
  show (if v < 0 then max (v + (n : Int)) 0 else min v (n : Int)) = (((if v < 0 then (v + (n : Int)).toNat else min v.toNat n) : Nat) : Int)
  by_cases hv : v < 0
  · simp only [if_pos hv]; omega
  · simp only [if_neg hv]; omega
theorem adjust_gen (lo hi : Option Int) (n : Nat) : Builtin.Slice.sliceAdjust lo hi 1 (n : Int) = (((sIx n 0 lo : Nat) : Int), ((sIx n n hi : Nat) : Int)) := by
  have h1 : ¬ ((1 : Int) < 0) := by omega
  unfold Builtin.Slice.sliceAdjust
  simp only [h1, if_false]
  refine Prod.ext ?_ ?_
  · cases lo with
    | none => rfl
    | some v => exact clip_eq v n 0
  · cases hi with
    | none => rfl
    | some v => exact clip_eq v n n
theorem places_gen (i j : Nat) : Builtin.Slice.slicePlaces (i : Int) (j : Int) 1 = j - i := by
  unfold Builtin.Slice.slicePlaces
  have h1 : (1 : Int) > 0 := by omega
  simp only [h1, if_true, Int.ediv_one]
  split <;> omega
theorem slicePart_ {v : Value} {o : Option Int} {Q : Option Int → Shared → Prop} (p : IsPart v o) (h : Q o s) : wpAny (model prog w) A (Builtin.Slice.slicePartIndex v) Q E s := by
  cases p with
  | none => exact slicePart_none h
  | int i t => exact slicePart_int h
theorem sliceApplied_gen {sl : Addr} {vl vu : Value} {lo hi : Option Int} {n : Nat} {Q : Int × Int × Nat → Shared → Prop} (hs : s.heap.IsSliceOf sl vl vu .none) (pl : IsPart vl lo) (pu : IsPart vu hi)
    (h : Q (((sIx n 0 lo : Nat) : Int), 1, sIx n n hi - sIx n 0 lo) s) : wpAny (model prog w) A (Builtin.Slice.sliceApplied (.ref sl) (pure (n : Int))) Q E s := by
  obtain ⟨os, hos, hcs, hds⟩ := id hs
  unfold Builtin.Slice.sliceApplied Builtin.Slice.sliceFields
  refine wpAny_bind (wpAny_bind (wpAny_field hos hds (x := vl) rfl (wpAny_bind (wpAny_field hos hds (x := vu) rfl (wpAny_bind (wpAny_field hos hds (x := .none) rfl (wpAny_pure ?_)))))))
  refine wpAny_bind (slicePart_none ?_)
  show wpAny _ _ (if ((1 : Int) == 0) = true then _ else _) _ _ s
  rw [if_neg (by decide)]
  refine wpAny_bind (slicePart_ pl (wpAny_bind (slicePart_ pu (wpAny_bind (wpAny_pure ?_)))))
  show wpAny _ _ (match Builtin.Slice.sliceAdjust lo hi 1 (n : Int) with | (lo, hi) => pure (lo, (1 : Int), Builtin.Slice.slicePlaces lo hi 1)) _ _ s
  rw [adjust_gen lo hi n]
  show wpAny _ _ (pure (((sIx n 0 lo : Nat) : Int), (1 : Int), Builtin.Slice.slicePlaces ((sIx n 0 lo : Nat) : Int) ((sIx n n hi : Nat) : Int) 1)) _ _ s
  rw [places_gen]
  exact wpAny_pure h
theorem pick_gen (xs : Array Value) (i k : Nat) : ((List.range k).filterMap fun (m : Nat) => xs[((i : Int) + (m : Int) * 1).toNat]?).toArray = ((xs.toList.drop i).take k).toArray := by
  have e : (fun (m : Nat) => xs[((i : Int) + (m : Int) * 1).toNat]?) = fun m => xs[i + m]? := by
    funext m
    have : ((i : Int) + (m : Int) * 1).toNat = i + m := by omega
    rw [this]
  rw [e]
  have := pick_run xs i k
  rw [List.filterMap_map] at this
  have e2 : ((fun x => xs[x]?) ∘ fun x => i + x) = fun m => xs[i + m]? := rfl
  rw [e2] at this
  rw [this]

theorem getItem_tuple_cut {t sl : Addr} {items : Array Value} {vl vu : Value} {lo hi : Option Int} {Q : Value → Shared → Prop} (ht : IsTup s.heap t items) (hs : s.heap.IsSliceOf sl vl vu .none) (pl : IsPart vl lo) (pu : IsPart vu hi)
    (hw : ¬ (sIx items.size 0 lo = 0 ∧ sIx items.size items.size hi = items.size))
    (h : Q (.ref s.heap.objs.size) { s with heap := s.heap.push { cls := .type "tuple", data := .seq ((items.toList.drop (sIx items.size 0 lo)).take (sIx items.size items.size hi - sIx items.size 0 lo)).toArray } })
    (hsz : items.size ≤ sizeLine) : wpAny (model prog w) A (getItem (.ref t) (.ref sl)) Q E s := by
  have htake : sizeOk (.seq ((items.toList.drop (sIx items.size 0 lo)).take (sIx items.size items.size hi - sIx items.size 0 lo)).toArray) := by
    show ((items.toList.drop (sIx items.size 0 lo)).take (sIx items.size items.size hi - sIx items.size 0 lo)).toArray.size ≤ sizeLine
    rw [List.size_toArray, List.length_take, List.length_drop, Array.length_toList]
    omega
  have hj : sIx items.size items.size hi ≤ items.size := sIx_le _ _ (Nat.le_refl _) hi
  obtain ⟨os, hos, hcs, hds⟩ := id hs
  have hTs : s.TypeIs (.ref sl) "slice" := ⟨os, hos, hcs⟩
  unfold getItem
  try with_reducible refine wpAny_holding ?_
  first | refine wpAny_bind (wpAny_pure ?_) | skip
  refine wpAny_bind (wpAny_sequenceKey ht.typeIs (by decide) ?_)
  refine wpAny_bind (wpAny_callSpecial?_slot (name := Str.ofString "__getitem__") ht.typeIs PyProof.Rows.slot_tuple_getitem
    (wpAny_call_entry PyProof.Rows.slot_tuple_getitem ht.typeIs entry_tuple_getitem ?_ (args_tuple_getitem _ _)))
  show wpAny _ _ (Builtin.Tuple.tupleItemsOf (.ref t) >>= _) _ _ s
  refine wpAny_bind (tupleItemsOf_ ht ?_)
  refine wpAny_bind (wpAny_typeOf hTs ?_)
  rw [if_pos (by decide)]
  refine wpAny_bind (sliceApplied_gen hs pl pu ?_)
  have hno : ¬ ((((sIx items.size 0 lo : Nat) : Int) == 0 && (1 : Int) == 1 && (sIx items.size items.size hi - sIx items.size 0 lo) == items.size) = true) := by
    intro q
    rw [Bool.and_eq_true, Bool.and_eq_true] at q
    have q1 : ((sIx items.size 0 lo : Nat) : Int) = 0 := eq_of_beq q.1.1
    have q2 : sIx items.size items.size hi - sIx items.size 0 lo = items.size := eq_of_beq q.2
    exact hw ⟨by omega, by omega⟩
  show wpAny _ _ (if (((sIx items.size 0 lo : Nat) : Int) == 0 && (1 : Int) == 1 && (sIx items.size items.size hi - sIx items.size 0 lo) == items.size) = true then _ else _) _ _ s
  rw [if_neg hno, pick_gen]
  first
    | exact wpAny_bind (m := Builtin.Tuple.tupleExact _) (wpAny_newObj_type (wpAny_pure ⟨_, rfl, wpAny_pure h⟩) htake)
    | exact wpAny_bind (m := Builtin.Tuple.tupleExact _) (wpAny_newObj_type (wpAny_bind (wpAny_pure (wpAny_pure ⟨_, rfl, wpAny_pure h⟩))) htake)
    | exact wpAny_bind (wpAny_bind (m := Builtin.Tuple.tupleExact _) (wpAny_newObj_type (wpAny_pure (wpAny_pure ⟨_, rfl, wpAny_pure h⟩)) htake))
    | exact wpAny_bind (wpAny_bind (m := Builtin.Tuple.tupleExact _) (wpAny_newObj_type (wpAny_pure ⟨_, rfl, wpAny_pure h⟩) htake))
end
end HT

namespace L2
open PySem PySem.Spec PyProof.Rows

/-! ### the parts of a slice -/
noncomputable abbrev TO := St → Hp → (Option Int → Hp → Prop) → Prop
/-- a slice's part (left out, or an int) -/
noncomputable def PO (X : Cx) (e : Option Expr) (t : TO) : Prop :=
  ∀ (pins : List (Addr × Obj)) (s : Shared) (σ : St) (H : Hp) (Q : Option Int → Hp → Prop), Inv X pins σ H s → t σ H Q →
    wpAny (model X.prog X.w) X.A (evalPart e X.env) (fun u s' => ∃ o H', Inv X pins σ H' s' ∧ IsPart u o ∧ Q o H') X.xe s
noncomputable def tNoPart : TO := fun _ H Q => Q none H
noncomputable def tPart (t : TE) : TO := fun σ H Q => t σ H fun x H1 => ∃ i, x = .int i ∧ Q (some i) H1

section
variable {X : Cx} {e : Expr} {te : TE} {lo hi : Option Expr} {tl th : TO} {pos p2 : Pos}

theorem po_none : PO X none tNoPart := by
  intro pins s σ H Q I h
  rw [evalPart_none]
  exact wpAny_pure ⟨none, H, I, .none, h⟩
theorem po_some (h : PE X e te) : PO X (some e) (tPart te) := by
  intro pins s σ H Q I hw
  rw [evalPart_some]
  refine thn (h pins s σ H _ I hw) fun u s1 ⟨x, H1, I1, r1, q1⟩ => ?_
  obtain ⟨i, rfl, q⟩ := q1
  obtain ⟨t, rfl⟩ := r1
  exact ⟨some i, H1, I1, .int i t, q⟩

/-- what a slice of a value is, by values: the slice object stands at sl -/
noncomputable def SlR (X : Cx) (r : V → Option Int → Option Int → Hp → VK → Prop) : Prop :=
  ∀ (pins : List (Addr × Obj)) (s : Shared) (σ : St) (H : Hp) (x : V) (v vl vu : Value) (lo hi : Option Int) (sl : Addr) (Q : VK), Inv X pins σ H s → RelV x v → s.heap.IsSliceOf sl vl vu .none → IsPart vl lo → IsPart vu hi → r x lo hi H Q →
    ∃ T id, typeLookup (.type T) "__getitem__" = pure (some (.builtin id)) ∧ s.TypeIs v T ∧ wpAny (model X.prog X.w) X.A (getItem v (.ref sl)) (EP X pins σ Q) X.xe s
noncomputable def tSl (r : V → Option Int → Option Int → Hp → VK → Prop) (te : TE) (tl th : TO) : TE := fun σ H Q => te σ H fun x H1 => tl σ H1 fun l H2 => th σ H2 fun u H3 => r x l u H3 Q
/-- a[lo:hi], any a -/
theorem pe_slice {r : V → Option Int → Option Int → Hp → VK → Prop} (hr : SlR X r) (he : PE X e te) (hl : PO X lo tl) (hu : PO X hi th) : PE X (.Subscript e (.Slice lo hi none p2) pos) (tSl r te tl th) := by
  intro pins s σ H Q I h
  refine Subscript_ (thn (he pins s σ H _ I h) fun v s1 ⟨x, H1, I1, r1, q1⟩ => ?_)
  refine wpAny_Slice (thn (hl pins s1 σ H1 _ I1 q1) fun vl s2 ⟨l, H2, I2, pl, q2⟩ => thn (hu pins s2 σ H2 _ I2 q2) fun vu s3 ⟨u, H3, I3, pu, q3⟩ => ?_)
  rw [evalPart_none]
  refine wpAny_pure ?_
  have I4 : Inv X pins σ H3 { s3 with heap := s3.heap.push { cls := .type "slice", data := .fields #[vl, vu, .none] } } := I3.kept (t' := s3.toks) fun b ob q => Heap.get?_push_of_some _ q
  obtain ⟨T, id, hT, ht, hg⟩ := hr pins { s3 with heap := s3.heap.push { cls := .type "slice", data := .fields #[vl, vu, .none] } } σ H3 x v vl vu l u s3.heap.objs.size Q I4 r1 (Heap.IsSliceOf.new ..) pl pu q3
  show wpAny (model X.prog X.w) X.A (subscriptTail e (.Slice lo hi none p2) v (.ref s3.heap.objs.size)) (EP X pins σ Q) X.xe { s3 with heap := s3.heap.push { cls := .type "slice", data := .fields #[vl, vu, .none] } }
  exact tail_any (ops := [.ref s3.heap.objs.size, v]) ht hT hg (by with_unfolding_all rfl)

/-- the items of xs[lo:hi] -/
noncomputable def cutV (xs : List V) (lo hi : Option Int) : List V := (xs.drop (HT.sIx xs.length 0 lo)).take (HT.sIx xs.length xs.length hi - HT.sIx xs.length 0 lo)
theorem cutV_length (xs : List V) (lo hi : Option Int) : (cutV xs lo hi).length ≤ xs.length := by
  unfold cutV
  rw [List.length_take, List.length_drop]
  omega
/-- t[lo:hi], not the whole of it (the whole would be t itself) -/
noncomputable def rSlT (K : PySem.W.Frag) : V → Option Int → Option Int → Hp → VK → Prop := fun x lo hi H Q => ∃ a xs, x = .ref a ∧ SqT K H a xs ∧
  ¬ (HT.sIx xs.length 0 lo = 0 ∧ HT.sIx xs.length xs.length hi = xs.length) ∧ ∀ p, H p = none → Q (.ref p) (upd H p (.tup (cutV xs lo hi)))
theorem sl_tup : SlR X (rSlT X.K) := by
  intro pins s σ H x v vl vu lo hi sl Q I rx hs pl pu h
  obtain ⟨a, xs, rfl, hx, hw, q⟩ := h
  cases rx
  obtain ⟨its, r, ht, hz⟩ := I.tuple hx
  have hlen : its.toArray.size = xs.length := by rw [List.size_toArray]; exact r.length.symm
  refine ⟨"tuple", _, PyProof.Rows.slot_tuple_getitem.lookup, ht.typeIs, ?_⟩
  refine HT.getItem_tuple_cut ht hs pl pu (by rw [hlen]; exact hw) ?_ (by rw [hlen]; exact hz)
  rw [hlen]
  refine ⟨.ref s.heap.objs.size, _, I.laid (t' := s.toks) (o := .tup (cutV xs lo hi)) (fun b ob q => Heap.get?_push_of_some _ q) (Nat.le_refl _) ?_, rfl, q _ (I.hok.fresh (Nat.le_refl _))⟩
  exact ⟨Nat.le_trans (cutV_length xs lo hi) hz, _, (r.drop (HT.sIx xs.length 0 lo)).take (HT.sIx xs.length xs.length hi - HT.sIx xs.length 0 lo), IsTup.new _ _⟩

/-! ### t < u, t + u -/
/-- t + u, t not empty: u empty gives t itself -/
noncomputable def rCatT (K : PySem.W.Frag) : R2 := fun x y H Q => ∃ a b xs ys, x = .ref a ∧ y = .ref b ∧ SqT K H a xs ∧ SqT K H b ys ∧ xs ≠ [] ∧ xs.length + ys.length ≤ sizeLine ∧
  (ys = [] → Q (.ref a) H) ∧ (ys ≠ [] → ∀ p, H p = none → Q (.ref p) (upd H p (.tup (xs ++ ys))))
theorem Vals.nil_iff {xs : List V} {us : List Value} (r : Vals xs us) : us = [] ↔ xs = [] := by
  cases r with
  | nil => simp
  | cons _ _ => simp
theorem op_catT : OpR X (binaryOp .Add) (rCatT X.K) := by
  intro pins s σ H x y v u Q I rx ry h
  obtain ⟨a, b, xs, ys, rfl, rfl, ha, hb, hx, hz, q1, q2⟩ := h
  cases rx
  cases ry
  obtain ⟨its, r1, p1, _⟩ := I.tuple ha
  obtain ⟨its2, r2, p2, _⟩ := I.tuple hb
  refine HT.cat_tup p1 p2 (fun z => hx (r1.nil_iff.mp z)) (fun z => ⟨.ref a, H, I, rfl, q1 (r2.nil_iff.mp z)⟩) (fun z => ?_) (by rw [← r1.length, ← r2.length]; exact hz)
  refine ⟨.ref s.heap.objs.size, _, I.laid (t' := s.toks) (o := .tup (xs ++ ys)) (fun b ob q => Heap.get?_push_of_some _ q) (Nat.le_refl _) ?_, rfl, q2 (fun w => z (r2.nil_iff.mpr w)) _ (I.hok.fresh (Nat.le_refl _))⟩
  exact ⟨by rw [List.length_append]; exact hz, _, r1.append r2, IsTup.new _ _⟩
end
end L2

namespace L2
open PySem PySem.Spec PyProof.Rows

/-! ### places -/
/-- the place that an index of any sign means -/
noncomputable def ixN (n : Nat) (i : Int) : Option Nat := if 0 ≤ i then (if i < n then some i.toNat else none) else if -(n : Int) ≤ i then some (i + n).toNat else none
noncomputable def atI {α : Type} (xs : List α) (i : Int) : Option α := (ixN xs.length i).bind fun j => xs[j]?
theorem ixN_seq {n : Nat} {i : Int} {j : Nat} (h : ixN n i = some j) : seqIndex? i n = some j ∧ j < n ∧ -(n : Int) ≤ i ∧ i < n := by
  unfold ixN at h
  by_cases h0 : 0 ≤ i
  · rw [if_pos h0] at h
    by_cases h1 : i < n
    · rw [if_pos h1] at h
      have e : i.toNat = j := Option.some.inj h
      exact ⟨by rw [seqIndex_of h0 h1, e], by omega, by omega, h1⟩
    · rw [if_neg h1] at h; cases h
  · rw [if_neg h0] at h
    by_cases h1 : -(n : Int) ≤ i
    · rw [if_pos h1] at h
      have e : (i + n).toNat = j := Option.some.inj h
      exact ⟨by rw [seqIndex_neg (by omega) h1, e], by omega, h1, by omega⟩
    · rw [if_neg h1] at h; cases h
theorem atI_get {α : Type} {xs : List α} {i : Int} {v : α} (h : atI xs i = some v) : ∃ j, seqIndex? i xs.length = some j ∧ xs[j]? = some v ∧ j < xs.length ∧ -(xs.length : Int) ≤ i ∧ i < xs.length := by
  unfold atI at h
  cases e : ixN xs.length i with
  | none => rw [e] at h; cases h
  | some j =>
    rw [e] at h
    obtain ⟨h1, h2, h3, h4⟩ := ixN_seq e
    exact ⟨j, h1, h, h2, h3, h4⟩
/-! ### what may be subscripted -/
/-- what stands as an index of a plain subscript -/
noncomputable def PlainIx (b : Expr) : Prop := ∀ o i, subscripted b false o i = operate [o, i] (getItem o i)
/-- a subscript by values -/
noncomputable def IxR (X : Cx) (r : R2) : Prop :=
  ∀ (value slice : Expr) (pins : List (Addr × Obj)) (s : Shared) (σ : St) (H : Hp) (x y : V) (v u : Value) (Q : VK), Inv X pins σ H s → RelV x v → RelV y u → r x y H Q →
    subscripted slice false v u = operate [v, u] (getItem v u) → wpAny (model X.prog X.w) X.A (subscriptTail value slice v u) (EP X pins σ Q) X.xe s
/-- a call of a builtin's method by values: the receiver, the arguments -/
noncomputable def MtR (X : Cx) (id : String) (r : V → List V → Hp → VK → Prop) : Prop :=
  ∀ (pins : List (Addr × Obj)) (s : Shared) (σ : St) (H : Hp) (x : V) (xs : List V) (v : Value) (us : List Value) (Q : VK), Inv X pins σ H s → RelV x v → Vals xs us → r x xs H Q →
    wpAny (model X.prog X.w) X.A (call (.builtin id) (v :: us)) (EP X pins σ Q) X.xe s
section
variable {X : Cx} {a b : Expr} {ta tb : TE} {pos : Pos}
/-- a[b] -/
theorem pe_ix {r : R2} (hr : IxR X r) (ha : PE X a ta) (hb : PE X b tb) (hs : PlainIx b) : PE X (.Subscript a b pos) (tOp r ta tb) := by
  intro pins s σ H Q I h
  exact Subscript_ (binT ha hb I h fun v u s2 x y H2 I2 rx ry q => hr a b pins s2 σ H2 x y v u Q I2 rx ry q (hs _ _))

noncomputable def rIxL (K : PySem.W.Frag) : R2 := fun x y H Q => ∃ p xs i v, x = .ref p ∧ y = .int i ∧ SqL K H p xs ∧ atI xs i = some v ∧ Q v H
noncomputable def rIxT (K : PySem.W.Frag) : R2 := fun x y H Q => ∃ p xs i v, x = .ref p ∧ y = .int i ∧ SqT K H p xs ∧ atI xs i = some v ∧ Q v H
noncomputable def rIxS : R2 := fun x y H Q => ∃ z i c, x = .str z ∧ y = .int i ∧ z.length ≤ sizeLine ∧ atI z.cps.toList i = some c ∧ Q (.str ⟨#[c]⟩) H
theorem ix_list : IxR X (rIxL X.K) := by
  intro value slice pins s σ H x y v u Q I rx ry h hs
  obtain ⟨p, xs, i, z, rfl, rfl, hq, he, q⟩ := h
  cases rx
  obtain ⟨t, rfl⟩ := ry
  obtain ⟨its, r, pl, hz⟩ := I.list hq
  obtain ⟨j, h1, h2, h3, h4, h5⟩ := atI_get he
  obtain ⟨w, ew, rw'⟩ := r.get h2
  have hl := r.length
  have hn := line63
  have fin : EP X pins σ Q w s := ⟨z, H, I, rw', q⟩
  by_cases h0 : 0 ≤ i
  · have hj : i.toNat = j := by
      rw [seqIndex_of h0 h5] at h1
      exact Option.some.inj h1
    exact item_listR pl.isList h0 (by omega) (by rw [hj]; simpa using ew) fin hs
  · have hj : (i + (its.toArray.size : Int)).toNat = j := by
      rw [seqIndex_neg (by omega) h4] at h1
      rw [List.size_toArray, ← hl]
      exact Option.some.inj h1
    exact subscriptTail_builtinR (x := w) pl.isList.typeIs slot_list_getitem.lookup
      (wpAny_getItem_list_neg (Q := fun r s' => r = w ∧ EP X pins σ Q r s') pl.isList (by omega) (by rw [List.size_toArray] <;> omega) (by omega) (by rw [hj]; simpa using ew) ⟨rfl, fin⟩) hs
theorem ix_tup : IxR X (rIxT X.K) := by
  intro value slice pins s σ H x y v u Q I rx ry h hs
  obtain ⟨p, xs, i, z, rfl, rfl, hq, he, q⟩ := h
  cases rx
  obtain ⟨t, rfl⟩ := ry
  obtain ⟨its, r, pl, hz⟩ := I.tuple hq
  obtain ⟨j, h1, h2, h3, h4, h5⟩ := atI_get he
  obtain ⟨w, ew, rw'⟩ := r.get h2
  have hl := r.length
  have hn := line63
  have fin : EP X pins σ Q w s := ⟨z, H, I, rw', q⟩
  exact subscriptTail_builtinR (x := w) pl.typeIs slot_tuple_getitem.lookup
    (getItem_tuple (j := j) (Q := fun r s' => r = w ∧ EP X pins σ Q r s') pl (by omega) (by omega) (by rw [List.size_toArray, ← hl]; exact h1) (by simpa using ew) ⟨rfl, fin⟩) hs
theorem ix_str : IxR X rIxS := by
  intro value slice pins s σ H x y v u Q I rx ry h hs
  obtain ⟨z, i, c, rfl, rfl, hz, he, q⟩ := h
  obtain ⟨t, rfl⟩ := rx
  obtain ⟨t', rfl⟩ := ry
  obtain ⟨j, h1, h2, h3, h4, h5⟩ := atI_get he
  have hl : z.cps.toList.length = z.length := by simp [Str.length]
  rw [hl] at h1 h4 h5
  have hn := line63
  exact tail_any (typeIs_str s z t) slot_str_getitem.lookup (getItem_str (c := c) (by
    have e1 : decide (i < -(2 ^ 63 : Int)) = false := decide_eq_false (by omega)
    have e2 : decide (i ≥ 2 ^ 63) = false := decide_eq_false (by omega)
    rw [e1, e2, Bool.or_false]) (by rw [h1]; simpa using h2) ⟨.str ⟨#[c]⟩, H, I.tok _, ⟨_, rfl⟩, q⟩) hs
/-! ### xs[i] = v, any sign -/
/-- the list's object behind a store -/
theorem mapSeq_set (its : List Value) (n j : Nat) (u : Value) : Obj.mapSeq (·.setIfInBounds j u) { cls := .type "list", data := .seq its.toArray n } = { cls := .type "list", data := .seq (its.set j u).toArray n } := by
  simp [Obj.mapSeq]
theorem Inv.lst {pins : List (Addr × Obj)} {σ : St} {H : Hp} {s : Shared} {p : Addr} {xs : List V} (I : Inv X pins σ H s) (h : H p = some (.lst xs)) :
    ∃ (its : List Value) (n : Nat), Vals xs its ∧ s.heap.get? p = some { cls := .type "list", data := .seq its.toArray n } ∧ xs.length ≤ sizeLine := by
  obtain ⟨z, its, n, r, e⟩ := I.hok p _ h
  exact ⟨its, n, r, e, z⟩
/-- the list at p is written by an update of its object -/
theorem Inv.lstUpd {pins : List (Addr × Obj)} {σ : St} {H : Hp} {s : Shared} {p : Addr} {xs ys : List V} {its its' : List Value} {n n' : Nat} {f : Obj → Obj} (I : Inv X pins σ H s) (h : H p = some (.lst xs))
    (ho : s.heap.get? p = some { cls := .type "list", data := .seq its.toArray n }) (hf : f { cls := .type "list", data := .seq its.toArray n } = { cls := .type "list", data := .seq its'.toArray n' }) (r : Vals ys its') (hz : ys.length ≤ sizeLine) (t : Nat) :
    Inv X pins σ (upd H p (.lst ys)) { s with heap := s.heap.update p f, toks := t } := by
  have e : (s.heap.update p f).get? p = some { cls := .type "list", data := .seq its'.toArray n' } := by
    rw [Heap.get?_update_self f ho (by rw [hf] <;> rfl), hf]
  refine I.write (x := p) (e := p) (by rw [h]; trivial) (.inl rfl) (fun b u hb q => (Heap.get?_update_other _ _ (Ne.symm hb)).trans q) ⟨_, e⟩ ?_
  exact ⟨hz, its', n', r, e⟩
noncomputable def rSetL : V → V → V → Hp → (Hp → Prop) → Prop := fun o i v H Q => ∃ p xs k j, o = .ref p ∧ i = .int k ∧ H p = some (.lst xs) ∧ ixN xs.length k = some j ∧ Q (upd H p (.lst (xs.set j v)))
theorem set_list : PSet X rSetL := by
  intro pins s σ H o i v ov iv u Q I ro ri rv h
  obtain ⟨p, xs, k, j, rfl, rfl, hp, hj, q⟩ := h
  cases ro
  obtain ⟨t, rfl⟩ := ri
  obtain ⟨its, n, r, ho, hz⟩ := I.lst hp
  obtain ⟨h1, h2, h3, h4⟩ := ixN_seq hj
  have hl := r.length
  have hn := line63
  have I' : Inv X pins σ (upd H p (.lst (xs.set j v))) { s with heap := s.heap.update p (Obj.mapSeq (·.setIfInBounds j u)) } :=
    I.lstUpd hp ho (mapSeq_set its n j u) (r.set rv j) (by rw [List.length_set]; exact hz) s.toks
  by_cases h0 : 0 ≤ k
  · have hk : k.toNat = j := by
      rw [seqIndex_of h0 h4] at h1
      exact Option.some.inj h1
    exact PySem.W.ki_setAt ho h0 (by omega) (by rw [List.size_toArray, ← hl]; exact h4) (by rw [hk]; exact ⟨_, I', q⟩)
  · have hk : (k + (its.toArray.size : Int)).toNat = j := by
      rw [seqIndex_neg (by omega) h3] at h1
      rw [List.size_toArray, ← hl]
      exact Option.some.inj h1
    exact PySem.W.ki_setBack ho (by omega) (by rw [List.size_toArray, ← hl]; exact h3) (by omega) (by rw [hk]; exact ⟨_, I', q⟩)

/-! ### slices -/
theorem slice_bounds (lo hi : Option Int) (n : Nat) : (sliceBounds lo hi none n).1 = ((HT.sIx n 0 lo : Nat) : Int) ∧ (sliceBounds lo hi none n).2.1 = ((HT.sIx n n hi : Nat) : Int) ∧ (sliceBounds lo hi none n).2.2 = 1 := by
  refine ⟨?_, ?_, rfl⟩
  · cases lo with
    | none => simp [sliceBounds, HT.sIx]
    | some i =>
      simp only [sliceBounds, HT.sIx, Option.getD_none, show (1 : Int) > 0 by decide, if_true]
      by_cases h : i < 0
      · simp only [h, if_true] <;> omega
      · simp only [h, if_false] <;> omega
  · cases hi with
    | none => simp [sliceBounds, HT.sIx]
    | some i =>
      simp only [sliceBounds, HT.sIx, Option.getD_none, show (1 : Int) > 0 by decide, if_true]
      by_cases h : i < 0
      · simp only [h, if_true] <;> omega
      · simp only [h, if_false] <;> omega
theorem slicePick_cut (its : List Value) (lo hi : Option Int) : slicePick its.toArray lo hi none = ((its.drop (HT.sIx its.length 0 lo)).take (HT.sIx its.length its.length hi - HT.sIx its.length 0 lo)).toArray := by
  obtain ⟨h1, h2, h3⟩ := slice_bounds lo hi its.toArray.size
  unfold slicePick
  rw [h1, h2, h3]
  simp only [sliceRange_one, pick_run, List.size_toArray] <;> rfl
/-- xs[lo:hi] of a list: a new list -/
noncomputable def rSlL (K : PySem.W.Frag) : V → Option Int → Option Int → Hp → VK → Prop := fun x lo hi H Q => ∃ a xs, x = .ref a ∧ SqL K H a xs ∧ ∀ p, H p = none → Q (.ref p) (upd H p (.lst (cutV xs lo hi)))
theorem sl_list : SlR X (rSlL X.K) := by
  intro pins s σ H x v vl vu lo hi sl Q I rx hs pl pu h
  obtain ⟨a, xs, rfl, hx, q⟩ := h
  cases rx
  obtain ⟨its, r, ht, hz⟩ := I.list hx
  have hlen := r.length
  refine ⟨"list", _, slot_list_getitem.lookup, ht.isList.typeIs, ?_⟩
  refine wpAny_getItem_list_slice ht.isList hs pl pu .none (by simp) ?_ (by rw [List.size_toArray] <;> omega)
  rw [slicePick_cut, ← hlen]
  refine ⟨.ref s.heap.objs.size, _, I.laid (t' := s.toks) (o := .lst (cutV xs lo hi)) (fun b ob q => Heap.get?_push_of_some _ q) (Nat.le_refl _) ?_, rfl, q _ (I.hok.fresh (Nat.le_refl _))⟩
  exact ⟨Nat.le_trans (cutV_length xs lo hi) hz, _, 0, (r.drop (HT.sIx xs.length 0 lo)).take (HT.sIx xs.length xs.length hi - HT.sIx xs.length 0 lo), Heap.get?_push_size _ rfl⟩

/-! ### in, not in: flat items -/
noncomputable def flatV : V → Bool
  | .non => true
  | .bl _ => true
  | .int _ => true
  | .str _ => true
  | _ => false
/-- == of flat values -/
noncomputable def eqV : V → V → Bool
  | .non, .non => true
  | .bl a, .bl b => a == b
  | .bl a, .int b => (if a then 1 else 0) == b
  | .int a, .bl b => a == (if b then 1 else 0)
  | .int a, .int b => a == b
  | .str a, .str b => a == b
  | _, _ => false
theorem eqAt_V {A : Around} {s : Shared} {y x : V} {u v : Value} (ry : RelV y u) (rx : RelV x v) (fy : flatV y = true) (fx : flatV x = true) : SeqAt.EqAt A s u v (eqV y x) := by
  cases y with
  | non =>
    cases ry
    cases x with
    | non => cases rx; exact SeqAt.EqAt.same _
    | bl b => cases rx; exact SeqAt.EqAt.none_bool b
    | int b => obtain ⟨t, rfl⟩ := rx; exact SeqAt.EqAt.none_int b t
    | str b => obtain ⟨t, rfl⟩ := rx; exact SeqAt.EqAt.none_str b t
    | _ => exact absurd (show false = true from fx) Bool.false_ne_true
  | bl a =>
    cases ry
    cases x with
    | non => cases rx; exact SeqAt.EqAt.bool_none a
    | bl b => cases rx; exact SeqAt.EqAt.bool_bool a b
    | int b => obtain ⟨t, rfl⟩ := rx; exact SeqAt.EqAt.bool_int a b t
    | str b => obtain ⟨t, rfl⟩ := rx; exact SeqAt.EqAt.bool_str a b t
    | _ => exact absurd (show false = true from fx) Bool.false_ne_true
  | int a =>
    obtain ⟨t', rfl⟩ := ry
    cases x with
    | non => cases rx; exact SeqAt.EqAt.int_none a t'
    | bl b => cases rx; exact SeqAt.EqAt.int_bool a t' b
    | int b => obtain ⟨t, rfl⟩ := rx; exact SeqAt.EqAt.int_int a t' b t
    | str b => obtain ⟨t, rfl⟩ := rx; exact SeqAt.EqAt.int_str a t' b t
    | _ => exact absurd (show false = true from fx) Bool.false_ne_true
  | str a =>
    obtain ⟨t', rfl⟩ := ry
    cases x with
    | non => cases rx; exact SeqAt.EqAt.str_none a t'
    | bl b => cases rx; exact SeqAt.EqAt.str_bool a t' b
    | int b => obtain ⟨t, rfl⟩ := rx; exact SeqAt.EqAt.str_int a t' b t
    | str b => obtain ⟨t, rfl⟩ := rx; exact SeqAt.EqAt.str_str a t' b t
    | _ => exact absurd (show false = true from fx) Bool.false_ne_true
  | _ => exact absurd (show false = true from fy) Bool.false_ne_true
/-- the items' answers, read off the values (a value's own answer does not lean on its token) -/
noncomputable def eqU (x : V) (u : Value) : Bool := match u with
  | .none => eqV .non x
  | .bool b => eqV (.bl b) x
  | .int i _ => eqV (.int i) x
  | .str z _ => eqV (.str z) x
  | _ => false
theorem eqU_of {x y : V} {u : Value} (r : RelV y u) (f : flatV y = true) : eqU x u = eqV y x := by
  cases y with
  | non => cases r; rfl
  | bl b => cases r; rfl
  | int i => obtain ⟨t, rfl⟩ := r; rfl
  | str z => obtain ⟨t, rfl⟩ := r; rfl
  | _ => exact absurd (show false = true from f) Bool.false_ne_true
theorem any_eqU {x : V} : ∀ {xs : List V} {us : List Value}, Vals xs us → xs.all flatV = true → us.any (eqU x) = xs.any fun y => eqV y x
  | _, _, .nil, _ => rfl
  | y :: xs, u :: us, .cons r t, f => by
    rw [List.all_cons, Bool.and_eq_true] at f
    rw [List.any_cons, List.any_cons, eqU_of r f.1, any_eqU t f.2]
theorem mem_eqAt {A : Around} {s : Shared} {x : V} {v : Value} (rx : RelV x v) (fx : flatV x = true) : ∀ {xs : List V} {us : List Value}, Vals xs us → xs.all flatV = true → ∀ u ∈ us, SeqAt.EqAt A s u v (eqU x u)
  | _, _, .nil, _ => fun u hu => by cases hu
  | y :: xs, u :: us, .cons r t, f => fun u' hu => by
    rw [List.all_cons, Bool.and_eq_true] at f
    rcases List.mem_cons.mp hu with rfl | hu
    · rw [eqU_of r f.1]; exact eqAt_V r rx f.1 fx
    · exact mem_eqAt rx fx t f.2 u' hu
noncomputable def inV (x : V) (xs : List V) : Bool := xs.any fun y => eqV y x
/-- x in a list or tuple of flat items -/
noncomputable def rIn (K : PySem.W.Frag) (neg : Bool) : R2 := fun x y H Q => ∃ p xs, y = .ref p ∧ (SqL K H p xs ∨ SqT K H p xs) ∧ flatV x = true ∧ xs.all flatV = true ∧ Q (.bl (if neg then !inV x xs else inV x xs)) H
theorem op_in_seq : OpR X (compareOp .In) (rIn X.K false) := by
  intro pins s σ H x y v u Q I rx ry h
  obtain ⟨p, xs, rfl, hq, fx, fs, q⟩ := h
  cases ry
  rcases hq with hq | hq
  · obtain ⟨its, r, pl, hz⟩ := I.list hq
    refine SeqAt.in_listAt (eqU x) pl.isList (fun w hw => mem_eqAt rx fx r fs w (by simpa using hw)) ⟨.bl _, H, I, rfl, ?_⟩
    rw [show its.toArray.any (eqU x) = its.any (eqU x) by simp, any_eqU r fs]
    exact q
  · obtain ⟨its, r, pl, hz⟩ := I.tuple hq
    refine SeqAt.in_tupleAt (eqU x) pl (fun w hw => mem_eqAt rx fx r fs w (by simpa using hw)) ⟨.bl _, H, I, rfl, ?_⟩
    rw [show its.toArray.any (eqU x) = its.any (eqU x) by simp, any_eqU r fs]
    exact q
theorem op_notIn_seq : OpR X (compareOp .NotIn) (rIn X.K true) := by
  intro pins s σ H x y v u Q I rx ry h
  obtain ⟨p, xs, rfl, hq, fx, fs, q⟩ := h
  cases ry
  rcases hq with hq | hq
  · obtain ⟨its, r, pl, hz⟩ := I.list hq
    refine SeqAt.notIn_listAt (eqU x) pl.isList (fun w hw => mem_eqAt rx fx r fs w (by simpa using hw)) ⟨.bl _, H, I, rfl, ?_⟩
    rw [show its.toArray.any (eqU x) = its.any (eqU x) by simp, any_eqU r fs]
    exact q
  · obtain ⟨its, r, pl, hz⟩ := I.tuple hq
    refine SeqAt.notIn_tupleAt (eqU x) pl (fun w hw => mem_eqAt rx fx r fs w (by simpa using hw)) ⟨.bl _, H, I, rfl, ?_⟩
    rw [show its.toArray.any (eqU x) = its.any (eqU x) by simp, any_eqU r fs]
    exact q
theorem op_notIn_str : OpR X (compareOp .NotIn) (fun x y H Q => ∃ i j, x = .str i ∧ y = .str j ∧ Q (.bl (!(!(Builtin.Str.occurrences j i 0 j.length 1).isEmpty))) H) := by
  intro pins s σ H x y v u Q I rx ry h
  obtain ⟨i, j, rfl, rfl, q⟩ := h
  obtain ⟨t, rfl⟩ := rx
  obtain ⟨t', rfl⟩ := ry
  exact notIn_str ⟨.bl _, H, I, rfl, q⟩

/-! ### len, list(x), tuple(x) of any list or tuple that is read -/
theorem call_len_seq : CallR X (.builtin "len") (fun xs H Q => ∃ p ys, xs = [.ref p] ∧ (SqL X.K H p ys ∨ SqT X.K H p ys) ∧ Q (.int ys.length) H) := by
  intro pins s σ H xs us Q I r h
  obtain ⟨p, ys, rfl, hq, q⟩ := h
  obtain ⟨u, rfl, rx⟩ := vals1 r
  cases rx
  have hn := line63
  rcases hq with hq | hq
  · obtain ⟨its, r', pl, hz⟩ := I.list hq
    have hlen := r'.length
    exact Calls.call_len_list pl.isList (by simp only [List.size_toArray] <;> omega) ⟨.int ys.length, H, I.tok _, ⟨s.toks + 1, by rw [List.size_toArray, hlen]⟩, q⟩
  · obtain ⟨its, r', pl, hz⟩ := I.tuple hq
    have hlen := r'.length
    exact len_tuple pl (by simp only [List.size_toArray] <;> omega) ⟨.int ys.length, H, I.tok _, ⟨s.toks + 1, by rw [List.size_toArray, hlen]⟩, q⟩
theorem call_len_str : CallR X (.builtin "len") (fun xs H Q => ∃ z, xs = [.str z] ∧ z.length ≤ sizeLine ∧ Q (.int z.length) H) := by
  intro pins s σ H xs us Q I r h
  obtain ⟨z, rfl, hz, q⟩ := h
  obtain ⟨u, rfl, t, rfl⟩ := vals1 r
  have hn := line63
  exact len_str (by omega) ⟨.int z.length, H, I.tok _, ⟨_, rfl⟩, q⟩
/-! ### the call of a builtin's method: o.m(..) -/
/-- the value is of that builtin type -/
noncomputable def tyV (K : PySem.W.Frag) (T : String) (x : V) (H : Hp) : Prop := match x with
  | .str _ => T = "str"
  | .int _ => T = "int"
  | .ref p => (T = "list" ∧ ∃ xs, SqL K H p xs) ∨ (T = "tuple" ∧ ∃ o, K.lookup p = some o ∧ o.cls = .type "tuple" ∧ o.dict = none) ∨
      (T = "dict" ∧ ((∃ kvs, H p = some (.dK kvs)) ∨ ∃ kvs, H p = some (.dT kvs))) ∨ (T = "set" ∧ ∃ S n, H p = some (.set S n))
  | _ => False
variable {o e : Expr} {es : List Expr} {to : TE} {t : TA} {name : Str} {apos cpos : Pos} {T id : String} {r : V → List V → Hp → VK → Prop}
/- xs.append(e), list.index on a module's tuple .. are MtR facts of 06m -/
end
end L2

namespace L2
open PySem PySem.Spec PyProof.Rows

noncomputable def MtM (X : Cx) (id : String) (r : V → List V → Hp → VK → Prop) : Prop :=
  ∀ (pins : List (Addr × Obj)) (s : Shared) (σ : St) (H : Hp) (x : V) (xs : List V) (v : Value) (us : List Value) (Q : VK), Inv X pins σ H s → RelV x v → Vals xs us → r x xs H Q →
    wpAny (model X.prog X.w) X.A (call (.builtin id) (v :: us)) (EP X pins σ Q) X.xe s

/-! ### lists of values -/
theorem Vals.one : ∀ {x : V} {us : List Value}, Vals [x] us → ∃ u, us = [u] ∧ RelV x u
  | _, _, .cons r .nil => ⟨_, rfl, r⟩
section
variable {X : Cx} {pins : List (Addr × Obj)} {σ : St} {H : Hp} {s : Shared} {l b : Addr} {xs ys zs : List V}

/-! ### the two steps: a tracked list is rewritten, a new list is laid -/
theorem Inv.lset {its its' : List Value} {n : Nat} {f : Array Value → Array Value} {t' : Nat} (I : Inv X pins σ H s) (hH : H l = some (.lst xs))
    (e : s.heap.get? l = some { cls := .type "list", data := .seq its.toArray n }) (hf : f its.toArray = its'.toArray) (hv : Vals ys its') (hz : ys.length ≤ sizeLine) :
    Inv X pins σ (upd H l (.lst ys)) { s with heap := s.heap.update l (Obj.mapSeq f), toks := t' } := by
  have q := PySem.IsL.update e f
  rw [hf] at q
  refine I.write (x := l) (e := l) (by rw [hH]; exact trivial) (.inl rfl) (fun b' u hb hu => (Heap.get?_update_other s.heap (Obj.mapSeq f) (Ne.symm hb)).trans hu) ⟨_, q⟩ ?_
  exact ⟨hz, its', _, hv, q⟩
theorem Inv.lnew {its : List Value} {t' : Nat} (I : Inv X pins σ H s) (hv : Vals ys its) (hz : ys.length ≤ sizeLine) :
    Inv X pins σ (upd H s.heap.objs.size (.lst ys)) { s with heap := s.heap.push { cls := .type "list", data := .seq its.toArray }, toks := t' } :=
  I.laid (fun _ _ q => Heap.get?_push_of_some _ q) (Nat.le_refl _) ⟨hz, its, 0, hv, Heap.get?_push_size _ rfl⟩
theorem Inv.fresh (I : Inv X pins σ H s) : H s.heap.objs.size = none := I.hok.fresh (Nat.le_refl _)
theorem Inv.lstM (I : Inv X pins σ H s) (hH : H l = some (.lst xs)) : xs.length ≤ sizeLine ∧ ∃ (its : List Value) (n : Nat), Vals xs its ∧ xs.length = its.length ∧ s.heap.get? l = some { cls := .type "list", data := .seq its.toArray n } := by
  obtain ⟨z, its, n, r, e⟩ := I.hok l _ hH
  exact ⟨z, its, n, r, r.length, e⟩

end

section
variable {X : Cx}

/-! ### methods -/
noncomputable def rAppend : V → List V → Hp → VK → Prop := fun x vs H Q => ∃ l xs y, x = .ref l ∧ vs = [y] ∧ H l = some (.lst xs) ∧ xs.length < sizeLine ∧ Q .non (upd H l (.lst (xs ++ [y])))
theorem mt_append : MtM X "list.append" rAppend := by
  intro pins s σ H x vs v us Q I rx rv h
  obtain ⟨l, xs, y, rfl, rfl, hH, hz, q⟩ := h
  cases rx
  obtain ⟨u, rfl, ru⟩ := rv.one
  obtain ⟨z, its, n, r, hl, e⟩ := I.lstM hH
  refine call_meets F.slot_list_append ⟨_, e, rfl⟩ F.entry_list_append (F.args_list_append_2 _ _) (PySem.list_append l its.toArray n u (by rw [List.size_toArray]; omega)) ⟨e, ?_⟩
  refine ⟨.non, _, I.lset (its' := its ++ [u]) hH e (by simp) (r.append (.cons ru .nil)) ?_, rfl, q⟩
  rw [List.length_append, List.length_singleton]
  omega

/-! ### list + list, list += list, list * int -/
/-! ### del xs[i] -/
end

/-! ### xs[a:b] = ys -/
section
variable {prog : Program} {w : World} {A : Around} {E : Value → Shared → Prop} {s : Shared}
end

section
variable {X : Cx}
end
end L2

namespace Att
open PySem PySem.W PySem.Calls PyProof.Rows

/-! ### the script -/
theorem ints_of_wellAll {P : Params} {h : Heap} : ∀ (ns : List Int) (vs : List Value), WellAll P h vs (ns.map WData.int) → IntsAre vs ns := by
  intro ns
  induction ns with
  | nil =>
    intro vs w
    rw [List.map_nil] at w
    cases w
    exact .nil
  | cons n ns ih =>
    intro vs w
    rw [List.map_cons] at w
    cases w with
    | cons a b =>
      cases a
      exact .cons _ _ (ih _ b)

theorem script_of {l : OpenLaw} {n : Nat} (hn : l.most = some n) {P : Params} {h : Heap} {args : List WData} {vals : List Value}
    (hpre : l.row.toRowW.claim.pre args = true) (hwl : WellAll P h vals args) :
    ∃ a vs ns, vals = [Value.ref a] ∧ args = [WData.list (ns.map WData.int)] ∧ h.get? a = some { cls := .type "list", data := .seq vs.toArray } ∧ IntsAre vs ns ∧ ns.length ≤ n := by
  have hsh : WShape.hasAll [] args [.list .int] = true := (pre_splitW hpre).1
  have hc : l.pre.holds [] { args := args } = true := (pre_splitW hpre).2
  obtain ⟨d, r, rfl, h1, h2⟩ := hasAllW_cons hsh
  obtain rfl := hasAllW_nil h2
  obtain ⟨xs, rfl, h3⟩ := hasW_list h1
  obtain ⟨ns, rfl⟩ := items_int h3
  have hlen : ns.length ≤ n := by
    unfold OpenLaw.pre at hc
    have h4 : (WTm.not (.lt (.lit (.int (n : Int))) (.len (.arg 0)))).holds [] { args := [.list (ns.map .int)] } = true := by
      have h4 := (holds_andW hc).1
      rw [hn] at h4
      exact h4
    have h5 := condW_of h4 (w_not (w_lt w_lit (w_len_list (w_arg rfl))))
    rw [List.length_map] at h5
    refine Nat.le_of_not_lt fun q => ?_
    have q' : (n : Int) < ((ns.length : Nat) : Int) := by omega
    first
      | (rw [decide_eq_true q'] at h5; exact absurd h5 (by decide))
      | (simp at h5; omega)
  cases hwl with
  | cons w1 w2 =>
    cases w2
    cases w1 with
    | list ho hall => exact ⟨_, _, ns, rfl, rfl, ho, ints_of_wellAll ns _ hall, hlen⟩

theorem post_true (l : OpenLaw) (args : List WData) : l.row.toRowW.claim.post args (.bool true) args = true :=
  postW_of (r := l.row.toRowW) (X := (true == true))
    (show WShape.has [] (.bool true) .bool = true by first | rfl | decide | simp [WShape.has, WShape.arms, WShape.armsAll])
    (show (WTm.eq .res (.lit (.bool true))).value [] { args := args, res := some (.bool true), after := args } = some (.bool (true == true)) from w_eq_bool (w_res rfl) w_lit) rfl

/-! ### the attachment: holds_open's last premise (the goal 'hc' behind k_head) from a wpAny of the law's body -/
/-! ### rules over ANY heap (no ledger) from facts about the written part K: the library's own take a ledger (News) for what they write -/
section
variable {prog : Program} {w : World} {A : Around} {E : Value → Shared → Prop} {s : Shared} {K : Frag}

/-! the whole heap as the ledger: makes every rule that writes through a ledger a rule over any heap -/
noncomputable def ledger (h : Heap) (L d : Addr) : List (Addr × Obj) := (List.range h.objs.size).filterMap fun a => if a = L ∨ a = d then none else (h.get? a).map fun o => (a, o)
end
end Att

namespace L2
open PySem PySem.Spec PyProof.Rows

theorem vals_ints : ∀ {vs : List Value} {ns : List Int}, IntsAre vs ns → Vals (ns.map V.int) vs
  | _, _, .nil => .nil
  | _, _, .cons n t h => .cons ⟨t, rfl⟩ (vals_ints h)

/-- nothing is tracked but the script, known to the object (or it is an object of the module) -/
noncomputable def Only (H : Hp) : Prop := ∀ b, H b = none ∨ ∃ o xs, H b = some (.frz o (.lst xs))

/-- THE HEAD: the law's promise, at the heap behind the top. F, the promise of the law's def, may use that base is part of the heap (so K.In base, base.Ns mainGlobals mg stand in Mod) -/
theorem law_call {P : Program} {w : World} {K : PySem.W.Frag} {mg mb : Str → Option Value} {CX : CXT} {k : Nat} {fa a : Addr} {fd : FuncData} {x : Str} {sp : Sp} {s₁ : Shared} {vs : List Value} {ns : List Int}
    (KX : K.In s₁.heap) (hns : s₁.heap.Ns mainGlobals mg) (hb : s₁.heap.Ns builtinsNs mb) (hbb : ∀ x : Str, x ≠ "__name__" → mb x = bootBuiltins x) (hlim : s₁.heap.NoLimit) (hg : s₁.gens = #[])
    (ha : s₁.heap.get? a = some { cls := .type "list", data := .seq vs.toArray }) (hi : IntsAre vs ns) (hl : ns.length ≤ sizeLine) (hr : Room k callerA)
    (F : ∀ base : Heap, K.In base → base.Ns mainGlobals mg → FnOk P w K mg base CX k fa fd [x] sp) (hbind : ∀ (s : Shared) (u : Value), BindsTo s fd ⟨[u], []⟩ [(x, u)])
    (hsp : ∀ H : Hp, Only H → SqL K H a (ns.map V.int) → sp [.ref a] H (fun v _ => v = .bl true) fun _ _ _ => False)
    (hCX : ∀ H e s', CX [] H s₁ (fun _ _ _ => False) e s' → False) :
    codeAny (model P w) callerA (.call (.ref fa) ⟨[.ref a], []⟩) (fun r s' => r = .ok (.ret (.bool true)) ∧ OldK s₁.heap s'.heap ∧ s'.os = s₁.os ∧ AllBare s'.gens) s₁ := by
  have rv := vals_ints hi
  have lenV := hi.length
  -- from an abstract heap in which nothing but the script may be tracked
  have core : ∀ H : Hp, Only H → SqL K H a (ns.map V.int) → HOk P w H s₁.heap → (∀ b, H b ≠ none → b = a) → (H a ≠ none → K.lookup a = none) →
      codeAny (model P w) callerA (.call (.ref fa) ⟨[.ref a], []⟩) (fun r s' => r = .ok (.ret (.bool true)) ∧ OldK s₁.heap s'.heap ∧ s'.os = s₁.os ∧ AllBare s'.gens) s₁ := by
    intro H hO hS hok hA hK
    have base_of : ∀ {b : Addr} {o : Obj}, s₁.heap.get? b = some o → H b = none → (hidT s₁.heap H).get? b = some o := fun e n => hidT_get e n
    have noA : ∀ {b : Addr} {o : Obj} {es : Array DictEntry} {ep : Nat}, s₁.heap.get? b = some o → o.data = .dict es ep → H b = none := fun {b o es ep} e d => by
      cases q : H b with
      | none => rfl
      | some u =>
        have e' : b = a := hA b (by rw [q]; simp)
        subst e'
        rw [ha] at e; cases e
        have d' : Data.seq vs.toArray _ = Data.dict es ep := d
        cases d'
    have nsK : ∀ {b : Addr} {m : Str → Option Value}, s₁.heap.Ns b m → (hidT s₁.heap H).Ns b m := fun {b m} ⟨o, es, ep, e, d, r⟩ => ⟨o, es, ep, base_of e (noA e d), d, r⟩
    have hKb : K.In (hidT s₁.heap H) := fun b o e => base_of (KX b o e) (by
      cases q : H b with
      | none => rfl
      | some u =>
        have e' : b = a := hA b (by rw [q]; simp)
        subst e'
        rw [hK (by rw [q]; simp)] at e; cases e)
    have hM : Mod K mg (hidT s₁.heap H) := ⟨hKb, nsK hns, ⟨mb, nsK hb, hbb⟩, let ⟨mc, h1, h2⟩ := hlim; ⟨mc, nsK h1, h2⟩⟩
    have e0 : Env0 P w K mg (hidT s₁.heap H) callerA [] s₁ H := ⟨rfl, hM, fun b o e => of_hidT e, Nat.le_of_eq (hidT_size _ _), trivial, fun b hb => absurd (show b ∈ ([] : List Addr) from hb) (by simp), hok, .of_eq hg⟩
    refine codeAny_mono ((F _ hKb (nsK hns)).run callerA [] s₁ H ⟨[.ref a], []⟩ [.ref a] [.ref a] _ _ hr e0 (hbind s₁ (.ref a)) (.cons rfl .nil) (hsp H hO hS)) fun r s' h => ?_
    cases r with
    | error e => exact (hCX H e s' h).elim
    | ok fl =>
      cases fl with
      | next => exact False.elim h
      | brk => exact False.elim h
      | cont => exact False.elim h
      | ret u =>
        obtain ⟨v, H', os, bare, un, hok', r', q⟩ := h
        have q' : v = .bl true := q
        subst q'
        obtain rfl : u = Value.bool true := r'
        refine ⟨rfl, OldK.of_keep fun b o e => ?_, os, bare⟩
        cases q : H b with
        | none => exact un.keep b o e q (by intro z; exact absurd (show b ∈ ([] : List Addr) from z) (by simp)) (by simp)
        | some u =>
          rcases hO b with z | ⟨ob, xs, z⟩
          · rw [q] at z; cases z
          · have z2 := un.frzs b ob _ z
            obtain ⟨e1, _⟩ := hok b _ z
            obtain ⟨e2, _⟩ := hok' b _ z2
            rw [e] at e1; cases e1
            exact e2
  cases hk : K.lookup a with
  | some o =>
    -- the script is one of the module's own objects
    have e := KX a o hk
    rw [ha] at e
    cases e
    refine core (fun _ => none) (fun _ => .inl rfl) (.inr ⟨_, vs.toArray, _, hk, rfl, rfl, rfl, by rw [List.size_toArray, lenV]; exact hl, by simpa using rv⟩) (fun b u z => by have z' : (none : Option HO) = some u := z; cases z') (fun b z => absurd rfl z) fun z => absurd rfl z
  | none =>
    refine core (fun b => if b = a then some (.frz { cls := .type "list", data := .seq vs.toArray } (.lst (ns.map V.int))) else none) (fun b => ?_) (.inl (.inr ⟨{ cls := .type "list", data := .seq vs.toArray }, if_pos rfl⟩)) (fun b u z => ?_) (fun b z => ?_) fun _ => hk
    · by_cases hb : b = a
      · exact .inr ⟨_, _, if_pos hb⟩
      · exact .inl (if_neg hb)
    · by_cases hb : b = a
      · have z' := (if_pos hb).symm.trans z
        cases z'
        subst hb
        exact ⟨ha, by rw [List.length_map]; exact hl, vs, _, rv, ha⟩
      · have z' := (if_neg hb).symm.trans z
        cases z'
    · by_cases hb : b = a
      · exact hb
      · exact absurd (if_neg hb) z
end L2

namespace L2
open PySem PySem.Spec PyProof.Rows

noncomputable abbrev KOf {K : PySem.W.Frag} {h : Heap} (_ : K.In h) : PySem.W.Frag := K

end L2

/- THE LAST THEOREM (shape; LID, My.* are yours):
   My.Adr: a structure of the addresses that your layer names (classes, functions); My.Txt K t: a structure (Prop) of the equations over K;
   My.txt_mk : {K} {implicit addresses ..} (e1 : nsIn K mainGlobals "law" = some (some (.ref f))) (e2 : K.lookup f = some ⟨oc, od, .func (fnOf "law" "law" params body scope dV kV doc pm an cdv ct), sl⟩) (e3 : codeIn K cdv "law" = true) .. : ∃ t, My.Txt K t

set_option maxRecDepth 100000 in
set_option maxHeartbeats 0 in
theorem PySem.Challenge.cw_LID_holds : PySem.Challenge.rw_LID.Holds := by
  w_on; o_law; k_head; (case hw => w_witness2)
  k_fill
  refine L2.walk_of (l := PySem.Challenge.rw_LID) (n := 63) (k := 40) (x := "script") (CX := fun w => ..) (sp := fun _ => My.sp_law) rfl (by decide) rfl ⟨rfl, by decide, by decide⟩ (fun w h Y => PySem.W.kIn_of Y) ?F ?S ?C
  case F =>
    intro w mg fa h KX G hmg
    have T : ∃ t, My.Txt (L2.KOf KX) t := by
      dsimp only [L2.KOf]                          -- K must stand as «<heap const> w.params» for k_is
      refine' My.txt_mk ?e1 ?e2 ?e3 ..
      (case e1 => PySem.W.k_is)                    -- in the order: a name -> its address -> its object -> its parts
      (case e2 => PySem.W.k_is)
      ..
    obtain ⟨t, T⟩ := T
    have e0 := hmg.symm.trans (PySem.W.mg_of KX G T.law)
    cases e0                                       -- fa is the law's own address
    exact ⟨_, fun s u => .of_eq rfl, fun base kb nb => My.law_fn T kb nb⟩     -- if «.of_eq rfl» comes too early: refine' ⟨_, ?b, fun base kb nb => My.law_fn T kb nb⟩; exact fun s u => .of_eq rfl
  case S => exact fun w H a ns hl hO hS => ..
  case C => exact ..
(the tactic k_is has no namespace: write k_is) -/

/-! SHORT WORDS over the layer: a def of the text, its body, what a loop and a test want. -/
namespace L2
open PySem PySem.Spec PyProof.Rows

/-! ### the text by places -/
noncomputable def defArgs (s : Stmt) : Arguments := match s with
  | .FunctionDef _ a _ _ _ _ _ _ _ _ => a
  | _ => { posonlyargs := [], args := [], vararg := none, kwonlyargs := [], kw_defaults := [], kwarg := none, defaults := [] }
noncomputable def defBody (s : Stmt) : List Stmt := match s with
  | .FunctionDef _ _ b _ _ _ _ _ _ _ => b
  | _ => []
noncomputable def defScope (s : Stmt) : Scope := match s with
  | .FunctionDef _ _ _ _ _ _ sc _ _ _ => sc
  | _ => { kind := .function, names := [], isGenerator := false, isCoroutine := false }

/-! ### no exception leaves a def -/
noncomputable abbrev CX0 : CXT := fun _ _ _ _ _ _ => False
/-! ### a def (or method) of the text as it stands behind the top -/
structure Fun (K : PySem.W.Frag) (x qual : Str) (st : Stmt) (f : Addr) (fd : FuncData) : Prop where
  ex : ∃ (oc : Value) (od : Option Addr) (kV doc pm : Value) (an : Option Addr) (cdv ct : Value) (osl : Array (Option Value)),
    fd = PySem.W.fnOf x qual (defArgs st) (defBody st) (defScope st) .none kV doc pm an cdv ct ∧ K.lookup f = some ⟨oc, od, .func fd, osl⟩ ∧ PySem.W.codeIn K cdv qual = true
  kp : PySem.W.keepIn K (.ref f) = true
section
variable {P : Program} {w : World} {K : PySem.W.Frag} {mg : Str → Option Value} {base : Heap}
/-- how its arguments bind (no defaults): h is «fun _ _ _ _ _ _ us hl => match us, hl with | [_, _], _ => rfl», one _ a parameter -/
theorem Fun.binds {x qual : Str} {st : Stmt} {f : Addr} {fd : FuncData} {ps : List Str} (F : Fun K x qual st f fd)
    (h : ∀ (kV doc pm : Value) (an : Option Addr) (cdv ct : Value) (us : List Value), us.length = ps.length → bindArgs (PySem.W.fnOf x qual (defArgs st) (defBody st) (defScope st) .none kV doc pm an cdv ct) ⟨us, []⟩ = pure (ps.zip us)) : Binds K fd ps [] := by
  obtain ⟨oc, od, kV, doc, pm, an, cdv, ct, osl, rfl, lk, hcd⟩ := F.ex
  exact .all (h kV doc pm an cdv ct)
theorem fun_mk {x qual : Str} {st : Stmt} {f : Addr} {oc : Value} {od an : Option Addr} {osl : Array (Option Value)} {kV doc pm cdv ct : Value} (l : K.lookup f = some ⟨oc, od, .func (PySem.W.fnOf x qual (defArgs st) (defBody st) (defScope st) .none kV doc pm an cdv ct), osl⟩)
    (c : PySem.W.codeIn K cdv qual = true) (k : PySem.W.keepIn K (.ref f) = true) : Fun K x qual st f (PySem.W.fnOf x qual (defArgs st) (defBody st) (defScope st) .none kV doc pm an cdv ct) := ⟨⟨oc, od, kV, doc, pm, an, cdv, ct, osl, rfl, l, c⟩, k⟩
end
theorem small1000 {n : Nat} (h : n ≤ 1000) : n < sizeLine := Nat.lt_of_le_of_lt h (by decide)

/-! ### expressions in short: the name that stands in the i-th slot -/
section
variable {X : Cx}
end

/-! ### tests -/
theorem iteF {A B : Prop} (h : B) : if false = true then A else B := by
  rw [if_neg Bool.false_ne_true]
  exact h
theorem iteT {A B : Prop} (h : A) : if true = true then A else B := by
  rw [if_pos rfl]
  exact h
/-! ### heaps -/
/-- all that was tracked is as it was -/
noncomputable def Same (H H' : Hp) : Prop := ∀ b o, H b = some o → H' b = some o
theorem Same.refl (H : Hp) : Same H H := fun _ _ h => h
theorem Same.trans {H H1 H2 : Hp} (a : Same H H1) (b : Same H1 H2) : Same H H2 := fun c o h => b c o (a c o h)
theorem Same.seq {K : PySem.W.Frag} {H H' : Hp} {a : Addr} {xs : List V} (e : Same H H') (h : SqL K H a xs) : SqL K H' a xs := by
  rcases h with (h | ⟨o, h⟩) | h
  · exact .inl (.inl (e _ _ h))
  · exact .inl (.inr ⟨o, e _ _ h⟩)
  · exact .inr h

end L2

set_option Elab.async false
set_option linter.all false
/-! THE SHALLOW LANGUAGE: values as data, expressions and statements as functions of the locals. Nothing here knows of the model. -/
namespace EV
open PySem (Str)

inductive D where
  | non | bl (b : Bool) | int (i : Int) | str (x : Str) | tup (ds : List D) | lst (ds : List D) | own (ds : List D)
  | ty (n : String) | cls (n : String) | exc (n : String) | ins (n : String) (fs : List (String × D))
noncomputable instance : Inhabited D := ⟨.non⟩
inductive R (α : Type) where
  | ok (a : α) | ex (C : String) | bad
namespace R
noncomputable def bind {α β : Type} : R α → (α → R β) → R β
  | .ok a, f => f a
  | .ex C, _ => .ex C
  | .bad, _ => .bad
end R
noncomputable abbrev Dt := List (Option D)
noncomputable abbrev E := Dt → R D
inductive O where
  | nx (δ : Dt) | rt (d : D) | bk (δ : Dt) | ct (δ : Dt) | ex (C : String) (δ : Dt) | mk (C : String) (δ : Dt) | bad
noncomputable abbrev S := Dt → O

/-! ### numbers -/
noncomputable def pw (k : Int) : Int := 2 ^ k.toNat
noncomputable def nb (i : Int) : Nat := if i = 0 then 0 else i.natAbs.log2 + 1
noncomputable def MulOk (i j : Int) : Prop := nb i + nb j ≤ 134217728
noncomputable def DivOk (i j : Int) : Prop := 0 < j ∧ (nb j ≤ 9000 ∨ nb i ≤ nb j + 4000)
noncomputable instance {i j : Int} : Decidable (MulOk i j) := inferInstanceAs (Decidable (_ ≤ _))
noncomputable instance {i j : Int} : Decidable (DivOk i j) := inferInstanceAs (Decidable (_ ∧ _))

/-! ### operators -/
noncomputable def oAdd : D → D → R D
  | .int i, .int j => .ok (.int (i + j))
  | .str x, .str y => if x.cps.size + y.cps.size ≤ 1000000 then .ok (.str ⟨x.cps ++ y.cps⟩) else .bad
  | .lst xs, .lst ys => if xs.length + ys.length ≤ 100000 then .ok (.lst (xs ++ ys)) else .bad
  | .tup xs, .tup ys => if xs ≠ [] ∧ xs.length + ys.length ≤ 100000 then .ok (.tup (xs ++ ys)) else .bad
  | _, _ => .bad
noncomputable def oSub : D → D → R D
  | .int i, .int j => .ok (.int (i - j))
  | _, _ => .bad
noncomputable def oMul : D → D → R D
  | .int i, .int j => if MulOk i j then .ok (.int (i * j)) else .bad
  | _, _ => .bad
noncomputable def oDiv : D → D → R D
  | .int i, .int j => if DivOk i j then .ok (.int (i / j)) else .bad
  | _, _ => .bad
noncomputable def oMod : D → D → R D
  | .int i, .int j => if 0 < j then .ok (.int (i % j)) else .bad
  | _, _ => .bad
noncomputable def oShl : D → D → R D
  | .int i, .int j => if 0 ≤ j ∧ (nb i : Int) + j ≤ 134217728 then .ok (.int (i * pw j)) else .bad
  | _, _ => .bad
noncomputable def oShr : D → D → R D
  | .int i, .int j => if 0 ≤ j then .ok (.int (i / pw j)) else .bad
  | _, _ => .bad
noncomputable def oPow : D → D → R D
  | .int i, .int j => if 0 ≤ j ∧ (nb i : Int) * j ≤ 134217728 then .ok (.int (i ^ j.toNat)) else .bad
  | _, _ => .bad
noncomputable def oBand : D → D → R D
  | .int i, .int j => if 0 ≤ i ∧ 0 ≤ j then .ok (.int ((i.toNat &&& j.toNat : Nat) : Int)) else .bad
  | _, _ => .bad
noncomputable def oNeg : D → R D
  | .int i => .ok (.int (-i))
  | _ => .bad
noncomputable def oLt : D → D → R D
  | .int i, .int j => .ok (.bl (decide (i < j)))
  | _, _ => .bad
noncomputable def oLe : D → D → R D
  | .int i, .int j => .ok (.bl (decide (i ≤ j)))
  | _, _ => .bad
noncomputable def oGt : D → D → R D
  | .int i, .int j => .ok (.bl (decide (j < i)))
  | _, _ => .bad
noncomputable def oGe : D → D → R D
  | .int i, .int j => .ok (.bl (decide (j ≤ i)))
  | _, _ => .bad

/-! ### equality -/
mutual
noncomputable def D.beq : D → D → Bool
  | .non, .non => true
  | .bl a, .bl b => a == b
  | .bl a, .int b => (if a then 1 else 0) == b
  | .int a, .bl b => a == (if b then 1 else 0)
  | .int a, .int b => a == b
  | .str a, .str b => a == b
  | .tup a, .tup b => D.beqs a b
  | .lst a, .lst b => D.beqs a b
  | _, _ => false
noncomputable def D.beqs : List D → List D → Bool
  | [], [] => true
  | a :: as, b :: bs => D.beq a b && D.beqs as bs
  | _, _ => false
end
/-- scalars -/
noncomputable def D.sc : D → Bool
  | .non => true | .bl _ => true | .int _ => true | .str _ => true
  | _ => false
/-- plain data of few levels -/
noncomputable def D.pl : Nat → D → Bool
  | _, .non => true
  | _, .bl _ => true
  | _, .int _ => true
  | _, .str x => x.cps.all (· < 0x110000)
  | n + 1, .tup ds => ds.all (D.pl n)
  | n + 1, .lst ds => ds.all (D.pl n)
  | _, _ => false
noncomputable def D.cmp (a b : D) : Bool := (a.sc && b.sc) || (D.pl 8 a && D.pl 8 b)
noncomputable def oEq (a b : D) : R D := if D.cmp a b then .ok (.bl (D.beq a b)) else .bad
noncomputable def oNe (a b : D) : R D := if D.cmp a b then .ok (.bl (!D.beq a b)) else .bad
noncomputable def oIsN : D → R D
  | .non => .ok (.bl true)
  | _ => .ok (.bl false)
noncomputable def oNotN : D → R D
  | .non => .ok (.bl false)
  | _ => .ok (.bl true)
/-- x in ys, of scalars -/
noncomputable def isIn (x : D) (ys : List D) : Option Bool := if x.sc && ys.all D.sc then some (ys.any fun y => D.beq y x) else none
/-- one sign among the signs of a text -/
noncomputable def oIn (a b : D) : R D := match a, b with
  | .str x, .str y => match x.cps.toList with | [c] => .ok (.bl (decide (c ∈ y.cps.toList))) | _ => .bad
  | a, .tup ds => match isIn a ds with | some k => .ok (.bl k) | none => .bad
  | a, .lst ds => match isIn a ds with | some k => .ok (.bl k) | none => .bad
  | _, _ => .bad
/-! ### places -/
noncomputable def ixN (n : Nat) (i : Int) : Option Nat := if 0 ≤ i then (if i < n then some i.toNat else none) else if -(n : Int) ≤ i then some (i + n).toNat else none
noncomputable def oIx : D → D → R D
  | .tup ds, .int i => match (ixN ds.length i).bind fun j => ds[j]? with | some d => .ok d | none => .bad
  | .lst ds, .int i => match (ixN ds.length i).bind fun j => ds[j]? with | some d => .ok d | none => .bad
  | .str x, .int i => if x.cps.size ≤ 1000000 then (match (ixN x.cps.toList.length i).bind fun j => x.cps.toList[j]? with | some c => .ok (.str ⟨#[c]⟩) | none => .bad) else .bad
  | _, _ => .bad
/-- a slice's end: n the length, d what stands for none -/
noncomputable def sIx (n d : Nat) : Option Int → Nat
  | none => d
  | some i => if i < 0 then (i + n).toNat else min i.toNat n
noncomputable def cut {α : Type} (xs : List α) (lo hi : Option Int) : List α := (xs.drop (sIx xs.length 0 lo)).take (sIx xs.length xs.length hi - sIx xs.length 0 lo)
noncomputable def oSl : D → Option Int → Option Int → R D
  | .tup ds, lo, hi => if sIx ds.length 0 lo = 0 ∧ sIx ds.length ds.length hi = ds.length then .bad else .ok (.tup (cut ds lo hi))
  | .lst ds, lo, hi => .ok (.lst (cut ds lo hi))
  | _, _, _ => .bad

/-! ### expressions -/
noncomputable def var (i : Nat) : E := fun δ => match δ[i]? with
  | some (some (.own _)) => .bad
  | some (some d) => .ok d
  | _ => .bad
noncomputable def con (d : D) : E := fun _ => .ok d
noncomputable def un (f : D → R D) (a : E) : E := fun δ => (a δ).bind f
noncomputable def bin (f : D → D → R D) (a b : E) : E := fun δ => (a δ).bind fun x => (b δ).bind fun y => f x y
noncomputable def truth {β : Type} (d : D) (t f : R β) : R β := match d with
  | .bl true => t
  | .bl false => f
  | _ => .bad
noncomputable def and_ (a b : E) : E := fun δ => (a δ).bind fun d => truth d (b δ) (.ok (.bl false))
noncomputable def or_ (a b : E) : E := fun δ => (a δ).bind fun d => truth d (.ok (.bl true)) (b δ)
noncomputable def not_ (a : E) : E := fun δ => (a δ).bind fun d => truth d (.ok (.bl false)) (.ok (.bl true))
noncomputable def ife (c a b : E) : E := fun δ => (c δ).bind fun d => truth d (a δ) (b δ)
/-- a < b < c -/
noncomputable def chain (f g : D → D → R D) (a b c : E) : E := fun δ => (a δ).bind fun x => (b δ).bind fun y => (f x y).bind fun d => truth d ((c δ).bind fun z => g y z) (.ok (.bl false))
noncomputable def evs : List E → Dt → R (List D)
  | [], _ => .ok []
  | e :: es, δ => (e δ).bind fun d => (evs es δ).bind fun ds => .ok (d :: ds)
noncomputable def tupE (es : List E) : E := fun δ => (evs es δ).bind fun ds => .ok (.tup ds)
noncomputable def lstE (es : List E) : E := fun δ => (evs es δ).bind fun ds => .ok (.lst ds)
noncomputable def call (f : List D → R D) (es : List E) : E := fun δ => (evs es δ).bind f
noncomputable def part : Option E → Dt → R (Option Int)
  | none, _ => .ok none
  | some e, δ => (e δ).bind fun d => match d with | .int i => .ok (some i) | _ => .bad
noncomputable def slc (a : E) (lo hi : Option E) : E := fun δ => (a δ).bind fun d => (part lo δ).bind fun l => (part hi δ).bind fun h => oSl d l h
/- data without a list -/
mutual
noncomputable def D.flat : D → Bool
  | .lst _ => false
  | .own _ => false
  | .tup ds => D.flats ds
  | .ins _ fs => D.flatf fs
  | _ => true
noncomputable def D.flats : List D → Bool
  | [] => true
  | d :: r => D.flat d && D.flats r
noncomputable def D.flatf : List (String × D) → Bool
  | [] => true
  | (_, d) :: r => D.flat d && D.flatf r
end
/-- what is walked -/
noncomputable abbrev IT := Dt → R (List D)
noncomputable def rngD (lo hi : Int) : List D := (List.range (hi - lo).toNat).map fun (k : Nat) => D.int (lo + k)
noncomputable def asL : D → R (List D)
  | .lst ds => .ok ds
  | _ => .bad
noncomputable def asT : D → R (List D)
  | .tup ds => .ok ds
  | _ => .bad
/-- a list or a tuple -/
noncomputable def asA : D → R (List D)
  | .lst ds => .ok ds
  | .tup ds => .ok ds
  | _ => .bad
noncomputable def asR1 : D → R (List D)
  | .int hi => if -(2 ^ 62) ≤ hi ∧ hi < 2 ^ 62 then .ok (rngD 0 hi) else .bad
  | _ => .bad
noncomputable def asR2 : List D → R (List D)
  | [.int lo, .int hi] => if -(2 ^ 62) ≤ lo ∧ lo < 2 ^ 62 ∧ -(2 ^ 62) ≤ hi ∧ hi < 2 ^ 62 then .ok (rngD lo hi) else .bad
  | _ => .bad
/-- range with a step -/
noncomputable def rngS (lo hi c : Int) : List D := (List.range (if lo < hi then (hi - lo - 1) / c + 1 else 0).toNat).map fun (k : Nat) => D.int (lo + k * c)
noncomputable def asR3 : List D → R (List D)
  | [.int lo, .int hi, .int c] => if (-(2 ^ 40) ≤ lo ∧ lo < 2 ^ 40 ∧ -(2 ^ 40) ≤ hi ∧ hi < 2 ^ 40) ∧ 0 < c ∧ c < 2 ^ 20 then .ok (rngS lo hi c) else .bad
  | _ => .bad
noncomputable def itL (g : E) : IT := fun δ => (g δ).bind asL
noncomputable def itT (g : E) : IT := fun δ => (g δ).bind asT
noncomputable def itA (g : E) : IT := fun δ => (g δ).bind asA
noncomputable def itR1 (g : E) : IT := fun δ => (g δ).bind asR1
noncomputable def itR2 (a b : E) : IT := fun δ => (evs [a, b] δ).bind asR2
noncomputable def itR3 (a b c : E) : IT := fun δ => (evs [a, b, c] δ).bind asR3
noncomputable def noEx {α : Type} (r : R α) : R α := match r with
  | .ex _ => .bad
  | r => r
/-- the names of a comprehension's block: the turn's item, what it takes along -/
noncomputable def inC (ks : List Nat) (δ : Dt) (x : D) : Dt := some x :: ks.map fun k => δ.getD k none
noncomputable def flatR (rs : List D) : R D := if D.flats rs then .ok (.lst rs) else .bad
/-- one turn after another: an item, or none where the test fails -/
noncomputable def runC (st : D → R (Option D)) : List D → R (List D)
  | [] => .ok []
  | d :: ds => (st d).bind fun o => (runC st ds).bind fun rs => .ok (match o with | some r => r :: rs | none => rs)
noncomputable def stC (c elt : E) (ks : List Nat) (δ : Dt) (x : D) : R (Option D) := (noEx (c (inC ks δ x))).bind fun d => truth d ((noEx (elt (inC ks δ x))).bind fun r => .ok (some r)) (.ok none)
/-- [elt for x in iter if c] -/
noncomputable def compIf (it : IT) (ks : List Nat) (c elt : E) : E := fun δ => (it δ).bind fun ds => if ds.length ≤ 100000 then (runC (stC c elt ks δ) ds).bind flatR else .bad
noncomputable def comp (it : IT) (ks : List Nat) (elt : E) : E := compIf it ks (con (.bl true)) elt

/-! ### instances -/
noncomputable def oFld (cn f : String) : D → R D
  | .ins n fs => if n == cn then (match fs.lookup f with | some d => .ok d | none => .bad) else .bad
  | _ => .bad
/-- d is of the class cn and has no field m -/
noncomputable def isMeth (cn m : String) : D → Bool
  | .ins n fs => n == cn && (fs.lookup m).isNone
  | _ => false
noncomputable def meth (cn m : String) (F : List D → R D) (o : E) (es : List E) : E := fun δ => (o δ).bind fun d => if isMeth cn m d then (evs es δ).bind fun ds => F (d :: ds) else .bad
/-- a class whose __init__ stores its one argument as f -/
noncomputable def mk1 (cn f : String) : List D → R D
  | [d] => .ok (.ins cn [(f, d)])
  | _ => .bad

/-! ### the built-ins -/
noncomputable def bLen : List D → R D
  | [.lst ds] => .ok (.int ds.length)
  | [.tup ds] => .ok (.int ds.length)
  | [.str x] => if x.cps.size ≤ 1000000 then .ok (.int x.cps.size) else .bad
  | _ => .bad
noncomputable def bAbs : List D → R D
  | [.int i] => .ok (.int (if i < 0 then -i else i))
  | _ => .bad
noncomputable def bMax : List D → R D
  | [.int i, .int j] => .ok (.int (if j > i then j else i))
  | _ => .bad
noncomputable def bMin : List D → R D
  | [.int i, .int j] => .ok (.int (if j < i then j else i))
  | _ => .bad
noncomputable def bInt : List D → R D
  | [.int i] => .ok (.int i)
  | [.bl k] => .ok (.int (if k then 1 else 0))
  | _ => .bad
noncomputable def bList : List D → R D
  | [.lst ds] => .ok (.lst ds)
  | [.tup ds] => .ok (.lst ds)
  | _ => .bad
noncomputable def intsOf : List D → Option (List Int)
  | [] => some []
  | .int i :: r => (intsOf r).map (i :: ·)
  | _ => none
noncomputable def bSum : List D → R D
  | [.lst ds] => match intsOf ds with | some ns => .ok (.int (ns.foldl (· + ·) 0)) | none => .bad
  | _ => .bad
noncomputable def bBitLen : List D → R D
  | [.int i] => .ok (.int (nb i))
  | _ => .bad
/-! isinstance -/
noncomputable def excNames : List String := ["MillError", "NoSize", "NoBits", "NoParts", "NoRank", "NotFinite", "NoWay", "NoFlags", "NoFraction", "Unlike", "Empty", "NoLeft", "NoText", "NoRow", "NoName", "Stopped"]
/-- the class C stands under B (all under MillError alone) -/
noncomputable def exSub (C B : String) : Bool := excNames.contains C && (C == B || B == "MillError")
noncomputable def bIsi : List D → R D
  | [.exc C, .cls B] => if excNames.contains C && excNames.contains B then .ok (.bl (C == B || B == "MillError")) else .bad
  | [.non, .cls B] => if excNames.contains B then .ok (.bl false) else .bad
  | [.exc C, .ty n] => if excNames.contains C && n == "ValueError" then .ok (.bl true) else .bad
  | [.non, .ty n] => if ["int", "bool", "str", "tuple", "list", "ValueError"].contains n then .ok (.bl false) else .bad
  | [.bl _, .ty n] => if ["int", "bool", "str", "tuple", "list", "ValueError"].contains n then .ok (.bl (n == "int" || n == "bool")) else .bad
  | [.int _, .ty n] => if ["int", "bool", "str", "tuple", "list", "ValueError"].contains n then .ok (.bl (n == "int")) else .bad
  | [.str _, .ty n] => if ["int", "bool", "str", "tuple", "list", "ValueError"].contains n then .ok (.bl (n == "str")) else .bad
  | [.tup _, .ty n] => if ["int", "bool", "str", "tuple", "list", "ValueError"].contains n then .ok (.bl (n == "tuple")) else .bad
  | [.lst _, .ty n] => if ["int", "bool", "str", "tuple", "list", "ValueError"].contains n then .ok (.bl (n == "list")) else .bad
  | _ => .bad

/-- isinstance of one of several classes -/
noncomputable def isiAny (d : D) : List D → R D
  | [] => .ok (.bl false)
  | c :: r => (bIsi [d, c]).bind fun x => truth x (.ok (.bl true)) (isiAny d r)
noncomputable def bIsiT : List D → R D
  | [d, .tup cs] => isiAny d cs
  | _ => .bad

/-! ### statements -/
/-- the lists that are one's own are lost -/
noncomputable def noOwn (δ : Dt) : Dt := δ.map fun c => match c with | some (.own _) => none | c => c
/-- .. are read -/
noncomputable def view (δ : Dt) : Dt := δ.map fun c => match c with | some (.own ds) => some (.lst ds) | c => c
noncomputable def pass_ : S := .nx
noncomputable def asg (i : Nat) (δ : Dt) (r : R D) : O := match r with
  | .ok d => .nx (δ.set i (some d))
  | .ex C => .ex C (noOwn δ)
  | .bad => .bad
noncomputable def xpr (δ : Dt) (r : R D) : O := match r with
  | .ok _ => .nx δ
  | .ex C => .ex C (noOwn δ)
  | .bad => .bad
noncomputable def rtn (δ : Dt) (r : R D) : O := match r with
  | .ok d => .rt d
  | .ex C => .ex C (noOwn δ)
  | .bad => .bad
noncomputable def ifO (δ : Dt) (r : R D) (a b : O) : O := match r with
  | .ok (.bl true) => a
  | .ok (.bl false) => b
  | .ex C => .ex C (noOwn δ)
  | _ => .bad
noncomputable def assign (i : Nat) (g : E) : S := fun δ => asg i δ (g δ)
noncomputable def expr (g : E) : S := fun δ => xpr δ (g δ)
noncomputable def ret (g : E) : S := fun δ => rtn δ (g δ)
noncomputable def retN : S := fun _ => .rt .non
/-- what is told may be a list of one's own -/
noncomputable def retV (g : E) : S := fun δ => rtn δ (g (view δ))
/-- lists of one's own: begun, written, given free -/
noncomputable def ownNew (i : Nat) : S := fun δ => .nx (δ.set i (some (.own [])))
noncomputable def onOwn (i : Nat) (δ : Dt) (f : List D → O) : O := match δ[i]? with
  | some (some (.own ds)) => f ds
  | _ => .bad
noncomputable def appO (i : Nat) (δ : Dt) (ds : List D) (r : R D) : O := match r with
  | .ok d => if D.flat d = true ∧ ds.length < 100000 then .nx (δ.set i (some (.own (ds ++ [d])))) else .bad
  | .ex C => .ex C (noOwn δ)
  | .bad => .bad
noncomputable def ownApp (i : Nat) (g : E) : S := fun δ => onOwn i δ fun ds => appO i δ ds (g (view δ))
noncomputable def ownRev (i : Nat) : S := fun δ => onOwn i δ fun ds => .nx (δ.set i (some (.own ds.reverse)))
/-- .. read on the way -/
noncomputable def asgF (i : Nat) (δ : Dt) (r : R D) : O := match r with
  | .ok d => if D.flat d = true then .nx (δ.set i (some d)) else .bad
  | .ex C => .ex C (noOwn δ)
  | .bad => .bad
noncomputable def assignV (i : Nat) (g : E) : S := fun δ => asgF i δ (g (view δ))
noncomputable def ifsV (c : E) (a b : S) : S := fun δ => ifO δ (c (view δ)) (a δ) (b δ)
noncomputable def takO (i : Nat) (δ : Dt) (r : R D) : O := match r with
  | .ok (.lst rs) => .nx (δ.set i (some (.own rs)))
  | .ex C => .ex C (noOwn δ)
  | _ => .bad
noncomputable def ownComp (i : Nat) (g : E) : S := fun δ => takO i δ (g (view δ))
noncomputable def ownTake (i : Nat) (g : E) : S := fun δ => takO i δ (g δ)
noncomputable def setO (i : Nat) (δ : Dt) (ds : List D) (v k : R D) : O := match v, k with
  | .ok d, .ok (.int k) => if D.flat d = true ∧ 0 ≤ k ∧ k < ds.length then .nx (δ.set i (some (.own (ds.set k.toNat d)))) else .bad
  | _, _ => .bad
noncomputable def ownSet (i : Nat) (gk gv : E) : S := fun δ => onOwn i δ fun ds => setO i δ ds (gv (view δ)) (gk (view δ))
noncomputable def pub (i : Nat) (δ : Dt) : Dt := match δ[i]? with
  | some (some (.own ds)) => δ.set i (some (.lst ds))
  | _ => δ
noncomputable def pubS (i : Nat) (s : S) : S := fun δ => s (pub i δ)
noncomputable def ifs (c : E) (a b : S) : S := fun δ => ifO δ (c δ) (a δ) (b δ)
noncomputable def O.then (o : O) (s : S) : O := match o with
  | .nx δ => s δ
  | o => o
noncomputable def seq (a b : S) : S := fun δ => (a δ).then b
noncomputable def brk : S := .bk
noncomputable def cont : S := .ct
noncomputable def raise (C : String) : S := .mk C
/-- behind a turn -/
noncomputable def trn (o : O) (k : S) : O := match o with
  | .nx δ1 => k δ1
  | .ct δ1 => k δ1
  | .bk δ1 => .nx δ1
  | o => o
noncomputable def forL (i : Nat) (body : S) : List D → S
  | [], δ => .nx δ
  | d :: ds, δ => trn (body (δ.set i (some d))) (forL i body ds)
noncomputable def ovL (δ : Dt) (r : R D) (k : List D → O) : O := match r with
  | .ok (.lst ds) => k ds
  | .ex C => .ex C (noOwn δ)
  | _ => .bad
noncomputable def ovT (δ : Dt) (r : R D) (k : List D → O) : O := match r with
  | .ok (.tup ds) => k ds
  | .ex C => .ex C (noOwn δ)
  | _ => .bad
noncomputable def forsL (i : Nat) (g : E) (body : S) : S := fun δ => ovL δ (g δ) fun ds => forL i body ds δ
noncomputable def forsT (i : Nat) (g : E) (body : S) : S := fun δ => ovT δ (g δ) fun ds => forL i body ds δ
/-- for whatever is walked -/
noncomputable def ovI (δ : Dt) (r : R (List D)) (k : List D → O) : O := match r with
  | .ok ds => k ds
  | .ex C => .ex C (noOwn δ)
  | .bad => .bad
noncomputable def forI (i : Nat) (it : IT) (body : S) : S := fun δ => ovI δ (it δ) fun ds => forL i body ds δ
/-- for i in range(a), range(a, b) -/
noncomputable def ovR (δ : Dt) (r : R D) (k : List D → O) : O := match r with
  | .ok (.int hi) => if -(2 ^ 62) ≤ hi ∧ hi < 2 ^ 62 then k (rngD 0 hi) else .bad
  | .ex C => .ex C (noOwn δ)
  | _ => .bad
noncomputable def forR1 (i : Nat) (b : E) (body : S) : S := fun δ => ovR δ (b δ) fun ds => forL i body ds δ
/-- try: body except C as name: suite -/
noncomputable def forget (i : Nat) (o : O) : O := match o with
  | .nx δ => .nx (δ.set i none)
  | _ => .bad
noncomputable def tryO (o : O) (B : String) (i : Nat) (suite : S) : O := match o with
  | .nx δ1 => .nx δ1
  | .ex C δ1 => if exSub C B then forget i (suite ((noOwn δ1).set i (some (.exc C)))) else .bad
  | _ => .bad
noncomputable def try_ (body : S) (B : String) (i : Nat) (suite : S) : S := fun δ => tryO (body δ) B i suite
/-! ### defs -/
noncomputable def O.res : O → R D
  | .rt d => .ok d
  | .nx _ => .ok .non
  | .ex C _ => .ex C
  | .mk C _ => .ex C
  | _ => .bad
noncomputable def start (n m : Nat) (ds : List D) : Dt := ds.map some ++ List.replicate (m - n) none
/-- a law's shallow function tells True at every script -/
noncomputable def Good (f : List D → R D) : Prop := ∀ ns : List Int, ns.length ≤ 63 → (∀ m ∈ ns, nb m ≤ 2 ^ 20) → f [.lst (ns.map .int)] = .ok (.bl true)
/-- n parameters, m names in all -/
noncomputable def fn (n m : Nat) (body : S) : List D → R D := fun ds => if ds.length = n then (body (start n m ds)).res else .bad
end EV

set_option Elab.async false
set_option linter.all false
set_option maxRecDepth 100000
/-! SOUNDNESS of the shallow language, part 1: what represents what; expressions. -/
namespace ES
open PySem PySem.Spec PyProof.Rows L2 EV

noncomputable def excO (a C : Addr) : HO := .ext fun h => ∃ o vs, h.get? a = some o ∧ o.cls = .ref C ∧ o.data = .fields vs
mutual
inductive Rep (K : PySem.W.Frag) (mg : Str → Option Value) (H : Hp) : V → D → Prop
  | non : Rep K mg H .non .non
  | bl (b : Bool) : Rep K mg H (.bl b) (.bl b)
  | int (i : Int) : Rep K mg H (.int i) (.int i)
  | str (x : Str) : Rep K mg H (.str x) (.str x)
  | tup {a : Addr} {xs : List V} {ds : List D} : SqT K H a xs → Reps K mg H xs ds → Rep K mg H (.ref a) (.tup ds)
  | lst {a : Addr} {xs : List V} {ds : List D} : SqL K H a xs → Reps K mg H xs ds → Rep K mg H (.ref a) (.lst ds)
  | ty (n : String) : Rep K mg H (.ty n) (.ty n)
  | cls {a : Addr} {n : String} : mg n = some (.ref a) → Rep K mg H (.ref a) (.cls n)
  | exc {a C : Addr} {n : String} : mg n = some (.ref C) → H a = some (excO a C) → Rep K mg H (.ref a) (.exc n)
  | ins {a C dx : Addr} {n : String} {fs : List (Str × V)} {ds : List (String × D)} : mg n = some (.ref C) → H a = some (.ins C dx fs) → Repf K mg H fs ds → Rep K mg H (.ref a) (.ins n ds)
inductive Reps (K : PySem.W.Frag) (mg : Str → Option Value) (H : Hp) : List V → List D → Prop
  | nil : Reps K mg H [] []
  | cons {v : V} {d : D} {vs : List V} {ds : List D} : Rep K mg H v d → Reps K mg H vs ds → Reps K mg H (v :: vs) (d :: ds)
inductive Repf (K : PySem.W.Frag) (mg : Str → Option Value) (H : Hp) : List (Str × V) → List (String × D) → Prop
  | nil : Repf K mg H [] []
  | cons {x : String} {v : V} {d : D} {vs : List (Str × V)} {ds : List (String × D)} : Rep K mg H v d → Repf K mg H vs ds → Repf K mg H (((x : Str), v) :: vs) ((x, d) :: ds)
end
theorem same_seqT {K : PySem.W.Frag} {H H' : Hp} {a : Addr} {xs : List V} (e : Same H H') (h : SqT K H a xs) : SqT K H' a xs := by
  rcases h with (h | ⟨o, h⟩) | h
  · exact .inl (.inl (e _ _ h))
  · exact .inl (.inr ⟨o, e _ _ h⟩)
  · exact .inr h
section
variable {K : PySem.W.Frag} {mg : Str → Option Value} {H H' : Hp}
mutual
theorem Rep.mono (s : Same H H') : ∀ {v : V} {d : D}, Rep K mg H v d → Rep K mg H' v d
  | _, _, .non => .non
  | _, _, .bl b => .bl b
  | _, _, .int i => .int i
  | _, _, .str x => .str x
  | _, _, .tup h r => .tup (same_seqT s h) (Reps.mono s r)
  | _, _, .lst h r => .lst (s.seq h) (Reps.mono s r)
  | _, _, .ty n => .ty n
  | _, _, .cls h => .cls h
  | _, _, .exc h e => .exc h (s _ _ e)
  | _, _, .ins h e r => .ins h (s _ _ e) (Repf.mono s r)
theorem Reps.mono (s : Same H H') : ∀ {vs : List V} {ds : List D}, Reps K mg H vs ds → Reps K mg H' vs ds
  | _, _, .nil => .nil
  | _, _, .cons r t => .cons (Rep.mono s r) (Reps.mono s t)
theorem Repf.mono (s : Same H H') : ∀ {vs : List (Str × V)} {ds : List (String × D)}, Repf K mg H vs ds → Repf K mg H' vs ds
  | _, _, .nil => .nil
  | _, _, .cons r t => .cons (Rep.mono s r) (Repf.mono s t)
end
theorem Reps.length : ∀ {vs : List V} {ds : List D}, Reps K mg H vs ds → vs.length = ds.length
  | _, _, .nil => rfl
  | _, _, .cons _ t => congrArg (· + 1) (Reps.length t)
theorem Reps.get : ∀ {vs : List V} {ds : List D} {i : Nat} {d : D}, Reps K mg H vs ds → ds[i]? = some d → ∃ v, vs[i]? = some v ∧ Rep K mg H v d
  | _, _, _, _, .nil, e => by simp at e
  | _, _, 0, _, .cons r _, e => by simp at e; subst e; exact ⟨_, rfl, r⟩
  | _, _, i + 1, d, .cons _ t, e => by
    obtain ⟨v, h1, h2⟩ := Reps.get (i := i) (d := d) t (by simpa using e)
    exact ⟨v, by simpa using h1, h2⟩
theorem Reps.append : ∀ {vs ws : List V} {ds es : List D}, Reps K mg H vs ds → Reps K mg H ws es → Reps K mg H (vs ++ ws) (ds ++ es)
  | _, _, _, _, .nil, s => s
  | _, _, _, _, .cons r t, s => .cons r (Reps.append t s)
theorem Reps.take : ∀ {vs : List V} {ds : List D} (n : Nat), Reps K mg H vs ds → Reps K mg H (vs.take n) (ds.take n)
  | _, _, 0, _ => .nil
  | _, _, _ + 1, .nil => .nil
  | _, _, n + 1, .cons r t => .cons r (Reps.take n t)
theorem Reps.drop : ∀ {vs : List V} {ds : List D} (n : Nat), Reps K mg H vs ds → Reps K mg H (vs.drop n) (ds.drop n)
  | _, _, 0, r => r
  | _, _, _ + 1, .nil => .nil
  | _, _, n + 1, .cons _ t => Reps.drop n t
theorem Reps.ints (ns : List Int) : Reps K mg H (ns.map V.int) (ns.map D.int) := by
  induction ns with
  | nil => exact .nil
  | cons n r ih => exact .cons (.int n) ih
theorem ofStr_inj {x y : String} (h : (Str.ofString x) = Str.ofString y) : x = y := by
  rw [Str.ofString_eq_toList, Str.ofString_eq_toList] at h
  have h1 : (x.toList.map Char.toNat).toArray = (y.toList.map Char.toNat).toArray := congrArg Str.cps h
  have h2 : x.toList.map Char.toNat = y.toList.map Char.toNat := by simpa using h1
  have h3 : ∀ (l m : List Char), l.map Char.toNat = m.map Char.toNat → l = m := by
    intro l
    induction l with
    | nil => intro m e; cases m with | nil => rfl | cons _ _ => cases e
    | cons c r ih =>
      intro m e
      cases m with
      | nil => cases e
      | cons c' r' =>
        rw [List.map_cons, List.map_cons, List.cons.injEq] at e
        rw [Char.ext (UInt32.toNat_inj.mp e.1), ih r' e.2]
  exact String.toList_inj.mp (h3 _ _ h2)
end

/-! ### the state -/
noncomputable def Stt (K : PySem.W.Frag) (mg : Str → Option Value) (H : Hp) (σ : L2.St) (δ : Dt) : Prop :=
  σ.length = δ.length ∧ ∀ (i : Nat) (d : D), δ[i]? = some (some d) → (∀ ds, d ≠ .own ds) → ∃ v, σ[i]? = some (some v) ∧ Rep K mg H v d
theorem Stt.mono {K : PySem.W.Frag} {mg : Str → Option Value} {H H' : Hp} {σ : L2.St} {δ : Dt} (h : Stt K mg H σ δ) (s : Same H H') : Stt K mg H' σ δ :=
  ⟨h.1, fun i d e n => let ⟨v, a, b⟩ := h.2 i d e n; ⟨v, a, b.mono s⟩⟩
theorem Stt.set {K : PySem.W.Frag} {mg : Str → Option Value} {H : Hp} {σ : L2.St} {δ : Dt} {i : Nat} {v : V} {d : D} (h : Stt K mg H σ δ) (r : Rep K mg H v d) : Stt K mg H (σ.set i (some v)) (δ.set i (some d)) := by
  refine ⟨by rw [List.length_set, List.length_set]; exact h.1, fun j d' e n => ?_⟩
  by_cases hj : j = i
  · subst hj
    by_cases hl : j < δ.length
    · rw [List.getElem?_set_self hl] at e
      cases e
      exact ⟨v, by rw [List.getElem?_set_self (by rw [h.1]; exact hl)], r⟩
    · rw [List.getElem?_eq_none (by simp; omega)] at e
      cases e
  · rw [List.getElem?_set_ne (Ne.symm hj)] at e
    obtain ⟨u, a, b⟩ := h.2 j d' e n
    exact ⟨u, by rw [List.getElem?_set_ne (Ne.symm hj)]; exact a, b⟩

/-! ### an exception that flies -/
structure FlyX (P : Program) (w : World) (outer : List Env) (H : Hp) (s : Shared) (C : Addr) (H' : Hp) (ea : Addr) (s' : Shared) : Prop where
  os : s'.os = s.os
  bare : AllBare s'.gens
  un : Un (frs outer) [] H H' s.heap s'.heap
  hok : HOk P w H' s'.heap
  same : Same H H'
  new : s.heap.get? ea = none
  fly : ∃ a0 B, Heap.FlyingW B outer ea (.ref C) a0 s'.heap ∧ (∀ b o, s.heap.get? b = some o → H b = none → b ∉ frs outer → B.get? b = some o) ∧ (∀ b u o, H' b = some u → s'.heap.get? b = some o → B.get? b = some o)
/-- an exception of the class at C, raised by a callee where the locals are σ, comes to what is wanted; one that is made here -/
noncomputable def ew (X : Cx) (C : Addr) (σ : L2.St) (H' : Hp) : Prop := ∀ pins H s ea s', Inv X pins σ H s → FlyX X.prog X.w X.stack H s C H' ea s' → X.xe (.ref ea) s'
noncomputable def em (X : Cx) (C : Addr) (σ : L2.St) (H' : Hp) : Prop := ∀ pins s h' ea vs, Inv X pins σ H' s → Heap.MadeExcOf s.heap h' ea (.ref C) vs → X.xe (.ref ea) { s with heap := h' }

/-! ### judgements -/
/-- what an expression's answer asks -/
noncomputable def RQ (X : Cx) (σ : L2.St) (H : Hp) (r : R D) (Q : VK) : Prop := match r with
  | .ok d => ∀ v H', Same H H' → Rep X.K X.mg H' v d → Q v H'
  | .ex C => ∀ Ca, X.mg C = some (.ref Ca) → ∀ H', Same H H' → ew X Ca σ H'
  | .bad => False
noncomputable def tE (X : Cx) (g : E) : TE := fun σ H Q => ∃ δ, Stt X.K X.mg H σ δ ∧ RQ X σ H (g δ) Q
@[irreducible] noncomputable def SE (X : Cx) (e : Expr) (g : E) : Prop := PE X e (tE X g)
noncomputable def RT (X : Cx) (σ : L2.St) (H : Hp) (r : R D) (Q : Bool → Hp → Prop) : Prop := match r with
  | .ok (.bl b) => ∀ H', Same H H' → Q b H'
  | .ex C => ∀ Ca, X.mg C = some (.ref Ca) → ∀ H', Same H H' → ew X Ca σ H'
  | _ => False
noncomputable def tT (X : Cx) (g : E) : TT := fun σ H Q => ∃ δ, Stt X.K X.mg H σ δ ∧ RT X σ H (g δ) Q
@[irreducible] noncomputable def ST (X : Cx) (e : Expr) (g : E) : Prop := PT X e (tT X g)
@[irreducible] noncomputable def SW (X : Cx) (e : Expr) (g : E) : Prop := PW X e (tT X g)
noncomputable def RA (X : Cx) (σ : L2.St) (H : Hp) (r : R (List D)) (Q : List V → Hp → Prop) : Prop := match r with
  | .ok ds => ∀ vs H', Same H H' → Reps X.K X.mg H' vs ds → Q vs H'
  | .ex C => ∀ Ca, X.mg C = some (.ref Ca) → ∀ H', Same H H' → ew X Ca σ H'
  | .bad => False
noncomputable def tAs (X : Cx) (gs : List E) : TA := fun σ H Q => ∃ δ, Stt X.K X.mg H σ δ ∧ RA X σ H (evs gs δ) Q
@[irreducible] noncomputable def SA (X : Cx) (es : List Expr) (gs : List E) : Prop := PA X es (tAs X gs)
unseal SE ST SW SA

section
variable {X : Cx} {σ : L2.St} {H H1 : Hp}
theorem PE.weak {e : Expr} {t t' : TE} (h : PE X e t) (w : ∀ σ H Q, t' σ H Q → t σ H Q) : PE X e t' := fun pins s σ H Q I q => h pins s σ H Q I (w σ H Q q)
theorem PT.weak {e : Expr} {t t' : TT} (h : PT X e t) (w : ∀ σ H Q, t' σ H Q → t σ H Q) : PT X e t' := fun pins s σ H Q I q => h pins s σ H Q I (w σ H Q q)
theorem PW.weak {e : Expr} {t t' : TT} (h : PW X e t) (w : ∀ σ H Q, t' σ H Q → t σ H Q) : PW X e t' := fun wh pins s σ H Q I q => h wh pins s σ H Q I (w σ H Q q)
theorem PA.weak {es : List Expr} {t t' : TA} (h : PA X es t) (w : ∀ σ H Q, t' σ H Q → t σ H Q) : PA X es t' := fun pos pins s σ H Q I q => h pos pins s σ H Q I (w σ H Q q)
theorem PS.weak {st : Stmt} {t t' : TS} (h : PS X st t) (w : ∀ D σ H, t' D σ H → t D σ H) : PS X st t' := fun pins s σ H D I q => h pins s σ H D I (w D σ H q)
theorem PSs.weak {st : List Stmt} {t t' : TS} (h : PSs X st t) (w : ∀ D σ H, t' D σ H → t D σ H) : PSs X st t' := fun pins s σ H D I q => h pins s σ H D I (w D σ H q)
theorem RQ.to {r : R D} {Q Q' : VK} (h : RQ X σ H r Q) (g : ∀ v H', Same H H' → Q v H' → Q' v H') : RQ X σ H r Q' := by
  cases r with
  | ok d => exact fun v H' s r => g v H' s (h v H' s r)
  | ex C => exact h
  | bad => exact h
theorem RQ.mono {r : R D} {Q : VK} (s : Same H H1) (h : RQ X σ H r Q) : RQ X σ H1 r Q := by
  cases r with
  | ok d => exact fun v H' s' r => h v H' (s.trans s') r
  | ex C => exact fun Ca hc H' s' => h Ca hc H' (s.trans s')
  | bad => exact h
theorem RT.mono {r : R D} {Q : Bool → Hp → Prop} (s : Same H H1) (h : RT X σ H r Q) : RT X σ H1 r Q := by
  cases r with
  | ok d =>
    cases d with
    | bl b => exact fun H' s' => h H' (s.trans s')
    | _ => exact False.elim h
  | ex C => exact fun Ca hc H' s' => h Ca hc H' (s.trans s')
  | bad => exact h
/-- a bind: the first part, then the second -/
theorem RQ.bind {r : R D} {f : D → R D} {Q : VK} (h : RQ X σ H (r.bind f) Q) : RQ X σ H r (fun v H' => Same H H' ∧ ∃ d, Rep X.K X.mg H' v d ∧ RQ X σ H' (f d) Q) := by
  cases r with
  | ok d => exact fun v H' s r => ⟨s, d, r, h.mono s⟩
  | ex C => exact h
  | bad => exact h
theorem RA.bind {r : R (List D)} {f : List D → R D} {Q : VK} (h : RQ X σ H (r.bind f) Q) : RA X σ H r (fun vs H' => Same H H' ∧ ∃ ds, Reps X.K X.mg H' vs ds ∧ RQ X σ H' (f ds) Q) := by
  cases r with
  | ok d => exact fun v H' s r => ⟨s, d, r, h.mono s⟩
  | ex C => exact h
  | bad => exact h
theorem RT.bind {r : R D} {f : D → R D} {Q : Bool → Hp → Prop} (h : RT X σ H (r.bind f) Q) : RQ X σ H r (fun v H' => Same H H' ∧ ∃ d, Rep X.K X.mg H' v d ∧ RT X σ H' (f d) Q) := by
  cases r with
  | ok d => exact fun v H' s r => ⟨s, d, r, h.mono s⟩
  | ex C => exact h
  | bad => exact False.elim h
end

/-! ### names, constants -/
/-- the names by place -/
structure Sc (X : Cx) (N : List Str) : Prop where
  n : X.N = N
  nd : N.Nodup
  vis : ∀ x ∈ N, Vis X.env.scope x
  dbg : ∀ x ∈ N, (x == ("__debug__" : Str)) = false ∧ (x == ("__classdict__" : Str)) = false
/-- names that may be stored -/
noncomputable def Sto (X : Cx) (x : Str) : Prop := Loc X.env.scope x ∧ (X.fn x = true ∨ X.env.scope.names.lookup x = some .local)
/-- a global name -/
structure Gb (X : Cx) (x : Str) : Prop where
  g : X.env.scope.names.lookup x = some .globalImplicit
  d : (x == ("__debug__" : Str)) = false
  n : x ≠ "__name__"
section
variable {X : Cx} {N : List Str} {pos : Pos} {a b c e : Expr} {ga gb gc g : E}
theorem e_var (S : Sc X N) (i : Nat) {x : Str} (hN : N[i]? = some x) : SE X (.Name x pos) (var i) := by
  have hm : x ∈ N := List.mem_of_getElem? hN
  refine PE.weak (pe_var (i := i) (by rw [S.n]; exact hN) (S.vis x hm) (S.dbg x hm).1 (S.dbg x hm).2) fun σ H Q ⟨δ, hσ, h⟩ => ?_
  unfold var at h
  split at h
  · exact False.elim h
  · rename_i d _ hd
    obtain ⟨v, e, r⟩ := hσ.2 i d hd (by intro ds z; subst z; rename_i q; exact q ds rfl)
    exact ⟨v, e, h v H (Same.refl H) r⟩
  · exact False.elim h
theorem e_con {v : V} {d : D} (h : PE X e (tC v)) (r : ∀ H, Rep X.K X.mg H v d) : SE X e (con d) := PE.weak h fun σ H Q ⟨δ, hσ, q⟩ => q _ H (Same.refl H) (r H)
theorem e_int {i j} : SE X (.Constant (.int i) j pos) (con (.int i)) := e_con pe_int fun _ => .int i
theorem e_bl {b j} : SE X (.Constant (.bool b) j pos) (con (.bl b)) := e_con pe_bl fun _ => .bl b
theorem e_non {j} : SE X (.Constant .none j pos) (con .non) := e_con pe_non fun _ => .non
theorem e_str {x j} : SE X (.Constant (.str x) j pos) (con (.str x)) := e_con pe_str fun _ => .str x
theorem e_cls {x : String} {C : Addr} (G : Gb X x) (h : X.mg x = some (.ref C)) : SE X (.Name x pos) (con (.cls x)) := e_con (pe_glob (v := .ref C) G.g h rfl G.d) fun _ => .cls h
theorem e_ty {x : Str} {n : String} (G : Gb X x) (h : X.mg x = none) (hv : bootBuiltins x = some (.type n)) : SE X (.Name x pos) (con (.ty n)) :=
  e_con (pe_bltn (v := .ty n) G.g h hv rfl G.n G.d) fun _ => .ty n

/-! ### operators -/
/-- an operation by data -/
noncomputable def rD (X : Cx) (f : D → D → R D) : R2 := fun x y H Q => ∃ dx dy d, Rep X.K X.mg H x dx ∧ Rep X.K X.mg H y dy ∧ f dx dy = .ok d ∧ ∀ v H', Same H H' → Rep X.K X.mg H' v d → Q v H'
/-- never raises -/
noncomputable def NoX2 (f : D → D → R D) : Prop := ∀ x y C, f x y ≠ .ex C
theorem RQ.op {σ : L2.St} {H : Hp} {f : D → D → R D} (nx : NoX2 f) {x y : V} {dx dy : D} {Q : VK} (r1 : Rep X.K X.mg H x dx) (r2 : Rep X.K X.mg H y dy) (h : RQ X σ H (f dx dy) Q) : rD X f x y H Q := by
  cases e : f dx dy with
  | ok d => rw [e] at h; exact ⟨dx, dy, d, r1, r2, e, h⟩
  | ex C => exact absurd e (nx dx dy C)
  | bad => rw [e] at h; exact False.elim h
theorem bin_to {f : D → D → R D} {σ : L2.St} {H : Hp} {Q : VK} (h : tE X (EV.bin f ga gb) σ H Q) : tE X ga σ H fun x H1 => tE X gb σ H1 fun y H2 => ∃ dx dy, Rep X.K X.mg H2 x dx ∧ Rep X.K X.mg H2 y dy ∧ RQ X σ H2 (f dx dy) Q := by
  obtain ⟨δ, hσ, h⟩ := h
  refine ⟨δ, hσ, (RQ.bind h).to fun x H1 s1 ⟨_, dx, r1, h1⟩ => ?_⟩
  refine ⟨δ, hσ.mono s1, (RQ.bind h1).to fun y H2 s2 ⟨_, dy, r2, h2⟩ => ?_⟩
  exact ⟨dx, dy, r1.mono s2, r2, h2⟩
theorem e_bin {op : Operator} {f : D → D → R D} (nx : NoX2 f) (ho : OpR X (binaryOp op) (rD X f)) (ha : SE X a ga) (hb : SE X b gb) : SE X (.BinOp a op b pos) (EV.bin f ga gb) :=
  PE.weak (pe_op ho ha hb) fun σ H Q h => by
    obtain ⟨δ, hσ, q⟩ := bin_to h
    refine ⟨δ, hσ, q.to fun x H1 s1 ⟨δ1, hσ1, q1⟩ => ⟨δ1, hσ1, q1.to fun y H2 s2 ⟨dx, dy, r1, r2, q2⟩ => RQ.op nx r1 r2 q2⟩⟩
theorem e_cmp {op : CmpOp} {f : D → D → R D} (nx : NoX2 f) (ho : OpR X (compareOp op) (rD X f)) (ha : SE X a ga) (hb : SE X b gb) (hm : behindInMarks op b = false) : SE X (.Compare a [op] [b] pos) (EV.bin f ga gb) :=
  PE.weak (pe_cmpR ho ha hb hm) fun σ H Q h => by
    obtain ⟨δ, hσ, q⟩ := bin_to h
    refine ⟨δ, hσ, q.to fun x H1 s1 ⟨δ1, hσ1, q1⟩ => ⟨δ1, hσ1, q1.to fun y H2 s2 ⟨dx, dy, r1, r2, q2⟩ => RQ.op nx r1 r2 q2⟩⟩
theorem bin_toT {f : D → D → R D} {σ : L2.St} {H : Hp} {Q : Bool → Hp → Prop} (h : tT X (EV.bin f ga gb) σ H Q) : tE X ga σ H fun x H1 => tE X gb σ H1 fun y H2 => ∃ dx dy, Rep X.K X.mg H2 x dx ∧ Rep X.K X.mg H2 y dy ∧ RT X σ H2 (f dx dy) Q := by
  obtain ⟨δ, hσ, h⟩ := h
  refine ⟨δ, hσ, (RT.bind h).to fun x H1 s1 ⟨_, dx, r1, h1⟩ => ?_⟩
  refine ⟨δ, hσ.mono s1, (RT.bind h1).to fun y H2 s2 ⟨_, dy, r2, h2⟩ => ?_⟩
  exact ⟨dx, dy, r1.mono s2, r2, h2⟩
theorem RT.op {σ : L2.St} {H : Hp} {f : D → D → R D} (nx : NoX2 f) {x y : V} {dx dy : D} {Q : Bool → Hp → Prop} (r1 : Rep X.K X.mg H x dx) (r2 : Rep X.K X.mg H y dy) (h : RT X σ H (f dx dy) Q) : rD X f x y H fun v H' => ∃ k, v = .bl k ∧ Q k H' := by
  cases e : f dx dy with
  | ok d =>
    rw [e] at h
    cases d with
    | bl k => exact ⟨dx, dy, _, r1, r2, e, fun v H' s r => by cases r; exact ⟨k, rfl, h H' s⟩⟩
    | _ => exact False.elim h
  | ex C => exact absurd e (nx dx dy C)
  | bad => rw [e] at h; exact False.elim h
theorem t_cmp {op : CmpOp} {f : D → D → R D} (nx : NoX2 f) (ho : OpR X (compareOp op) (rD X f)) (ha : SE X a ga) (hb : SE X b gb) (hm : behindInMarks op b = false) : ST X (.Compare a [op] [b] pos) (EV.bin f ga gb) :=
  PT.weak (pt_cmpR ho ha hb hm) fun σ H Q h => by
    obtain ⟨δ, hσ, q⟩ := bin_toT h
    refine ⟨δ, hσ, q.to fun x H1 s1 ⟨δ1, hσ1, q1⟩ => ⟨δ1, hσ1, q1.to fun y H2 s2 ⟨dx, dy, r1, r2, q2⟩ => RT.op nx r1 r2 q2⟩⟩
/-- the operations on ints -/
theorem op_ofI {F : Value → Value → Sem Value} {f : D → D → R D} {C : Int → Int → Prop} {g : Int → Int → Int} (ho : OpR X F (rI C fun i j => .int (g i j)))
    (hf : ∀ dx dy d, f dx dy = .ok d → ∃ i j, dx = .int i ∧ dy = .int j ∧ C i j ∧ d = .int (g i j)) : OpR X F (rD X f) := by
  intro pins s σ H x y v u Q I rx ry ⟨dx, dy, d, r1, r2, e, q⟩
  obtain ⟨i, j, rfl, rfl, hc, rfl⟩ := hf dx dy d e
  cases r1
  cases r2
  exact ho pins s σ H _ _ v u Q I rx ry ⟨i, j, rfl, rfl, hc, q _ _ (Same.refl _) (.int _)⟩
theorem op_ofI0 {F : Value → Value → Sem Value} {f : D → D → R D} {g : Int → Int → Int} (ho : OpR X F (rI0 fun i j => .int (g i j)))
    (hf : ∀ dx dy d, f dx dy = .ok d → ∃ i j, dx = .int i ∧ dy = .int j ∧ d = .int (g i j)) : OpR X F (rD X f) := by
  intro pins s σ H x y v u Q I rx ry ⟨dx, dy, d, r1, r2, e, q⟩
  obtain ⟨i, j, rfl, rfl, rfl⟩ := hf dx dy d e
  cases r1
  cases r2
  exact ho pins s σ H _ _ v u Q I rx ry ⟨i, j, rfl, rfl, q _ _ (Same.refl _) (.int _)⟩
theorem op_ofB {F : Value → Value → Sem Value} {f : D → D → R D} {g : Int → Int → Bool} (ho : OpR X F (rI0 fun i j => .bl (g i j)))
    (hf : ∀ dx dy d, f dx dy = .ok d → ∃ i j, dx = .int i ∧ dy = .int j ∧ d = .bl (g i j)) : OpR X F (rD X f) := by
  intro pins s σ H x y v u Q I rx ry ⟨dx, dy, d, r1, r2, e, q⟩
  obtain ⟨i, j, rfl, rfl, rfl⟩ := hf dx dy d e
  cases r1
  cases r2
  exact ho pins s σ H _ _ v u Q I rx ry ⟨i, j, rfl, rfl, q _ _ (Same.refl _) (.bl _)⟩
end
theorem nb_eq (i : Int) : nb i = Builtin.Int.intBits i := by
  unfold nb Builtin.Int.intBits
  by_cases h : i = 0
  · rw [if_pos h, if_pos (by rw [h]; rfl)]
  · rw [if_neg h, if_neg (by simpa using h)]
theorem mulOk_ok {i j : Int} (h : MulOk i j) : IntMulOk i j := IntMulOk.of_le (m := nb i) (n := nb j) (Nat.le_of_eq (nb_eq i).symm) (Nat.le_of_eq (nb_eq j).symm) h
/-- + of two lists, read ones too (the script, a module's) -/
noncomputable def rCatL (K : PySem.W.Frag) : R2 := fun x y H Q => ∃ a b xs ys, x = .ref a ∧ y = .ref b ∧ SqL K H a xs ∧ SqL K H b ys ∧ xs.length + ys.length ≤ sizeLine ∧ ∀ p, H p = none → Q (.ref p) (upd H p (.lst (xs ++ ys)))


section
variable {X : Cx}
theorem same_upd {H : Hp} {p : Addr} (h : H p = none) (o : HO) : Same H (upd H p o) := fun b u q => by rw [upd_ne (ne_of_none q h)]; exact q
theorem list_addG (l b : Addr) (xs ys : Array Value) (n m : Nat) (d1 d2 : Option Addr) (s1 s2 : Array (Option Value)) (hz : xs.size + ys.size ≤ sizeLine) :
    Meets (Builtin.«list.__add__» ⟨[.ref l, .ref b], []⟩) (fun _ R s => s.heap.get? l = some { cls := .type "list", dict := d1, data := .seq xs n, slots := s1 } ∧ s.heap.get? b = some { cls := .type "list", dict := d2, data := .seq ys m, slots := s2 } ∧
      R (.ok (.ret (Value.ref s.heap.objs.size))) { s with heap := s.heap.push { cls := .type "list", data := .seq (xs ++ ys) } }) :=
  .of_wp fun prog w A R s h => by
    obtain ⟨hp, g, dd, tk, os⟩ := s
    obtain ⟨ha, hb, h⟩ := h
    have f3 := AutoSeq1.sub_list_list
    wp_walk using AutoSeq1.wpAny_loadPart' ha, AutoSeq1.wpAny_loadPart' hb
    exact ⟨_, rfl, h⟩
theorem op_catL : OpR X (binaryOp .Add) (rCatL X.K) := by
  intro pins s σ H x y v u Q I rx ry h
  obtain ⟨l, b, xs, zs, rfl, rfl, hH, hB, hz, q⟩ := h
  cases rx
  cases ry
  obtain ⟨its, r, ⟨⟨c1, d1, t1, s1⟩, n, e, g1, g2, g3⟩, _⟩ := I.list hH
  obtain ⟨its2, r2, ⟨⟨c2, d2, t2, s2⟩, n2, e2, k1, k2, k3⟩, _⟩ := I.list hB
  simp only at g1 g2 g3 k1 k2 k3
  subst g1 g2 g3 k1 k2 k3
  have hl := r.length
  have hl2 := r2.length
  refine concat_meets ⟨_, e, rfl⟩ ⟨_, e2, rfl⟩ noFill_list_add seq_list_add F.slot_list_add F.entry_list_add (F.args_list_add_2 _ _) (list_addG l b its.toArray its2.toArray n n2 _ _ _ _ (by rw [List.size_toArray, List.size_toArray]; omega)) ⟨e, e2, ?_⟩
  have ea : its.toArray ++ its2.toArray = (its ++ its2).toArray := by simp
  rw [ea]
  exact ⟨.ref _, _, I.lnew (t' := s.toks) (r.append r2) (by rw [List.length_append]; omega), rfl, q _ I.fresh⟩

theorem nx_ite {c : Prop} [Decidable c] {d : D} {C : String} : (if c then R.ok d else R.bad) ≠ R.ex C := by split <;> exact fun z => nomatch z
theorem nxAdd : NoX2 oAdd := fun x y C z => by unfold oAdd at z; split at z <;> first | cases z | exact nx_ite z
theorem op_addD : OpR X (binaryOp .Add) (rD X oAdd) := by
  intro pins s σ H x y v u Q I rx ry ⟨dx, dy, d, r1, r2, e, q⟩
  unfold oAdd at e
  split at e
  · cases e; cases r1; cases r2
    exact op_add pins s σ H _ _ v u Q I rx ry ⟨_, _, rfl, rfl, q _ _ (Same.refl _) (.int _)⟩
  · split at e
    · rename_i hz
      cases e; cases r1; cases r2
      exact op_add_str pins s σ H _ _ v u Q I rx ry ⟨_, _, rfl, rfl, Nat.le_trans hz (by rw [sizeLine_eq]; decide), q _ _ (Same.refl _) (.str _)⟩
    · cases e
  · split at e
    · rename_i hz
      cases e; cases r1; cases r2
      rename_i a xs h1 r1 b ys h2 r2
      exact op_catL pins s σ H _ _ v u Q I rx ry ⟨a, b, xs, ys, rfl, rfl, h1, h2, by rw [r1.length, r2.length]; exact Nat.le_trans hz (by rw [sizeLine_eq]; decide), fun p hp => q _ _ (same_upd hp _) (.lst (SqL.of upd_same) ((r1.append r2).mono (same_upd hp _)))⟩
    · cases e
  · split at e
    · rename_i hz
      cases e; cases r1; cases r2
      rename_i a xs h1 r1 b ys h2 r2
      refine op_catT pins s σ H _ _ v u Q I rx ry ⟨a, b, xs, ys, rfl, rfl, h1, h2, fun z => hz.1 ?_, by rw [r1.length, r2.length]; exact Nat.le_trans hz.2 (by rw [sizeLine_eq]; decide), fun z => q _ _ (Same.refl _) ?_, fun _ p hp => q _ _ (same_upd hp _) (.tup (SqT.of upd_same) ((r1.append r2).mono (same_upd hp _)))⟩
      · subst z
        cases r1; rfl
      · subst z
        cases r2
        rw [List.append_nil]
        exact .tup h1 r1
    · cases e
  · cases e
theorem nxSub : NoX2 oSub := fun x y C z => by unfold oSub at z; split at z <;> cases z
theorem op_subD : OpR X (binaryOp .Sub) (rD X oSub) := op_ofI0 op_sub fun dx dy d e => by
  unfold oSub at e; split at e
  · cases e; exact ⟨_, _, rfl, rfl, rfl⟩
  · cases e
theorem nxMul : NoX2 oMul := fun x y C z => by unfold oMul at z; split at z <;> first | cases z | exact nx_ite z
theorem op_mulD : OpR X (binaryOp .Mult) (rD X oMul) := op_ofI (C := IntMulOk) (opI fun _ _ _ _ _ _ _ hc q => mul_int q hc) fun dx dy d e => by
  unfold oMul at e; split at e
  · split at e
    · rename_i h; cases e; exact ⟨_, _, rfl, rfl, mulOk_ok h, rfl⟩
    · cases e
  · cases e
theorem nxDiv : NoX2 oDiv := fun x y C z => by unfold oDiv at z; split at z <;> first | cases z | exact nx_ite z
theorem noPy {i j : Int} (h : DivOk i j) : Builtin.divisionGoesByPylong i j = false := by
  obtain ⟨h0, h⟩ := h
  show (decide ((if j == 0 then 0 else j.natAbs.log2 / 30 + 1) > 300) && decide ((if i == 0 then 0 else i.natAbs.log2 / 30 + 1) > (if j == 0 then 0 else j.natAbs.log2 / 30 + 1) + 150)) = false
  have ej : (j == 0) = false := by simp; omega
  unfold nb at h
  rw [if_neg (by omega : ¬ j = 0)] at h
  rw [ej]
  simp only [Bool.false_eq_true, if_false]
  rw [Bool.and_eq_false_iff, decide_eq_false_iff_not, decide_eq_false_iff_not]
  by_cases hi : i = 0
  · rw [if_pos (by simp [hi])]; omega
  · rw [if_neg (by simp [hi])]
    rw [if_neg hi] at h
    omega
theorem op_divD : OpR X (binaryOp .FloorDiv) (rD X oDiv) := op_ofI (C := DivOk) (g := fun i j => i / j) (opI fun i j _ _ _ _ _ hc q => by
    have h1 : (0 : Int) < j := hc.1
    exact floordiv_int (by omega) (by rw [Int.fdiv_eq_ediv_of_nonneg i (by omega)]; exact q) (.inl (noPy hc))) fun dx dy d e => by
  unfold oDiv at e; split at e
  · split at e
    · rename_i h; cases e; exact ⟨_, _, rfl, rfl, h, rfl⟩
    · cases e
  · cases e
theorem nxMod : NoX2 oMod := fun x y C z => by unfold oMod at z; split at z <;> first | cases z | exact nx_ite z
theorem op_modD : OpR X (binaryOp .Mod) (rD X oMod) := op_ofI (C := fun _ j => 0 < j) (g := fun i j => i % j) op_mod fun dx dy d e => by
  unfold oMod at e; split at e
  · split at e
    · rename_i h; cases e; exact ⟨_, _, rfl, rfl, h, rfl⟩
    · cases e
  · cases e
theorem nxShl : NoX2 oShl := fun x y C z => by unfold oShl at z; split at z <;> first | cases z | exact nx_ite z
theorem op_shlD : OpR X (binaryOp .LShift) (rD X oShl) := op_ofI (C := fun i j => 0 ≤ j ∧ (nb i : Int) + j ≤ 134217728) (g := fun i j => i * pw j) (opI fun _ _ _ _ _ _ _ hc q => lshift_int hc.1 (by rw [← nb_eq]; exact hc.2) q) fun dx dy d e => by
  unfold oShl at e; split at e
  · split at e
    · rename_i h; cases e; exact ⟨_, _, rfl, rfl, h, rfl⟩
    · cases e
  · cases e
theorem nxShr : NoX2 oShr := fun x y C z => by unfold oShr at z; split at z <;> first | cases z | exact nx_ite z
theorem op_shrD : OpR X (binaryOp .RShift) (rD X oShr) := op_ofI (C := fun _ j => 0 ≤ j) (g := fun i j => i / 2 ^ j.toNat) op_shr fun dx dy d e => by
  unfold oShr at e; split at e
  · split at e
    · rename_i h; cases e; exact ⟨_, _, rfl, rfl, h, rfl⟩
    · cases e
  · cases e
theorem nxPow : NoX2 oPow := fun x y C z => by unfold oPow at z; split at z <;> first | cases z | exact nx_ite z
theorem op_powD : OpR X (binaryOp .Pow) (rD X oPow) := op_ofI (C := fun i j => 0 ≤ j ∧ (nb i : Int) * j ≤ 134217728) (g := fun i j => i ^ j.toNat) (opI fun _ _ _ _ _ _ _ hc q => pow_int hc.1 (by rw [← nb_eq]; exact hc.2) q) fun dx dy d e => by
  unfold oPow at e; split at e
  · split at e
    · rename_i h; cases e; exact ⟨_, _, rfl, rfl, h, rfl⟩
    · cases e
  · cases e
theorem nxBand : NoX2 oBand := fun x y C z => by unfold oBand at z; split at z <;> first | cases z | exact nx_ite z
theorem band_nn {i j : Int} (hi : 0 ≤ i) (hj : 0 ≤ j) : Builtin.bitAnd i j = ((i.toNat &&& j.toNat : Nat) : Int) := by
  unfold Builtin.bitAnd
  rw [decide_eq_true hi, decide_eq_true hj]
theorem op_bandD : OpR X (binaryOp .BitAnd) (rD X oBand) := op_ofI0 op_and fun dx dy d e => by
  unfold oBand at e; split at e
  · split at e
    · rename_i h; cases e; exact ⟨_, _, rfl, rfl, by rw [band_nn h.1 h.2]⟩
    · cases e
  · cases e
theorem nxLt : NoX2 oLt := fun x y C z => by unfold oLt at z; split at z <;> cases z
theorem nxGt : NoX2 oGt := fun x y C z => by unfold oGt at z; split at z <;> cases z
theorem nxGe : NoX2 oGe := fun x y C z => by unfold oGe at z; split at z <;> cases z
theorem op_ltD : OpR X (compareOp .Lt) (rD X oLt) := op_ofB op_lt fun dx dy d e => by
  unfold oLt at e; split at e
  · cases e; exact ⟨_, _, rfl, rfl, rfl⟩
  · cases e
theorem op_gtD : OpR X (compareOp .Gt) (rD X oGt) := op_ofB op_gt fun dx dy d e => by
  unfold oGt at e; split at e
  · cases e; exact ⟨_, _, rfl, rfl, rfl⟩
  · cases e
theorem op_geD : OpR X (compareOp .GtE) (rD X oGe) := op_ofB op_ge fun dx dy d e => by
  unfold oGe at e; split at e
  · cases e; exact ⟨_, _, rfl, rfl, rfl⟩
  · cases e
end
section
variable {X : Cx} {pos : Pos} {a b c e : Expr} {ga gb gc g : E}
theorem e_add (ha : SE X a ga) (hb : SE X b gb) : SE X (.BinOp a .Add b pos) (EV.bin oAdd ga gb) := e_bin nxAdd op_addD ha hb
theorem e_sub (ha : SE X a ga) (hb : SE X b gb) : SE X (.BinOp a .Sub b pos) (EV.bin oSub ga gb) := e_bin nxSub op_subD ha hb
theorem e_mul (ha : SE X a ga) (hb : SE X b gb) : SE X (.BinOp a .Mult b pos) (EV.bin oMul ga gb) := e_bin nxMul op_mulD ha hb
theorem e_div (ha : SE X a ga) (hb : SE X b gb) : SE X (.BinOp a .FloorDiv b pos) (EV.bin oDiv ga gb) := e_bin nxDiv op_divD ha hb
theorem e_mod (ha : SE X a ga) (hb : SE X b gb) : SE X (.BinOp a .Mod b pos) (EV.bin oMod ga gb) := e_bin nxMod op_modD ha hb
theorem e_shl (ha : SE X a ga) (hb : SE X b gb) : SE X (.BinOp a .LShift b pos) (EV.bin oShl ga gb) := e_bin nxShl op_shlD ha hb
theorem e_shr (ha : SE X a ga) (hb : SE X b gb) : SE X (.BinOp a .RShift b pos) (EV.bin oShr ga gb) := e_bin nxShr op_shrD ha hb
theorem e_pow (ha : SE X a ga) (hb : SE X b gb) : SE X (.BinOp a .Pow b pos) (EV.bin oPow ga gb) := e_bin nxPow op_powD ha hb
theorem e_band (ha : SE X a ga) (hb : SE X b gb) : SE X (.BinOp a .BitAnd b pos) (EV.bin oBand ga gb) := e_bin nxBand op_bandD ha hb
theorem t_lt (ha : SE X a ga) (hb : SE X b gb) : ST X (.Compare a [.Lt] [b] pos) (EV.bin oLt ga gb) := t_cmp nxLt op_ltD ha hb (nomark _)
theorem t_gt (ha : SE X a ga) (hb : SE X b gb) : ST X (.Compare a [.Gt] [b] pos) (EV.bin oGt ga gb) := t_cmp nxGt op_gtD ha hb (nomark _)
theorem t_ge (ha : SE X a ga) (hb : SE X b gb) : ST X (.Compare a [.GtE] [b] pos) (EV.bin oGe ga gb) := t_cmp nxGe op_geD ha hb (nomark _)
theorem e_neg (ha : SE X a ga) : SE X (.UnaryOp .USub a pos) (un oNeg ga) :=
  PE.weak (pe_un un_neg ha) fun σ H Q ⟨δ, hσ, h⟩ => ⟨δ, hσ, (RQ.bind h).to fun v H1 s1 ⟨_, d, r, q⟩ => by
    unfold oNeg at q
    split at q
    · cases r; exact ⟨_, rfl, q _ _ (Same.refl _) (.int _)⟩
    · exact False.elim q⟩
end
end ES

set_option Elab.async false
set_option linter.all false
set_option maxRecDepth 100000
/-! SOUNDNESS, part 2: equality, places, tests, tuples and lists. -/
namespace ES
open PySem PySem.Spec PyProof.Rows L2 EV
unseal SE ST SW SA

mutual
noncomputable def py : D → PyData
  | .non => .none
  | .bl b => .bool b
  | .int i => .int i
  | .str x => .str x
  | .tup ds => .tuple (pys ds)
  | .lst ds => .list (pys ds)
  | _ => .dict []
noncomputable def pys : List D → List PyData
  | [] => []
  | d :: r => py d :: pys r
end
section
variable {X : Cx} {pins : List (Addr × Obj)} {σ : L2.St} {H : Hp} {s : Shared}
mutual
theorem reads_of (I : Inv X pins σ H s) : ∀ {v : V} {d : D} {u : Value}, (py d).canLay0 = true → Rep X.K X.mg H v d → RelV v u → ∃ as, Reads s.heap u (py d) as
  | _, _, u, _, .non, r => by cases r; exact ⟨_, .none⟩
  | _, _, u, _, .bl b, r => by cases r; exact ⟨_, .bool b⟩
  | _, _, u, _, .int i, r => by obtain ⟨t, rfl⟩ := r; exact ⟨_, .int i t⟩
  | _, _, u, _, .str x, r => by obtain ⟨t, rfl⟩ := r; exact ⟨_, .str x t⟩
  | _, .tup ds, u, hc, .tup hq rs, r => by
    cases r
    obtain ⟨its, rv, ⟨o, h1, h2, n, h3⟩, _⟩ := I.tuple hq
    obtain ⟨as, ra⟩ := readsAll_of I (by simpa [py, PyData.canLay0] using hc) rs rv
    exact ⟨_, .tuple h1 h2 h3 (by simpa using ra)⟩
  | _, .lst ds, u, hc, .lst hq rs, r => by
    cases r
    obtain ⟨its, rv, ⟨o, n, h1, h2, _, h3⟩, _⟩ := I.list hq
    obtain ⟨as, ra⟩ := readsAll_of I (by simpa [py, PyData.canLay0] using hc) rs rv
    exact ⟨_, .list h1 h2 h3 (by simpa using ra)⟩
  | _, .ty n, u, hc, _, _ => by simp [py, PyData.canLay0] at hc
  | _, .cls a, u, hc, _, _ => by simp [py, PyData.canLay0] at hc
  | _, .exc a, u, hc, _, _ => by simp [py, PyData.canLay0] at hc
  | _, .ins a b, u, hc, _, _ => by simp [py, PyData.canLay0] at hc
theorem readsAll_of (I : Inv X pins σ H s) : ∀ {vs : List V} {ds : List D} {us : List Value}, PyData.canLayAll0 (pys ds) = true → Reps X.K X.mg H vs ds → Vals vs us → ∃ as, ReadsAll s.heap us (pys ds) as
  | _, _, _, _, .nil, r => by cases r; exact ⟨_, .nil⟩
  | _, dd :: dr, _, hc, .cons r t, q => by
    cases q with
    | cons q1 q2 =>
      have hc' : PyData.canLay0 (py dd) = true ∧ PyData.canLayAll0 (pys dr) = true := by simpa [pys, PyData.canLayAll0] using hc
      obtain ⟨a1, r1⟩ := reads_of I hc'.1 r q1
      obtain ⟨a2, r2⟩ := readsAll_of I hc'.2 t q2
      exact ⟨_, .cons r1 r2⟩
end
end
mutual
theorem pl_lay : ∀ (n : Nat) (d : D), D.pl n d = true → (py d).canLay0 = true ∧ (py d).depth ≤ n
  | _, .non, _ => ⟨rfl, Nat.zero_le _⟩
  | _, .bl _, _ => ⟨rfl, Nat.zero_le _⟩
  | _, .int _, _ => ⟨rfl, Nat.zero_le _⟩
  | _, .str x, h => ⟨by simpa [py, PyData.canLay0, PyData.strOk, D.pl] using h, Nat.zero_le _⟩
  | 0, .tup _, h => by simp [D.pl] at h
  | 0, .lst _, h => by simp [D.pl] at h
  | n + 1, .tup ds, h => by
    have z := pls_lay n ds (by simpa [D.pl] using h)
    exact ⟨by simpa [py, PyData.canLay0] using z.1, by simp only [py, PyData.depth]; omega⟩
  | n + 1, .lst ds, h => by
    have z := pls_lay n ds (by simpa [D.pl] using h)
    exact ⟨by simpa [py, PyData.canLay0] using z.1, by simp only [py, PyData.depth]; omega⟩
  | n, .own _, h => by cases n <;> simp [D.pl] at h
  | n, .ty _, h => by cases n <;> simp [D.pl] at h
  | n, .cls _, h => by cases n <;> simp [D.pl] at h
  | n, .exc _, h => by cases n <;> simp [D.pl] at h
  | n, .ins _ _, h => by cases n <;> simp [D.pl] at h
theorem pls_lay : ∀ (n : Nat) (ds : List D), (∀ d ∈ ds, D.pl n d = true) → PyData.canLayAll0 (pys ds) = true ∧ PyData.depthAll (pys ds) ≤ n
  | _, [], _ => ⟨rfl, Nat.zero_le _⟩
  | n, d :: r, h => by
    have z1 := pl_lay n d (h d (.head _))
    have z2 := pls_lay n r (fun x hx => h x (.tail _ hx))
    exact ⟨by simp [pys, PyData.canLayAll0, z1.1, z2.1], by simp only [pys, PyData.depthAll]; omega⟩
end
mutual
theorem beq_eqv : ∀ (n : Nat) (a b : D), D.pl n a = true → D.pl n b = true → D.beq a b = PyData.eqv (py a) (py b)
  | n, a, b, ha, hb => by
    cases a <;> cases b <;> first
      | rfl
      | (cases n <;> simp [D.pl] at ha; done)
      | (cases n <;> simp [D.pl] at hb; done)
      | skip
    all_goals cases n with
      | zero => simp [D.pl] at ha
      | succ n =>
        simp only [D.beq, py, PyData.eqv]
        exact beqs_eqv n _ _ (by simpa [D.pl] using ha) (by simpa [D.pl] using hb)
theorem beqs_eqv : ∀ (n : Nat) (as bs : List D), (∀ d ∈ as, D.pl n d = true) → (∀ d ∈ bs, D.pl n d = true) → D.beqs as bs = PyData.eqvAll (pys as) (pys bs)
  | _, [], [], _, _ => rfl
  | _, [], _ :: _, _, _ => rfl
  | _, _ :: _, [], _, _ => rfl
  | n, a :: as, b :: bs, ha, hb => by
    simp only [D.beqs, pys, PyData.eqvAll]
    rw [beq_eqv n a b (ha a (.head _)) (hb b (.head _)), beqs_eqv n as bs (fun x hx => ha x (.tail _ hx)) (fun x hx => hb x (.tail _ hx))]
end
section
variable {X : Cx}
theorem nxEq : NoX2 oEq := fun x y C z => by unfold oEq at z; exact nx_ite z
theorem beq_V {H : Hp} {x y : V} {dx dy : D} (r1 : Rep X.K X.mg H x dx) (r2 : Rep X.K X.mg H y dy) (sx : dx.sc = true) (sy : dy.sc = true) (n : scal x y = true) : decide (x = y) = D.beq dx dy := by
  cases r1 <;> cases sx <;> cases r2 <;> cases sy <;> first
    | exact absurd (show false = true from n) Bool.false_ne_true
    | exact dec_int
    | exact dec_bl
    | exact dec_str
    | (simp [D.beq]; done)
theorem eq_core (n : Bool) (hu : X.A.units + 64 < cLine) {pins : List (Addr × Obj)} {s : Shared} {σ : L2.St} {H : Hp} {x y : V} {v u : Value} {Q : VK} (I : Inv X pins σ H s) (rx : RelV x v) (ry : RelV y u) {dx dy : D} (r1 : Rep X.K X.mg H x dx) (r2 : Rep X.K X.mg H y dy)
    (hc : D.cmp dx dy = true) (q : Q (.bl (xor n (D.beq dx dy))) H) : wpAny (model X.prog X.w) X.A (compareOp (if n then .NotEq else .Eq) v u) (EP X pins σ Q) X.xe s := by
  unfold D.cmp at hc
  by_cases hp : (D.pl 8 dx && D.pl 8 dy) = true
  · rw [Bool.and_eq_true] at hp
    obtain ⟨l1, d1⟩ := pl_lay 8 dx hp.1
    obtain ⟨l2, d2⟩ := pl_lay 8 dy hp.2
    obtain ⟨as, ra⟩ := reads_of I l1 r1 rx
    obtain ⟨bs, rb⟩ := reads_of I l2 r2 ry
    have e := beq_eqv 8 dx dy hp.1 hp.2
    cases n with
    | false =>
      refine (SeqAt.rcAt_reads ra rb l1 l2 (by omega) X.prog X.w X.xe _ ?_ : wpAny (model X.prog X.w) X.A (compareOp .Eq v u) _ _ _)
      exact fin_bl I q (by rw [Bool.false_xor, e])
    | true =>
      refine (SeqAt.rcNeAt_reads ra rb l1 l2 (by omega) X.prog X.w X.xe _ ?_ : wpAny (model X.prog X.w) X.A (compareOp .NotEq v u) _ _ _)
      exact fin_bl I q (by rw [Bool.true_xor, e])
  · have hs : (dx.sc && dy.sc) = true := by
      rw [Bool.or_eq_true] at hc
      exact hc.resolve_right hp
    rw [Bool.and_eq_true] at hs
    have hsc : scal x y = true := by
      cases r1 <;> cases (hs.1) <;> cases r2 <;> cases (hs.2) <;> first | rfl | exact absurd rfl hp
    have e := beq_V r1 r2 hs.1 hs.2 hsc
    cases n with
    | false => exact op_eq pins s σ H x y v u Q I rx ry ⟨hsc, by rw [e]; rw [Bool.false_xor] at q; exact q⟩
    | true => exact op_ne pins s σ H x y v u Q I rx ry ⟨hsc, by rw [e]; rw [Bool.true_xor] at q; exact q⟩
theorem op_eqD (hu : X.A.units + 64 < cLine) : OpR X (compareOp .Eq) (rD X oEq) := by
  intro pins s σ H x y v u Q I rx ry ⟨dx, dy, d, r1, r2, e, q⟩
  unfold oEq at e
  split at e
  · rename_i hc
    cases e
    exact eq_core false hu I rx ry r1 r2 hc (by rw [Bool.false_xor]; exact q _ _ (Same.refl _) (.bl _))
  · cases e
/-- in, not in -/
theorem sc_flatV {H : Hp} {x : V} {d : D} (r : Rep X.K X.mg H x d) (h : d.sc = true) : flatV x = true := by cases r <;> first | rfl | cases h
theorem scs_flatV {H : Hp} : ∀ {xs : List V} {ds : List D}, Reps X.K X.mg H xs ds → ds.all D.sc = true → xs.all flatV = true
  | _, _, .nil, _ => rfl
  | _, _, .cons r t, h => by
    rw [List.all_cons, Bool.and_eq_true] at h
    rw [List.all_cons, sc_flatV r h.1, scs_flatV t h.2]; rfl
theorem eqV_beq {H : Hp} {x y : V} {dx dy : D} (r1 : Rep X.K X.mg H x dx) (r2 : Rep X.K X.mg H y dy) (sx : dx.sc = true) (sy : dy.sc = true) : eqV x y = D.beq dx dy := by
  cases r1 <;> cases sx <;> cases r2 <;> cases sy <;> rfl
theorem inV_beq {H : Hp} {x : V} {dx : D} (r : Rep X.K X.mg H x dx) (sx : dx.sc = true) : ∀ {xs : List V} {ds : List D}, Reps X.K X.mg H xs ds → ds.all D.sc = true → inV x xs = ds.any fun y => D.beq y dx
  | _, _, .nil, _ => rfl
  | _, _, .cons r' t, h => by
    rw [List.all_cons, Bool.and_eq_true] at h
    unfold inV
    rw [List.any_cons, List.any_cons, eqV_beq r' r h.1 sx]
    exact congrArg _ (inV_beq r sx t h.2)
theorem in_core (neg : Bool) {pins : List (Addr × Obj)} {s : Shared} {σ : L2.St} {H : Hp} {x y : V} {v u : Value} {Q : VK} (I : Inv X pins σ H s) (rx : RelV x v) (ry : RelV y u) {dx dy : D} (r1 : Rep X.K X.mg H x dx) (r2 : Rep X.K X.mg H y dy) {k : Bool}
    (hc : oIn dx dy = .ok (.bl k)) (q : Q (.bl (xor neg k)) H) : wpAny (model X.prog X.w) X.A (compareOp (if neg then .NotIn else .In) v u) (EP X pins σ Q) X.xe s := by
  have seq : ∀ {p : Addr} {xs : List V} {ds : List D}, y = .ref p → (SqL X.K H p xs ∨ SqT X.K H p xs) → Reps X.K X.mg H xs ds → isIn dx ds = some k → wpAny (model X.prog X.w) X.A (compareOp (if neg then .NotIn else .In) v u) (EP X pins σ Q) X.xe s := fun {p xs ds} ey hq rs hi => by
    subst ey
    unfold isIn at hi
    split at hi
    · rename_i hs
      rw [Bool.and_eq_true] at hs
      cases hi
      have e := inV_beq r1 hs.1 rs hs.2
      cases neg with
      | false => exact op_in_seq pins s σ H _ _ v u Q I rx ry ⟨p, xs, rfl, hq, sc_flatV r1 hs.1, scs_flatV rs hs.2, by rw [if_neg (by decide), e]; rw [Bool.false_xor] at q; exact q⟩
      | true => exact op_notIn_seq pins s σ H _ _ v u Q I rx ry ⟨p, xs, rfl, hq, sc_flatV r1 hs.1, scs_flatV rs hs.2, by rw [if_pos rfl, e]; rw [Bool.true_xor] at q; exact q⟩
    · cases hi
  have hseq : ∀ {ds : List D}, (match isIn dx ds with | some k => R.ok (D.bl k) | none => R.bad) = .ok (.bl k) → isIn dx ds = some k := fun {ds} h => by
    cases e : isIn dx ds with
    | none => rw [e] at h; cases h
    | some k' => rw [e] at h; cases h; rfl
  cases r2 with
  | tup hq rs => exact seq rfl (.inr hq) rs (hseq (by cases dx <;> exact hc))
  | lst hq rs => exact seq rfl (.inl hq) rs (hseq (by cases dx <;> exact hc))
  | str b =>
    cases r1 with
    | str a =>
      obtain ⟨⟨l⟩⟩ := a
      cases l with
      | nil => cases hc
      | cons c t =>
        cases t with
        | cons _ _ => cases hc
        | nil =>
          cases hc
          have e := empty_one b c
          cases neg with
          | false => exact op_in_str pins s σ H _ _ v u Q I rx ry ⟨_, _, rfl, rfl, by rw [e, Bool.not_not]; rw [Bool.false_xor] at q; exact q⟩
          | true => exact op_notIn_str pins s σ H _ _ v u Q I rx ry ⟨_, _, rfl, rfl, by rw [e, Bool.not_not]; rw [Bool.true_xor] at q; exact q⟩
    | _ => cases hc
  | _ => cases dx <;> cases hc
theorem oIn_ok {a b : D} : (∃ k, oIn a b = .ok (.bl k)) ∨ oIn a b = .bad := by
  unfold oIn
  split <;> first
    | exact .inr rfl
    | (split <;> first | exact .inl ⟨_, rfl⟩ | exact .inr rfl)
theorem nxIn : NoX2 oIn := fun x y C z => by rcases oIn_ok (a := x) (b := y) with ⟨k, e⟩ | e <;> rw [e] at z <;> cases z
theorem op_inD : OpR X (compareOp .In) (rD X oIn) := by
  intro pins s σ H x y v u Q I rx ry ⟨dx, dy, d, r1, r2, e, q⟩
  rcases oIn_ok (a := dx) (b := dy) with ⟨k, e'⟩ | e' <;> rw [e'] at e <;> cases e
  exact in_core false I rx ry r1 r2 e' (by rw [Bool.false_xor]; exact q _ _ (Same.refl _) (.bl _))
end
section
variable {X : Cx} {pos : Pos} {a b c e : Expr} {ga gb gc g : E} {k : Nat}
theorem e_eq (hu : Room k X.A) (ha : SE X a ga) (hb : SE X b gb) : SE X (.Compare a [.Eq] [b] pos) (EV.bin oEq ga gb) := e_cmp nxEq (op_eqD hu.units) ha hb (nomark _)
theorem t_eq (hu : Room k X.A) (ha : SE X a ga) (hb : SE X b gb) : ST X (.Compare a [.Eq] [b] pos) (EV.bin oEq ga gb) := t_cmp nxEq (op_eqD hu.units) ha hb (nomark _)
theorem t_in (ha : SE X a ga) (hb : SE X b gb) (hm : behindInMarks .In b = false := by rfl) : ST X (.Compare a [.In] [b] pos) (EV.bin oIn ga gb) := t_cmp nxIn op_inD ha hb hm
/-- is None, is not None -/
theorem isN_of {H : Hp} {v : V} {d : D} (r : Rep X.K X.mg H v d) : oIsN d = .ok (.bl (decide (v = .non))) ∧ oNotN d = .ok (.bl (!decide (v = .non))) := by
  cases r <;> exact ⟨rfl, rfl⟩
theorem isN_to {σ : L2.St} {H : Hp} {Q : VK} (h : tE X (un oIsN ga) σ H Q) : tE X ga σ H fun x H1 => tE X (con .non) σ H1 fun y H2 => y = .non ∧ Q (.bl (decide (x = .non))) H2 := by
  obtain ⟨δ, hσ, h⟩ := h
  refine ⟨δ, hσ, (RQ.bind h).to fun x H1 s1 ⟨_, d, r, q⟩ => ⟨δ, hσ.mono s1, fun v H2 s2 r2 => ?_⟩⟩
  cases r2
  rw [(isN_of r).1] at q
  exact ⟨rfl, q _ _ s2 (.bl _)⟩
theorem tT_of_tE {σ : L2.St} {H : Hp} {Q : Bool → Hp → Prop} (h : tT X g σ H Q) : tE X g σ H fun v H' => ∃ k, v = .bl k ∧ Q k H' := by
  obtain ⟨δ, hσ, h⟩ := h
  refine ⟨δ, hσ, ?_⟩
  cases q : g δ with
  | ok d =>
    rw [q] at h
    cases d with
    | bl k => exact fun v H' s r => by cases r; exact ⟨k, rfl, h H' s⟩
    | _ => exact False.elim h
  | ex C => rw [q] at h; exact h
  | bad => rw [q] at h; exact False.elim h
theorem t_isN {j : Nat} {p2 : Pos} (ha : SE X a ga) : ST X (.Compare a [.Is] [.Constant .none j p2] pos) (un oIsN ga) := PT.weak (pt_cmpR op_isN ha e_non (nomark _)) fun σ H Q h => isN_to (tT_of_tE h)
/-! ### tests -/
theorem t_val (h : SE X e g) (he : ∀ whole, isTrue e X.env whole = (do let v ← whole; standAt e.pos; holding [v] (truthy v)) := by intro _; rfl) : ST X e g := PT.weak (pt_val h he) fun σ H Q q => tT_of_tE q
theorem RT.truth {σ : L2.St} {H : Hp} {r : R D} {t f : R D} {Q : Bool → Hp → Prop} (h : RT X σ H (r.bind fun d => truth d t f) Q) : RT X σ H r fun k H' => Same H H' ∧ if k = true then RT X σ H' t Q else RT X σ H' f Q := by
  cases r with
  | ok d =>
    cases d with
    | bl k =>
      cases k with
      | true => exact fun H' s => ⟨s, iteT (RT.mono s h)⟩
      | false => exact fun H' s => ⟨s, iteF (RT.mono s h)⟩
    | _ => exact False.elim h
  | ex C => exact h
  | bad => exact False.elim h
theorem RT.to {σ : L2.St} {H : Hp} {r : R D} {Q Q' : Bool → Hp → Prop} (h : RT X σ H r Q) (g : ∀ k H', Same H H' → Q k H' → Q' k H') : RT X σ H r Q' := by
  cases r with
  | ok d =>
    cases d with
    | bl k => exact fun H' s => g k H' s (h H' s)
    | _ => exact False.elim h
  | ex C => exact h
  | bad => exact False.elim h
theorem RQ.truthT {σ : L2.St} {H : Hp} {r : R D} {t f : R D} {Q : VK} (h : RQ X σ H (r.bind fun d => truth d t f) Q) : RT X σ H r fun k H' => Same H H' ∧ if k = true then RQ X σ H' t Q else RQ X σ H' f Q := by
  cases r with
  | ok d =>
    cases d with
    | bl k =>
      cases k with
      | true => exact fun H' s => ⟨s, iteT (RQ.mono s h)⟩
      | false => exact fun H' s => ⟨s, iteF (RQ.mono s h)⟩
    | _ => exact False.elim h
  | ex C => exact h
  | bad => exact False.elim h
theorem RQ.truth {σ : L2.St} {H : Hp} {r : R D} {t f : R D} {Q : VK} (h : RQ X σ H (r.bind fun d => truth d t f) Q) : RQ X σ H r fun v H' => ∃ k, v = .bl k ∧ if k = true then RQ X σ H' t Q else RQ X σ H' f Q := by
  cases r with
  | ok d =>
    cases d with
    | bl k =>
      cases k with
      | true => exact fun v H' s r => by cases r; exact ⟨true, rfl, iteT (RQ.mono s h)⟩
      | false => exact fun v H' s r => by cases r; exact ⟨false, rfl, iteF (RQ.mono s h)⟩
    | _ => exact False.elim h
  | ex C => exact h
  | bad => exact False.elim h
theorem ite_to {k : Bool} {A B A' B' : Prop} (h : if k = true then A else B) (f : A → A') (g : B → B') : if k = true then A' else B' := by
  cases k with
  | true => exact iteT (f (by simpa using h))
  | false => exact iteF (g (by simpa using h))
theorem t_not (h : ST X a ga) : ST X (.UnaryOp .Not a pos) (not_ ga) := PT.weak (pt_not h) fun σ H Q ⟨δ, hσ, q⟩ => ⟨δ, hσ, (RT.truth q).to fun k H' s ⟨_, z⟩ => by
  cases k with
  | true => exact (show RT X σ H' (.ok (.bl false)) Q by simpa using z) H' (Same.refl _)
  | false => exact (show RT X σ H' (.ok (.bl true)) Q by simpa using z) H' (Same.refl _)⟩
theorem t_w (h : SW X e g) : ST X e g := PW.pt h
theorem w_and1 (h : ST X a ga) : SW X (.BoolOp .And [a] pos) ga := pw_and1 h
theorem w_or1 (h : ST X a ga) : SW X (.BoolOp .Or [a] pos) ga := pw_or1 h
theorem w_and {rest : List Expr} (h : ST X a ga) (hb : SW X (.BoolOp .And (b :: rest) pos) gb) : SW X (.BoolOp .And (a :: b :: rest) pos) (and_ ga gb) :=
  PW.weak (pw_and h hb) fun σ H Q ⟨δ, hσ, q⟩ => ⟨δ, hσ, (RT.truth q).to fun k H' s ⟨_, z⟩ => ite_to z (fun z => ⟨δ, hσ.mono s, z⟩) (fun z => z H' (Same.refl _))⟩
theorem w_or {rest : List Expr} (h : ST X a ga) (hb : SW X (.BoolOp .Or (b :: rest) pos) gb) : SW X (.BoolOp .Or (a :: b :: rest) pos) (or_ ga gb) :=
  PW.weak (pw_or h hb) fun σ H Q ⟨δ, hσ, q⟩ => ⟨δ, hσ, (RT.truth q).to fun k H' s ⟨_, z⟩ => ite_to z (fun z => z H' (Same.refl _)) (fun z => ⟨δ, hσ.mono s, z⟩)⟩
theorem e_one {op} (h : SE X a g) : SE X (.BoolOp op [a] pos) g := pe_one h
theorem e_and {rest : List Expr} (h : SE X a ga) (hb : SE X (.BoolOp .And (b :: rest) pos) gb) : SE X (.BoolOp .And (a :: b :: rest) pos) (and_ ga gb) :=
  PE.weak (pe_and h hb) fun σ H Q ⟨δ, hσ, q⟩ => ⟨δ, hσ, (RQ.truth q).to fun v H' s ⟨k, e, z⟩ => ⟨k, e, ite_to z (fun z => ⟨δ, hσ.mono s, z⟩) (fun z => z _ H' (Same.refl _) (.bl _))⟩⟩
theorem e_if (h : ST X c gc) (ha : SE X a ga) (hb : SE X b gb) : SE X (.IfExp c a b pos) (ife gc ga gb) :=
  PE.weak (pe_ifExp h ha hb) fun σ H Q ⟨δ, hσ, q⟩ => ⟨δ, hσ, (RQ.truthT q).to fun k H' s ⟨_, z⟩ => ite_to z (fun z => ⟨δ, hσ.mono s, z⟩) (fun z => ⟨δ, hσ.mono s, z⟩)⟩
/-! ### arguments, tuples, lists -/
theorem a_nil : SA X [] [] := PA.weak pa_nil fun σ H Q ⟨δ, hσ, h⟩ => h [] H (Same.refl H) .nil
theorem RA.cons {σ : L2.St} {H : Hp} {δ : Dt} {g : E} {gs : List E} {Q : List V → Hp → Prop} (h : RA X σ H (evs (g :: gs) δ) Q) : RQ X σ H (g δ) fun v H1 => RA X σ H1 (evs gs δ) fun vs H2 => Same H1 H2 → ∀ d, Rep X.K X.mg H1 v d → Q (v :: vs) H2 := by
  unfold evs at h
  cases q : g δ with
  | ok d =>
    rw [q] at h
    refine fun v H1 s1 r1 => ?_
    simp only [R.bind] at h
    cases q2 : evs gs δ with
    | ok ds =>
      rw [q2] at h
      exact fun vs H2 s2 rs s2' d' r' => h (v :: vs) H2 (s1.trans s2) (.cons (r1.mono s2) rs)
    | ex C => rw [q2] at h; exact fun Ca hc H' s' => h Ca hc H' (s1.trans s')
    | bad => rw [q2] at h; exact h
  | ex C => rw [q] at h; exact h
  | bad => rw [q] at h; exact h
theorem RA.to {σ : L2.St} {H : Hp} {r : R (List D)} {Q Q' : List V → Hp → Prop} (h : RA X σ H r Q) (g : ∀ v H', Same H H' → Q v H' → Q' v H') : RA X σ H r Q' := by
  cases r with
  | ok d => exact fun v H' s r => g v H' s (h v H' s r)
  | ex C => exact h
  | bad => exact h
theorem a_cons {es : List Expr} {gs : List E} (ha : SE X e g) (hr : SA X es gs) (hs : starEach (e :: es) X.env = (false, eval e X.env) :: starEach es X.env := by rfl) : SA X (e :: es) (g :: gs) :=
  PA.weak (pa_cons ha hr hs) fun σ H Q ⟨δ, hσ, h⟩ => by
    refine ⟨δ, hσ, ?_⟩
    cases q : g δ with
    | ok d =>
      have h' := RA.cons h
      rw [q] at h'
      exact fun v H1 s1 r1 => ⟨δ, hσ.mono s1, (h' v H1 s1 r1).to fun vs H2 s2 z => z s2 d r1⟩
    | ex C =>
      have h' := RA.cons h
      rw [q] at h'
      exact h'
    | bad =>
      have h' := RA.cons h
      rw [q] at h'
      exact h'
theorem e_tup {es : List Expr} {gs : List E} {x1} (h : SA X es gs) (hl : es.length ≤ 1000) (hg : gs.length = es.length := by rfl) : SE X (.Tuple es x1 pos) (tupE gs) :=
  PE.weak (pe_tup h) fun σ H Q ⟨δ, hσ, q⟩ => ⟨δ, hσ, by
    have q' := RA.bind q
    cases e : evs gs δ with
    | ok ds =>
      have hd : ds.length = gs.length := evs_len e
      rw [e] at q'
      refine fun vs H1 s1 rs => ?_
      obtain ⟨_, ds', rs', q2⟩ := q' vs H1 s1 rs
      refine ⟨by rw [rs.length, hd, hg]; exact Nat.le_of_lt (small1000 hl), fun p hp => q2 _ _ (same_upd hp _) (.tup (SqT.of upd_same) (rs'.mono (same_upd hp _)))⟩
    | ex C => rw [e] at q'; exact q'
    | bad => rw [e] at q'; exact q'⟩
where
  evs_len {δ : Dt} : ∀ {gs : List E} {ds : List D}, evs gs δ = .ok ds → ds.length = gs.length
    | [], ds, e => by cases e; rfl
    | g :: gs, ds, e => by
      unfold evs at e
      cases q : g δ with
      | ok d =>
        rw [q] at e
        simp only [R.bind] at e
        cases q2 : evs gs δ with
        | ok ds' => rw [q2] at e; cases e; simp [evs_len q2]
        | ex C => rw [q2] at e; cases e
        | bad => rw [q2] at e; cases e
      | ex C => rw [q] at e; cases e
      | bad => rw [q] at e; cases e
theorem e_lst {es : List Expr} {gs : List E} (h : SA X es gs) (hl : es.length ≤ 1000) (hg : gs.length = es.length := by rfl) : SE X (.List es pos) (lstE gs) :=
  PE.weak (pe_lst h) fun σ H Q ⟨δ, hσ, q⟩ => ⟨δ, hσ, by
    have q' := RA.bind q
    cases e : evs gs δ with
    | ok ds =>
      have hd : ds.length = gs.length := e_tup.evs_len e
      rw [e] at q'
      refine fun vs H1 s1 rs => ?_
      obtain ⟨_, ds', rs', q2⟩ := q' vs H1 s1 rs
      refine ⟨by rw [rs.length, hd, hg]; exact Nat.le_of_lt (small1000 hl), fun p hp => q2 _ _ (same_upd hp _) (.lst (SqL.of upd_same) (rs'.mono (same_upd hp _)))⟩
    | ex C => rw [e] at q'; exact q'
    | bad => rw [e] at q'; exact q'⟩

/-! ### places -/
theorem nxIx : NoX2 oIx := fun x y C z => by
  unfold oIx at z
  split at z
  · split at z <;> cases z
  · split at z <;> cases z
  · split at z
    · split at z <;> cases z
    · cases z
  · cases z
theorem atI_reps {H : Hp} {xs : List V} {ds : List D} {i : Int} {d : D} (rs : Reps X.K X.mg H xs ds) (h : ((EV.ixN ds.length i).bind fun j => ds[j]?) = some d) : ∃ v, atI xs i = some v ∧ Rep X.K X.mg H v d := by
  have el := rs.length
  cases q : EV.ixN ds.length i with
  | none => rw [q] at h; cases h
  | some j =>
    rw [q] at h
    obtain ⟨v, h1, h2⟩ := rs.get h
    refine ⟨v, ?_, h2⟩
    unfold atI
    rw [el, show L2.ixN ds.length i = some j from q]
    exact h1
theorem ix_D : IxR X (rD X oIx) := by
  intro value slice pins s σ H x y v u Q I rx ry ⟨dx, dy, d, r1, r2, e, q⟩ hs
  unfold oIx at e
  split at e
  · split at e
    · rename_i h
      cases e; cases r1; cases r2
      rename_i a xs hq rs
      obtain ⟨w, h1, h2⟩ := atI_reps rs h
      exact ix_tup value slice pins s σ H _ _ v u Q I rx ry ⟨a, xs, _, w, rfl, rfl, hq, h1, q _ _ (Same.refl _) h2⟩ hs
    · cases e
  · split at e
    · rename_i h
      cases e; cases r1; cases r2
      rename_i a xs hq rs
      obtain ⟨w, h1, h2⟩ := atI_reps rs h
      exact ix_list value slice pins s σ H _ _ v u Q I rx ry ⟨a, xs, _, w, rfl, rfl, hq, h1, q _ _ (Same.refl _) h2⟩ hs
    · cases e
  · split at e
    · rename_i hz
      split at e
      · rename_i c h
        cases e; cases r1; cases r2
        refine ix_str value slice pins s σ H _ _ v u Q I rx ry ⟨_, _, c, rfl, rfl, Nat.le_trans hz (by rw [sizeLine_eq]; decide), ?_, q _ _ (Same.refl _) (.str _)⟩ hs
        exact h
      · cases e
    · cases e
  · cases e
theorem e_ix (ha : SE X a ga) (hb : SE X b gb) (hs : PlainIx b := by intro _ _; rfl) : SE X (.Subscript a b pos) (EV.bin oIx ga gb) :=
  PE.weak (pe_ix ix_D ha hb hs) fun σ H Q h => by
    obtain ⟨δ, hσ, q⟩ := bin_to h
    refine ⟨δ, hσ, q.to fun x H1 s1 ⟨δ1, hσ1, q1⟩ => ⟨δ1, hσ1, q1.to fun y H2 s2 ⟨dx, dy, r1, r2, q2⟩ => RQ.op nxIx r1 r2 q2⟩⟩
end
end ES

set_option Elab.async false
set_option linter.all false
set_option maxRecDepth 100000
/-! SOUNDNESS, part 3: lists of one's own, statements. -/
namespace ES
open PySem PySem.Spec PyProof.Rows L2 EV
unseal SE ST SW SA

noncomputable abbrev Os := List (Nat × Addr)
noncomputable def adrs (os : Os) : List Addr := os.map (·.2)
noncomputable def hide (H : Hp) (os : Os) : Hp := fun a => if a ∈ adrs os then none else H a
theorem hide_nil (H : Hp) : hide H [] = H := by
  funext a
  unfold hide adrs
  simp
theorem hide_in {H : Hp} {os : Os} {a : Addr} (h : a ∈ adrs os) : hide H os a = none := if_pos h
theorem hide_out {H : Hp} {os : Os} {a : Addr} (h : a ∉ adrs os) : hide H os a = H a := if_neg h
theorem hide_same (H : Hp) (os : Os) : Same (hide H os) H := fun b o e => by
  unfold hide at e
  split at e
  · cases e
  · exact e
theorem hide_mono {H H' : Hp} (os : Os) (s : Same H H') : Same (hide H os) (hide H' os) := fun b o e => by
  unfold hide at e ⊢
  split at e
  · cases e
  · rename_i h
    rw [if_neg h]
    exact s b o e
/-- lists of one's own: the state, with the addresses hidden -/
structure StO (X : Cx) (H : Hp) (σ : L2.St) (δ : Dt) (os : Os) : Prop where
  st : Stt X.K X.mg (hide H os) σ δ
  lst : ∀ p ∈ os, ∃ xs ds, H p.2 = some (.lst xs) ∧ σ[p.1]? = some (some (.ref p.2)) ∧ δ[p.1]? = some (some (.own ds)) ∧ Reps X.K X.mg (hide H os) xs ds
  own : ∀ i ds, δ[i]? = some (some (.own ds)) → ∃ a, (i, a) ∈ os
  inj : ∀ i j a, (i, a) ∈ os → (j, a) ∈ os → i = j
theorem mem_adrs {os : Os} {a : Addr} (h : a ∈ adrs os) : ∃ p ∈ os, p.2 = a := by
  obtain ⟨p, hp, e⟩ := List.mem_map.mp h
  exact ⟨p, hp, e⟩
theorem adrs_mem {os : Os} {p : Nat × Addr} (h : p ∈ os) : p.2 ∈ adrs os := List.mem_map.mpr ⟨p, h, rfl⟩
/-- the records of the hidden lists -/
noncomputable def pinsOf (h : Heap) (os : Os) : List (Addr × Obj) := pinsAt (adrs os) h
section
variable {X : Cx} {pins : List (Addr × Obj)} {σ : L2.St} {H H' : Hp} {s s' : Shared} {os : Os}
noncomputable def Lsts (H : Hp) (os : Os) : Prop := ∀ a ∈ adrs os, ∃ xs, H a = some (.lst xs)
theorem inv_hide (I : Inv X pins σ H s) (hl : Lsts H os) : Inv X (pins ++ pinsOf s.heap os) σ (hide H os) s := by
  have ne : ∀ {b : Addr} {o : HO}, H b = some o → (∀ xs, o ≠ .lst xs) → hide H os b = some o := fun {b o} e n => by
    rw [hide_out fun z => ?_]; exact e
    obtain ⟨xs, q⟩ := hl b z
    rw [e] at q
    exact n xs (Option.some.inj q)
  refine ⟨I.ok, I.os, I.bare, ⟨I.base.keep, I.base.slot, fun b o e n hx => ?_, I.base.there, fun b xs e => ?_, fun b o u e => ?_, fun b ps e => ?_⟩, I.loc, I.cell, ?_, fun x c e => ?_, fun p hp => ?_, fun a o e => ?_, I.len⟩
  · unfold hide; split
    · rfl
    · exact I.base.free b o e n hx
  · exact ne (I.base.tups b xs e) fun _ z => nomatch z
  · exact ne (I.base.frzs b o u e) fun _ z => nomatch z
  · obtain ⟨more, q⟩ := I.base.tbls b ps e
    exact ⟨more, ne q fun _ z => nomatch z⟩
  · unfold hide; split
    · rfl
    · exact I.free
  · unfold hide; split
    · rfl
    · exact I.freeC x c e
  · rw [← List.append_assoc] at hp
    rcases List.mem_append.mp hp with z | z
    · obtain ⟨e, n, r⟩ := I.pin p z
      refine ⟨e, ?_, r⟩
      unfold hide; split
      · rfl
      · exact n
    · obtain ⟨hb, e⟩ := of_pinsAt z
      obtain ⟨xs, q⟩ := hl p.1 hb
      obtain ⟨_, its, n, _, e'⟩ := I.hok p.1 _ q
      rw [e] at e'
      have e2 : p.2 = { cls := .type "list", data := .seq its.toArray n } := Option.some.inj e'
      refine ⟨e, hide_in hb, fun z => ?_, fun z => ?_, fun v z => ?_⟩
      · rw [z, I.free] at q; cases q
      · have hx : p.1 ∉ X.ex := fun w => I.ok.exfs p.1 w z
        obtain ⟨_, o0, ho0, _⟩ := I.ok.funs.mem z
        rw [I.base.free p.1 o0 ho0 (I.ok.frf p.1 z) hx] at q; cases q
      · rw [e2] at z; cases z
  · have hna : a ∉ adrs os := fun z => by rw [hide_in z] at e; cases e
    rw [hide_out hna] at e
    exact (I.hok a o e).stay (fun _ _ _ q => q) (fun b q => ne q fun _ z => nomatch z) fun b xs q => ne q fun _ z => nomatch z
/-- the hidden lists as they were, beside the new heap -/
noncomputable def show_ (H H' : Hp) (os : Os) : Hp := fun a => if a ∈ adrs os then H a else H' a
theorem hide_show {os : Os} (h : ∀ a ∈ adrs os, H' a = none) : hide (show_ H H' os) os = H' := by
  funext a
  unfold hide show_
  by_cases z : a ∈ adrs os
  · rw [if_pos z, h a z]
  · rw [if_neg z, if_neg z]
theorem inv_show (hx : X.ex = []) (I0 : Inv X pins σ H s) (hl : Lsts H os) (I : Inv X (pins ++ pinsOf s.heap os) σ H' s') : Inv X pins σ (show_ H H' os) s' ∧ ∀ a ∈ adrs os, H' a = none := by
  have pin : ∀ a ∈ adrs os, ∃ o, s.heap.get? a = some o ∧ s'.heap.get? a = some o ∧ H' a = none ∧ a ≠ X.env.locals ∧ a ∉ X.fs := fun a ha => by
    obtain ⟨xs, q⟩ := hl a ha
    obtain ⟨o, e⟩ : ∃ o, s.heap.get? a = some o := by
      obtain ⟨_, its, n, _, e⟩ := I0.hok a _ q
      exact ⟨_, e⟩
    obtain ⟨e1, e2, e3, e4, _⟩ := I.pin (a, o) (List.mem_append_right _ (List.mem_append_right _ (mem_pinsAt ha e)))
    exact ⟨o, e, e1, e2, e3, e4⟩
  have hn : ∀ a ∈ adrs os, H' a = none := fun a ha => (pin a ha).choose_spec.2.2.1
  have vis : ∀ {b : Addr} {o : HO}, H' b = some o → show_ H H' os b = some o := fun {b o} e => by
    unfold show_; rw [if_neg fun z => ?_]; exact e
    rw [hn b z] at e; cases e
  refine ⟨⟨I.ok, I.os, I.bare, ⟨I.base.keep, I.base.slot, fun b o e n hx' => ?_, I.base.there, fun b xs e => vis (I.base.tups b xs e), fun b o u e => vis (I.base.frzs b o u e), fun b ps e => ?_⟩, I.loc, I.cell, ?_, fun x c e => ?_, fun p hp => ?_, fun a o e => ?_, I.len⟩, hn⟩
  · unfold show_; split
    · exact I0.base.free b o e n hx'
    · exact I.base.free b o e n hx'
  · obtain ⟨more, q⟩ := I.base.tbls b ps e
    exact ⟨more, vis q⟩
  · unfold show_; split
    · exact I0.free
    · exact I.free
  · unfold show_; split
    · exact I0.freeC x c e
    · exact I.freeC x c e
  · obtain ⟨e, n, r⟩ := I.pin p (by rw [← List.append_assoc]; exact List.mem_append_left _ hp)
    refine ⟨e, ?_, r⟩
    unfold show_; split
    · exact (I0.pin p hp).2.1
    · exact n
  · by_cases z : a ∈ adrs os
    · obtain ⟨ob, e0, e1, _⟩ := pin a z
      unfold show_ at e
      rw [if_pos z] at e
      obtain ⟨xs, q⟩ := hl a z
      rw [e] at q
      have q' : o = .lst xs := Option.some.inj q
      subst q'
      obtain ⟨hz, its, n, r, e2⟩ := I0.hok a _ e
      rw [e0] at e2
      have e3 : ob = _ := Option.some.inj e2
      subst e3
      exact ⟨hz, its, n, r, e1⟩
    · unfold show_ at e
      rw [if_neg z] at e
      exact (I.hok a o e).stay (fun _ _ _ q => q) (fun b q => vis q) fun b xs q => vis q
end
/-! ### flat data does not know of hidden lists -/
section
variable {K : PySem.W.Frag} {mg : Str → Option Value} {H H' : Hp}
noncomputable def NoL (H H' : Hp) : Prop := ∀ b o, H b = some o → (∀ xs, o ≠ .lst xs) → (∀ ob xs, o ≠ .frz ob (.lst xs)) → H' b = some o
theorem seqT_nol (k : NoL H H') {a : Addr} {xs : List V} (h : SqT K H a xs) : SqT K H' a xs := by
  rcases h with (h | ⟨o, h⟩) | h
  · exact .inl (.inl (k _ _ h (fun _ z => nomatch z) fun _ _ z => nomatch z))
  · exact .inl (.inr ⟨o, k _ _ h (fun _ z => nomatch z) fun _ _ z => by cases z⟩)
  · exact .inr h
mutual
theorem rep_nol (k : NoL H H') : ∀ {v : V} {d : D}, d.flat = true → Rep K mg H v d → Rep K mg H' v d
  | _, _, _, .non => .non
  | _, _, _, .bl b => .bl b
  | _, _, _, .int i => .int i
  | _, _, _, .str x => .str x
  | _, .tup ds, f, .tup h r => .tup (seqT_nol k h) (reps_nol k (by simpa [D.flat] using f) r)
  | _, .lst ds, f, _ => by simp [D.flat] at f
  | _, _, _, .ty n => .ty n
  | _, _, _, .cls h => .cls h
  | _, _, _, .exc h e => .exc h (k _ _ e (fun _ z => nomatch z) fun _ _ z => nomatch z)
  | _, .ins n ds, f, .ins h e r => .ins h (k _ _ e (fun _ z => nomatch z) fun _ _ z => nomatch z) (repf_nol k (by simpa [D.flat] using f) r)
theorem reps_nol (k : NoL H H') : ∀ {vs : List V} {ds : List D}, D.flats ds = true → Reps K mg H vs ds → Reps K mg H' vs ds
  | _, _, _, .nil => .nil
  | _, d :: r, f, .cons h t => by
    have f' : d.flat = true ∧ D.flats r = true := by simpa [D.flats] using f
    exact .cons (rep_nol k f'.1 h) (reps_nol k f'.2 t)
theorem repf_nol (k : NoL H H') : ∀ {vs : List (Str × V)} {ds : List (String × D)}, D.flatf ds = true → Repf K mg H vs ds → Repf K mg H' vs ds
  | _, _, _, .nil => .nil
  | _, (_, d) :: r, f, .cons h t => by
    have f' : d.flat = true ∧ D.flatf r = true := by simpa [D.flatf] using f
    exact .cons (rep_nol k f'.1 h) (repf_nol k f'.2 t)
end
theorem nol_hide {os : Os} (hl : Lsts H os) : NoL H (hide H os) := fun b o e n _ => by
  rw [hide_out fun z => ?_]; exact e
  obtain ⟨xs, q⟩ := hl b z
  rw [e] at q
  exact n xs (Option.some.inj q)
end
section
variable {X : Cx} {σ : L2.St} {δ : Dt} {H H' : Hp} {os : Os}
theorem StO.lsts (S : StO X H σ δ os) : Lsts H os := fun a ha => by
  obtain ⟨p, hp, rfl⟩ := mem_adrs ha
  obtain ⟨xs, _, h, _⟩ := S.lst p hp
  exact ⟨xs, h⟩
theorem StO.nil (h : Stt X.K X.mg H σ δ) (hn : ∀ (i : Nat) (ds : List D), δ[i]? ≠ some (some (.own ds))) : StO X H σ δ [] := ⟨by rw [hide_nil]; exact h, fun p hp => (nomatch hp), fun i ds e => absurd e (hn i ds), fun _ _ _ z => (nomatch z)⟩
/-- the heap grows -/
theorem StO.mono (S : StO X H σ δ os) (s : Same H H') : StO X H' σ δ os :=
  ⟨S.st.mono (hide_mono os s), fun p hp => let ⟨xs, ds, a, b, c, d⟩ := S.lst p hp; ⟨xs, ds, s _ _ a, b, c, d.mono (hide_mono os s)⟩, S.own, S.inj⟩
/-- behind the hidden walk -/
theorem StO.shown (S : StO X H σ δ os) (s : Same (hide H os) H') (hn : ∀ a ∈ adrs os, H' a = none) : StO X (show_ H H' os) σ δ os := by
  have e := hide_show (H := H) hn
  refine ⟨by rw [e]; exact S.st.mono s, fun p hp => ?_, S.own, S.inj⟩
  obtain ⟨xs, ds, a, b, c, d⟩ := S.lst p hp
  exact ⟨xs, ds, by unfold show_; rw [if_pos (adrs_mem hp)]; exact a, b, c, by rw [e]; exact d.mono s⟩
theorem StO.view (S : StO X H σ δ os) : Stt X.K X.mg H σ (view δ) := by
  refine ⟨by unfold EV.view; rw [List.length_map]; exact S.st.1, fun i d e n => ?_⟩
  unfold EV.view at e
  rw [List.getElem?_map] at e
  cases q : δ[i]? with
  | none => rw [q] at e; cases e
  | some c =>
    rw [q] at e
    cases c with
    | none => cases e
    | some d0 =>
      by_cases ho : ∃ ds, d0 = .own ds
      · obtain ⟨ds, rfl⟩ := ho
        have e' : D.lst ds = d := Option.some.inj (Option.some.inj e)
        subst e'
        obtain ⟨a, ha⟩ := S.own i ds q
        obtain ⟨xs, ds', h1, h2, h3, h4⟩ := S.lst _ ha
        rw [q] at h3
        cases h3
        exact ⟨.ref a, h2, .lst (SqL.of h1) (h4.mono (hide_same H os))⟩
      · have e' : d0 = d := by
          cases d0 <;> first | exact absurd ⟨_, rfl⟩ ho | exact Option.some.inj (Option.some.inj e)
        subst e'
        obtain ⟨v, h1, h2⟩ := S.st.2 i d0 q n
        exact ⟨v, h1, h2.mono (hide_same H os)⟩
theorem StO.noOwn (S : StO X H σ δ os) {H' : Hp} (s : Same (hide H os) H') : Stt X.K X.mg H' σ (noOwn δ) := by
  refine ⟨by unfold EV.noOwn; rw [List.length_map]; exact S.st.1, fun i d e n => ?_⟩
  unfold EV.noOwn at e
  rw [List.getElem?_map] at e
  cases q : δ[i]? with
  | none => rw [q] at e; cases e
  | some c =>
    rw [q] at e
    cases c with
    | none => cases e
    | some d0 =>
      by_cases ho : ∃ ds, d0 = .own ds
      · obtain ⟨ds, rfl⟩ := ho
        cases e
      · have e' : d0 = d := by
          cases d0 <;> first | exact absurd ⟨_, rfl⟩ ho | exact Option.some.inj (Option.some.inj e)
        subst e'
        obtain ⟨v, h1, h2⟩ := S.st.2 i d0 q n
        exact ⟨v, h1, h2.mono s⟩
end
/-! ### an expression, the lists of one's own hidden -/
/-- what is asked of an answer -/
noncomputable def FQ (X : Cx) (σ : L2.St) (H : Hp) (os : Os) (δ : Dt) (r : R D) (Q : VK) : Prop := match r with
  | .ok d => ∀ v H', StO X H' σ δ os → Same (hide H os) (hide H' os) → Rep X.K X.mg (hide H' os) v d → Q v H'
  | .ex C => ∀ Ca, X.mg C = some (.ref Ca) → ∀ H', Same (hide H os) H' → Stt X.K X.mg H' σ (noOwn δ) → ew X Ca σ H'
  | .bad => False
noncomputable def tF (X : Cx) (g : E) : TE := fun σ H Q => ∃ δ os, StO X H σ δ os ∧ FQ X σ H os δ (g δ) Q
noncomputable def FT (X : Cx) (σ : L2.St) (H : Hp) (os : Os) (δ : Dt) (r : R D) (Q : Bool → Hp → Prop) : Prop := match r with
  | .ok (.bl b) => ∀ H', StO X H' σ δ os → Same (hide H os) (hide H' os) → Q b H'
  | .ex C => ∀ Ca, X.mg C = some (.ref Ca) → ∀ H', Same (hide H os) H' → Stt X.K X.mg H' σ (noOwn δ) → ew X Ca σ H'
  | _ => False
noncomputable def tFT (X : Cx) (g : E) : TT := fun σ H Q => ∃ δ os, StO X H σ δ os ∧ FT X σ H os δ (g δ) Q
section
variable {X : Cx} {e : Expr} {g : E}
theorem frameE (hx : X.ex = []) (h : SE X e g) : PE X e (tF X g) := by
  intro pins s σ H Q I ⟨δ, os, S, q⟩
  have hl := S.lsts
  have hw : RQ X σ (hide H os) (g δ) (fun v H1 => Same (hide H os) H1 ∧ ∃ d, g δ = .ok d ∧ Rep X.K X.mg H1 v d) := by
    cases r : g δ with
    | ok d => exact fun v H' s r => ⟨s, d, rfl, r⟩
    | ex C =>
      rw [r] at q
      exact fun Ca hc H' s' => q Ca hc H' s' (S.noOwn s')
    | bad => rw [r] at q; exact q
  refine thn (h _ s σ _ _ (inv_hide I hl) ⟨δ, S.st, hw⟩) fun u s' ⟨v, H1, I1, rv, sm, d, e, rd⟩ => ?_
  obtain ⟨I2, hn⟩ := inv_show hx I hl I1
  rw [e] at q
  have eh := hide_show (H := H) hn
  exact ⟨v, _, I2, rv, q v _ (S.shown sm hn) (by rw [eh]; exact sm) (by rw [eh]; exact rd)⟩
theorem frameT (hx : X.ex = []) (h : ST X e g) : PT X e (tFT X g) := by
  intro pins s σ H Q I ⟨δ, os, S, q⟩
  have hl := S.lsts
  have hw : RT X σ (hide H os) (g δ) (fun b H1 => Same (hide H os) H1 ∧ g δ = .ok (.bl b)) := by
    cases r : g δ with
    | ok d =>
      rw [r] at q
      cases d with
      | bl b => exact fun H' s => ⟨s, rfl⟩
      | _ => exact False.elim q
    | ex C =>
      rw [r] at q
      exact fun Ca hc H' s' => q Ca hc H' s' (S.noOwn s')
    | bad => rw [r] at q; exact False.elim q
  refine thn (h _ s σ _ _ (inv_hide I hl) ⟨δ, S.st, hw⟩) fun b s' ⟨H1, I1, sm, e⟩ => ?_
  obtain ⟨I2, hn⟩ := inv_show hx I hl I1
  rw [e] at q
  have eh := hide_show (H := H) hn
  exact ⟨_, I2, q _ (S.shown sm hn) (by rw [eh]; exact sm)⟩
/-- .. read: the answer is flat -/
noncomputable def tB (X : Cx) (g : E) : TE := fun σ H Q => ∃ δ os, StO X H σ δ os ∧ (∀ d, g (view δ) = .ok d → d.flat = true) ∧ FQ X σ H os δ (g (view δ)) Q
theorem borrowE (h : SE X e g) : PE X e (tB X g) := by
  intro pins s σ H Q I ⟨δ, os, S, hf, q⟩
  refine h pins s σ H Q I ⟨_, S.view, ?_⟩
  cases r : g (view δ) with
  | ok d =>
    rw [r] at q
    refine fun v H' s r' => q v H' (S.mono s) (hide_mono os s) (rep_nol (nol_hide ((S.mono s).lsts)) (hf d r) r')
  | ex C =>
    rw [r] at q
    exact fun Ca hc H' s' => q Ca hc H' ((hide_same H os).trans s') (S.noOwn ((hide_same H os).trans s'))
  | bad => rw [r] at q; exact q
end

/-! ### statements -/
noncomputable def OQ (X : Cx) (D : Ends) (F : Hp) : O → Prop
  | .nx δ => ∀ σ H os, StO X H σ δ os → Same F (hide H os) → D.nx σ H
  | .bk δ => ∀ σ H os, StO X H σ δ os → Same F (hide H os) → D.bk σ H
  | .ct δ => ∀ σ H os, StO X H σ δ os → Same F (hide H os) → D.ct σ H
  | .rt d => ∀ v H, Same F H → Rep X.K X.mg H v d → D.rt v H
  | .ex C δ => ∀ σ H, Same F H → Stt X.K X.mg H σ δ → ∀ Ca, X.mg C = some (.ref Ca) → ew X Ca σ H
  | .mk C δ => ∀ σ H, Same F H → ∀ Ca, X.mg C = some (.ref Ca) → em X Ca σ H
  | .bad => False
noncomputable def tS (X : Cx) (g : S) : TS := fun D σ H => ∃ δ os, StO X H σ δ os ∧ OQ X D (hide H os) (g δ)
@[irreducible] noncomputable def SS (X : Cx) (st : Stmt) (g : S) : Prop := PS X st (tS X g)
@[irreducible] noncomputable def SSs (X : Cx) (st : List Stmt) (g : S) : Prop := PSs X st (tS X g)
unseal SS SSs
theorem OQ.mono {X : Cx} {D : Ends} {F F' : Hp} {o : O} (s : Same F F') (h : OQ X D F o) : OQ X D F' o := by
  cases o with
  | nx δ => exact fun σ H os S s' => h σ H os S (s.trans s')
  | bk δ => exact fun σ H os S s' => h σ H os S (s.trans s')
  | ct δ => exact fun σ H os S s' => h σ H os S (s.trans s')
  | rt d => exact fun v H s' r => h v H (s.trans s') r
  | ex C δ => exact fun σ H s' S => h σ H (s.trans s') S
  | mk C δ => exact fun σ H s' => h σ H (s.trans s')
  | bad => exact h
/-- another end of falling through -/
theorem OQ.lv {X : Cx} {D : Ends} {F : Hp} {o : O} {n : L2.St → Hp → Prop} (hn : ∀ δ, o ≠ .nx δ) (h : OQ X D F o) : OQ X { D with nx := n } F o := by
  cases o with
  | nx δ => exact absurd rfl (hn δ)
  | _ => exact h
section
variable {X : Cx} {N : List Str} {H : Hp} {σ : L2.St} {δ : Dt} {os : Os}
theorem os_drop (os : Os) (i : Nat) : ∀ p ∈ os.filter (fun p => p.1 != i), p ∈ os ∧ p.1 ≠ i := fun p hp => by
  have := List.mem_filter.mp hp
  exact ⟨this.1, by simpa using this.2⟩
theorem hide_less {os os' : Os} (h : ∀ p ∈ os', p ∈ os) : Same (hide H os) (hide H os') := fun b o e => by
  have hb : b ∉ adrs os := fun z => by rw [hide_in z] at e; cases e
  rw [hide_out hb] at e
  rw [hide_out fun z => ?_]; exact e
  obtain ⟨p, hp, rfl⟩ := mem_adrs z
  exact hb (adrs_mem (h p hp))
theorem StO.set {v : V} {d : D} {i : Nat} (S : StO X H σ δ os) (r : Rep X.K X.mg (hide H os) v d) : StO X H (σ.set i (some v)) (δ.set i (some d)) (os.filter fun p => p.1 != i) ∧ Same (hide H os) (hide H (os.filter fun p => p.1 != i)) := by
  have sm : Same (hide H os) (hide H (os.filter fun p => p.1 != i)) := hide_less fun p hp => (os_drop os i p hp).1
  refine ⟨⟨(S.st.mono sm).set (r.mono sm), fun p hp => ?_, fun j ds e => ?_, fun a b c h1 h2 => S.inj a b c (os_drop os i _ h1).1 (os_drop os i _ h2).1⟩, sm⟩
  · obtain ⟨hp', ne⟩ := os_drop os i p hp
    obtain ⟨xs, ds, h1, h2, h3, h4⟩ := S.lst p hp'
    exact ⟨xs, ds, h1, by rw [List.getElem?_set_ne (Ne.symm ne)]; exact h2, by rw [List.getElem?_set_ne (Ne.symm ne)]; exact h3, h4.mono sm⟩
  · by_cases hj : j = i
    · subst hj
      by_cases hl : j < δ.length
      · rw [List.getElem?_set_self hl] at e
        have e' : d = .own ds := Option.some.inj (Option.some.inj e)
        subst e'
        cases r
      · rw [List.getElem?_eq_none (by simp; omega)] at e
        cases e
    · rw [List.getElem?_set_ne (Ne.symm hj)] at e
      obtain ⟨a, ha⟩ := S.own j ds e
      exact ⟨a, List.mem_filter.mpr ⟨ha, by simpa using hj⟩⟩
/-- what a statement's place tells -/
structure Sx (X : Cx) (N : List Str) : Prop where
  sc : Sc X N
  ex : X.ex = []
variable {e c : Expr} {g gc : E} {pos : Pos} {st : Stmt} {rest body els : List Stmt} {gs gr gb ge : S}
theorem FQ.then {r : R EV.D} {Q : VK} {D : Ends} {f : EV.D → O} (h : OQ X D (hide H os) (match r with | .ok d => f d | .ex C => .ex C (noOwn δ) | .bad => .bad))
    (hq : ∀ d v H', r = .ok d → StO X H' σ δ os → Same (hide H os) (hide H' os) → Rep X.K X.mg (hide H' os) v d → OQ X D (hide H' os) (f d) → Q v H') : FQ X σ H os δ r Q := by
  cases r with
  | ok d => exact fun v H' S s r => hq d v H' rfl S s r (OQ.mono s h)
  | ex C => exact fun Ca hc H' s' st => h σ H' s' st Ca hc
  | bad => exact h
theorem s_nil : SSs X [] pass_ := PSs.weak pss_nil fun D σ H ⟨δ, os, S, h⟩ => h σ H os S (Same.refl _)
theorem s_one (h : SS X st gs) : SSs X [st] gs := pss_one h
theorem s_cons (h : SS X st gs) (hr : SSs X rest gr) : SSs X (st :: rest) (seq gs gr) := PSs.weak (pss_cons h hr) fun D σ H ⟨δ, os, S, h⟩ => ⟨δ, os, S, by
  unfold seq at h
  cases q : gs δ with
  | nx δ' =>
    rw [q] at h
    exact fun σ' H' os' S' s' => ⟨δ', os', S', OQ.mono s' h⟩
  | _ => rw [q] at h; exact OQ.lv (fun _ z => nomatch z) h⟩
theorem s_set (C : Sx X N) (i : Nat) {x : Str} {pos' : Pos} (hN : N[i]? = some x) (hx : Sto X x) (h : SE X e g) (hsw : swapsWith e (some (.Name x pos')) pos.line X.env = pure false := by rfl) : SS X (.Assign [.Name x pos'] e pos) (assign i g) :=
  PS.weak (ps_set (i := i) (by rw [C.sc.n]; exact C.sc.nd) (by rw [C.sc.n]; exact hN) hx.1 (frameE C.ex h) hsw hx.2) fun D σ H ⟨δ, os, S, q⟩ => ⟨δ, os, S, FQ.then q fun d v H' e S' s r q' => by
    obtain ⟨S2, s2⟩ := S'.set (i := i) r
    exact q' _ _ _ S2 s2⟩
theorem s_expr (C : Sx X N) (h : SE X e g) (hs : swapsWith e none pos.line X.env = pure false := by rfl) : SS X (.Expr e pos) (expr g) :=
  PS.weak (ps_expr (frameE C.ex h) hs) fun D σ H ⟨δ, os, S, q⟩ => ⟨δ, os, S, FQ.then q fun d v H' e S' s r q' => q' _ _ _ S' (Same.refl _)⟩
theorem s_ret (C : Sx X N) (h : SE X e g) : SS X (.Return (some e) pos) (ret g) :=
  PS.weak (ps_ret (frameE C.ex h)) fun D σ H ⟨δ, os, S, q⟩ => ⟨δ, os, S, FQ.then q fun d v H' e S' s r q' => q' v H' (hide_same _ _) (r.mono (hide_same _ _))⟩
theorem FT.then {r : R EV.D} {Q : Bool → Hp → Prop} {D : Ends} {ta fa : O} (h : OQ X D (hide H os) (match r with | .ok (.bl true) => ta | .ok (.bl false) => fa | .ex C => .ex C (noOwn δ) | _ => .bad))
    (hq : ∀ b H', StO X H' σ δ os → Same (hide H os) (hide H' os) → OQ X D (hide H' os) (if b = true then ta else fa) → Q b H') : FT X σ H os δ r Q := by
  cases r with
  | ok d =>
    cases d with
    | bl b =>
      cases b with
      | true => exact fun H' S s => hq true H' S s (by rw [if_pos rfl]; exact OQ.mono s h)
      | false => exact fun H' S s => hq false H' S s (by rw [if_neg (by decide)]; exact OQ.mono s h)
    | _ => exact h
  | ex C => exact fun Ca hc H' s' st => h σ H' s' st Ca hc
  | bad => exact h
theorem s_if (C : Sx X N) (hc : ST X c gc) (ha : SSs X body gb) (hb : SSs X els ge) : SS X (.If c body els pos) (ifs gc gb ge) :=
  PS.weak (ps_if (frameT C.ex hc) ha hb) fun D σ H ⟨δ, os, S, q⟩ => ⟨δ, os, S, FT.then q fun b H' S' s q' => by
    cases b with
    | true => exact iteT ⟨δ, os, S', by simpa using q'⟩
    | false => exact iteF ⟨δ, os, S', by simpa using q'⟩⟩

/-! ### loops -/
theorem drop_cons_of {α : Type} {xs : List α} {n : Nat} {x : α} (h : xs[n]? = some x) : xs.drop n = x :: xs.drop (n + 1) := by
  obtain ⟨h1, h2⟩ := List.getElem?_eq_some_iff.mp h
  rw [List.drop_eq_getElem_cons h1, h2]
/-- what holds ahead of turn n -/
noncomputable def Pv (X : Cx) (D : Ends) (F F1 : Hp) (i : Nat) (gb : S) (ds : List EV.D) (n : Nat) (σ : L2.St) (H : Hp) : Prop := ∃ δ os, StO X H σ δ os ∧ Same F1 (hide H os) ∧ Same F F1 ∧ OQ X D F (forL i gb (ds.drop n) δ)
theorem turn_ok {D : Ends} {F F1 : Hp} {i n : Nat} {ds : List EV.D} {d : EV.D} {v : V} (hd : ds[n]? = some d) (r : ∀ H', Same F1 H' → Rep X.K X.mg H' v d) (p : Pv X D F F1 i gb ds n σ H) :
    gName i v σ H fun σ2 H2 => tS X gb { D with nx := Pv X D F F1 i gb ds (n + 1), ct := Pv X D F F1 i gb ds (n + 1), bk := D.nx } σ2 H2 := by
  obtain ⟨δ, os, S, s1, s0, q⟩ := p
  rw [drop_cons_of hd] at q
  obtain ⟨S2, s2⟩ := S.set (i := i) (r _ s1)
  refine ⟨_, _, S2, ?_⟩
  unfold forL trn at q
  have s3 := (s0.trans s1).trans s2
  cases e : gb (δ.set i (some d)) with
  | nx δ1 => rw [e] at q; exact fun σ' H' os' S' s' => ⟨δ1, os', S', (s1.trans s2).trans s', s0, q⟩
  | ct δ1 => rw [e] at q; exact fun σ' H' os' S' s' => ⟨δ1, os', S', (s1.trans s2).trans s', s0, q⟩
  | bk δ1 => rw [e] at q; exact fun σ' H' os' S' s' => q σ' H' os' S' (s3.trans s')
  | rt d' => rw [e] at q; exact fun v' H' s' r' => q v' H' (s3.trans s') r'
  | ex C δ1 => rw [e] at q; exact fun σ' H' s' r' => q σ' H' (s3.trans s') r'
  | mk C δ1 => rw [e] at q; exact fun σ' H' s' => q σ' H' (s3.trans s')
  | bad => rw [e] at q; exact q
theorem end_ok {D : Ends} {F F1 : Hp} {i n : Nat} {ds : List EV.D} (hn : ds.length ≤ n) (p : Pv X D F F1 i gb ds n σ H) : D.nx σ H := by
  obtain ⟨δ, os, S, s1, s0, q⟩ := p
  rw [List.drop_eq_nil_of_le hn] at q
  exact q σ H os S (s0.trans s1)
structure Lp (X : Cx) : Prop where
  own : PassesOwn (model X.prog X.w) X.A X.env X.xe
  calm : X.calm = true
theorem rngD_at {lo hi : Int} {k : Nat} (h : k < (hi - lo).toNat) : (rngD lo hi)[k]? = some (.int (lo + k)) := by
  unfold rngD
  rw [List.getElem?_map, List.getElem?_range h]
  rfl
theorem rngD_len (lo hi : Int) : (rngD lo hi).length = (hi - lo).toNat := by simp [rngD]
end
end ES

set_option Elab.async false
set_option linter.all false
set_option maxRecDepth 100000
/-! SOUNDNESS, part 4: exceptions, defs and calls. -/
namespace ES
open PySem PySem.Spec PyProof.Rows L2 EV
unseal SE ST SW SA SS SSs
theorem obj_there {P : Program} {w : World} {H : Hp} {h : Heap} {a : Addr} {o : HO} (x : ObjOk P w H h a o) : ∃ ob, h.get? a = some ob := by
  cases o with
  | lst xs => obtain ⟨_, _, _, _, e⟩ := x; exact ⟨_, e⟩
  | tup xs => obtain ⟨_, _, _, ob, e, _⟩ := x; exact ⟨_, e⟩
  | dK kvs => obtain ⟨_, _, _, _, ob, _, _, e, _⟩ := x; exact ⟨_, e⟩
  | dT kvs => obtain ⟨_, _, _, _, ob, _, _, e, _⟩ := x; exact ⟨_, e⟩
  | set S n => obtain ⟨ob, _, _, _, e, _⟩ := x; exact ⟨_, e⟩
  | ins C dx fs => obtain ⟨_, _, _, e, _⟩ := x; exact ⟨_, e⟩
  | own y => exact x
  | xd fs => obtain ⟨_, ⟨_, _, _, e, _⟩, _⟩ := x; exact ⟨_, e⟩
  | rng lo hi => obtain ⟨_, _, _, e⟩ := x; exact ⟨_, e⟩
  | frz ob u => obtain ⟨e, _⟩ := x; exact ⟨_, e⟩
  | tbl ps => exact ⟨_, (show h.get? a = some _ from x)⟩
  | met f y => exact ⟨_, (show h.get? a = some _ from x)⟩
  | ext φ => obtain ⟨_, e, _⟩ := x; exact e

/-! ### what is kept while it flies -/
theorem un_fly {fs : List Addr} {H H' : Hp} {h h1 h2 B : Heap} (u : Un fs [] H H' h h1) (same : Same H H') (i1 : ∀ b o, h.get? b = some o → H b = none → b ∉ fs → B.get? b = some o)
    (i2 : ∀ b u o, H' b = some u → h1.get? b = some o → B.get? b = some o) (st : B.StaysIn h2) (up : h1.UpToSlots h2) (ff : ∀ b ∈ fs, ∀ o, h1.get? b = some o → ∀ vs, o.data ≠ .fields vs) : Un fs [] H H' h h2 := by
  have slot : ∀ b o, h.get? b = some o → H b = none → b ∈ fs → b ∉ ([] : List Addr) → ∃ sl, h2.get? b = some { o with slots := sl } := fun b o e n hb hx => by
    obtain ⟨sl, e1⟩ := u.slot b o e n hb hx
    obtain ⟨sl2, e2⟩ := up b _ e1 (ff b hb _ e1)
    exact ⟨sl2, e2⟩
  refine ⟨fun b o e n hb _ => st b o (i1 b o e n hb), slot, u.free, fun b o e hx => ?_, u.tups, u.frzs, u.tbls⟩
  cases n : H b with
  | none =>
    by_cases hb : b ∈ fs
    · obtain ⟨sl, e2⟩ := slot b o e n hb hx
      exact ⟨_, e2⟩
    · exact ⟨o, st b o (i1 b o e n hb)⟩
  | some x =>
    obtain ⟨o', e1⟩ := u.there b o e hx
    exact ⟨o', st b o' (i2 b x o' (same b x n) e1)⟩
theorem hok_fly {P : Program} {w : World} {H' : Hp} {h1 h2 B : Heap} (hok : HOk P w H' h1) (i2 : ∀ b u o, H' b = some u → h1.get? b = some o → B.get? b = some o) (st : B.StaysIn h2) : HOk P w H' h2 := fun a o e =>
  (hok a o e).stay (fun b u hb q => by
    rcases hb with rfl | hb
    · exact st b u (i2 b o u e q)
    · exact st b u (i2 b _ u hb q)) (fun _ q => q) fun _ _ q => q
theorem i2_fly {P : Program} {w : World} {H' : Hp} {h1 h2 B : Heap} (hok : HOk P w H' h1) (i2 : ∀ b u o, H' b = some u → h1.get? b = some o → B.get? b = some o) (st : B.StaysIn h2) : ∀ b u o, H' b = some u → h2.get? b = some o → B.get? b = some o := fun b u o e q => by
  obtain ⟨ob, e1⟩ := obj_there (hok b u e)
  have e2 := i2 b u ob e e1
  have e3 := st b ob e2
  rw [q] at e3
  cases e3
  exact e2
theorem ff_of {base h : Heap} {l : List Env} (x : h.FunFrames base l) : ∀ b ∈ frs l, ∀ o, h.get? b = some o → ∀ vs, o.data ≠ .fields vs := fun b hb o e => by
  obtain ⟨_, o', e', d⟩ := x.mem hb
  rw [e] at e'
  cases e'
  exact d

section
variable {X : Cx} {pins : List (Addr × Obj)} {σ : L2.St} {H H' : Hp} {s s' : Shared} {C ea : Addr}
/-- the frame of the body at hand -/
structure Own (X : Cx) : Prop where
  stk : X.stack = X.env :: X.outer
  frm : X.env.frame = some X.env.locals
  ex : X.ex = []
theorem Own.frs (h : Own X) : L2.frs X.stack = X.env.locals :: X.fs := by
  rw [h.stk]
  unfold L2.frs
  rw [List.filterMap_cons, h.frm]
  rfl
theorem first_of (I : Inv X pins σ H s) (O : Own X) {B : Heap} (i1 : ∀ b o, s.heap.get? b = some o → H b = none → b ∉ L2.frs X.stack → B.get? b = some o) : ∀ b o, X.s₀.heap.get? b = some o → X.H₀ b = none → b ∉ X.fs → B.get? b = some o := fun b o e n hb => by
  have hx : b ∉ X.ex := by rw [O.ex]; simp
  refine i1 b o (I.base.keep b o e n hb hx) (I.base.free b o e n hx) fun z => ?_
  rw [O.frs] at z
  rcases List.mem_cons.mp z with q | q
  · exact absurd (Nat.lt_of_lt_of_le (Heap.lt_size e) I.ok.above) (by rw [q]; exact Nat.lt_irrefl _)
  · exact hb q
theorem new_of (I : Inv X pins σ H s) (O : Own X) (h : s.heap.get? ea = none) : X.s₀.heap.get? ea = none := by
  cases q : X.s₀.heap.get? ea with
  | none => rfl
  | some o =>
    obtain ⟨o', e⟩ := I.base.there ea o q (by rw [O.ex]; simp)
    rw [h] at e
    cases e
theorem base_nil (I : Inv X pins σ H s) (O : Own X) : Un X.fs [] X.H₀ H X.s₀.heap s.heap := by
  have z := I.base
  rw [O.ex] at z
  exact z
theorem fly_inv (I : Inv X pins σ H s) (F : FlyX X.prog X.w X.stack H s C H' ea s') : Inv X pins σ H' s' := I.call' (ch := []) F.os F.un F.hok F.bare fun b z => absurd z (by simp)
/-- an exception of a callee leaves this frame too -/
theorem leaves_on {M : Model} {E : Value → Shared → Prop} {Q : Unit → Shared → Prop} (I : Inv X pins σ H s) (O : Own X) (F : FlyX X.prog X.w X.stack H s C H' ea s') (same : Same X.H₀ H')
    (hQ : ∀ s'', FlyX X.prog X.w X.outer X.H₀ X.s₀ C H' ea s'' → Q () s'') : wpAny M X.A (leaving X.env (.ref ea)) Q E s' := by
  obtain ⟨a0, B, hfl, i1, i2⟩ := F.fly
  have I' := fly_inv I F
  have ff := ff_of hfl.2.2.1
  rw [O.stk] at hfl
  refine wpAny_leaves_onW (by rw [I.ok.frames, O.stk]) O.frm hfl fun h' f1 up => hQ _ ⟨F.os.trans I.os, F.bare, ?_, hok_fly F.hok i2 f1.1, same, new_of I O F.new, a0, B, f1, first_of I O i1, i2_fly F.hok i2 f1.1⟩
  exact un_fly (base_nil I' O) same (first_of I O i1) i2 f1.1 up fun b hb => ff b (by rw [O.frs]; exact List.mem_cons_of_mem _ hb)
/-- one that is made here leaves -/
theorem leaves_made {M : Model} {E : Value → Shared → Prop} {Q : Unit → Shared → Prop} {h1 : Heap} {vs : List Value} (I : Inv X pins σ H s) (O : Own X) (made : Heap.MadeExcOf s.heap h1 ea (.ref C) vs) (same : Same X.H₀ H)
    (hQ : ∀ s'', FlyX X.prog X.w X.outer X.H₀ X.s₀ C H ea s'' → Q () s'') : wpAny M X.A (leaving X.env (.ref ea)) Q E { s with heap := h1 } := by
  have hst := I.stack
  have ff := ff_of hst
  have i1 : ∀ b o, s.heap.get? b = some o → H b = none → b ∉ L2.frs X.stack → (PySem.W.hideAll s.heap (L2.frs X.stack)).get? b = some o := fun b o e _ hb => PySem.W.hideAll_get _ e hb
  have i2 : ∀ b u o, H b = some u → s.heap.get? b = some o → (PySem.W.hideAll s.heap (L2.frs X.stack)).get? b = some o := fun b u o e q => PySem.W.hideAll_get _ q fun z => by
    rw [I.stkFree b z] at e
    cases e
  have hl := PySem.W.funFrames_hide (as := L2.frs X.stack) hst fun env he b hb => List.mem_filterMap.mpr ⟨env, he, hb⟩
  rw [O.stk] at hl
  refine wpAny_leaves_madeW (s := { s with heap := h1 }) (base := PySem.W.hideAll s.heap (L2.frs X.stack)) (by rw [I.ok.frames, O.stk]) O.frm (fun b o e => PySem.W.of_hideAll _ e) (by rw [O.stk] at *; exact hl) made fun h' t f1 _ _ up => hQ _ ⟨I.os, I.bare, ?_, hok_fly I.hok i2 f1.1, same, new_of I O made.new, _, _, f1, first_of I O i1, i2_fly I.hok i2 f1.1⟩
  exact un_fly (base_nil I O) same (first_of I O i1) i2 f1.1 ((Heap.UpToSlots.of_keeps made.keeps).trans up) fun b hb => ff b (by rw [O.frs]; exact List.mem_cons_of_mem _ hb)
end


/-! ### defs -/
noncomputable def CXF (P : Program) (w : World) : CXT := fun outer H s E e s' => ∃ C H' ea, e = .ref ea ∧ FlyX P w outer H s C H' ea s' ∧ E (.ref C) none H'
/-- a def's promise: its shallow function -/
noncomputable def spP (K : PySem.W.Frag) (mg : Str → Option Value) (f : List D → R D) : Sp := fun vs H Q E => ∃ ds, Reps K mg H vs ds ∧ match f ds with
  | .ok d => ∀ v H', Same H H' → Rep K mg H' v d → Q v H'
  | .ex C => ∀ Ca, mg C = some (.ref Ca) → ∀ H', Same H H' → E (.ref Ca) none H'
  | .bad => False
theorem own_def {CX : CXT} {P : Program} {w : World} {K : PySem.W.Frag} {mg : Str → Option Value} {base : Heap} {N : List Str} {qual : Str} {sc : Scope} {f : Addr} {cdv : Value} {A : Around} {outer : List Env} {s : Shared} {H : Hp} {E : XK} :
    Own (cxOf CX P w K mg base N qual sc f cdv A outer s H E) := ⟨rfl, rfl, rfl⟩
section
variable {P : Program} {w : World} {K : PySem.W.Frag} {mg : Str → Option Value} {base : Heap} {N : List Str} {qual : Str} {sc : Scope} {f : Addr} {cdv : Value} {A : Around} {outer : List Env} {s : Shared} {H H' : Hp} {E : XK} {C : Addr} {σ : L2.St}
theorem ew_def (same : Same H H') (hE : E (.ref C) none H') : ew (cxOf (CXF P w) P w K mg base N qual sc f cdv A outer s H E) C σ H' :=
  fun pins H1 s1 ea s' I F => leaves_on I own_def F same fun s'' F' => ⟨C, H', ea, rfl, F', hE⟩
theorem em_def (same : Same H H') (hE : E (.ref C) none H') : em (cxOf (CXF P w) P w K mg base N qual sc f cdv A outer s H E) C σ H' :=
  fun pins s1 h' ea vs I made => leaves_made I own_def made same fun s'' F' => ⟨C, H', ea, rfl, F', hE⟩
end

/-- the scope's facts, decided once a def -/
structure ScF (N G ps : List Str) (sc : Scope) : Prop where
  fs : FnScope N ps sc
  loc : ∀ x ∈ N, Loc sc x
  glb : ∀ x ∈ G, sc.names.lookup x = some .globalImplicit
  dbg : ∀ x ∈ N, (x == ("__debug__" : Str)) = false ∧ (x == ("__classdict__" : Str)) = false
  dbgG : ∀ x ∈ G, (x == ("__debug__" : Str)) = false ∧ x ≠ "__name__"
/-- a place within a def's body -/
structure Pl (X : Cx) (N G : List Str) : Prop extends Sx X N where
  sto : ∀ x ∈ N, Sto X x
  gb : ∀ x ∈ G, Gb X x
noncomputable instance locDec {sc : Scope} {x : Str} : Decidable (Loc sc x) := inferInstanceAs (Decidable (_ ∨ _))
theorem locVis {sc : Scope} {x : Str} (h : Loc sc x) : Vis sc x := h.elim .inl fun z => .inr (.inl z)
theorem stt_start {K : PySem.W.Frag} {mg : Str → Option Value} {H : Hp} {N : List Str} {n m : Nat} : ∀ {vs : List V} {ds : List D}, Reps K mg H vs ds → ds.length = n → N.length = m → Stt K mg H (L2.start N vs) (EV.start n m ds) := by
  intro vs ds r hn hm
  have hl := r.length
  refine ⟨by simp [L2.start, EV.start, hl, hn, hm], fun i d e _ => ?_⟩
  unfold EV.start at e
  by_cases hi : i < ds.length
  · rw [List.getElem?_append_left (by simpa using hi), List.getElem?_map] at e
    cases q : ds[i]? with
    | none => rw [q] at e; cases e
    | some d' =>
      rw [q] at e
      have e' : d' = d := Option.some.inj (Option.some.inj e)
      subst e'
      obtain ⟨v, h1, h2⟩ := r.get q
      exact ⟨v, by unfold L2.start; rw [List.getElem?_append_left (by simp; omega), List.getElem?_map, h1]; rfl, h2⟩
  · rw [List.getElem?_append_right (by simpa using hi), List.getElem?_replicate] at e
    split at e <;> cases e
theorem start_noOwn {K : PySem.W.Frag} {mg : Str → Option Value} {H : Hp} {n m : Nat} {vs : List V} {ds : List D} (r : Reps K mg H vs ds) (i : Nat) (es : List D) : (EV.start n m ds)[i]? ≠ some (some (.own es)) := fun e => by
  unfold EV.start at e
  by_cases hi : i < ds.length
  · rw [List.getElem?_append_left (by simpa using hi), List.getElem?_map] at e
    cases q : ds[i]? with
    | none => rw [q] at e; cases e
    | some d' =>
      rw [q] at e
      have e' : d' = .own es := Option.some.inj (Option.some.inj e)
      subst e'
      obtain ⟨v, h1, h2⟩ := r.get q
      cases h2
  · rw [List.getElem?_append_right (by simpa using hi), List.getElem?_replicate] at e
    split at e <;> cases e
theorem fn_ok {P : Program} {w : World} {K : PySem.W.Frag} {mg : Str → Option Value} {base : Heap} {x qual : Str} {st : Stmt} {f : Addr} {fd : FuncData} {N G ps : List Str} {k n m : Nat} {g : S}
    (F : Fun K x qual st f fd) (S : ScF N G ps (defScope st)) (hn : ps.length = n) (hm : N.length = m)
    (hbody : ∀ X : Cx, X.prog = P → X.w = w → X.K = K → X.mg = mg → X.base = base → Room k X.A → Lp X → Own X → Pl X N G → X.env.scope = defScope st → SSs X (defBody st) g) :
    FnOk P w K mg base (CXF P w) (k + 1) f fd ps (spP K mg (fn n m g)) := by
  obtain ⟨oc, od, kV, doc, pm, an, cdv, ct, osl, rfl, lk, hcd⟩ := F.ex
  have len : ∀ {ds : List D}, fn n m g ds ≠ .bad → ds.length = n := fun {ds} h => by
    unfold fn at h
    split at h
    · assumption
    · exact absurd rfl h
  refine fn_of lk hcd S.fs (fun vs H Q E h => ?_) fun A outer s H vs Q E hr h => ?_
  · obtain ⟨ds, rs, h⟩ := h
    rw [rs.length, hn]
    refine len fun z => ?_
    rw [z] at h
    exact h
  · obtain ⟨ds, rs, h⟩ := h
    have hl : ds.length = n := len fun z => by rw [z] at h; exact h
    refine ⟨_, hbody (cxOf (CXF P w) P w K mg base N qual (defScope st) f cdv A outer s H E) rfl rfl rfl rfl rfl hr ⟨PassesOwn.leaving, rfl⟩ own_def ⟨⟨⟨rfl, S.fs.nd, fun y hy => locVis (S.loc y hy), S.dbg⟩, rfl⟩, fun y hy => ⟨S.loc y hy, .inl rfl⟩, fun y hy => ⟨S.glb y hy, (S.dbgG y hy).1, (S.dbgG y hy).2⟩⟩ rfl, _, [], StO.nil (stt_start rs hl hm) (start_noOwn rs), ?_⟩
    rw [hide_nil]
    unfold fn at h
    rw [if_pos hl] at h
    cases e : g (EV.start n m ds) with
    | nx δ => rw [e] at h; exact fun σ H' os _ s' => h .non H' (s'.trans (hide_same _ _)) .non
    | rt d => rw [e] at h; exact fun v H' s' r => h v H' s' r
    | ex C δ => rw [e] at h; exact fun σ H' s' _ Ca hc => ew_def s' (h Ca hc H' s')
    | mk C δ => rw [e] at h; exact fun σ H' s' Ca hc => em_def s' (h Ca hc H' s')
    | bk δ => rw [e] at h; exact False.elim h
    | ct δ => rw [e] at h; exact False.elim h
    | bad => rw [e] at h; exact False.elim h
noncomputable abbrev at5 (X : Cx) (P : Program) (w : World) (K : PySem.W.Frag) (mg : Str → Option Value) (base : Heap) : Cx := { X with prog := P, w := w, K := K, mg := mg, base := base }
theorem fn_ok2 {P : Program} {w : World} {K : PySem.W.Frag} {mg : Str → Option Value} {base : Heap} {x qual : Str} {st : Stmt} {f : Addr} {fd : FuncData} {N G ps : List Str} {k n m : Nat} {g : S}
    (F : Fun K x qual st f fd) (S : ScF N G ps (defScope st)) (hn : ps.length = n) (hm : N.length = m)
    (hbody : ∀ X : Cx, Room k (at5 X P w K mg base).A → Lp (at5 X P w K mg base) → Own (at5 X P w K mg base) → Pl (at5 X P w K mg base) N G → (at5 X P w K mg base).env.scope = defScope st → SSs (at5 X P w K mg base) (defBody st) g) :
    FnOk P w K mg base (CXF P w) (k + 1) f fd ps (spP K mg (fn n m g)) := fn_ok F S hn hm fun X hP hw hK hM hB hr L O Pl hS => by
  subst hP hw hK hM hB
  exact hbody X hr L O Pl hS
theorem us1 {C : List Value → Prop} (h : ∀ a, C [a]) (us : List Value) (hl : us.length = 1) : C us := by
  match us, hl with
  | [_], _ => exact h _
theorem us2 {C : List Value → Prop} (h : ∀ a b, C [a, b]) (us : List Value) (hl : us.length = 2) : C us := by
  match us, hl with
  | a :: us, hl => exact us1 (C := fun us => C (a :: us)) (h a) us (Nat.succ.inj hl)
theorem us3 {C : List Value → Prop} (h : ∀ a b c, C [a, b, c]) (us : List Value) (hl : us.length = 3) : C us := by
  match us, hl with
  | a :: us, hl => exact us2 (C := fun us => C (a :: us)) (h a) us (Nat.succ.inj hl)
theorem us4 {C : List Value → Prop} (h : ∀ a b c d, C [a, b, c, d]) (us : List Value) (hl : us.length = 4) : C us := by
  match us, hl with
  | a :: us, hl => exact us3 (C := fun us => C (a :: us)) (h a) us (Nat.succ.inj hl)
theorem binds1 {K : PySem.W.Frag} {x qual : Str} {st : Stmt} {f : Addr} {fd : FuncData} {ps : List Str} (F : Fun K x qual st f fd) (hp : ps.length = 1)
    (h : ∀ (kV doc pm : Value) (an : Option Addr) (cdv ct : Value) (a : Value), bindArgs (PySem.W.fnOf x qual (defArgs st) (defBody st) (defScope st) .none kV doc pm an cdv ct) ⟨[a], []⟩ = pure (ps.zip [a])) : Binds K fd ps [] :=
  F.binds fun kV doc pm an cdv ct us hl => us1 (C := fun us => bindArgs (PySem.W.fnOf x qual (defArgs st) (defBody st) (defScope st) .none kV doc pm an cdv ct) ⟨us, []⟩ = pure (ps.zip us)) (h kV doc pm an cdv ct) us (hl.trans hp)
theorem binds2 {K : PySem.W.Frag} {x qual : Str} {st : Stmt} {f : Addr} {fd : FuncData} {ps : List Str} (F : Fun K x qual st f fd) (hp : ps.length = 2)
    (h : ∀ (kV doc pm : Value) (an : Option Addr) (cdv ct : Value) (a b : Value), bindArgs (PySem.W.fnOf x qual (defArgs st) (defBody st) (defScope st) .none kV doc pm an cdv ct) ⟨[a, b], []⟩ = pure (ps.zip [a, b])) : Binds K fd ps [] :=
  F.binds fun kV doc pm an cdv ct us hl => us2 (C := fun us => bindArgs (PySem.W.fnOf x qual (defArgs st) (defBody st) (defScope st) .none kV doc pm an cdv ct) ⟨us, []⟩ = pure (ps.zip us)) (h kV doc pm an cdv ct) us (hl.trans hp)
theorem binds3 {K : PySem.W.Frag} {x qual : Str} {st : Stmt} {f : Addr} {fd : FuncData} {ps : List Str} (F : Fun K x qual st f fd) (hp : ps.length = 3)
    (h : ∀ (kV doc pm : Value) (an : Option Addr) (cdv ct : Value) (a b c : Value), bindArgs (PySem.W.fnOf x qual (defArgs st) (defBody st) (defScope st) .none kV doc pm an cdv ct) ⟨[a, b, c], []⟩ = pure (ps.zip [a, b, c])) : Binds K fd ps [] :=
  F.binds fun kV doc pm an cdv ct us hl => us3 (C := fun us => bindArgs (PySem.W.fnOf x qual (defArgs st) (defBody st) (defScope st) .none kV doc pm an cdv ct) ⟨us, []⟩ = pure (ps.zip us)) (h kV doc pm an cdv ct) us (hl.trans hp)
theorem binds4 {K : PySem.W.Frag} {x qual : Str} {st : Stmt} {f : Addr} {fd : FuncData} {ps : List Str} (F : Fun K x qual st f fd) (hp : ps.length = 4)
    (h : ∀ (kV doc pm : Value) (an : Option Addr) (cdv ct : Value) (a b c d : Value), bindArgs (PySem.W.fnOf x qual (defArgs st) (defBody st) (defScope st) .none kV doc pm an cdv ct) ⟨[a, b, c, d], []⟩ = pure (ps.zip [a, b, c, d])) : Binds K fd ps [] :=
  F.binds fun kV doc pm an cdv ct us hl => us4 (C := fun us => bindArgs (PySem.W.fnOf x qual (defArgs st) (defBody st) (defScope st) .none kV doc pm an cdv ct) ⟨us, []⟩ = pure (ps.zip us)) (h kV doc pm an cdv ct) us (hl.trans hp)
structure FnP (P : Program) (w : World) (K : PySem.W.Frag) (mg : Str → Option Value) (base : Heap) (x : Str) (k : Nat) (f : List D → R D) : Prop where
  ex : ∃ fa fd ps, FnOk P w K mg base (CXF P w) k fa fd ps (spP K mg f) ∧ mg x = some (.ref fa) ∧ PySem.W.keepIn K (.ref fa) = true ∧ Binds K fd ps []
theorem fn_def {P : Program} {w : World} {K : PySem.W.Frag} {mg : Str → Option Value} {base : Heap} {x : Str} {fa : Addr} {fd : FuncData} {ps : List Str} {k : Nat} {f : List D → R D}
    (F : FnOk P w K mg base (CXF P w) k fa fd ps (spP K mg f)) (kp : PySem.W.keepIn K (.ref fa) = true) (hm : mg x = some (.ref fa)) (hb : Binds K fd ps []) : FnP P w K mg base x k f := ⟨fa, fd, ps, F, hm, kp, hb⟩
structure Callee (X : Cx) (x : Str) (f : List D → R D) : Prop where
  ex : ∃ k fa fd ps, FnOk X.prog X.w X.K X.mg X.base (CXF X.prog X.w) k fa fd ps (spP X.K X.mg f) ∧ Room k X.A ∧ X.mg x = some (.ref fa) ∧ PySem.W.keepIn X.K (.ref fa) = true ∧ Binds X.K fd ps []
theorem FnP.callee {X : Cx} {x : Str} {k j : Nat} {f : List D → R D} (F : FnP X.prog X.w X.K X.mg X.base x k f) (hr : Room j X.A) (h : k ≤ j) : Callee X x f := by
  obtain ⟨fa, fd, ps, a, b, c, d⟩ := F.ex
  exact ⟨k, fa, fd, ps, a, hr.mono h, b, c, d⟩
section
variable {X : Cx} {x : Str} {f : List D → R D} {e : Expr} {es : List Expr} {gs : List E} {p pos : Pos}
/-- the callee runs -/
theorem run_p {k : Nat} {fa : Addr} {fd : FuncData} {ps : List Str} {pins : List (Addr × Obj)} {σ : L2.St} {H : Hp} {s : Shared} {Q : VK} {us : List Value} {vs : List V} {ds : List D}
    (F : FnOk X.prog X.w X.K X.mg X.base (CXF X.prog X.w) k fa fd ps (spP X.K X.mg f)) (hr : Room k X.A) (hb : Binds X.K fd ps []) (I : Inv X pins σ H s) (r : Vals vs us) (rs : Reps X.K X.mg H vs ds) (q : RQ X σ H (f ds) Q) :
    wpAny (model X.prog X.w) X.A (PySem.call (.ref fa) us) (EP X pins σ Q) X.xe s := by
  have hsp : spP X.K X.mg f vs H Q (fun c _ H' => ∃ C Ca, f ds = .ex C ∧ X.mg C = some (.ref Ca) ∧ c = .ref Ca ∧ Same H H') := ⟨ds, rs, by
    cases e : f ds with
    | ok d => rw [e] at q; exact q
    | ex C => exact fun Ca hc H' s' => ⟨C, Ca, rfl, hc, rfl, s'⟩
    | bad => rw [e] at q; exact q⟩
  have hl : us.length = ps.length := by rw [← r.length]; exact F.len _ _ _ _ hsp
  have hb' := hb s us I.kIn (by rw [List.append_nil]; exact hl)
  rw [List.append_nil] at hb'
  refine wpAny_call (codeAny_mono (F.run X.A X.stack s H ⟨us, []⟩ us vs _ _ hr I.env0 hb' r hsp) fun r s' hq => ?_)
  cases r with
  | error er =>
    obtain ⟨C', H', ea, rfl, FX, C, Ca, e1, hc, e2, s2⟩ := hq
    cases e2
    rw [e1] at q
    exact q C' hc H' s2 pins H s ea s' I FX
  | ok fl =>
    cases fl with
    | ret u => exact I.after hq
    | next => exact False.elim hq
    | brk => exact False.elim hq
    | cont => exact False.elim hq
theorem e_call (c : Callee X x f) (G : Gb X x) (ha : SA X (e :: es) gs) (he : starEach (e :: es) X.env = (false, eval e X.env) :: starEach es X.env := by rfl) (hpl : (backTo pos (starEach es X.env)).any (·.1) = false := by rfl) :
    SE X (.Call (.Name x p) (e :: es) [] pos) (EV.call f gs) := by
  obtain ⟨k, fa, fd, ps, F, hr, hm, hk, hb⟩ := c.ex
  intro pins s σ H Q I ⟨δ, hσ, h⟩
  refine wpAny_Call_Name_kw (ld_glob I G.g hm ?_ G.d)
  refine PySem.W.callWith_K (h₀ := X.base) I.ok.mod.kin hk (thn (ha pos pins s σ H _ I ⟨δ, hσ, RA.bind h⟩) fun us s1 ⟨vs, H1, I1, r, sm, ds, rs, q⟩ => ⟨I1.kIn, run_p F hr hb I1 r rs q⟩) he hpl
end
/-! ### raise C("..") -/
theorem own_obj {K : PySem.W.Frag} {h : Heap} {C : Addr} {bmB : List Value} {newId : String} (KX : K.In h) (q : PySem.W.excIn K C bmB newId = true) :
    ∃ bm M nm qn bs hd sn sub ab col dd k0 k1 k2 k3 k5 mN, h.get? C = some (excClassObj nm qn C M bs bm hd sn sub ab col dd k0 k1 k2 k3 k5 newId) ∧ h.Ns M mN ∧ mN "__init__" = none ∧ OwnTail h bmB bm := by
  unfold PySem.W.excIn at q
  split at q
  · rename_i d1 cd sl hlk
    split at q
    · rename_i C' bm k0 k1 k2 k3 n k5 e1 e2
      simp only [Bool.and_eq_true, beq_iff_eq, Bool.not_eq_true'] at q
      obtain ⟨⟨⟨⟨⟨r1, r2⟩, r3⟩, r4⟩, r5⟩, r6⟩ := q
      subst r1 r2
      obtain ⟨nm, bs, mro, ns, qn, hd, sn, sub, ab, col, del⟩ := cd
      dsimp only at e1 r3 r5 r6
      subst e1 r3
      have e3 : sl = #[k0, k1, k2, k3, some (.builtin n), k5] := by
        obtain ⟨l⟩ := sl
        simp only at e2
        rw [e2]
      subst e3
      exact ⟨bm, ns, nm, qn, bs, hd, sn, sub, ab, col, d1, k0, k1, k2, k3, k5, _, KX _ _ hlk, .of_isNs (PySem.W.isNs_of_in KX r5), PySem.W.nsMap_none_of_in KX r5 r6, PySem.W.tail_of_in KX r4⟩
    · cases q
  · cases q
/-- the line of ValueError -/
def bmV : List Value := [.type "ValueError", .type "Exception", .type "BaseException", .type "object"]

section
variable {X : Cx} {pos : Pos} {x : String} {C : Addr}
theorem s_raise (hc : X.calm = true) {np cp p3 : Pos} {m : Str} {j : Nat} (G : Gb X x) (hm : X.mg x = some (.ref C)) (hq : PySem.W.excIn X.K C bmV "ValueError.__new__" = true) :
    SS X (.Raise (some (.Call (.Name x np) [.Constant (.str m) j p3] [] cp)) none pos) (raise x) := by
  intro pins s σ H D I ⟨δ, os, S, h⟩
  obtain ⟨bm, M, nm, qn, bs, hd, sn, sub, ab, col, dd, k0, k1, k2, k3, k5, mN, hC, hN, hni, T⟩ := own_obj I.mod.kin hq
  have FB : ExcBaseFacts "ValueError" "ValueError.__new__" "ValueError.__init__" bmV := PySem.F.excBase_ValueError
  refine wpAny_Raise_call_subT (C := C) (nm := nm) (q := qn) (N := M) (bs := bs) (bm := bm) (hdct := hd) (sn := sn) (sub := sub) (ab := ab) (col := col) (dd := dd) (k0 := k0) (k1 := k1) (k2 := k2) (k3 := k3) (k5 := k5)
    FB (mN := mN) (T.hasType FB.hasBase) (I.ok.hd hc) rfl hni (ld_glob I G.g hm ⟨rfl, ?_⟩ G.d)
  have hsp := (pa_cons (X := X) (pe_str (x := m) (j := j) (pos := p3)) pa_nil) cp pins s σ H (fun vs H1 => vs.length = 1 ∧ H1 = H) I (show (1 = 1 ∧ H = H) from ⟨rfl, rfl⟩)
  refine Calls.evalArgs_plain (thn hsp fun us s2 ⟨vs, H1, I1, r, q1, q2⟩ => ?_)
  subst q2
  have hl : us.length = 1 := by rw [← r.length]; exact q1
  exact ⟨rfl, by show us.length ≤ _; rw [hl, sizeLine_eq]; decide, I1.bk _ _ hC, hN.keeps I1.bk, T.keeps I1.bk, fun h' e1 made => h σ H1 (hide_same _ _) C hm pins s2 h' e1 us I1 made⟩
end
/-! ### except C' as n -/
section
variable {K : PySem.W.Frag} {M : Model} {h : Heap} {C C' e : Addr}
open PySem.W in
theorem xc_matches {A : Around} {E : Value → Shared → Prop} {s : Shared} {Q : Bool → Shared → Prop} (KX : K.In s.heap) (he : ∃ o, s.heap.get? e = some o ∧ o.cls = .ref C) (c1 : (clsIn K C').isSome = true) (c2 : typeIn K (.ref C') = some (.type "type"))
    (c3 : subIn K (.type "type") (.type "tuple") = some false) (c4 : mroIn K C' (.type "BaseException") = some true) (c5 : mroIn K C (.ref C') = some true) (h : Q true s) : wpAny M A (excMatches (.ref e) (.ref C')) Q E s := by
  obtain ⟨o, ho, hcl⟩ := he
  have L1 : Looks M s.heap (isInstance (.ref C') (.type "tuple")) false := (looks_typeIn KX c2).andThen (looks_subIn KX c3)
  have L2 : Looks M s.heap (isType (.ref C')) true := by
    obtain ⟨cd, c1⟩ := Option.isSome_iff_exists.mp c1
    unfold clsIn at c1
    split at c1
    · rename_i hlk
      intro A' Q' E' s' k q
      unfold isType loadHead
      exact wpAny_bind (wpAny_loadPart (k _ _ (KX _ _ hlk)) (wpAny_pure q))
    · cases c1
  have L3 : Looks M s.heap (isExcClass (.ref C')) true := L2.andThen (looks_mroIn KX c4)
  have L4 : Looks M s.heap (typeOf (.ref e)) (.ref C) := hcl ▸ (Looks.ld ho).andThen .now
  have L5 : Looks M s.heap (isSubtype (.ref C) (.ref C')) true := looks_mroIn KX c5
  unfold excMatches
  refine wpAny_bind (L1.here ?_)
  simp only [Bool.false_eq_true, if_false]
  refine wpAny_bind (wpAny_pure ?_)
  simp only [List.forIn_cons, List.forIn_nil]
  refine wpAny_bind (wpAny_bind (wpAny_bind (L3.here ?_)))
  simp only [Bool.not_true, Bool.false_eq_true, if_false]
  refine wpAny_pure ?_
  refine wpAny_pure ?_
  refine wpAny_bind (L4.here ?_)
  refine wpAny_bind (wpAny_bind (wpAny_bind (L5.here ?_)))
  simp only [if_true]
  exact wpAny_pure (wpAny_pure (wpAny_pure h))
end

/-- within a try: what an exception comes to is W, the pins are held -/
noncomputable abbrev tryCx (X : Cx) (pins : List (Addr × Obj)) (W : Value → Shared → Prop) : Cx := { X with xe := W, pn := X.pn ++ pins }
/-- within the except suite of the exception at ea -/
noncomputable abbrev inCx (X : Cx) (ea : Addr) : Cx := { X with A := X.A.mark (some (.ref ea)), calm := false, xe := fun _ _ => False }
section
variable {X : Cx} {pins : List (Addr × Obj)} {σ : L2.St} {H H' : Hp} {s s' : Shared} {C ea : Addr} {W : Value → Shared → Prop}
theorem ok_try (o : X.Ok) : (tryCx X pins W).Ok := ⟨o.mod, o.kind, o.glob, o.blt, o.above, o.inj, o.has, o.cab, o.hd, o.frames, o.stk, o.exf, o.bs, o.bsz, o.noex, o.exfs, o.funs, o.frf⟩
theorem inv_try (I : Inv X pins σ H s) : Inv (tryCx X pins W) [] σ H s :=
  ⟨ok_try I.ok, I.os, I.bare, I.base, I.loc, I.cell, I.free, I.freeC, fun p hp => I.pin p (by rw [List.append_nil] at hp; exact hp), I.hok, I.len⟩
theorem inv_untry {p2 : List (Addr × Obj)} (ok : X.Ok) (I : Inv (tryCx X pins W) p2 σ H s) : Inv X pins σ H s :=
  ⟨ok, I.os, I.bare, I.base, I.loc, I.cell, I.free, I.freeC, fun p hp => I.pin p (List.mem_append_left _ hp), I.hok, I.len⟩
theorem inv_in (I : Inv X pins σ H s) (ea : Addr) : Inv (inCx X ea) pins σ H s :=
  let o := I.ok
  ⟨⟨o.mod, o.kind, o.glob, o.blt, o.above, o.inj, o.has, o.cab, (fun z => absurd z Bool.false_ne_true), o.frames, o.stk, o.exf, o.bs, o.bsz, o.noex, o.exfs, o.funs, o.frf⟩, I.os, I.bare, I.base, I.loc, I.cell, I.free, I.freeC, I.pin, I.hok, I.len⟩
theorem inv_out (ok : X.Ok) (I : Inv (inCx X ea) pins σ H s) : Inv X pins σ H s := ⟨ok, I.os, I.bare, I.base, I.loc, I.cell, I.free, I.freeC, I.pin, I.hok, I.len⟩
/-- a name of the frame is gone -/
theorem inv_gone (I : Inv X pins σ H s) {i : Nat} {n : Str} {m : Str → Option Value} {v : Option Value} {h' : Heap} {tk : Nat} (hN : X.N.Nodup) (hi : X.N[i]? = some n)
    (hl : ∀ (i : Nat) (x : Str) (v : V), X.N[i]? = some x → σ[i]? = some (some v) → Vis X.env.scope x → ∃ u, RelV v u ∧ Look X.env s.heap m x u)
    (hn' : h'.Ns X.env.locals (fun x => if x = n then v else m x)) (hs : Heap.SameBut X.env.locals s.heap h') : Inv X pins (σ.set i none) H { s with heap := h', toks := tk } := by
  have cne := I.cne
  obtain ⟨m0, hn0, _⟩ := id I.loc
  have iσ : i < σ.length := by rw [I.len]; exact (List.getElem?_eq_some_iff.mp hi).1
  have ne0 : ∀ {b : Addr} {o : Obj}, X.s₀.heap.get? b = some o → b ≠ X.env.locals := fun {b o} e => Nat.ne_of_lt (Nat.lt_of_lt_of_le (Heap.lt_size e) I.ok.above)
  refine ⟨I.ok, I.os, I.bare, ⟨fun b o e k hb hx => ?_, fun b o e k hb hx => ?_, I.base.free, fun b o e hx => ?_, I.base.tups, I.base.frzs, I.base.tbls⟩, ⟨_, hn', fun j y v' e1 e2 e3 => ?_⟩, fun y c e => ?_, I.free, I.freeC, fun p hp => ?_, fun b ob e => ?_, by rw [List.length_set]; exact I.len⟩
  · exact (hs.2 b (ne0 e)).trans (I.base.keep b o e k hb hx)
  · obtain ⟨sl, q⟩ := I.base.slot b o e k hb hx
    exact ⟨sl, (hs.2 b (ne0 e)).trans q⟩
  · obtain ⟨o', q⟩ := I.base.there b o e hx
    exact ⟨o', (hs.2 b (ne0 e)).trans q⟩
  · by_cases hj : j = i
    · subst hj
      rw [List.getElem?_set_self iσ] at e2
      cases e2
    · rw [List.getElem?_set_ne (Ne.symm hj)] at e2
      obtain ⟨u, r, q⟩ := hl j y v' e1 e2 e3
      refine ⟨u, r, ?_⟩
      rcases q with ⟨k, e⟩ | ⟨k, c, e, z⟩
      · refine .inl ⟨k, ?_⟩
        have : y ≠ n := fun q => hj (nodup_ix hN e1 (q ▸ hi))
        simp [this, e]
      · exact .inr ⟨k, c, e, z.sameBut hs (cne y c e)⟩
  · obtain ⟨w', z⟩ := I.cell y c e
    exact ⟨w', z.sameBut hs (cne y c e)⟩
  · obtain ⟨e, k, ne, nf, d⟩ := I.pin p hp
    exact ⟨(hs.2 p.1 ne).trans e, k, ne, nf, d⟩
  · refine (I.hok b ob e).stay (fun c w' hc q => (hs.2 c ?_).trans q) (fun _ q => q) fun _ _ q => q
    rintro rfl
    rcases hc with rfl | hc
    · rw [I.free] at e; cases e
    · rw [I.free] at hc; cases hc
/-- the exception caught is tracked -/
theorem un_track {fs : List Addr} {h h2 : Heap} {o : HO} (u : Un fs [] H H' h h2) (k1 : h.get? ea = none) (k2 : H' ea = none) : Un fs [] H (upd H' ea o) h h2 := by
  have ne1 : ∀ {b : Addr} {ob : Obj}, h.get? b = some ob → b ≠ ea := fun {b ob} e z => by rw [z, k1] at e; cases e
  have ne2 : ∀ {b : Addr} {x : HO}, H' b = some x → b ≠ ea := fun {b x} e z => by rw [z, k2] at e; cases e
  refine ⟨u.keep, u.slot, fun b ob e n hx => by rw [upd_ne (ne1 e)]; exact u.free b ob e n hx, u.there, fun b xs e => ?_, fun b ob x e => ?_, fun b ps e => ?_⟩
  · have q := u.tups b xs e
    rw [upd_ne (ne2 q)]; exact q
  · have q := u.frzs b ob x e
    rw [upd_ne (ne2 q)]; exact q
  · obtain ⟨more, q⟩ := u.tbls b ps e
    exact ⟨more, by rw [upd_ne (ne2 q)]; exact q⟩
theorem hok_track {P : Program} {w : World} {h2 : Heap} (hok : HOk P w H' h2) (k2 : H' ea = none) (he : ∃ o vs, h2.get? ea = some o ∧ o.cls = .ref C ∧ o.data = .fields vs) : HOk P w (upd H' ea (excO ea C)) h2 := fun b u e => by
  by_cases hb : b = ea
  · subst hb
    rw [upd_same] at e
    cases e
    obtain ⟨o, vs, h1, h2', h3⟩ := he
    exact ⟨⟨o, vs, h1, h2', h3⟩, ⟨o, h1⟩, fun g1 g2 ⟨o1, vs1, q1, q2⟩ k => ⟨o1, vs1, k o1 q1, q2⟩⟩
  · rw [upd_ne hb] at e
    refine (hok b u e).stay (fun _ _ _ q => q) (fun c q => ?_) fun c xs q => ?_
    · rw [upd_ne (fun z => by rw [z, k2] at q; cases q)]; exact q
    · rw [upd_ne (fun z => by rw [z, k2] at q; cases q)]; exact q
end

/-- the class that «except» names: C' and what is under it -/
structure Catch (K : PySem.W.Frag) (C C' : Addr) : Prop where
  c1 : (PySem.W.clsIn K C').isSome = true
  c2 : PySem.W.typeIn K (.ref C') = some (.type "type")
  c3 : PySem.W.subIn K (.type "type") (.type "tuple") = some false
  c4 : PySem.W.mroIn K C' (.type "BaseException") = some true
  c5 : PySem.W.mroIn K C (.ref C') = some true

section
variable {X : Cx} {N G : List Str} {pos np hpos : Pos} {n : Str} {cls : String} {C' : Addr} {body suite : List Stmt} {b₀ : Stmt} {gb gs : S}
/-- which classes «except» catches: all that the shallow function knows of -/
noncomputable def Catches (X : Cx) (cls : String) (C' : Addr) : Prop := ∀ (C : String) (Ca : Addr), exSub C cls = true → X.mg C = some (.ref Ca) → Catch X.K Ca C'
theorem noOwn_stt {K : PySem.W.Frag} {mg : Str → Option Value} {H : Hp} {σ : L2.St} {δ : Dt} (h : Stt K mg H σ δ) : Stt K mg H σ (noOwn δ) := by
  refine ⟨by unfold noOwn; rw [List.length_map]; exact h.1, fun i d e n => ?_⟩
  unfold noOwn at e
  rw [List.getElem?_map] at e
  cases q : δ[i]? with
  | none => rw [q] at e; cases e
  | some c =>
    rw [q] at e
    cases c with
    | none => cases e
    | some d0 =>
      by_cases ho : ∃ ds, d0 = .own ds
      · obtain ⟨ds, rfl⟩ := ho
        cases e
      · have e' : d0 = d := by
          cases d0 <;> first | exact absurd ⟨_, rfl⟩ ho | exact Option.some.inj (Option.some.inj e)
        subst e'
        exact h.2 i d0 q n
theorem noOwn_ne {δ : Dt} {i : Nat} {d : D} (hd : ∀ ds, d ≠ .own ds) (j : Nat) (ds : List D) : ((noOwn δ).set i (some d))[j]? ≠ some (some (.own ds)) := fun e => by
  by_cases hj : j = i
  · subst hj
    by_cases hl : j < (noOwn δ).length
    · rw [List.getElem?_set_self hl] at e
      exact hd ds (Option.some.inj (Option.some.inj e))
    · rw [List.getElem?_eq_none (by rw [List.length_set]; omega)] at e
      cases e
  · rw [List.getElem?_set_ne (Ne.symm hj)] at e
    unfold noOwn at e
    rw [List.getElem?_map] at e
    cases q : δ[j]? with
    | none => rw [q] at e; cases e
    | some c =>
      rw [q] at e
      cases c with
      | none => cases e
      | some d0 => cases d0 <;> cases e
theorem caught (P : Pl X N G) (O : Own X) (i : Nat) (hn : N[i]? = some n) (hloc : X.env.scope.names.lookup n = some .local) (GC : Gb X cls) (hm : X.mg cls = some (.ref C')) {C : String} {Ca : Addr} (hC : X.mg C = some (.ref Ca)) (hk : Catch X.K Ca C')
    (hs : ∀ ea, SSs (inCx X ea) (b₀ :: suite) gs) {δe δ2 : Dt} (eg : gs (δe.set i (some (.exc C))) = .nx δ2)
    (ne' : ∀ (j : Nat) (ds : List D), (δe.set i (some (.exc C)))[j]? ≠ some (some (.own ds)))
    {pins : List (Addr × Obj)} {σ : L2.St} {H1 H' : Hp} {s1 s' : Shared} {ea : Addr} {D : Ends} {hrest : List ExceptHandler}
    (I1 : Inv X pins σ H1 s1) (F : FlyX X.prog X.w X.stack H1 s1 Ca H' ea s') (hσ : Stt X.K X.mg H' σ δe) (hD : ∀ σ2 H2 os, Same H' (hide H2 os) → StO X H2 σ2 (δ2.set i none) os → D.nx σ2 H2) :
    wpAny (model X.prog X.w) X.A (noteFrame (.ref ea) X.env) (fun _ s2 => wpAny (model X.prog X.w) X.A (setFlight (.ref ea) none) (fun _ s3 =>
      wpAny (model X.prog X.w) X.A (handleBy (.ref ea) X.env (.ExceptHandler (some (.Name cls np)) (some n) (b₀ :: suite) hpos :: hrest)) (SP X pins D) X.xe s3) X.xe s2) X.xe s' := by
  have hmn : n ∈ N := List.mem_of_getElem? hn
  obtain ⟨a0, B, hfl, i1, i2⟩ := F.fly
  have ff := ff_of hfl.2.2.1
  have noea : H' ea = none := by
    cases q : H' ea with
    | none => rfl
    | some u =>
      obtain ⟨ob, e⟩ := obj_there (F.hok ea u q)
      have z := i2 ea u ob q e
      rw [hfl.2.1] at z
      cases z
  rw [O.stk] at hfl
  refine wpAny_looks_onW (by rw [I1.ok.frames, O.stk]) O.frm hfl fun h4 held4 up4 => ?_
  refine wpAny_landsW held4 fun h5 fl5 up5 => ?_
  have up45 := up4.trans up5
  have at_ : ∀ {h6 : Heap} {g : Nat}, B.StaysIn h6 → s'.heap.UpToSlots h6 → Inv X pins σ H' { s' with heap := h6, toks := g } := fun {h6 g} st up =>
    I1.call' (s' := { s' with heap := h6, toks := g }) (ch := []) F.os (un_fly F.un F.same i1 i2 st up ff) (hok_fly F.hok i2 st) F.bare fun b z => absurd z (by simp)
  have I5 := at_ (g := s'.toks) fl5.1 up45
  refine wpAny_handleBy_cons (codeAny_handlers_test ?_) (by intro q; cases q)
  refine ld_glob (X := inCx X ea) (inv_in I5 ea) GC.g hm ?_ GC.d
  refine xc_matches (K := X.K) I5.kIn fl5.there hk.c1 hk.c2 hk.c3 hk.c4 hk.c5 ?_
  refine codeAny_handlers_suite_as ?_
  refine lands_againW fl5 fun h6 fl6 up6 => ?_
  have up456 := up45.trans up6
  have u6 := un_fly F.un F.same i1 i2 fl6.1 up456 ff
  have fl6' : ∃ o vs, h6.get? ea = some o ∧ o.cls = .ref Ca ∧ o.data = .fields vs := by
    obtain ⟨_, _, _, oe, vs, _, _, _, he, hc, hd, _⟩ := fl6
    exact ⟨oe, vs, he, hc.1, hd⟩
  have I6 : Inv X pins σ (upd H' ea (excO ea Ca)) { s' with heap := h6 } :=
    I1.call' (s' := { s' with heap := h6 }) (ch := []) F.os (un_track u6 F.new noea) (hok_track (hok_fly F.hok i2 fl6.1) noea fl6') F.bare fun b z => absurd z (by simp)
  have same2 : Same H' (upd H' ea (excO ea Ca)) := same_upd noea _
  have J6 := inv_in I6 ea
  refine store_ok (X := inCx X ea) (v := .ref ea) (i := i) J6 (by rw [show (inCx X ea).N = X.N from rfl, P.sc.n]; exact P.sc.nd) (by rw [show (inCx X ea).N = X.N from rfl, P.sc.n]; exact hn) (.inl hloc) rfl (fun s7 J7 => ?_) (.inr hloc)
  have hσ7 : Stt X.K X.mg (upd H' ea (excO ea Ca)) (σ.set i (some (.ref ea))) (δe.set i (some (.exc C))) := (hσ.mono same2).set (.exc hC upd_same)
  have S7 : StO (inCx X ea) (upd H' ea (excO ea Ca)) (σ.set i (some (.ref ea))) (δe.set i (some (.exc C))) [] := StO.nil hσ7 ne'
  refine wpAny_mono (hs ea pins s7 _ _ { nx := fun σ2 H2 => ∃ os, Same (upd H' ea (excO ea Ca)) (hide H2 os) ∧ StO X H2 σ2 δ2 os, rt := fun _ _ => False } J7 ⟨_, [], S7, by rw [eg]; exact fun σ2 H2 os S sm => ⟨os, by rw [hide_nil] at sm; exact sm, ⟨S.st, S.lst, S.own, S.inj⟩⟩⟩) (fun f s8 q8 => ?_) fun _ _ z => False.elim z
  cases f with
  | ret v => obtain ⟨_, _, _, _, _, z⟩ := q8; exact z.elim
  | brk => obtain ⟨_, _, _, z⟩ := q8; exact z.elim
  | cont => obtain ⟨_, _, _, z⟩ := q8; exact z.elim
  | next =>
    obtain ⟨σ8, H8, J8, os, sm, S8⟩ := q8
    have I8 := inv_out I1.ok J8
    obtain ⟨m, hns, hl⟩ := id I8.loc
    refine wpAny_nameGoes_keeps hloc hns (by rw [I8.ok.kind]; rfl) fun h9 v hn9 hs9 => ?_
    have hless : Same (hide H8 os) (hide H8 (os.filter fun p => p.1 != i)) := hide_less fun p hp => (os_drop os i p hp).1
    refine ⟨σ8.set i none, H8, inv_gone I8 (by rw [P.sc.n]; exact P.sc.nd) (by rw [P.sc.n]; exact hn) hl hn9 hs9, hD _ _ (os.filter fun p => p.1 != i) ((same2.trans sm).trans hless) ?_⟩
    have setn : ∀ {α : Type} {l : List (Option α)} {j : Nat} {d : α}, (l.set i none)[j]? = some (some d) → l[j]? = some (some d) ∧ j ≠ i := fun {α l j d} e => by
      by_cases hj : j = i
      · subst hj
        by_cases hjl : j < l.length
        · rw [List.getElem?_set_self hjl] at e; cases e
        · rw [List.getElem?_eq_none (by rw [List.length_set]; omega)] at e; cases e
      · rw [List.getElem?_set_ne (Ne.symm hj)] at e
        exact ⟨e, hj⟩
    refine ⟨⟨by rw [List.length_set, List.length_set]; exact S8.st.1, fun j d e nd => ?_⟩, fun p hp => ?_, fun j ds e => ?_, fun a b c h1 h2 => S8.inj a b c (os_drop os i _ h1).1 (os_drop os i _ h2).1⟩
    · obtain ⟨e, hj⟩ := setn e
      obtain ⟨v1, q1, q2⟩ := S8.st.2 j d e nd
      exact ⟨v1, by rw [List.getElem?_set_ne (Ne.symm hj)]; exact q1, q2.mono hless⟩
    · obtain ⟨hp', hne⟩ := os_drop os i p hp
      obtain ⟨xs, ds, h1, h2, h3, h4⟩ := S8.lst p hp'
      exact ⟨xs, ds, h1, by rw [List.getElem?_set_ne (Ne.symm hne)]; exact h2, by rw [List.getElem?_set_ne (Ne.symm hne)]; exact h3, h4.mono hless⟩
    · obtain ⟨e, hj⟩ := setn e
      obtain ⟨a, ha⟩ := S8.own j ds e
      exact ⟨a, List.mem_filter.mpr ⟨ha, by simpa using hj⟩⟩
theorem s_try (P : Pl X N G) (O : Own X) (i : Nat) (hn : N[i]? = some n) (hloc : X.env.scope.names.lookup n = some .local) (GC : Gb X cls) (hm : X.mg cls = some (.ref C')) (hk : Catches X cls C')
    (hb : ∀ pins W, SSs (tryCx X pins W) body gb) (hs : ∀ ea, SSs (inCx X ea) (b₀ :: suite) gs) :
    SS X (.Try body [.ExceptHandler (some (.Name cls np)) (some n) (b₀ :: suite) hpos] [] [] pos) (try_ gb cls i gs) := by
  intro pins s σ H D I ⟨δ, os, S, h⟩
  refine wpAny_Try_except ?_
  have S' : ∀ W, StO (tryCx X pins W) H σ δ os := fun W => ⟨S.st, S.lst, S.own, S.inj⟩
  unfold try_ tryO at h
  cases e : gb δ with
  | nx δ1 =>
    rw [e] at h
    refine wpAny_mono (hb pins _ [] s σ H { nx := D.nx, rt := fun _ _ => False } (inv_try I) ⟨δ, os, S' _, by rw [e]; exact fun σ1 H1 os1 S1 s1 => h σ1 H1 os1 ⟨S1.st, S1.lst, S1.own, S1.inj⟩ s1⟩) (fun f s1 q => ?_) fun _ _ z => z
    cases f with
    | next =>
      obtain ⟨σ1, H1, I1, q⟩ := q
      exact wpAny_execs_nil ⟨σ1, H1, inv_untry I.ok I1, q⟩
    | ret v => obtain ⟨_, _, _, _, _, z⟩ := q; exact z.elim
    | brk => obtain ⟨_, _, _, z⟩ := q; exact z.elim
    | cont => obtain ⟨_, _, _, z⟩ := q; exact z.elim
  | ex C δe =>
    rw [e] at h
    simp only [forget] at h
    split at h
    · rename_i hcl
      cases eg : gs ((noOwn δe).set i (some (.exc C))) with
      | nx δ2 =>
        rw [eg] at h
        have ho : ∀ W, (∀ ea s', (∃ p2 Hc sc σ1 H1 Ca, Inv X pins σ1 Hc sc ∧ Same (hide H os) H1 ∧ Stt X.K X.mg H1 σ1 δe ∧ X.mg C = some (.ref Ca) ∧ FlyX X.prog X.w X.stack Hc sc Ca H1 ea s' ∧ p2 = pins) → W (.ref ea) s') → OQ (tryCx X pins W) { nx := fun _ _ => False, rt := fun _ _ => False } (hide H os) (gb δ) := fun W hW => by
          rw [e]
          exact fun σ1 H1 s1 hσ1 Ca hCa p2 Hc sc ea s' Ic F => hW ea s' ⟨pins, Hc, sc, σ1, H1, Ca, inv_untry I.ok Ic, s1, hσ1, hCa, F, rfl⟩
        refine wpAny_mono (hb pins _ [] s σ H _ (inv_try I) ⟨δ, os, S' _, ho _ ?_⟩) (fun f s1 q => ?_) fun _ _ z => z
        · rintro ea s' ⟨p2, Hc, sc, σ1, H1, Ca, Ic, s1, hσ1, hCa, F, _⟩
          exact caught P O i hn hloc GC hm hCa (hk C Ca hcl hCa) hs eg (noOwn_ne (fun _ z => nomatch z)) Ic F (noOwn_stt hσ1) fun σ2 H2 os2 sm S2 => h σ2 H2 os2 S2 (s1.trans sm)
        · cases f with
          | next => obtain ⟨_, _, _, z⟩ := q; exact z.elim
          | ret v => obtain ⟨_, _, _, _, _, z⟩ := q; exact z.elim
          | brk => obtain ⟨_, _, _, z⟩ := q; exact z.elim
          | cont => obtain ⟨_, _, _, z⟩ := q; exact z.elim
      | _ => rw [eg] at h; exact False.elim h
    · exact False.elim h
  | _ => rw [e] at h; exact False.elim h
/-- what is known of X holds there too -/
theorem Pl.try (P : Pl X N G) (p : List (Addr × Obj)) (W : Value → Shared → Prop) : Pl (tryCx X p W) N G := ⟨⟨⟨P.sc.n, P.sc.nd, P.sc.vis, P.sc.dbg⟩, P.ex⟩, P.sto, fun x hx => ⟨(P.gb x hx).g, (P.gb x hx).d, (P.gb x hx).n⟩⟩
theorem Pl.inn (P : Pl X N G) (ea : Addr) : Pl (inCx X ea) N G := ⟨⟨⟨P.sc.n, P.sc.nd, P.sc.vis, P.sc.dbg⟩, P.ex⟩, P.sto, fun x hx => ⟨(P.gb x hx).g, (P.gb x hx).d, (P.gb x hx).n⟩⟩
end
end ES

set_option Elab.async false
set_option linter.all false
set_option maxRecDepth 100000
/-! SOUNDNESS, part 5: the built-ins. -/
namespace ES
open PySem PySem.Spec PyProof.Rows L2 EV
unseal SE ST SW SA SS SSs

/-- a call of a known value, by data -/
noncomputable def rC (X : Cx) (f : List D → R D) : List V → Hp → VK → Prop := fun vs H Q => ∃ ds d, Reps X.K X.mg H vs ds ∧ f ds = .ok d ∧ ∀ v H', Same H H' → Rep X.K X.mg H' v d → Q v H'
noncomputable def NoX (f : List D → R D) : Prop := ∀ ds C, f ds ≠ .ex C
theorem RQ.cl {X : Cx} {σ : L2.St} {H : Hp} {f : List D → R D} (nx : NoX f) {vs : List V} {ds : List D} {Q : VK} (r : Reps X.K X.mg H vs ds) (h : RQ X σ H (f ds) Q) : rC X f vs H Q := by
  cases e : f ds with
  | ok d => rw [e] at h; exact ⟨ds, d, r, e, h⟩
  | ex C => exact absurd e (nx ds C)
  | bad => rw [e] at h; exact False.elim h
section
variable {X : Cx} {x : Str} {id T : String} {f : List D → R D} {e o : Expr} {es : List Expr} {gs : List E} {g : E} {p pos apos : Pos}
theorem e_bltn (hc : CallR X (.builtin id) (rC X f)) (nx : NoX f) (G : Gb X x) (hm : X.mg x = none) (hv : bootBuiltins x = some (.builtin id)) (ha : SA X (e :: es) gs)
    (he : starEach (e :: es) X.env = (false, eval e X.env) :: starEach es X.env := by rfl) (hpl : (backTo pos (starEach es X.env)).any (·.1) = false := by rfl) : SE X (.Call (.Name x p) (e :: es) [] pos) (EV.call f gs) :=
  PE.weak (pe_callB hc G.g hm hv ha G.n G.d he hpl) fun σ H Q ⟨δ, hσ, h⟩ => ⟨δ, hσ, (RA.bind h).to fun vs H' s ⟨_, ds, rs, q⟩ => RQ.cl nx rs q⟩
theorem e_btyp (hc : CallR X (.type T) (rC X f)) (nx : NoX f) (G : Gb X x) (hm : X.mg x = none) (hv : bootBuiltins x = some (.type T)) (ha : SA X (e :: es) gs)
    (he : starEach (e :: es) X.env = (false, eval e X.env) :: starEach es X.env := by rfl) (hpl : (backTo pos (starEach es X.env)).any (·.1) = false := by rfl) : SE X (.Call (.Name x p) (e :: es) [] pos) (EV.call f gs) :=
  PE.weak (pe_callTy hc G.g hm hv ha G.n G.d he hpl) fun σ H Q ⟨δ, hσ, h⟩ => ⟨δ, hσ, (RA.bind h).to fun vs H' s ⟨_, ds, rs, q⟩ => RQ.cl nx rs q⟩
/-- a test of such a call -/
theorem reps1 {H : Hp} {vs : List V} {d : D} (r : Reps X.K X.mg H vs [d]) : ∃ v, vs = [v] ∧ Rep X.K X.mg H v d := by
  cases r with
  | cons r rr => cases rr; exact ⟨_, rfl, r⟩
theorem reps2 {H : Hp} {vs : List V} {d d' : D} (r : Reps X.K X.mg H vs [d, d']) : ∃ v v', vs = [v, v'] ∧ Rep X.K X.mg H v d ∧ Rep X.K X.mg H v' d' := by
  cases r with
  | cons r rr =>
    cases rr with
    | cons r' rr => cases rr; exact ⟨_, _, rfl, r, r'⟩
theorem nxLen : NoX bLen := fun ds C z => by unfold bLen at z; split at z <;> first | cases z | exact nx_ite z
theorem c_len : CallR X (.builtin "len") (rC X bLen) := by
  intro pins s σ H xs us Q I rs ⟨ds, d, r, e, q⟩
  unfold bLen at e
  split at e
  · cases e
    obtain ⟨v, rfl, r1⟩ := reps1 r
    cases r1 with
    | @lst a ys _ hq rr => exact call_len_seq pins s σ H _ us Q I rs ⟨a, ys, rfl, .inl hq, by rw [rr.length]; exact q _ _ (Same.refl _) (.int _)⟩
  · cases e
    obtain ⟨v, rfl, r1⟩ := reps1 r
    cases r1 with
    | @tup a ys _ hq rr => exact call_len_seq pins s σ H _ us Q I rs ⟨a, ys, rfl, .inr hq, by rw [rr.length]; exact q _ _ (Same.refl _) (.int _)⟩
  · split at e
    · rename_i hz
      cases e
      obtain ⟨v, rfl, r1⟩ := reps1 r
      cases r1
      exact call_len_str pins s σ H _ us Q I rs ⟨_, rfl, Nat.le_trans hz (by rw [sizeLine_eq]; decide), q _ _ (Same.refl _) (.int _)⟩
    · cases e
  · cases e
theorem nxInt : NoX bInt := fun ds C z => by unfold bInt at z; split at z <;> cases z
theorem c_int : CallR X (.type "int") (rC X bInt) := by
  intro pins s σ H xs us Q I rs ⟨ds, d, r, e, q⟩
  unfold bInt at e
  split at e
  · cases e
    obtain ⟨v, rfl, r1⟩ := reps1 r
    cases r1
    exact call_int1 pins s σ H _ us Q I rs (.inl ⟨_, rfl, q _ _ (Same.refl _) (.int _)⟩)
  · cases e
    obtain ⟨v, rfl, r1⟩ := reps1 r
    cases r1
    exact call_int1 pins s σ H _ us Q I rs (.inr ⟨_, rfl, q _ _ (Same.refl _) (.int _)⟩)
  · cases e
theorem nxSum : NoX bSum := fun ds C z => by
  unfold bSum at z
  split at z
  · split at z <;> cases z
  · cases z
theorem ints_vals {H : Hp} : ∀ {xs : List V} {ds : List D} {ns : List Int} {us : List Value}, intsOf ds = some ns → Reps X.K X.mg H xs ds → Vals xs us → ∃ ts : List (Int × Tok), us = ts.map (fun p => Value.int p.1 p.2) ∧ ts.map (·.1) = ns
  | _, [], _, _, e, .nil, .nil => by cases e; exact ⟨[], rfl, rfl⟩
  | _, .int i :: r, ns, _, e, .cons h t, .cons h' t' => by
    cases h
    unfold intsOf at e
    cases q : intsOf r with
    | none => rw [q] at e; cases e
    | some ms =>
      rw [q] at e
      have e' : i :: ms = ns := Option.some.inj e
      subst e'
      obtain ⟨tk, rfl⟩ := h'
      obtain ⟨ts, e1, e2⟩ := ints_vals q t t'
      exact ⟨(i, tk) :: ts, by rw [e1]; rfl, by rw [List.map_cons, e2]⟩
  | _, .non :: _, _, _, e, _, _ => by cases e
  | _, .bl _ :: _, _, _, e, _, _ => by cases e
  | _, .str _ :: _, _, _, e, _, _ => by cases e
  | _, .tup _ :: _, _, _, e, _, _ => by cases e
  | _, .lst _ :: _, _, _, e, _, _ => by cases e
  | _, .own _ :: _, _, _, e, _, _ => by cases e
  | _, .ty _ :: _, _, _, e, _, _ => by cases e
  | _, .cls _ :: _, _, _, e, _, _ => by cases e
  | _, .exc _ :: _, _, _, e, _, _ => by cases e
  | _, .ins _ _ :: _, _, _, e, _, _ => by cases e
theorem foldl_sum (ns : List Int) : ns.foldl (· + ·) 0 = ns.sum := by
  have h : ∀ (l : List Int) (a : Int), l.foldl (· + ·) a = a + l.sum := by
    intro l
    induction l with
    | nil => intro a; simp
    | cons b r ih => intro a; rw [List.foldl_cons, ih, List.sum_cons]; omega
  rw [h]; omega
theorem c_sum (hc : X.calm = true) : CallR X (.builtin "sum") (rC X bSum) := by
  intro pins s σ H xs us Q I rs ⟨ds, d, r, e, q⟩
  unfold bSum at e
  split at e
  · rename_i ds'
    split at e
    · rename_i ns hns
      cases e
      obtain ⟨v, rfl, r1⟩ := reps1 r
      cases r1 with
      | @lst a ys _ hq rr =>
        obtain ⟨its, rv, pl, _⟩ := I.list hq
        obtain ⟨ts, e1, e2⟩ := ints_vals hns rr rv
        cases rs with
        | cons h1 h2 =>
          cases h2
          cases h1
          have hl : s.heap.IsList a (intItems ts.toArray) := by
            have := pl.isList
            rw [e1] at this
            have e3 : (ts.map fun p => Value.int p.1 p.2).toArray = intItems ts.toArray := by simp [intItems]
            rw [← e3]
            exact this
          refine sum_intListG (I.ok.hd hc) hl fun h' tk t' hk => ?_
          have hs : preSum (numAt ts.toArray) ts.toArray.size = ns.foldl (· + ·) 0 := by
            rw [preSum_eq, List.take_of_length_le (by simp), foldl_sum, ← e2]
          rw [hs]
          exact ⟨.int _, H, I.kept (t' := tk) hk, ⟨_, rfl⟩, q _ _ (Same.refl _) (.int _)⟩
    · cases e
  · cases e
/-! ### int.bit_length -/
/-! ### isinstance -/
/-- the class of data -/
noncomputable def tyV (mg : Str → Option Value) : D → Option Value
  | .non => some (.type "NoneType")
  | .bl _ => some (.type "bool")
  | .int _ => some (.type "int")
  | .str _ => some (.type "str")
  | .tup _ => some (.type "tuple")
  | .lst _ => some (.type "list")
  | .exc n => mg n
  | _ => none
noncomputable def clsV (mg : Str → Option Value) : D → Option Value
  | .ty n => some (.type n)
  | .cls n => mg n
  | _ => none
/-- what the fragment tells of a class -/
noncomputable def Isi (X : Cx) (c : D) : Prop := ∀ d k t u, bIsi [d, c] = .ok (.bl k) → tyV X.mg d = some t → clsV X.mg c = some u → PySem.W.kitOne X.K t u = some k
noncomputable def ExcKit (X : Cx) : Prop := ∀ (e C : Addr) (n : String), excNames.contains n = true → X.mg n = some (.ref C) → PySem.W.KitX X.K (.ref e) (.ref C) (fun h => ∃ o vs, h.get? e = some o ∧ o.cls = .ref C ∧ o.data = .fields vs)
theorem bIsi_ok {ds : List D} : (∃ d c k, ds = [d, c] ∧ bIsi ds = .ok (.bl k)) ∨ bIsi ds = .bad := by
  unfold bIsi
  split <;> first
    | exact .inr rfl
    | (split <;> first | exact .inl ⟨_, _, _, rfl, rfl⟩ | exact .inr rfl)
theorem exc_known {n : String} {c : D} {k : Bool} (h : bIsi [.exc n, c] = .ok (.bl k)) : excNames.contains n = true := by
  cases c with
  | cls B =>
    unfold bIsi at h
    simp only at h
    split at h
    · rename_i z; rw [Bool.and_eq_true] at z; exact z.1
    · cases h
  | ty B =>
    unfold bIsi at h
    simp only at h
    split at h
    · rename_i z; rw [Bool.and_eq_true] at z; exact z.1
    · cases h
  | _ => cases h
theorem c_isi {c : D} (hI : Isi X c) (hE : ExcKit X) : CallR X (.builtin "isinstance") (fun vs H Q => ∃ dx d, Reps X.K X.mg H vs [dx, c] ∧ bIsi [dx, c] = .ok d ∧ ∀ v H', Same H H' → Rep X.K X.mg H' v d → Q v H') := by
  intro pins s σ H xs us Q I rs ⟨dx0, d, r, e, q⟩
  rcases bIsi_ok (ds := [dx0, c]) with ⟨dx, dc, k, ez, e'⟩ | e' <;> rw [e'] at e <;> cases e
  cases ez
  obtain ⟨v, v', rfl, r1, r2⟩ := reps2 r
  cases rs with
  | cons h1 h2 =>
    cases h2 with
    | cons h2 h3 =>
      cases h3
      rename_i u w
      have fin : ∀ tk, EP X pins σ Q (.bool k) { s with toks := tk } := fun tk => ⟨.bl k, H, I.tok tk, rfl, q _ _ (Same.refl _) (.bl k)⟩
      have hw : clsV X.mg c = some w := by
        cases r2 with
        | ty n => cases h2; rfl
        | cls hc => cases h2; exact hc
        | _ => cases dx0 <;> cases e'
      cases r1 with
      | non => cases (show u = Value.none from h1); exact PySem.W.kia_one PySem.W.kitx_none I.kIn True.intro (hI _ k _ _ e' rfl hw) (fun z => nomatch z) fin
      | bl y => cases (show u = Value.bool y from h1); exact PySem.W.kia_one PySem.W.kitx_bool I.kIn True.intro (hI _ k _ _ e' rfl hw) (fun z => nomatch z) fin
      | int i => obtain ⟨t, z⟩ := (show ∃ t, u = Value.int i t from h1); cases z; exact PySem.W.kia_one PySem.W.kitx_int I.kIn True.intro (hI _ k _ _ e' rfl hw) (fun z => nomatch z) fin
      | str y => obtain ⟨t, z⟩ := (show ∃ t, u = Value.str y t from h1); cases z; exact PySem.W.kia_one PySem.W.kitx_str I.kIn True.intro (hI _ k _ _ e' rfl hw) (fun z => nomatch z) fin
      | @tup a ys ds hq rr =>
        cases (show u = Value.ref a from h1)
        obtain ⟨its, _, ⟨o, g1, g2, _⟩, _⟩ := I.tuple hq
        exact PySem.W.kia_one PySem.W.kitx_tuple I.kIn ⟨o, g1, g2⟩ (hI _ k _ _ e' rfl hw) (fun z => nomatch z) fin
      | @lst a ys ds hq rr =>
        cases (show u = Value.ref a from h1)
        obtain ⟨its, _, ⟨o, n, g1, g2, _⟩, _⟩ := I.list hq
        exact PySem.W.kia_one PySem.W.kitx_list I.kIn ⟨o, g1, g2⟩ (hI _ k _ _ e' rfl hw) (fun z => nomatch z) fin
      | @exc a C n hn hq =>
        cases (show u = Value.ref a from h1)
        exact PySem.W.kia_one (hE a C n (exc_known e') hn) I.kIn (I.hok a _ hq).1 (hI _ k _ _ e' hn hw) (fun z => nomatch z) fin
      | ty n => cases c <;> cases e'
      | cls _ => cases c <;> cases e'
      | ins _ _ _ => cases c <;> cases e'
theorem e_isi {e2 : Expr} {c : D} (hI : Isi X c) (hE : ExcKit X) (G : Gb X "isinstance") (hm : X.mg "isinstance" = none) (ha : SE X e g) (hb : SE X e2 (con c))
    (hs : starEach [e, e2] X.env = (false, eval e X.env) :: starEach [e2] X.env := by rfl) (hs2 : starEach [e2] X.env = [(false, eval e2 X.env)] := by rfl) (hpl : (backTo pos (starEach [e2] X.env)).any (·.1) = false := by rfl) :
    SE X (.Call (.Name "isinstance" p) [e, e2] [] pos) (EV.call bIsi [g, con c]) :=
  PE.weak (pe_callB (c_isi hI hE) G.g hm PyProof.Rows.boot_isinstance (a_cons ha (a_cons hb a_nil hs2) hs) G.n G.d hs hpl) fun σ H Q ⟨δ, hσ, h⟩ => ⟨δ, hσ, by
    cases r : g δ with
    | ok d =>
      have e1 : evs [g, con c] δ = .ok [d, c] := by simp [evs, r, con, R.bind]
      unfold EV.call at h
      rw [e1] at h ⊢
      refine fun vs H' s rs => ?_
      have h' : RQ X σ H' (bIsi [d, c]) Q := RQ.mono s h
      rcases bIsi_ok (ds := [d, c]) with ⟨_, _, k, _, e'⟩ | e'
      · rw [e'] at h'; exact ⟨d, _, rs, e', h'⟩
      · rw [e'] at h'; exact False.elim h'
    | ex C =>
      have e1 : evs [g, con c] δ = .ex C := by simp [evs, r, R.bind]
      unfold EV.call at h
      rw [e1] at h ⊢
      exact h
    | bad =>
      have e1 : evs [g, con c] δ = .bad := by simp [evs, r, R.bind]
      unfold EV.call at h
      rw [e1] at h
      exact False.elim h⟩
end
end ES

set_option Elab.async false
set_option linter.all false
set_option maxRecDepth 100000
/-! SOUNDNESS, part 6: isinstance of an exception. -/
namespace ES
open PySem PySem.Spec PyProof.Rows L2 EV
unseal SE ST SW SA SS SSs
section
variable {prog : Program} {w : World} {A : Around} {s : Shared} {K : PySem.W.Frag} {e C : Addr}
open PySem.W PySem.Builtin PySem.Builtin.Getset_descriptor in
theorem xk_get {R : Result → Shared → Prop} {tp : Value} (L1 : Looks (model prog w) s.heap (isSubtype (.ref C) (.type "object")) true) (L0 : Looks (model prog w) s.heap (typeOf (.ref e)) (.ref C)) (done : R (.ok (.ret (.ref C))) s) :
    codeAny (model prog w) A (.call (.builtin "getset_descriptor.__get__") ⟨[.builtin "object.__class__", .ref e, tp], []⟩) R s := by
  obtain ⟨hh, g, dr, t, os⟩ := s
  refine codeAny_call_builtin KF.slot_gs.plain KF.entry_gs (KF.slot_gs.check _ _ _ _ _ _ _ _ KF.type_class (KF.args_gs _ _ tp) ?_)
  unfold Builtin.«getset_descriptor.__get__»; unfold descrGet; rw [dga_obj]
  refine wpAny_bind (wpAny_pure ?_)
  simp only [descrGetter, descrCheckInstance, descrNameAndClass, isInstance, KF.owner_class]
  repeat lk
  refine ⟨Code.quiet_builtin _ (by decide +kernel), ?_⟩
  refine codeAny_builtin KF.entry_class ?_
  unfold Builtin.«object.__class__»; unfold shownTypeOf
  repeat lk
  exact done
open PySem.W PySem.Builtin PySem.Builtin.Getset_descriptor in
theorem xk_entry {E : Value → Shared → Prop} {Q : Fin → Shared → Prop} {tk : Tok} (L1 : Looks (model prog w) s.heap (isSubtype (.ref C) (.type "object")) true) (L0 : Looks (model prog w) s.heap (typeOf (.ref e)) (.ref C))
    (L2 : Looks (model prog w) s.heap (typeLookup (.ref C) "__class__") (some (.builtin "object.__class__"))) (done : Q (.done (.ret (.ref C))) s) :
    wpAny (model prog w) A (Builtin.«object.__getattribute__» ⟨[.ref e, .str "__class__" tk], []⟩) Q E s := by
  obtain ⟨hh, g, dr, t, os⟩ := s
  have f5 := F.typeOf_object_class
  have f6 := F.slot_gs_get.lookup
  have f7 := F.slot_gs_set.lookup
  have hT5 : (⟨hh, g, dr, t, os⟩ : Shared).TypeIs (.builtin "object.__class__") "getset_descriptor" := F.typeOf_object_class
  repeat (any_goals (first | assumption | with_reducible refine L0.at ?_ | with_reducible refine L2.at ?_ | wp_step))
  refine xk_get L1 L0 ?_
  repeat (any_goals (first | assumption | wp_step))

open PySem.W PySem.Builtin PySem.Builtin.Getset_descriptor in
theorem xk_check {M : Model} {E : Value → Shared → Prop} {nameV : Value} {Q : Unit → Shared → Prop} (L3 : Looks M s.heap (isSubtype (.ref C) (.type "BaseException")) true) (L0 : Looks M s.heap (typeOf (.ref e)) (.ref C)) (done : Q () s) :
    wpAny M A (checkBuiltinCall "BaseException.__getattribute__" ⟨[.ref e, nameV], []⟩) Q E s := by
  obtain ⟨hh, g, dr, t, os⟩ := s
  have k1 : builtinKind "BaseException.__getattribute__" = some .slot := by decide +kernel
  have k2 : splitId "BaseException.__getattribute__" = some ("BaseException", "__getattribute__") := by decide +kernel
  have ha := F.args_bexc_ga (.ref e) nameV
  simp only [checkBuiltinCall, k1, k2]
  refine wpAny_bind ?_
  unfold isInstance
  repeat (first | with_reducible refine L0.at ?_ | with_reducible refine L3.at ?_ | wp_step)
  exact done
/-- what the fragment tells of an exception's class -/
structure XCls (K : PySem.W.Frag) (C : Addr) : Prop where
  c0 : PySem.W.mroIn K C (.type "object") = some true
  c1 : PySem.W.mroIn K C (.type "BaseException") = some true
  c2 : PySem.W.findIn K (.ref C) "__class__" = some (some (.builtin "object.__class__"))
  c3 : PySem.W.findIn K (.ref C) "__getattribute__" = some (some (.builtin "BaseException.__getattribute__"))
  c4 : PySem.W.findIn K (.ref C) "__getattr__" = some none
  c5 : ∃ cd, PySem.W.clsIn K C = some cd
open PySem.W PySem.Builtin PySem.Builtin.Getset_descriptor in
theorem xk_by {E : Value → Shared → Prop} {Q : Value → Shared → Prop} {tk : Tok} (FB : ExcAttrFacts "ValueError") (L0 : Looks (model prog w) s.heap (typeOf (.ref e)) (.ref C)) (c : XCls K C) (KX : K.In s.heap) (done : Q (.ref C) s) :
    wpAny (model prog w) A (getAttrBy (.ref e) (.str "__class__" tk) false) Q E s := by
  have L1 : Looks (model prog w) s.heap (isSubtype (.ref C) (.type "object")) true := looks_mroIn KX c.c0
  have L3 : Looks (model prog w) s.heap (isSubtype (.ref C) (.type "BaseException")) true := looks_mroIn KX c.c1
  have L2 : Looks (model prog w) s.heap (typeLookup (.ref C) "__class__") (some (.builtin "object.__class__")) := looks_findIn KX c.c2
  have L4 : Looks (model prog w) s.heap (typeLookup (.ref C) "__getattribute__") (some (.builtin "BaseException.__getattribute__")) := looks_findIn KX c.c3
  have L5 : Looks (model prog w) s.heap (typeLookup (.ref C) "__getattr__") none := looks_findIn KX c.c4
  obtain ⟨hh, g, dr, t, os⟩ := s
  have f3 := FB.ga.bind (.ref e)
  have q2 : (Value.builtin "BaseException.__getattribute__" == Value.builtin "object.__getattribute__") = false := by decide +kernel
  have q0 : (false && onTheHeap (Value.builtin "BaseException.__getattribute__")) = false := rfl
  have q1 : (onTheHeap (Value.ref C) && Value.builtin "BaseException.__getattribute__" == Value.builtin "object.__getattribute__") = false := by rw [q2]; rfl
  repeat (any_goals (first | assumption | with_reducible refine L0.at ?_ | with_reducible refine L4.at ?_ | with_reducible refine L5.at ?_ | wp_step))
  refine codeAny_call_builtin FB.ga.plain F.entry_bexc_ga (xk_check L3 L0 (xk_entry L1 L0 L2 ?_))
  repeat (any_goals (first | assumption | wp_step))

open PySem.W in
theorem exc_kit (c : XCls K C) : KitX K (.ref e) (.ref C) (fun h => ∃ o vs, h.get? e = some o ∧ o.cls = .ref C ∧ o.data = .fields vs) where
  ty := fun M h KX ⟨o, vs, h1, h2, h3⟩ => h2 ▸ (Looks.ld h1).andThen .now
  it := fun M h KX _ => by
    obtain ⟨cd, hc⟩ := c.c5
    unfold clsIn at hc
    split at hc
    · rename_i hlk
      intro A' Q' E' s' k q
      unfold isType loadHead
      exact wpAny_bind (wpAny_loadPart (k _ _ (KX _ _ hlk)) (wpAny_pure q))
    · cases hc
  ne := fun h tp dd its n sl KX htp => by
    obtain ⟨cd, hc⟩ := c.c5
    unfold clsIn at hc
    split at hc
    · rename_i hlk
      have h1 := KX _ _ hlk
      by_cases z : C = tp
      · subst z
        rw [htp] at h1
        cases h1
      · simpa using z
    · cases hc
  ca := fun {prog w A E Q s} KX ⟨o, vs, h1, h2, h3⟩ q => by
    obtain ⟨hh, g, dr, t, os⟩ := s
    have L0 : Looks (model prog w) hh (typeOf (.ref e)) (.ref C) := h2 ▸ (Looks.ld h1).andThen .now
    have by_ : ∀ {tk : Tok} {t' : Nat} {E' : Value → Shared → Prop} {Q' : Value → Shared → Prop}, Q' (.ref C) ⟨hh, g, dr, t', os⟩ → wpAny (model prog w) A (getAttrBy (.ref e) (.str "__class__" tk) false) Q' E' ⟨hh, g, dr, t', os⟩ := fun {tk t' E' Q'} done => xk_by (s := ⟨hh, g, dr, t', os⟩) PySem.F.excAttr_ValueError L0 c KX done
    clear h1
    unfold getAttr? getAttrBy?
    repeat (any_goals (first | assumption | with_reducible apply by_ | wp_step))
end
/-- what is decided of the exceptions of the text -/
theorem excKit_of {X : Cx} (h : ∀ (n : String) (C : Addr), excNames.contains n = true → X.mg n = some (.ref C) → XCls X.K C) : ExcKit X := fun e C n hx hn => exc_kit (h n C hx hn)
end ES

set_option Elab.async false
set_option linter.all false
set_option maxRecDepth 100000
/-! THE LAW'S CALL, and what is decided of the classes of the text. -/
namespace ES
open PySem PySem.Spec PyProof.Rows L2 EV
unseal SE ST SW SA SS SSs

theorem boot_ValueError : bootBuiltins "ValueError" = some (.type "ValueError") := by decide +kernel
theorem mG {G : List Str} (i : Nat) {x : Str} (h : G[i]? = some x := by rfl) : x ∈ G := List.mem_of_getElem? h
/-! ### exceptions' classes -/
structure XF (K : PySem.W.Frag) (mg : Str → Option Value) (n : String) : Prop where
  ex : mg n = none ∨ ∃ C, mg n = some (.ref C) ∧ XCls K C
theorem xcls_of {K : PySem.W.Frag} {mg : Str → Option Value} (h : ∀ n ∈ excNames, XF K mg n) (n : String) (C : Addr) (hn : excNames.contains n = true) (hm : mg n = some (.ref C)) : XCls K C := by
  rcases (h n (by simpa using hn)).ex with z | ⟨C', z, x⟩
  · rw [hm] at z; cases z
  · rw [hm] at z; cases z; exact x
structure CF (K : PySem.W.Frag) (mg : Str → Option Value) (B : Addr) (n : String) : Prop where
  ex : mg n = none ∨ ∃ C, mg n = some (.ref C) ∧ PySem.W.mroIn K C (.ref B) = some true
structure CB (K : PySem.W.Frag) (B : Addr) : Prop where
  c1 : ∃ cd, PySem.W.clsIn K B = some cd
  c2 : PySem.W.typeIn K (.ref B) = some (.type "type")
  c3 : PySem.W.subIn K (.type "type") (.type "tuple") = some false
  c4 : PySem.W.mroIn K B (.type "BaseException") = some true
theorem catches_of {X : Cx} {cls : String} {B : Addr} (b : CB X.K B) (h : ∀ n ∈ excNames, exSub n cls = true → CF X.K X.mg B n) : Catches X cls B := fun C Ca hs hm => by
  have hn : C ∈ excNames := by
    unfold exSub at hs
    rw [Bool.and_eq_true] at hs
    simpa using hs.1
  rcases (h C hn hs).ex with z | ⟨C', z, x⟩
  · rw [hm] at z; cases z
  · rw [hm] at z; cases z; exact ⟨by obtain ⟨_, e⟩ := b.c1; rw [e]; rfl, b.c2, b.c3, b.c4, x⟩
structure IF (K : PySem.W.Frag) (mg : Str → Option Value) (c : Value) (k : Bool) (n : String) : Prop where
  ex : mg n = none ∨ ∃ C, mg n = some (.ref C) ∧ PySem.W.kitOne K (.ref C) c = some k
theorem IF.get {K : PySem.W.Frag} {mg : Str → Option Value} {c : Value} {k : Bool} {n : String} {C : Addr} (f : IF K mg c k n) (hm : mg n = some (.ref C)) : PySem.W.kitOne K (.ref C) c = some k := by
  rcases f.ex with z | ⟨C', z, x⟩
  · rw [hm] at z; cases z
  · rw [hm] at z; cases z; exact x
theorem isi_ve {X : Cx} (hX : ∀ n C, excNames.contains n = true → X.mg n = some (.ref C) → True) (hr : ∀ (n : String) u, excNames.contains n = true → X.mg n = some u → ∃ C, u = .ref C) (i0 : PySem.W.kitOne X.K (.type "NoneType") (.type "ValueError") = some false) (i1 : PySem.W.kitOne X.K (.type "bool") (.type "ValueError") = some false) (i2 : PySem.W.kitOne X.K (.type "int") (.type "ValueError") = some false)
    (i3 : PySem.W.kitOne X.K (.type "str") (.type "ValueError") = some false) (i4 : PySem.W.kitOne X.K (.type "tuple") (.type "ValueError") = some false) (i5 : PySem.W.kitOne X.K (.type "list") (.type "ValueError") = some false) (ix : ∀ n ∈ excNames, IF X.K X.mg (.type "ValueError") true n) : Isi X (.ty "ValueError") := by
  intro d k t u e ht hu
  cases hu
  cases d with
  | exc C =>
    unfold bIsi at e
    simp only at e
    split at e
    · rename_i z
      rw [Bool.and_eq_true] at z
      cases e
      obtain ⟨Ca, rfl⟩ := hr C t z.1 ht
      exact (ix C (by simpa using z.1)).get ht
    · cases e
  | non => cases ht; cases e; exact i0
  | bl b => cases ht; cases e; exact i1
  | int b => cases ht; cases e; exact i2
  | str b => cases ht; cases e; exact i3
  | tup b => cases ht; cases e; exact i4
  | lst b => cases ht; cases e; exact i5
  | _ => cases e
theorem isi_cls {X : Cx} {B : String} {Ba : Addr} (hB : X.mg B = some (.ref Ba)) (hr : ∀ (n : String) u, excNames.contains n = true → X.mg n = some u → ∃ C, u = .ref C) (i0 : PySem.W.kitOne X.K (.type "NoneType") (.ref Ba) = some false) (ix : ∀ n ∈ excNames, IF X.K X.mg (.ref Ba) (n == B || B == "MillError") n) : Isi X (.cls B) := by
  intro d k t u e ht hu
  have hu' : X.mg B = some u := hu
  rw [hB] at hu'
  cases hu'
  cases d with
  | exc C =>
    unfold bIsi at e
    simp only at e
    split at e
    · rename_i z
      rw [Bool.and_eq_true] at z
      cases e
      obtain ⟨Ca, rfl⟩ := hr C t z.1 ht
      exact (ix C (by simpa using z.1)).get ht
    · cases e
  | non =>
    cases ht
    unfold bIsi at e
    simp only at e
    split at e <;> cases e
    exact i0
  | _ => cases e
theorem ref_of {K : PySem.W.Frag} {mg : Str → Option Value} (h : ∀ n ∈ excNames, XF K mg n) (n : String) (u : Value) (hn : excNames.contains n = true) (hm : mg n = some u) : ∃ C, u = .ref C := by
  rcases (h n (by simpa using hn)).ex with z | ⟨C', z, x⟩
  · rw [hm] at z; cases z
  · rw [hm] at z; cases z; exact ⟨_, rfl⟩

/-! ### the law's call -/
theorem bits_of_weight : ∀ {ns : List Int}, PySem.W.WData.weightAll (ns.map PySem.W.WData.int) ≤ 2 ^ 20 → ∀ n ∈ ns, nb n ≤ 2 ^ 20
  | [], _, _, h => nomatch h
  | m :: r, hw, n, h => by
    rw [List.map_cons, PySem.W.WData.weightAll] at hw
    rcases List.mem_cons.mp h with rfl | h
    · have : PySem.W.WData.weight (.int n) = Builtin.Int.intBits n := by simp only [PySem.W.WData.weight, Builtin.Int.intBits]
      rw [nb_eq]
      omega
    · exact bits_of_weight (ns := r) (by omega) n h
open PySem.W PySem.Calls Att in
theorem attach_bits {l : OpenLaw} {n : Nat} {q : Program} {loose : List Str} {XP : (Str → Option Value) → Heap → Prop} {YP : World → Heap → Prop} {d : DefRec}
    (hn : l.most = some n) (hdf : d.params.defaults = [])
    (call : ∀ (w : World) (s₀ s₁ : Shared) (mg mb : Str → Option Value) (fa : Addr) (a : Addr) (vs : List Value) (ns : List Int),
      Ground q loose [] XP w s₀ mg mb s₁.heap → YP w s₁.heap → mg d.name = some (.ref fa) →
      s₁.heap.get? a = some { cls := .type "list", data := .seq vs.toArray } → IntsAre vs ns → ns.length ≤ n → (∀ m ∈ ns, nb m ≤ 2 ^ 20) → s₁.gens = #[] →
      codeAny (model l.prog w) callerA (.call (.ref fa) ⟨[.ref a], []⟩) (fun r s' => r = .ok (.ret (.bool true)) ∧ OldK s₁.heap s'.heap ∧ s'.os = s₁.os ∧ AllBare s'.gens) s₁) :
    WalkO q loose XP YP l.row.toRowW d [] (fun f vs => PySem.call f vs) := by
  intro w s₀ s₁ mg mb G Y fa o pm cd doc dV kV ho hd hcd hD hmg hg args vals as hpre hlay hrd hwl hlo
  obtain rfl : dV = .none := Dflts.none hD hdf
  obtain rfl : kV = .none := Dflts.noKw hD
  obtain ⟨a, vs, ns, rfl, rfl, hobj, hints, hlen⟩ := script_of hn hpre hwl
  have hb : ∀ m ∈ ns, nb m ≤ 2 ^ 20 := by
    have h1 := (layableW_iff.mp (layW_cons hlay).1).2.2
    rw [WData.weight] at h1
    exact bits_of_weight h1
  refine enter_call (codeAny_mono (call w s₀ s₁ mg mb fa a vs ns G Y hmg hobj hints hlen hb hg) fun r s' hq => ?_)
  obtain ⟨rfl, h2, h3, h4⟩ := hq
  exact ⟨.inl ⟨.bool true, .bool true, [], rfl, fun _ => rfl, .bool true, post_true l _, fun _ => ⟨List.Pairwise.nil, fun _ hm => (nomatch hm)⟩⟩, h2, h3, h4⟩
theorem walk_law {l : PySem.W.OpenLaw} {k : Nat} {q : Program} {loose : List Str} {XP : (Str → Option Value) → Heap → Prop} {YP : World → Heap → Prop} {d : DefRec} {K : Params → PySem.W.Frag} {x : Str} {f : List D → R D}
    (hf : Good f) (hn : l.most = some 63) (hdf : d.params.defaults = []) (hr : Room k callerA)
    (hY : ∀ (w : World) (h : Heap), YP w h → (K w.params).In h)
    (F : ∀ (w : World) (mg : Str → Option Value) (fa : Addr) (h : Heap), (K w.params).In h → h.Ns mainGlobals mg → mg d.name = some (.ref fa) →
      ∃ fd : FuncData, (∀ (s : Shared) (u : Value), BindsTo s fd ⟨[u], []⟩ [(x, u)]) ∧
        ∀ base : Heap, (K w.params).In base → base.Ns mainGlobals mg → FnOk l.prog w (K w.params) mg base (CXF l.prog w) k fa fd [x] (spP (K w.params) mg f)) :
    PySem.W.WalkO q loose XP YP l.row.toRowW d [] (fun f vs => PySem.call f vs) := by
  refine attach_bits hn hdf fun w s₀ s₁ mg mb fa a vs ns G Y hmg hobj hints hlen hbits hg => ?_
  have KX := hY w _ Y
  obtain ⟨fd, hb, hF⟩ := F w mg fa _ KX G.T.g hmg
  refine law_call KX G.T.g G.T.b G.T.builtins G.T.nolimit hg hobj hints (Nat.le_trans hlen (by decide)) hr hF hb (fun H hO hS => ⟨[.lst (ns.map .int)], .cons (.lst hS (Reps.ints ns)) .nil, ?_⟩) fun H e s' ⟨_, _, _, _, _, z⟩ => z
  rw [hf ns hlen hbits]
  exact fun v H' _ r => by cases r; rfl
end ES

set_option Elab.async false
set_option linter.all false
set_option maxRecDepth 100000
/-! SOUNDNESS, part 7: instances that do not change; more loops, more built-ins. -/
namespace ES
open PySem PySem.Spec PyProof.Rows L2 EV
unseal SE ST SW SA SS SSs

/-! ### fields, methods -/
structure FldOk (X : Cx) (cn f : String) : Prop where
  ex : ∃ C, X.mg cn = some (.ref C) ∧ Cls X.K C ∧ NoAttr X.K C f
structure MethOk (X : Cx) (cn m : String) (F : List D → R D) : Prop where
  ex : ∃ C fa k fd ps, X.mg cn = some (.ref C) ∧ Cls X.K C ∧ Meth X.K C m fa ∧ FnOk X.prog X.w X.K X.mg X.base (CXF X.prog X.w) k fa fd ps (spP X.K X.mg F) ∧ Room k X.A ∧ Binds X.K fd ps []
section
variable {X : Cx} {o e : Expr} {es : List Expr} {go : E} {gs : List E} {pos apos p : Pos} {cn f m : String} {F : List D → R D}
/-- a class whose __init__ stores its one argument -/
noncomputable def spI (K : PySem.W.Frag) (f : Str) : Sp := fun vs H Q _ => ∃ x v C dx, vs = [.ref x, v] ∧ H x = some (.ins C dx []) ∧ Cls K C ∧ NoAttr K C f ∧ Q .non (upd H x (.ins C dx [(f, v)]))
structure MakeOk (X : Cx) (cn f : String) : Prop where
  ex : ∃ C fa k fd ps, X.mg cn = some (.ref C) ∧ Cls X.K C ∧ NoAttr X.K C f ∧ Mk X.K C fa ∧ FnOk X.prog X.w X.K X.mg X.base CX0 k fa fd ps (spI X.K f) ∧ Room (k + 1) X.A ∧ Binds X.K fd ps []
end
end ES

set_option Elab.async false
set_option linter.all false
set_option maxRecDepth 100000
/-! SOUNDNESS, part 8: what is walked; loops and comprehensions over it. -/
namespace ES
open PySem PySem.Spec PyProof.Rows L2 EV
unseal SE ST SW SA SS SSs

/-- J walks the data ds, in H and in all that H grows to -/
noncomputable def WalkI (X : Cx) (J : It) (H : Hp) (ds : List D) : Prop := ∀ Hc, Same H Hc →
  (∀ i d, ds[i]? = some d → J.go i Hc ∧ ∀ x H', J.yld i Hc x H' → H' = Hc ∧ Rep X.K X.mg H x d) ∧ ∀ i, ds.length ≤ i → J.stop i Hc
noncomputable def RI (X : Cx) (σ : L2.St) (H : Hp) (r : R (List D)) (Q : It → Hp → Prop) : Prop := match r with
  | .ok ds => ∀ J H', Same H H' → WalkI X J H' ds → Q J H'
  | .ex C => ∀ Ca, X.mg C = some (.ref Ca) → ∀ H', Same H H' → ew X Ca σ H'
  | .bad => False
noncomputable def tI (X : Cx) (g : IT) : TI := fun σ H Q => ∃ δ, Stt X.K X.mg H σ δ ∧ RI X σ H (g δ) Q
@[irreducible] noncomputable def SI (X : Cx) (tg iter : Expr) (g : IT) : Prop := PI X tg iter (tI X g)
unseal SI
section
variable {X : Cx} {tg e a b : Expr} {g ga gb : E} {σ : L2.St} {H H1 : Hp}
theorem RI.mono {r : R (List D)} {Q : It → Hp → Prop} (s : Same H H1) (h : RI X σ H r Q) : RI X σ H1 r Q := by
  cases r with
  | ok d => exact fun v H' s' r => h v H' (s.trans s') r
  | ex C => exact fun Ca hc H' s' => h Ca hc H' (s.trans s')
  | bad => exact h
theorem RI.bind {r : R D} {f : D → R (List D)} {Q : It → Hp → Prop} (h : RI X σ H (r.bind f) Q) : RQ X σ H r (fun v H' => Same H H' ∧ ∃ d, Rep X.K X.mg H' v d ∧ RI X σ H' (f d) Q) := by
  cases r with
  | ok d => exact fun v H' s r => ⟨s, d, r, h.mono s⟩
  | ex C => exact h
  | bad => exact h
theorem PI.weak {t t' : TI} (h : PI X tg e t) (w : ∀ σ H Q, t' σ H Q → t σ H Q) : PI X tg e t' := fun pins s σ H Q I q => h pins s σ H Q I (w σ H Q q)
theorem i_list (h : SE X e g) : SI X tg e (itL g) := PI.weak (pi_list h) fun σ H Q ⟨δ, hσ, q⟩ => ⟨δ, hσ, (RI.bind q).to fun v H' s ⟨_, d, r, q⟩ => by
  cases d with
  | lst ds =>
    cases r with
    | @lst p xs _ hq rs =>
      refine ⟨p, rfl, ⟨xs, hq⟩, q _ _ (Same.refl _) fun Hc sc => ⟨fun i d hd => ?_, fun i hi => ⟨xs, sc.seq hq, by rw [rs.length]; exact hi⟩⟩⟩
      obtain ⟨v, e1, r1⟩ := rs.get hd
      exact ⟨⟨xs, v, sc.seq hq, e1⟩, fun x H'' ⟨e2, y⟩ => by
        have := y xs (sc.seq hq)
        rw [e1] at this
        cases this
        exact ⟨e2, r1⟩⟩
  | _ => exact False.elim q⟩
theorem i_tup (h : SE X e g) : SI X tg e (itT g) := PI.weak (pi_tup h) fun σ H Q ⟨δ, hσ, q⟩ => ⟨δ, hσ, (RI.bind q).to fun v H' s ⟨_, d, r, q⟩ => by
  cases d with
  | tup ds =>
    cases r with
    | @tup p xs _ hq rs =>
      refine ⟨p, rfl, ⟨xs, hq⟩, q _ _ (Same.refl _) fun Hc sc => ⟨fun i d hd => ?_, fun i hi => ⟨xs, same_seqT sc hq, by rw [rs.length]; exact hi⟩⟩⟩
      obtain ⟨v, e1, r1⟩ := rs.get hd
      exact ⟨⟨xs, v, same_seqT sc hq, e1⟩, fun x H'' ⟨e2, y⟩ => by
        have := y xs (same_seqT sc hq)
        rw [e1] at this
        cases this
        exact ⟨e2, r1⟩⟩
  | _ => exact False.elim q⟩
theorem walk_rng {lo hi : Int} {H : Hp} : WalkI X (Itr lo (hi - lo).toNat) H (rngD lo hi) := fun Hc sc => ⟨fun i d hd => by
    have hl := (List.getElem?_eq_some_iff.mp hd).1
    rw [rngD_len] at hl
    rw [rngD_at hl] at hd
    cases hd
    exact ⟨hl, fun x H' ⟨e, ex⟩ => by subst ex; exact ⟨e, .int _⟩⟩, fun i hi' => by rw [rngD_len] at hi'; exact hi'⟩
theorem i_rng1 {p pos : Pos} (G : Gb X "range") (hm : X.mg "range" = none) (h : SE X e g) (hs : starEach [e] X.env = [(false, eval e X.env)] := by rfl) : SI X tg (.Call (.Name "range" p) [e] [] pos) (itR1 g) :=
  PI.weak (pi_range1 G.g hm (pa_cons h pa_nil hs) hs) fun σ H Q ⟨δ, hσ, q⟩ => ⟨δ, hσ, (RI.bind q).to fun v H' s ⟨_, d, r, q⟩ => by
    cases d with
    | int hi =>
      cases r
      unfold asR1 at q
      simp only at q
      split at q
      · rename_i hb
        refine ⟨hi, rfl, hb.1, hb.2, q _ _ (Same.refl _) ?_⟩
        have := walk_rng (X := X) (lo := 0) (hi := hi) (H := H')
        rw [Int.sub_zero] at this
        exact this
      · exact False.elim q
    | _ => exact False.elim q⟩
end
/-! ### the lists of one's own hidden while an iterator is made -/
noncomputable def FI (X : Cx) (σ : L2.St) (H : Hp) (os : Os) (δ : Dt) (r : R (List D)) (Q : It → Hp → Prop) : Prop := match r with
  | .ok ds => ∀ J H', StO X H' σ δ os → Same (hide H os) (hide H' os) → WalkI X J (hide H' os) ds → Q J H'
  | .ex C => ∀ Ca, X.mg C = some (.ref Ca) → ∀ H', Same (hide H os) H' → Stt X.K X.mg H' σ (noOwn δ) → ew X Ca σ H'
  | .bad => False
noncomputable def tFI (X : Cx) (g : IT) : TI := fun σ H Q => ∃ δ os, StO X H σ δ os ∧ FI X σ H os δ (g δ) Q
section
variable {X : Cx} {N : List Str} {tg e : Expr} {g : IT}
theorem frameI (hx : X.ex = []) (h : SI X tg e g) : PI X tg e (tFI X g) := by
  intro pins s σ H Q I ⟨δ, os, S, q⟩
  have hl := S.lsts
  have hw : RI X σ (hide H os) (g δ) (fun J H1 => Same (hide H os) H1 ∧ ∃ ds, g δ = .ok ds ∧ WalkI X J H1 ds) := by
    cases r : g δ with
    | ok d => exact fun v H' s r => ⟨s, d, rfl, r⟩
    | ex C =>
      rw [r] at q
      exact fun Ca hc H' s' => q Ca hc H' s' (S.noOwn s')
    | bad => rw [r] at q; exact q
  refine thn (h _ s σ _ _ (inv_hide I hl) ⟨δ, S.st, hw⟩) fun v s1 h1 => thn h1 fun itv s2 h2 => ?_
  obtain ⟨it, fp, tn, J, H1, e1, I1, T, st, fpk, sm, ds, e2, wk⟩ := h2
  obtain ⟨I2, hn⟩ := inv_show hx I hl I1
  rw [e2] at q
  have eh := hide_show (H := H) hn
  refine ⟨it, fp, tn, J, show_ H H1 os, e1, I2, T, st, fun b hb => ?_, q J _ (S.shown sm hn) (by rw [eh]; exact sm) (by rw [eh]; exact wk)⟩
  obtain ⟨f0, f1, f2, f3, f4, f5⟩ := fpk b hb
  have nb : b ∉ adrs os := fun z => by
    obtain ⟨xs, hh⟩ := hl b z
    obtain ⟨o, eo⟩ : ∃ o, s.heap.get? b = some o := by
      obtain ⟨_, its, n, _, eo⟩ := I.hok b _ hh
      exact ⟨_, eo⟩
    exact f5 (b, o) (List.mem_append_right _ (List.mem_append_right _ (mem_pinsAt z eo))) rfl
  refine ⟨by unfold show_; rw [if_neg nb]; exact f0, f1, f2, f3, f4, fun p hp => f5 p ?_⟩
  rw [← List.append_assoc]
  exact List.mem_append_left _ hp
variable {body : List Stmt} {gb : S} {pos : Pos}
theorem s_forI (C : Sx X N) (L : Lp X) (i : Nat) {x : Str} {pos' : Pos} (hN : N[i]? = some x) (hx : Sto X x) (he : SI X (.Name x pos') e g) (hb : SSs X body gb) (hs : ∀ x, foldedSetIterable e X.env x = pure x := by intro _; rfl) :
    SS X (.For (.Name x pos') e body [] pos) (forI i g gb) := by
  refine PS.weak (ps_for L.own L.calm (frameI C.ex he) (pg_name (i := i) (by rw [C.sc.n]; exact C.sc.nd) (by rw [C.sc.n]; exact hN) hx.1 hx.2) hb hs) fun D σ H ⟨δ, os, S, q⟩ => ⟨δ, os, S, ?_⟩
  unfold forI ovI at q
  cases r : g δ with
  | ok ds =>
    rw [r] at q
    intro J H1 S1 s1 wk
    refine ⟨fun n m σ' H' => m = ds.length - n ∧ n ≤ ds.length ∧ Pv X D (hide H os) (hide H1 os) i gb ds n σ' H', ⟨ds.length, by simp, Nat.zero_le _, δ, os, S1, Same.refl _, s1, by rw [List.drop_zero]; exact q⟩, ?_⟩
    rintro n m σ' H' ⟨rfl, hn, p⟩
    obtain ⟨δ', os', S', s', s0, q'⟩ := id p
    have w := wk H' (s'.trans (hide_same _ _))
    by_cases hlt : n < ds.length
    · have hd : ds[n]? = some ds[n] := List.getElem?_eq_getElem hlt
      refine .inr ⟨(w.1 n _ hd).1, Pv X D (hide H os) (hide H1 os) i gb ds (n + 1), fun σ2 H2 z => ⟨ds.length - (n + 1), by omega, rfl, by omega, z⟩, fun x H'' y => ?_⟩
      obtain ⟨e1, r1⟩ := (w.1 n _ hd).2 x H'' y
      subst e1
      exact turn_ok hd (fun H' s' => r1.mono s') p
    · exact .inl ⟨w.2 n (by omega), end_ok (by omega) p⟩
  | ex C => rw [r] at q; exact fun Ca hc H' s' st => q σ H' s' st Ca hc
  | bad => rw [r] at q; exact q
end
end ES

set_option Elab.async false
set_option linter.all false
set_option maxRecDepth 100000
/-! SOUNDNESS, part 9: list comprehensions, with a test or without, names of the def taken along. -/
namespace ES
open PySem PySem.Spec PyProof.Rows L2 EV
unseal SE ST SW SA SS SSs SI

/-! ### the names taken along -/
noncomputable def clOf (env : Env) : List (Str × NameKind) → List (Str × Addr) → List (Str × Addr)
  | [], cs => cs
  | (n, k) :: r, cs => clOf env r (if k == .free then (n, (env.cells.lookup n).getD 0) :: cs else cs)
theorem closure_is {sc : Scope} {env : Env} (h : ∀ y, (y, NameKind.free) ∈ sc.names → ∃ c, env.cells.lookup y = some c) : closureFor sc env = pure (clOf env sc.names []) := by
  unfold closureFor
  have key : ∀ (l : List (Str × NameKind)) (cs : List (Str × Addr)), (∀ y, (y, NameKind.free) ∈ l → ∃ c, env.cells.lookup y = some c) →
      (forIn l cs fun x (r : List (Str × Addr)) => (match x with | (name, kind) => if (kind == NameKind.free) = true then do let a ← cellOf env name; pure (ForInStep.yield ((name, a) :: r)) else pure (ForInStep.yield r)) : Sem _) = pure (clOf env l cs) := by
    intro l
    induction l with
    | nil => intro cs _; rfl
    | cons p r ih =>
      intro cs hl
      obtain ⟨n, k⟩ := p
      rw [List.forIn_cons]
      by_cases hk : (k == NameKind.free) = true
      · obtain ⟨c, hc⟩ := hl n (by rw [beq_iff_eq] at hk; subst hk; exact .head _)
        simp only [hk, if_true, cellOf, hc, clOf]
        exact ih _ fun y hy => hl y (.tail _ hy)
      · simp only [hk, Bool.false_eq_true, if_false, clOf]
        exact ih _ fun y hy => hl y (.tail _ hy)
  simp only [key sc.names [] h]
  rfl
theorem cl_sub {env : Env} : ∀ {l : List (Str × NameKind)} {cs : List (Str × Addr)}, (∀ y, (y, NameKind.free) ∈ l → ∃ c, env.cells.lookup y = some c) → (∀ y c, cs.lookup y = some c → env.cells.lookup y = some c) → ∀ y c, (clOf env l cs).lookup y = some c → env.cells.lookup y = some c
  | [], _, _, h => h
  | (n, k) :: r, cs, hl, h => by
    refine cl_sub (l := r) (fun y hy => hl y (.tail _ hy)) fun y c e => ?_
    by_cases hk : (k == NameKind.free) = true
    · rw [if_pos hk, List.lookup_cons] at e
      cases q : (y == n) with
      | true =>
        rw [q] at e
        obtain ⟨c', hc⟩ := hl n (by rw [beq_iff_eq] at hk; subst hk; exact .head _)
        rw [beq_iff_eq] at q
        subst q
        rw [hc] at e ⊢
        simpa using e
      | false => rw [q] at e; exact h y c e
    · rw [if_neg hk] at e; exact h y c e
theorem cl_has {env : Env} : ∀ {l : List (Str × NameKind)} {cs : List (Str × Addr)} {y : Str}, ((y, NameKind.free) ∈ l ∨ ∃ c, cs.lookup y = some c) → ∃ c, (clOf env l cs).lookup y = some c
  | [], _, _, h => h.elim (fun z => nomatch z) id
  | (n, k) :: r, cs, y, h => by
    refine cl_has (l := r) ?_
    rcases h with h | ⟨c, h⟩
    · rcases List.mem_cons.mp h with z | z
      · cases z
        exact .inr ⟨_, by rw [if_pos (show (NameKind.free == NameKind.free) = true from rfl), List.lookup_cons, beq_self_eq_true]⟩
      · exact .inl z
    · refine .inr ?_
      by_cases hk : (k == NameKind.free) = true
      · rw [if_pos hk, List.lookup_cons]
        cases q : (y == n) with
        | true => exact ⟨_, rfl⟩
        | false => exact ⟨c, h⟩
      · rw [if_neg hk]; exact ⟨c, h⟩
theorem relabel_same {sc : Scope} {env : Env} {x : Str} {k : NameKind} (hk : k ≠ .free) : sc.names.lookup x = some k → (relabel sc env).names.lookup x = some k := by
  unfold relabel
  simp only
  generalize sc.names = l
  induction l with
  | nil => intro h; cases h
  | cons p r ih =>
    obtain ⟨n, k'⟩ := p
    intro h
    rw [List.lookup_cons] at h
    rw [List.map_cons]
    cases q : (x == n) with
    | true =>
      rw [q] at h
      have e : k' = k := by simpa using h
      subst e
      have : (k' == NameKind.free) = false := by simpa using hk
      simp [this, List.lookup_cons, q]
    | false =>
      rw [q] at h
      split <;> (rw [List.lookup_cons, q]; exact ih h)
theorem relabel_free {sc : Scope} {env : Env} {x : Str} (hf : env.scope.kind = .function) (hc : env.kindOf x = some .cell) : sc.names.lookup x = some .free → (relabel sc env).names.lookup x = some .cell := by
  unfold relabel
  simp only
  generalize sc.names = l
  induction l with
  | nil => intro h; cases h
  | cons p r ih =>
    obtain ⟨n, k'⟩ := p
    intro h
    rw [List.lookup_cons] at h
    rw [List.map_cons]
    cases q : (x == n) with
    | true =>
      rw [q] at h
      have e : k' = .free := by simpa using h
      subst e
      rw [beq_iff_eq] at q
      subst q
      simp [hf, hc, List.lookup_cons]
    | false =>
      rw [q] at h
      split <;> (rw [List.lookup_cons, q]; exact ih h)
theorem relabel_of {sc : Scope} {env : Env} {x : Str} {k : NameKind} : (relabel sc env).names.lookup x = some k → sc.names.lookup x = some k ∨ (sc.names.lookup x = some .free ∧ k = .cell) := by
  unfold relabel
  simp only
  generalize sc.names = l
  induction l with
  | nil => intro h; cases h
  | cons p r ih =>
    obtain ⟨n, k'⟩ := p
    intro h
    rw [List.map_cons] at h
    rw [List.lookup_cons]
    cases q : (x == n) with
    | true =>
      split at h
      · rename_i hc
        rw [List.lookup_cons, q] at h
        have e : NameKind.cell = k := by simpa using h
        simp only [Bool.and_eq_true, beq_iff_eq] at hc
        exact .inr ⟨by rw [hc.1.1], e.symm⟩
      · rw [List.lookup_cons, q] at h
        have e : k' = k := by simpa using h
        exact .inl (by rw [e])
    | false => split at h <;> (rw [List.lookup_cons, q] at h; exact ih h)

/-- what is decided of a comprehension's scope: x its own name, ks those taken along -/
structure ScC (x : Str) (ks G : List Str) (sc : Scope) : Prop where
  kind : sc.kind = .function
  noc : ∀ y ∈ sc.names, y.2 ≠ .cell
  nms : ∀ y ∈ sc.names, y.2 = .local → sc.names.lookup y.1 = some .local
  loc : sc.names.lookup x = some .local
  fre : ∀ y ∈ ks, sc.names.lookup y = some .free
  all : ∀ y ∈ sc.names, y.2 = .free → y.1 ∈ ks
  glb : ∀ y ∈ G, sc.names.lookup y = some .globalImplicit
  nd : (x :: ks).Nodup
  dbg : ∀ y ∈ x :: ks, (y == ("__debug__" : Str)) = false ∧ (y == ("__classdict__" : Str)) = false
  dbgG : ∀ y ∈ G, (y == ("__debug__" : Str)) = false ∧ y ≠ "__name__"
/-- the block's context -/
noncomputable def cxC (X : Cx) (x : Str) (ks : List Str) (sc : Scope) (C : Addr) (fp : List Addr) (s : Shared) (H : Hp) : Cx :=
  { X with N := x :: ks, s₀ := s, H₀ := H, env := { newEnv sc C X.env.globals (clOf X.env sc.names []) X.env.qual none .none (some X.env) X.env.builtins with scope := relabel sc X.env }, outer := X.stack, stack := X.stack, ex := fp, fn := fun _ => false, pn := [], xe := fun _ _ => False }
theorem un_but {fs ex : List Addr} {H H' : Hp} {h h1 h2 : Heap} {C : Addr} (u : Un fs ex H H' h h1) (hC : h.objs.size ≤ C) (sb : Heap.SameBut C h1 h2) : Un fs ex H H' h h2 := by
  have ne : ∀ {b : Addr} {o : Obj}, h.get? b = some o → b ≠ C := fun {b o} e => Nat.ne_of_lt (Nat.lt_of_lt_of_le (Heap.lt_size e) hC)
  refine ⟨fun b o e n hb hx => (sb.2 b (ne e)).trans (u.keep b o e n hb hx), fun b o e n hb hx => ?_, u.free, fun b o e hx => ?_, u.tups, u.frzs, u.tbls⟩
  · obtain ⟨sl, q⟩ := u.slot b o e n hb hx
    exact ⟨sl, (sb.2 b (ne e)).trans q⟩
  · obtain ⟨o', q⟩ := u.there b o e hx
    exact ⟨o', (sb.2 b (ne e)).trans q⟩
theorem hok_but {P : Program} {w : World} {H : Hp} {h1 h2 : Heap} {C : Addr} (hok : HOk P w H h1) (hC : H C = none) (sb : Heap.SameBut C h1 h2) : HOk P w H h2 := fun b u e =>
  (hok b u e).stay (fun c o hc q => (sb.2 c (fun z => by
    subst z
    rcases hc with rfl | hc
    · rw [hC] at e; cases e
    · rw [hC] at hc; cases hc)).trans q) (fun _ q => q) fun _ _ q => q
/-- the loop of a block: a test or none -/
theorem loop_comp {prog : Program} {w : World} {A : Around} {R : Result → Shared → Prop} {s : Shared} {elt target iter : Expr} {ifs : List Expr} {scope : Scope} {pos : Pos} {it acc : Value} {env : Env} (J : Nat → Shared → Prop)
    (turn : ∀ n s, J n s → wpAny (model prog w) A (pyNext it) (fun r s1 => match r with
      | none => R (.ok .next) s1
      | some v => wpAny (model prog w) A (letOwnedTupleGo target it v) (fun _ s2 => wpAny (model prog w) A (assign target env v) (fun _ s3 =>
          wpAny (model prog w) A (forIn ifs true fun c r => if r = true then do let ok ← isTrue c env (eval c env); pure (ForInStep.yield ok) else pure (ForInStep.yield r)) (fun ok s4 =>
            if ok = true then wpAny (model prog w) A (eval elt env) (fun x s5 => wpAny (model prog w) A (PySem.call (.builtin "list.append") [acc, x]) (fun _ s6 => ∃ m, m < n ∧ J m s6) (fun _ _ => False) s5) (fun _ _ => False) s4
            else ∃ m, m < n ∧ J m s4) (fun _ _ => False) s3) (fun _ _ => False) s2) (fun _ _ => False) s1) (fun _ _ => False) s)
    (n : Nat) (h : J n s) : codeAny (model prog w) A (.compLoop (.ListComp elt [⟨target, iter, ifs, 0⟩] scope pos) 0 it acc env) R s := by
  refine codeAny_loop rfl J (fun n s hJ => ?_) n h
  show wpAny _ _ ((compTurn (.ListComp elt [⟨target, iter, ifs, 0⟩] scope pos) 0 it acc env).onRaise fun x => do
    noteFrame x env
    theTreesLotGoes x) _ _ s
  refine wpAny_noted ?_
  rw [compTurn_list]
  refine wpAny_bind (wpAny_standAt (wpAny_bind (wpAny_mono (turn n s hJ) (fun r s1 h1 => ?_) fun _ _ z => z.elim)))
  cases r with
  | none => exact wpAny_pure h1
  | some v =>
    refine wpAny_bind (wpAny_mono h1 (fun _ s2 h2 => ?_) fun _ _ z => z.elim)
    refine wpAny_bind (wpAny_mono h2 (fun _ s3 h3 => ?_) fun _ _ z => z.elim)
    refine wpAny_bind (wpAny_mono h3 (fun ok s4 h4 => ?_) fun _ _ z => z.elim)
    cases ok with
    | true =>
      rw [if_pos rfl] at h4
      simp only [if_true]
      refine wpAny_bind (wpAny_bind (wpAny_mono h4 (fun x s5 h5 => ?_) fun _ _ z => z.elim))
      exact wpAny_bind (wpAny_mono h5 (fun _ s6 h6 => wpAny_pure (wpAny_pure ⟨rfl, h6⟩)) fun _ _ z => z.elim)
    | false =>
      rw [if_neg Bool.false_ne_true] at h4
      simp only [Bool.false_eq_true, if_false]
      first
        | exact wpAny_pure ⟨rfl, h4⟩
        | exact wpAny_bind (wpAny_pure (wpAny_pure ⟨rfl, h4⟩))

/-! ### turns -/
theorem runC_app {st : D → R (Option D)} : ∀ {l1 l2 rs : List D}, runC st (l1 ++ l2) = .ok rs → ∃ r1 r2, runC st l1 = .ok r1 ∧ runC st l2 = .ok r2 ∧ rs = r1 ++ r2
  | [], l2, rs, h => ⟨[], rs, rfl, h, rfl⟩
  | d :: l1, l2, rs, h => by
    rw [List.cons_append] at h
    simp only [runC] at h ⊢
    cases q : st d with
    | ok o =>
      rw [q] at h
      simp only [R.bind] at h ⊢
      cases q2 : runC st (l1 ++ l2) with
      | ok r =>
        rw [q2] at h
        obtain ⟨r1, r2, e1, e2, e3⟩ := runC_app q2
        rw [e1]
        cases o with
        | none =>
          have e : r = rs := by simpa using h
          exact ⟨r1, r2, rfl, e2, by rw [← e, e3]⟩
        | some x =>
          have e : x :: r = rs := by simpa using h
          exact ⟨x :: r1, r2, rfl, e2, by rw [← e, e3]; rfl⟩
      | ex C => rw [q2] at h; cases h
      | bad => rw [q2] at h; cases h
    | ex C => rw [q] at h; cases h
    | bad => rw [q] at h; cases h
theorem runC_snoc {st : D → R (Option D)} {l : List D} {d : D} {r1 : List D} {o : Option D} (h1 : runC st l = .ok r1) (h2 : st d = .ok o) : runC st (l ++ [d]) = .ok (r1 ++ o.toList) := by
  induction l generalizing r1 with
  | nil =>
    cases h1
    rw [List.nil_append]
    unfold runC
    rw [h2]
    cases o <;> rfl
  | cons x l ih =>
    rw [List.cons_append]
    unfold runC at h1 ⊢
    cases q : st x with
    | ok o' =>
      rw [q] at h1
      simp only [R.bind] at h1 ⊢
      cases q2 : runC st l with
      | ok r =>
        rw [q2] at h1
        rw [ih q2]
        cases o' <;> (cases h1; rfl)
      | ex C => rw [q2] at h1; cases h1
      | bad => rw [q2] at h1; cases h1
    | ex C => rw [q] at h1; cases h1
    | bad => rw [q] at h1; cases h1
theorem flats_app : ∀ {a b : List D}, D.flats (a ++ b) = true → D.flats a = true ∧ D.flats b = true
  | [], b, h => ⟨rfl, h⟩
  | d :: a, b, h => by
    rw [List.cons_append] at h
    have h' : d.flat = true ∧ D.flats (a ++ b) = true := by simpa [D.flats] using h
    obtain ⟨h1, h2⟩ := flats_app h'.2
    exact ⟨by simp [D.flats, h'.1, h1], h2⟩
theorem noEx_nex {α : Type} {r : R α} {C : String} (h : noEx r = .ex C) : False := by cases r <;> cases h
theorem noEx_ok {α : Type} {r : R α} {a : α} (h : noEx r = .ok a) : r = .ok a := by
  cases r with
  | ok x => exact h
  | ex C => cases h
  | bad => cases h
theorem stC_ok {c g : E} {ks : List Nat} {δ : Dt} {x : D} {o : Option D} (h : EV.stC c g ks δ x = .ok o) : (∃ r, c (inC ks δ x) = .ok (.bl true) ∧ g (inC ks δ x) = .ok r ∧ o = some r) ∨ (c (inC ks δ x) = .ok (.bl false) ∧ o = none) := by
  unfold EV.stC at h
  cases q : noEx (c (inC ks δ x)) with
  | ok d =>
    rw [q] at h
    have q' := noEx_ok q
    cases d with
    | bl b =>
      cases b with
      | true =>
        simp only [R.bind, truth] at h
        cases q2 : noEx (g (inC ks δ x)) with
        | ok r => rw [q2] at h; cases h; exact .inl ⟨r, q', noEx_ok q2, rfl⟩
        | ex C => rw [q2] at h; cases h
        | bad => rw [q2] at h; cases h
      | false => cases h; exact .inr ⟨q', rfl⟩
    | _ => cases h
  | ex C => rw [q] at h; cases h
  | bad => rw [q] at h; cases h
/-- the tests of a block: none, or one -/
inductive Tst (X' : Cx) : List Expr → E → Prop
  | nil : Tst X' [] (con (.bl true))
  | one {c : Expr} {g : E} : ST X' c g → Tst X' [c] g
theorem tst_run {X' : Cx} {ifs : List Expr} {g : E} (h : Tst X' ifs g) {pins : List (Addr × Obj)} {s : Shared} {σ : L2.St} {H : Hp} {δ : Dt} {k : Bool} (I : Inv X' pins σ H s) (hσ : Stt X'.K X'.mg H σ δ) (hg : g δ = .ok (.bl k)) {E : Value → Shared → Prop} (hE : ∀ e s, X'.xe e s → E e s) :
    wpAny (model X'.prog X'.w) X'.A (forIn ifs true fun c r => if r = true then do let ok ← isTrue c X'.env (eval c X'.env); pure (ForInStep.yield ok) else pure (ForInStep.yield r)) (fun ok s' => ok = k ∧ ∃ H', Inv X' pins σ H' s' ∧ Same H H') E s := by
  cases h with
  | nil => cases hg; exact wpAny_tests_nil ⟨rfl, H, I, Same.refl _⟩
  | one h =>
    refine wpAny_mono (wpAny_tests_one (E := X'.xe) (thn (h pins s σ H (fun b H' => b = k ∧ Same H H') I ⟨δ, hσ, ?_⟩) fun b s' ⟨H', I', e, sm⟩ => ⟨e, H', I', sm⟩)) (fun _ _ x => x) hE
    rw [hg]
    exact fun H' sm => ⟨rfl, sm⟩
section
variable {X : Cx}
set_option maxHeartbeats 2000000 in
theorem comp_core (hc : X.calm = true) {N : List Str} (S : Sc X N) {x : Str} {ksn G : List Str} {ks : List Nat} {elt iter : Expr} {ifs : List Expr} {px pos ps : Pos} {sc : Scope} {git : IT} {gc ge : E} (SC : ScC x ksn G sc)
    (hks : ks.map (fun k => N.getD k "") = ksn) (hlt : ∀ k ∈ ks, k < N.length) (hcell : ∀ y ∈ ksn, X.env.scope.names.lookup y = some .cell)
    (he : SI X (.Name x px) iter git)
    (htst : ∀ C fp s H, Sc (cxC X x ksn sc C fp s H) (x :: ksn) → (∀ y ∈ G, Gb (cxC X x ksn sc C fp s H) y) → Tst (cxC X x ksn sc C fp s H) ifs gc)
    (helt : ∀ C fp s H, Sc (cxC X x ksn sc C fp s H) (x :: ksn) → (∀ y ∈ G, Gb (cxC X x ksn sc C fp s H) y) → SE (cxC X x ksn sc C fp s H) elt ge)
    (hs : ∀ z, foldedSetIterable iter X.env z = pure z) {use : Option (Value → Sem Unit)} {Qf : Value → Shared → Prop} {Q : VK}
    {pins : List (Addr × Obj)} {s : Shared} {σ : L2.St} {H : Hp} {δ : Dt} (I : Inv X pins σ H s) (hσ : Stt X.K X.mg H σ δ) (h : RQ X σ H (compIf git ks gc ge δ) Q)
    (hfin : ∀ (s1 : Shared) (Hc : Hp) (D C : Addr) (ys : List V) (rs : List EV.D), compIf git ks gc ge δ = .ok (.lst rs) → EV.D.flats rs = true → H D = none → Hc D = some (.lst ys) → Reps X.K X.mg Hc ys rs → Same H Hc → Q (.ref D) Hc →
      FpOk X pins Hc C → Inv X pins σ Hc s1 → (∃ m, s1.heap.Ns C m) → (∀ h', Heap.SameBut C s1.heap h' → Inv X pins σ Hc { s1 with heap := h' }) → compPost (model X.prog X.w) X.A X.xe use Qf (.ref D) C (.ok .next) s1) :
    wpAny (model X.prog X.w) X.A (comprehension (.ListComp elt [⟨.Name x px, iter, ifs, 0⟩] sc pos) sc X.env ps (newList []) false (eval iter X.env) use) Qf X.xe s := by
  have lenks : ksn.length = ks.length := by rw [← hks, List.length_map]
  have atk : ∀ (j : Nat) (y : Str), ksn[j]? = some y → ∃ k, ks[j]? = some k ∧ N[k]? = some y := fun j y e => by
    rw [← hks, List.getElem?_map] at e
    cases q : ks[j]? with
    | none => rw [q] at e; cases e
    | some k =>
      rw [q] at e
      have e' : N.getD k "" = y := Option.some.inj e
      have hk := hlt k (List.mem_of_getElem? q)
      exact ⟨k, rfl, by rw [← e', List.getD_eq_getElem?_getD, List.getElem?_eq_getElem hk]; rfl⟩
  -- the cells of the names taken along
  have frec : ∀ y, (y, NameKind.free) ∈ sc.names → ∃ c, X.env.cells.lookup y = some c := fun y hy => I.ok.has y (.inl (hcell y (SC.all _ hy rfl)))
  have hcomp : ∀ ds rs, git δ = .ok ds → ds.length ≤ 100000 → runC (EV.stC gc ge ks δ) ds = .ok rs → EV.D.flats rs = true → compIf git ks gc ge δ = .ok (.lst rs) := fun ds rs e1 e2 e3 e4 => by
    unfold compIf
    rw [e1]
    simp only [R.bind]
    rw [if_pos e2, e3]
    simp only [R.bind, flatR]
    rw [if_pos e4]
  refine wpAny_comprehension_free (use := use) rfl hs (closure_is frec) SC.kind SC.nms ?_
  have sub : ∀ y c, (clOf X.env sc.names []).lookup y = some c → X.env.cells.lookup y = some c := cl_sub frec fun y c e => nomatch e
  have hq : RI X σ H (git δ) (fun J H' => Same H H' ∧ ∃ ds, git δ = .ok ds ∧ WalkI X J H' ds) := by
    unfold compIf at h
    cases r : git δ with
    | ok ds => exact fun J H' s w => ⟨s, ds, rfl, w⟩
    | ex C => rw [r] at h; exact h
    | bad => rw [r] at h; exact h
  refine thn (he pins s σ H _ I ⟨δ, hσ, hq⟩) fun v s1 h1 => thn h1 fun itv s2 h2 => ?_
  obtain ⟨it, fp, tn, J, H2, e, I2, T, st2, f2, sm2, ds, eds, wk⟩ := h2
  subst e
  have hσ2 : Stt X.K X.mg H2 σ δ := hσ.mono sm2
  unfold compIf at h
  rw [eds] at h
  simp only [R.bind] at h
  obtain ⟨hz, rs, ers, hfl, hQ⟩ : ds.length ≤ 100000 ∧ ∃ rs, runC (EV.stC gc ge ks δ) ds = .ok rs ∧ D.flats rs = true ∧ ∀ v H', Same H H' → Rep X.K X.mg H' v (.lst rs) → Q v H' := by
    split at h
    · rename_i hz
      refine ⟨hz, ?_⟩
      cases r : runC (EV.stC gc ge ks δ) ds with
      | ok rs =>
        rw [r] at h
        simp only [R.bind, flatR] at h
        split at h
        · rename_i hf
          exact ⟨rs, rfl, hf, h⟩
        · exact False.elim h
      | ex C =>
        exfalso
        have : ∀ l C, runC (EV.stC gc ge ks δ) l ≠ .ex C := fun l C => by
          induction l with
          | nil => exact fun z => nomatch z
          | cons a l ih =>
            intro z
            unfold runC at z
            cases q : EV.stC gc ge ks δ a with
            | ok o =>
              rw [q] at z
              simp only [R.bind] at z
              cases q2 : runC (EV.stC gc ge ks δ) l with
              | ok r => rw [q2] at z; cases z
              | ex C' => exact ih.elim (by rw [q2] at z; cases z; exact q2)
              | bad => rw [q2] at z; cases z
            | ex C' =>
              unfold EV.stC at q
              cases q3 : noEx (gc (inC ks δ a)) with
              | ok d =>
                rw [q3] at q
                cases d with
                | bl b =>
                  cases b with
                  | true =>
                    simp only [R.bind, truth] at q
                    cases q4 : noEx (ge (inC ks δ a)) with
                    | ok r => rw [q4] at q; cases q
                    | ex C'' => exact noEx_nex q4
                    | bad => rw [q4] at q; cases q
                  | false => cases q
                | _ => cases q
              | ex C'' => exact noEx_nex q3
              | bad => rw [q3] at q; cases q
            | bad => rw [q] at z; cases z
        exact this _ _ r
      | bad => rw [r] at h; exact False.elim h
    · exact False.elim h
  refine wpAny_newList ?_ (Nat.zero_le _)
  have I3 : Inv X pins σ (upd H2 s2.heap.objs.size (.lst [])) { s2 with heap := s2.heap.push { cls := .type "list", data := .seq ([] : List Value).toArray } } := I2.lnew (t' := s2.toks) .nil (Nat.zero_le _)
  have hnew : H2 s2.heap.objs.size = none := I2.fresh
  have sm3 : Same H2 (upd H2 s2.heap.objs.size (.lst [])) := same_upd hnew _
  generalize hD : s2.heap.objs.size = D at *
  generalize hH3 : upd H2 D (.lst []) = H3 at *
  have hD3 : H3 D = some (.lst []) := by rw [← hH3]; exact upd_same
  have keep3 : ∀ b o, s2.heap.get? b = some o → (s2.heap.push { cls := .type "list", data := .seq ([] : List Value).toArray }).get? b = some o := fun b o q => Heap.get?_push_of_some _ q
  have st3 : tn 0 (s2.heap.push { cls := .type "list", data := .seq ([] : List Value).toArray }) := T.keep 0 _ _ st2 fun b _ o q => keep3 b o q
  have ne3 : ∀ b ∈ fp, b ≠ D := fun b hb z => by
    obtain ⟨o, e, _⟩ := T.obj 0 _ st2 b hb
    exact absurd (Heap.lt_size e) (by rw [z, ← hD]; exact Nat.lt_irrefl _)
  have f3 : ∀ b ∈ fp, FpOk X pins H3 b := fun b hb => ⟨by rw [← hH3, upd_ne (ne3 b hb)]; exact (f2 b hb).1, (f2 b hb).2⟩
  generalize hs3 : ({ s2 with heap := s2.heap.push { cls := .type "list", data := .seq ([] : List Value).toArray } } : Shared) = s3 at *
  have st3' : tn 0 s3.heap := by rw [← hs3]; exact st3
  refine wpAny_newFunctionEnv SC.noc (fun y z => nomatch z) (fun h4 ns4 sb4 => ?_) SC.kind
  -- the block begins
  have kp4 : ∀ b o, s3.heap.get? b = some o → h4.get? b = some o := fun b o q => by
    rw [sb4.2 b (Nat.ne_of_lt (Heap.lt_size q))]
    exact Heap.get?_push_of_some _ q
  have nst : ∀ b ∈ fp, b ∉ frs X.stack := fun b hb z => by
    rcases List.mem_cons.mp (I3.stkSub b z) with q | q
    · exact (f3 b hb).2.1 q
    · exact (f3 b hb).2.2.1 q
  have neC : ∀ b ∈ fp, b ≠ s3.heap.objs.size := fun b hb => by
    obtain ⟨ob, e, _⟩ := T.obj 0 _ st3' b hb
    exact Nat.ne_of_lt (Heap.lt_size e)
  have fpcl : ∀ b ∈ fp, ∀ y c, (clOf X.env sc.names []).lookup y = some c → c ≠ b := fun b hb y c e => (f3 b hb).2.2.2.2.1 y c (sub y c e)
  have ok4 : (cxC X x ksn sc s3.heap.objs.size fp s3 H3).Ok := by
    have o := I3.ok
    refine ⟨o.mod, SC.kind, o.glob, o.blt, Nat.le_refl _, fun y z c e1 e2 => o.inj y z c (sub y c e1) (sub z c e2), fun y hy => ?_, fun y c z e => absurd z Bool.false_ne_true, o.hd, o.frames, .inl rfl, fun b hb => ⟨neC b hb, fpcl b hb⟩, I3.bs, Nat.le_trans o.bsz I3.sz, fun b ob e hb => ?_, fun b hb => nst b hb, I3.stack, I3.stkFree⟩
    · have hy : (relabel sc X.env).names.lookup y = some .cell ∨ (relabel sc X.env).names.lookup y = some .free := hy
      have hf : sc.names.lookup y = some .free := by
        rcases hy with hy | hy
        · rcases relabel_of hy with q | ⟨q, _⟩
          · exact absurd rfl (SC.noc _ (PySem.mem_of_lookup q))
          · exact q
        · rcases relabel_of hy with q | ⟨_, q⟩
          · exact q
          · cases q
      exact cl_has (.inl (PySem.mem_of_lookup hf))
    · rcases (f3 b hb).2.2.2.1 with q | q
      · exact o.noex b ob e q
      · exact absurd (Heap.lt_size (o.bs b ob e).1) (Nat.not_lt.mpr q)
  have fun4 : X.env.scope.kind = .function := I3.ok.kind
  have S4 : Sc (cxC X x ksn sc s3.heap.objs.size fp s3 H3) (x :: ksn) := by
    refine ⟨rfl, SC.nd, fun y hy => ?_, SC.dbg⟩
    rcases List.mem_cons.mp hy with z | z
    · subst z; exact .inl (relabel_same (by decide) SC.loc)
    · exact .inr (.inl (relabel_free fun4 (hcell y z) (SC.fre y z)))
  have G4 : ∀ y ∈ G, Gb (cxC X x ksn sc s3.heap.objs.size fp s3 H3) y := fun y hy => ⟨relabel_same (by decide) (SC.glb y hy), (SC.dbgG y hy).1, (SC.dbgG y hy).2⟩
  have E4 := helt s3.heap.objs.size fp s3 H3 S4 G4
  have T4 := htst s3.heap.objs.size fp s3 H3 S4 G4
  have hCn : H3 s3.heap.objs.size = none := I3.fresh
  have hσ3 : Stt X.K X.mg H3 σ δ := hσ2.mono sm3
  have lenσ3 : σ.length = N.length := by rw [I3.len, S.n]
  have I4 : Inv (cxC X x ksn sc s3.heap.objs.size fp s3 H3) [] (none :: ks.map fun k => σ.getD k none) H3 { s3 with heap := h4, toks := s3.toks + ([] : List (Str × Value)).length } := by
    refine ⟨ok4, rfl, I3.bare, Un.kept kp4, ⟨_, ns4, fun j y v e1 e2 e3 => ?_⟩, fun y c e => ?_, hCn, fun y c e => I3.freeC y c (sub y c e), fun p hp => absurd (show p ∈ ([] : List (Addr × Obj)) from hp) (by simp), I3.hok.kept kp4, by show _ = (x :: ksn).length; rw [List.length_cons, List.length_cons, List.length_map, lenks]⟩
    · cases j with
      | zero => cases e2
      | succ j =>
        have e1' : ksn[j]? = some y := e1
        obtain ⟨k, ek, eN⟩ := atk j y e1'
        rw [List.getElem?_cons_succ, List.getElem?_map, ek] at e2
        have e2' : σ.getD k none = some v := Option.some.inj e2
        have eσ : σ[k]? = some (some v) := by
          rw [List.getD_eq_getElem?_getD] at e2'
          cases q : σ[k]? with
          | none => rw [q] at e2'; cases e2'
          | some o => rw [q] at e2'; have : o = some v := e2'; rw [this]
        have hy := List.mem_of_getElem? e1'
        have hyc := hcell y hy
        obtain ⟨m', hn', hl'⟩ := I3.loc
        obtain ⟨u, ru, lu⟩ := hl' k y v (by rw [S.n]; exact eN) eσ (.inr (.inl hyc))
        refine ⟨u, ru, ?_⟩
        rcases lu with ⟨k1, _⟩ | ⟨_, c, hcc, ic⟩
        · have : (some NameKind.local) = some .cell := k1.symm.trans hyc
          cases this
        · obtain ⟨c', hc'⟩ := cl_has (env := X.env) (cs := []) (.inl (PySem.mem_of_lookup (SC.fre y hy)))
          have : c' = c := by have := sub y c' hc'; rw [hcc] at this; exact (Option.some.inj this).symm
          subst this
          obtain ⟨oc, hoc, hd⟩ := ic
          exact .inr ⟨.inl (relabel_free fun4 hyc (SC.fre y hy)), c', hc', oc, kp4 _ _ hoc, hd⟩
    · obtain ⟨v, oc, hoc, hd⟩ := I3.cell y c (sub y c e)
      exact ⟨v, oc, kp4 _ _ hoc, hd⟩
  have fpc : ∀ {Hc : Hp}, (∀ b ∈ fp, Hc b = none) → ∀ b ∈ fp, FpOk (cxC X x ksn sc s3.heap.objs.size fp s3 H3) [] Hc b := fun {Hc} hn b hb =>
    ⟨hn b hb, neC b hb, nst b hb, .inl hb, fpcl b hb, fun p hp => absurd (show p ∈ ([] : List (Addr × Obj)) from hp) (by simp)⟩
  have st4 : tn 0 h4 := T.keep 0 _ _ st3' fun b _ o q => kp4 b o q
  have kc2 : ∀ {Hc : Hp}, (∀ b o, b ≠ D → H3 b = some o → Hc b = some o) → Same H2 Hc := fun {Hc} kc b o e => kc b o (fun z => by rw [z, hnew] at e; cases e) (sm3 b o e)
  have R4 : codeAny (model X.prog X.w) X.A (.compLoop (.ListComp elt [⟨.Name x px, iter, ifs, 0⟩] sc pos) 0 (.ref it) (.ref D) (cxC X x ksn sc s3.heap.objs.size fp s3 H3).env)
      (compPost (model X.prog X.w) X.A X.xe use Qf (.ref D) s3.heap.objs.size)
      { s3 with heap := h4, toks := s3.toks + ([] : List (Str × Value)).length } := by
    refine loop_comp (fun n s' => ∃ i σc Hc ys rsi, Inv (cxC X x ksn sc s3.heap.objs.size fp s3 H3) [] σc Hc s' ∧ tn i s'.heap ∧ (∀ b ∈ fp, Hc b = none) ∧ n = ds.length - i ∧ i ≤ ds.length ∧ Hc D = some (.lst ys) ∧ runC (EV.stC gc ge ks δ) (ds.take i) = .ok rsi ∧ ys.length ≤ i ∧ Reps X.K X.mg Hc ys rsi ∧ (∀ b o, b ≠ D → H3 b = some o → Hc b = some o) ∧ σc.tail = (ks.map fun k => σ.getD k none)) ?_ ds.length
      ⟨0, _, H3, [], [], I4, st4, fun b hb => (f3 b hb).1, rfl, Nat.zero_le _, hD3, by rw [List.take_zero]; rfl, Nat.zero_le _, .nil, fun _ _ _ q => q, rfl⟩
    rintro n s' ⟨i, σc, Hc, ys, rsi, Ic, st, fr, rfl, hi, hDc, ersi, hyl, hys, kc, tlσ⟩
    have smc := kc2 kc
    have wkc := wk Hc smc
    by_cases hlt' : i < ds.length
    · have hd : ds[i]? = some ds[i] := List.getElem?_eq_getElem hlt'
      generalize ds[i] = d at hd
      -- the turn's answer
      have etk : ds = ds.take i ++ (d :: ds.drop (i + 1)) := by
        have := List.take_append_drop i ds
        rw [drop_cons_of hd] at this
        exact this.symm
      obtain ⟨r1, r2, er1, er2, ersx⟩ := runC_app (by rw [etk] at ers; exact ers)
      rw [ersi] at er1
      cases er1
      have fl1 : EV.D.flats rsi = true := (flats_app (by rw [ersx] at hfl; exact hfl)).1
      have fl2 : EV.D.flats r2 = true := (flats_app (by rw [ersx] at hfl; exact hfl)).2
      obtain ⟨o, eo⟩ : ∃ o, EV.stC gc ge ks δ d = .ok o := by
        unfold runC at er2
        cases q : EV.stC gc ge ks δ d with
        | ok o => exact ⟨o, rfl⟩
        | ex C => rw [q] at er2; cases er2
        | bad => rw [q] at er2; cases er2
      have flo : ∀ r, o = some r → EV.D.flat r = true := fun r e => by
        subst e
        unfold runC at er2
        rw [eo] at er2
        simp only [R.bind] at er2
        cases q : runC (EV.stC gc ge ks δ) (ds.drop (i + 1)) with
        | ok z =>
          rw [q] at er2
          have : r :: z = r2 := by simpa using er2
          rw [← this] at fl2
          have : EV.D.flat r = true ∧ EV.D.flats z = true := by simpa [EV.D.flats] using fl2
          exact this.1
        | ex C => rw [q] at er2; cases er2
        | bad => rw [q] at er2; cases er2
      have ertk : runC (EV.stC gc ge ks δ) (ds.take (i + 1)) = .ok (rsi ++ o.toList) := by
        rw [List.take_add_one, hd]
        exact runC_snoc ersi eo
      refine thn (T.item (cxC X x ksn sc s3.heap.objs.size fp s3 H3) rfl rfl rfl hc i [] s' σc Hc (fun _ _ => False) Ic (fpc fr) st (wkc.1 i d hd).1) fun r s1 ⟨u, hr, h4'⟩ => ?_
      subst hr
      refine thn h4' fun _ s5 ⟨v, H5, I5, r5, yl, st5, fr5⟩ => ?_
      obtain ⟨e5, rd⟩ := (wkc.1 i d hd).2 v H5 yl
      subst e5
      have I5' := I5.pinned (fpc fr5) (T.obj _ _ st5)
      have pinf : ∀ {σ7 : L2.St} {H7 : Hp} {s7 : Shared}, Inv (cxC X x ksn sc s3.heap.objs.size fp s3 H3) ([] ++ pinsAt fp s5.heap) σ7 H7 s7 → ∀ b ∈ fp, ∀ o, s5.heap.get? b = some o → s7.heap.get? b = some o ∧ H7 b = none := fun {σ7 H7 s7} I7 b hb o q =>
        have z := I7.pin (b, o) (List.mem_append_right _ (List.mem_append_right _ (mem_pinsAt hb q)))
        ⟨z.1, z.2.1⟩
      have lenσ : σc.length = ks.length + 1 := by
        have := Ic.len
        rw [this]
        show (x :: ksn).length = _
        rw [List.length_cons, lenks]
      have hxl : (cxC X x ksn sc s3.heap.objs.size fp s3 H3).env.scope.names.lookup x = some .local := relabel_same (by decide) SC.loc
      refine thn (pg_name (X := (cxC X x ksn sc s3.heap.objs.size fp s3 H3)) (i := 0) (x := x) (by rw [S4.n]; exact S4.nd) rfl (.inl hxl) (.inr hxl) _ s5 σc _ v u (fun σ6 H6 => σ6 = σc.set 0 (some v) ∧ H6 = H5) I5' r5 ⟨rfl, rfl⟩) fun _ s6 ⟨σ6, H6, I6, e6, e6'⟩ => ?_
      subst e6 e6'
      have hσ6 : Stt X.K X.mg H6 (σc.set 0 (some v)) (inC ks δ d) := by
        unfold inC
        refine ⟨by rw [List.length_set, lenσ, List.length_cons, List.length_map], fun j d' e nown => ?_⟩
        cases j with
        | zero =>
          have e' : d = d' := by simpa using e
          subst e'
          exact ⟨v, by rw [List.getElem?_set_self (by omega)], rd.mono smc⟩
        | succ j =>
          rw [List.getElem?_cons_succ, List.getElem?_map] at e
          cases ek : ks[j]? with
          | none => rw [ek] at e; cases e
          | some k =>
            rw [ek] at e
            have e' : δ.getD k none = some d' := Option.some.inj e
            have eδ : δ[k]? = some (some d') := by
              rw [List.getD_eq_getElem?_getD] at e'
              cases q : δ[k]? with
              | none => rw [q] at e'; cases e'
              | some o => rw [q] at e'; have : o = some d' := e'; rw [this]
            obtain ⟨w, ew', rw'⟩ := hσ2.2 k d' eδ nown
            refine ⟨w, ?_, rw'.mono smc⟩
            rw [List.getElem?_set_ne (by omega)]
            have ht : σc.tail[j]? = some (some w) := by
              rw [tlσ, List.getElem?_map, ek]
              show some (σ.getD k none) = _
              rw [List.getD_eq_getElem?_getD, ew']
              rfl
            rw [List.getElem?_tail] at ht
            exact ht
      have tl6 : (σc.set 0 (some v)).tail = (ks.map fun k => σ.getD k none) := by
        rw [← tlσ]
        cases σc <;> rfl
      obtain ⟨k, ek, kcase⟩ : ∃ k, gc (inC ks δ d) = .ok (.bl k) ∧ ((k = true ∧ ∃ r, ge (inC ks δ d) = .ok r ∧ o = some r) ∨ (k = false ∧ o = none)) := by
        rcases stC_ok eo with ⟨r, q1, q2, q3⟩ | ⟨q1, q2⟩
        · exact ⟨true, q1, .inl ⟨rfl, r, q2, q3⟩⟩
        · exact ⟨false, q1, .inr ⟨rfl, q2⟩⟩
      refine thn (tst_run T4 I6 hσ6 ek (E := fun _ _ => False) fun _ _ z => z) fun ok s7 ⟨eok, H7, I7, sm7⟩ => ?_
      subst eok
      rcases kcase with ⟨rfl, r, eg, rfl⟩ | ⟨rfl, rfl⟩
      · rw [if_pos rfl]
        refine thn (E4 _ s7 _ H7 (fun v8 H8 => Same H7 H8 ∧ Rep X.K X.mg H8 v8 r) I7 ⟨inC ks δ d, hσ6.mono sm7, by rw [eg]; exact fun v8 H8 sm rp => ⟨sm, rp⟩⟩) fun u8 s8 ⟨v8, H8, I8, r8, sm8, rp8⟩ => ?_
        have sm78 := sm7.trans sm8
        have hD8 : H8 D = some (.lst ys) := sm78 _ _ hDc
        refine thn (mt_append (X := (cxC X x ksn sc s3.heap.objs.size fp s3 H3)) _ s8 _ H8 (.ref D) [v8] (.ref D) [u8] (fun _ H9 => H9 = upd H8 D (.lst (ys ++ [v8]))) I8 rfl (.cons r8 .nil) ⟨D, ys, v8, rfl, rfl, hD8, by rw [sizeLine_eq]; omega, rfl⟩) fun _ s9 ⟨_, H9, I9, _, e9⟩ => ?_
        subst e9
        have k9 : NoL H8 (upd H8 D (.lst (ys ++ [v8]))) := fun b ob e n _ => by
          rw [upd_ne fun z => ?_]; exact e
          rw [z, hD8] at e
          exact n ys (Option.some.inj e).symm
        have k9' : ∀ b ob, b ≠ D → H8 b = some ob → upd H8 D (.lst (ys ++ [v8])) b = some ob := fun b ob hb q => by rw [upd_ne hb]; exact q
        refine ⟨ds.length - (i + 1), by omega, i + 1, _, _, ys ++ [v8], rsi ++ [r], I9.unpinned, T.keep _ _ _ st5 (fun b hb o q => (pinf I9 b hb o q).1), fun b hb => ?_, rfl, by omega, upd_same, ertk, by rw [List.length_append]; simp; omega, ?_, fun b ob hb q => k9' b ob hb (sm78 _ _ (kc b ob hb q)), tl6⟩
        · obtain ⟨ob, e, _⟩ := T.obj _ _ st5 b hb
          exact (pinf I9 b hb ob e).2
        · exact (reps_nol k9 fl1 (hys.mono sm78)).append (.cons (rep_nol k9 (flo r rfl) rp8) .nil)
      · rw [if_neg Bool.false_ne_true]
        refine ⟨ds.length - (i + 1), by omega, i + 1, _, _, ys, rsi, I7.unpinned, T.keep _ _ _ st5 (fun b hb o q => (pinf I7 b hb o q).1), fun b hb => ?_, rfl, by omega, sm7 _ _ hDc, by rw [ertk]; simp, by omega, hys.mono sm7, fun b ob hb q => sm7 _ _ (kc b ob hb q), tl6⟩
        obtain ⟨ob, e, _⟩ := T.obj _ _ st5 b hb
        exact (pinf I7 b hb ob e).2
    · have ei : i = ds.length := by omega
      subst ei
      refine thn (T.done (cxC X x ksn sc s3.heap.objs.size fp s3 H3) rfl rfl rfl hc ds.length [] s' σc Hc (fun _ _ => False) Ic (fpc fr) st (wkc.2 _ (Nat.le_refl _))) fun r s1 ⟨hr, I9⟩ => ?_
      subst hr
      obtain ⟨m, hns, _⟩ := id I9.loc
      have I10 : ∀ h', Heap.SameBut s3.heap.objs.size s1.heap h' → Inv X pins σ Hc { s1 with heap := h' } := fun h' sb => I3.call' (s' := { s1 with heap := h' }) (ch := fp) I9.os (un_but I9.base (Nat.le_refl _) sb) (hok_but I9.hok I9.free sb) I9.bare fun b hb =>
        ⟨(f3 b hb).2.2.2.1, (f3 b hb).2.1, (f3 b hb).2.2.2.2.1, (f3 b hb).2.2.2.2.2⟩
      rw [List.take_of_length_le (Nat.le_refl _), ers] at ersi
      cases ersi
      have hHD : H D = none := by
        cases q : H D with
        | none => rfl
        | some o => have := sm2 D o q; rw [hnew] at this; cases this
      exact hfin s1 Hc D s3.heap.objs.size ys rs (hcomp ds rs eds hz ers hfl) hfl hHD hDc hys (sm2.trans smc) (hQ _ _ (sm2.trans smc) (.lst (SqL.of hDc) hys)) (I3.fpOk (Nat.le_refl _) I9.free)
        (I10 s1.heap (Heap.SameBut.refl _ _)) ⟨m, hns⟩ I10
  exact codeAny_compStart_list R4 (T.self _ 0 _ _ _ st4 R4)
theorem e_compIf (hc : X.calm = true) {N : List Str} (S : Sc X N) {x : Str} {ksn G : List Str} {ks : List Nat} {elt iter : Expr} {ifs : List Expr} {px pos : Pos} {sc : Scope} {git : IT} {gc ge : E} (SC : ScC x ksn G sc)
    (hks : ks.map (fun k => N.getD k "") = ksn) (hlt : ∀ k ∈ ks, k < N.length) (hcell : ∀ y ∈ ksn, X.env.scope.names.lookup y = some .cell)
    (he : SI X (.Name x px) iter git)
    (htst : ∀ C fp s H, Sc (cxC X x ksn sc C fp s H) (x :: ksn) → (∀ y ∈ G, Gb (cxC X x ksn sc C fp s H) y) → Tst (cxC X x ksn sc C fp s H) ifs gc)
    (helt : ∀ C fp s H, Sc (cxC X x ksn sc C fp s H) (x :: ksn) → (∀ y ∈ G, Gb (cxC X x ksn sc C fp s H) y) → SE (cxC X x ksn sc C fp s H) elt ge)
    (hs : ∀ z, foldedSetIterable iter X.env z = pure z := by intro _; rfl) : SE X (.ListComp elt [⟨.Name x px, iter, ifs, 0⟩] sc pos) (compIf git ks gc ge) := by
  intro pins s σ H Q I ⟨δ, hσ, h⟩
  rw [eval_ListComp]
  exact comp_core hc S SC hks hlt hcell he htst helt hs (use := none) I hσ h fun s1 Hc D C ys rs e1 e2 e3 e4 e5 e6 q fC I1 ⟨m, ns⟩ turn => ⟨m, ns, fun h' sb => ⟨.ref D, Hc, turn h' sb, rfl, q⟩⟩
theorem e_comp (hc : X.calm = true) {N : List Str} (S : Sc X N) {x : Str} {ksn G : List Str} {ks : List Nat} {elt iter : Expr} {px pos : Pos} {sc : Scope} {git : IT} {ge : E} (SC : ScC x ksn G sc)
    (hks : ks.map (fun k => N.getD k "") = ksn) (hlt : ∀ k ∈ ks, k < N.length) (hcell : ∀ y ∈ ksn, X.env.scope.names.lookup y = some .cell)
    (he : SI X (.Name x px) iter git)
    (helt : ∀ C fp s H, Sc (cxC X x ksn sc C fp s H) (x :: ksn) → (∀ y ∈ G, Gb (cxC X x ksn sc C fp s H) y) → SE (cxC X x ksn sc C fp s H) elt ge)
    (hs : ∀ z, foldedSetIterable iter X.env z = pure z := by intro _; rfl) : SE X (.ListComp elt [⟨.Name x px, iter, [], 0⟩] sc pos) (comp git ks ge) :=
  e_compIf hc S SC hks hlt hcell he (fun _ _ _ _ _ _ => .nil) helt hs
end
end ES


set_option Elab.async false
set_option linter.all false
set_option maxRecDepth 100000
/-! SOUNDNESS, part 10: constants of the module, isinstance of several classes, what a comprehension's block knows. -/
namespace ES
open PySem PySem.Spec PyProof.Rows L2 EV
unseal SE ST SW SA SS SSs SI

structure GC (X : Cx) (x : String) (d : D) : Prop where
  ex : ∃ v u, X.mg x = some u ∧ RelV v u ∧ ∀ H, Rep X.K X.mg H v d
section
variable {X : Cx} {pos p : Pos} {x : String} {d : D} {e e2 : Expr} {g : E}
end
/-! ### in a comprehension's block -/
section
variable {X : Cx} {x y : Str} {ksn : List Str} {sc : Scope} {C : Addr} {fp : List Addr} {s : Shared} {H : Hp} {f : List D → R D} {cn m : String} {F : List D → R D}
end
/-- the statements of a class -/
noncomputable def clsBody : Stmt → List Stmt
  | .ClassDef _ _ _ b _ _ _ _ _ _ _ => b
  | _ => []
end ES
namespace ES
open EV
end ES

set_option Elab.async false
set_option linter.all false
set_option maxRecDepth 100000
/-! SOUNDNESS, part 11: slices; what is walked, a list or a tuple. -/
namespace ES
open PySem PySem.Spec PyProof.Rows L2 EV
unseal SE ST SW SA SS SSs SI

noncomputable def ROp (X : Cx) (σ : L2.St) (H : Hp) (r : R (Option Int)) (Q : Option Int → Hp → Prop) : Prop := match r with
  | .ok o => ∀ H', Same H H' → Q o H'
  | .ex C => ∀ Ca, X.mg C = some (.ref Ca) → ∀ H', Same H H' → ew X Ca σ H'
  | .bad => False
noncomputable def tPo (X : Cx) (g : Option E) : TO := fun σ H Q => ∃ δ, Stt X.K X.mg H σ δ ∧ ROp X σ H (part g δ) Q
@[irreducible] noncomputable def SO (X : Cx) (e : Option Expr) (g : Option E) : Prop := PO X e (tPo X g)
unseal SO
section
variable {X : Cx} {tg e a : Expr} {lo hi : Option Expr} {g : E} {gl gu : Option E} {σ : L2.St} {H H1 : Hp} {pos p2 : Pos}
theorem PO.weak {o : Option Expr} {t t' : TO} (h : PO X o t) (w : ∀ σ H Q, t' σ H Q → t σ H Q) : PO X o t' := fun pins s σ H Q I q => h pins s σ H Q I (w σ H Q q)
theorem po_none' : SO X none none := PO.weak po_none fun σ H Q ⟨δ, hσ, q⟩ => q H (Same.refl _)
theorem po_some' (h : SE X e g) : SO X (some e) (some g) := PO.weak (po_some h) fun σ H Q ⟨δ, hσ, q⟩ => ⟨δ, hσ, by
  simp only [EV.part] at q
  cases r : g δ with
  | ok d =>
    rw [r] at q
    cases d with
    | int i => exact fun v H' s r => by cases r; exact ⟨i, rfl, q H' s⟩
    | _ => exact False.elim q
  | ex C => rw [r] at q; exact q
  | bad => rw [r] at q; exact q⟩
theorem ROp.bind {r : R (Option Int)} {f : Option Int → R D} {Q : VK} (h : RQ X σ H (r.bind f) Q) : ROp X σ H r (fun o H' => Same H H' ∧ RQ X σ H' (f o) Q) := by
  cases r with
  | ok d => exact fun H' s => ⟨s, h.mono s⟩
  | ex C => exact h
  | bad => exact h
theorem ROp.to {r : R (Option Int)} {Q Q' : Option Int → Hp → Prop} (h : ROp X σ H r Q) (g : ∀ o H', Same H H' → Q o H' → Q' o H') : ROp X σ H r Q' := by
  cases r with
  | ok d => exact fun H' s => g d H' s (h H' s)
  | ex C => exact h
  | bad => exact h
theorem reps_cut {H : Hp} {xs : List V} {ds : List D} (rs : Reps X.K X.mg H xs ds) (l u : Option Int) : Reps X.K X.mg H (cutV xs l u) (EV.cut ds l u) := by
  unfold cutV EV.cut
  rw [rs.length]
  exact (rs.drop _).take _
noncomputable def rS (X : Cx) : V → Option Int → Option Int → Hp → VK → Prop := fun x l u H Q => ∃ dx d, Rep X.K X.mg H x dx ∧ oSl dx l u = .ok d ∧ ∀ v H', Same H H' → Rep X.K X.mg H' v d → Q v H'
theorem sl_D : SlR X (rS X) := by
  intro pins s σ H x v vl vu l u sl Q I rx hs pl pu ⟨dx, d, r, e, q⟩
  unfold oSl at e
  split at e
  · split at e
    · cases e
    · rename_i hn
      cases e; cases r
      rename_i p xs hq rs
      refine sl_tup pins s σ H _ v vl vu l u sl Q I rx hs pl pu ⟨p, xs, rfl, hq, ?_, fun p hp => q _ _ (same_upd hp _) (.tup (SqT.of upd_same) ((reps_cut rs l u).mono (same_upd hp _)))⟩
      rw [rs.length]
      exact hn
  · cases e; cases r
    rename_i p xs hq rs
    exact sl_list pins s σ H _ v vl vu l u sl Q I rx hs pl pu ⟨p, xs, rfl, hq, fun p hp => q _ _ (same_upd hp _) (.lst (SqL.of upd_same) ((reps_cut rs l u).mono (same_upd hp _)))⟩
  · cases e
theorem e_slc (ha : SE X a g) (hl : SO X lo gl) (hu : SO X hi gu) : SE X (.Subscript a (.Slice lo hi none p2) pos) (slc g gl gu) :=
  PE.weak (pe_slice sl_D ha hl hu) fun σ H Q ⟨δ, hσ, q⟩ => ⟨δ, hσ, (RQ.bind q).to fun x H1 _ ⟨s1, d, r1, q1⟩ => ⟨δ, hσ.mono s1, (ROp.bind q1).to fun l H2 _ ⟨s2, q2⟩ => ⟨δ, hσ.mono (s1.trans s2), (ROp.bind q2).to fun u H3 _ ⟨s3, q3⟩ => by
    have r3 := r1.mono (s2.trans s3)
    cases e : oSl d l u with
    | ok z => rw [e] at q3; exact ⟨d, z, r3, e, q3⟩
    | ex C =>
      exfalso
      unfold oSl at e
      split at e
      · split at e <;> cases e
      · cases e
      · cases e
    | bad => rw [e] at q3; exact False.elim q3⟩⟩⟩
theorem i_any (h : SE X e g) : SI X tg e (itA g) := fun pins s σ H Q I ⟨δ, hσ, q⟩ => by
  unfold itA at q
  cases r : g δ with
  | ok d =>
    rw [r] at q
    cases d with
    | lst ds => exact i_list h pins s σ H Q I ⟨δ, hσ, by unfold itL; rw [r]; exact q⟩
    | tup ds => exact i_tup h pins s σ H Q I ⟨δ, hσ, by unfold itT; rw [r]; exact q⟩
    | _ => exact False.elim q
  | ex C => exact i_list h pins s σ H Q I ⟨δ, hσ, by unfold itL; rw [r] at q ⊢; exact q⟩
  | bad => rw [r] at q; exact False.elim q
end
/-- all the exceptions' names, one by one -/
theorem all16 {P : String → Prop} (h0 : P "MillError") (h1 : P "NoSize") (h2 : P "NoBits") (h3 : P "NoParts") (h4 : P "NoRank") (h5 : P "NotFinite") (h6 : P "NoWay") (h7 : P "NoFlags") (h8 : P "NoFraction") (h9 : P "Unlike") (h10 : P "Empty") (h11 : P "NoLeft") (h12 : P "NoText") (h13 : P "NoRow") (h14 : P "NoName") (h15 : P "Stopped") : ∀ n ∈ excNames, P n := by
  intro n hn
  simp only [excNames, List.mem_cons, List.not_mem_nil, or_false] at hn
  rcases hn with rfl | rfl | rfl | rfl | rfl | rfl | rfl | rfl | rfl | rfl | rfl | rfl | rfl | rfl | rfl | rfl
  all_goals assumption
end ES

set_option Elab.async false
set_option linter.all false
set_option maxRecDepth 100000
/-! MORE ITERATORS: range with a step. -/
namespace ES
open PySem PySem.Spec PyProof.Rows L2 EV
unseal SE ST SW SA SS SSs SI SO
section
variable {X : Cx} {tg : Expr} {H : Hp} {a b c : Expr} {ga gb gc : E}
end
/-! ### a def that calls itself: by the fuel -/
end ES

set_option Elab.async false
set_option linter.all false
set_option maxRecDepth 100000
/-! LISTS OF ONE'S OWN: begun, appended to, turned, given free. -/
namespace ES
open PySem PySem.Spec PyProof.Rows L2 EV
unseal SE ST SW SA SS SSs SI SO
section
variable {X : Cx} {N : List Str} {H : Hp} {σ : L2.St} {δ : Dt} {os : Os}
theorem stt_own {i : Nat} {ds : List D} (h : Stt X.K X.mg H σ δ) : Stt X.K X.mg H σ (δ.set i (some (.own ds))) := by
  refine ⟨by rw [List.length_set]; exact h.1, fun j d e n => ?_⟩
  by_cases hj : j = i
  · subst hj
    by_cases hl : j < δ.length
    · rw [List.getElem?_set_self hl] at e
      have e' : .own ds = d := Option.some.inj (Option.some.inj e)
      exact absurd e'.symm (n ds)
    · rw [List.getElem?_eq_none (by simp; omega)] at e
      cases e
  · rw [List.getElem?_set_ne (Ne.symm hj)] at e
    exact h.2 j d e n
theorem hide_upd {a : Addr} {o : HO} (h : a ∈ adrs os) : hide (upd H a o) os = hide H os := by
  funext b
  unfold hide
  by_cases hb : b ∈ adrs os
  · rw [if_pos hb, if_pos hb]
  · rw [if_neg hb, if_neg hb]
    exact upd_ne fun z => hb (by rw [z]; exact h)
/-- a list of one's own is written -/
theorem StO.write {i : Nat} {a : Addr} {xs : List V} {ds : List D} (S : StO X H σ δ os) (ha : (i, a) ∈ os) (r : Reps X.K X.mg (hide H os) xs ds) : StO X (upd H a (.lst xs)) σ (δ.set i (some (.own ds))) os := by
  have eh : hide (upd H a (.lst xs)) os = hide H os := hide_upd (adrs_mem ha)
  obtain ⟨_, _, _, h2, h3, _⟩ := S.lst _ ha
  have hl : i < δ.length := (List.getElem?_eq_some_iff.mp h3).1
  refine ⟨by rw [eh]; exact stt_own S.st, fun p hp => ?_, fun j es e => ?_, S.inj⟩
  · rw [eh]
    by_cases hj : p.1 = i
    · have e2 : p.2 = a := by
        obtain ⟨_, _, _, q2, _, _⟩ := S.lst p hp
        rw [hj, h2] at q2
        exact (V.ref.inj (Option.some.inj (Option.some.inj q2))).symm
      refine ⟨xs, ds, by rw [e2]; exact upd_same, by rw [hj, e2]; exact h2, by rw [hj]; exact List.getElem?_set_self hl, r⟩
    · obtain ⟨ys, es, q1, q2, q3, q4⟩ := S.lst p hp
      have ne : p.2 ≠ a := fun z => hj (S.inj p.1 i a (by rw [← z]; exact hp) ha)
      exact ⟨ys, es, by rw [upd_ne ne]; exact q1, q2, by rw [List.getElem?_set_ne (Ne.symm hj)]; exact q3, q4⟩
  · by_cases hj : j = i
    · subst hj; exact ⟨a, ha⟩
    · rw [List.getElem?_set_ne (Ne.symm hj)] at e
      exact S.own j es e
/-- one is given free -/
theorem StO.pub (S : StO X H σ δ os) (i : Nat) : ∃ os', StO X H σ (EV.pub i δ) os' ∧ Same (hide H os) (hide H os') := by
  unfold EV.pub
  split
  · rename_i ds e
    obtain ⟨a, ha⟩ := S.own i ds e
    obtain ⟨xs, ds', h1, h2, h3, h4⟩ := S.lst _ ha
    rw [e] at h3
    cases h3
    have sm : Same (hide H os) (hide H (os.filter fun p => p.1 != i)) := hide_less fun p hp => (os_drop os i p hp).1
    have hl : i < δ.length := (List.getElem?_eq_some_iff.mp e).1
    have na : a ∉ adrs (os.filter fun p => p.1 != i) := fun z => by
      obtain ⟨p, hp, e2⟩ := mem_adrs z
      obtain ⟨hp', ne⟩ := os_drop os i p hp
      exact ne (S.inj p.1 i a (by rw [← e2]; exact hp') ha)
    refine ⟨_, ⟨?_, fun p hp => ?_, fun j es q => ?_, fun j k b h1 h2 => S.inj j k b (os_drop os i _ h1).1 (os_drop os i _ h2).1⟩, sm⟩
    · have st := S.st.mono sm
      refine ⟨by rw [List.length_set]; exact st.1, fun j d q n => ?_⟩
      by_cases hj : j = i
      · subst hj
        rw [List.getElem?_set_self hl] at q
        have q' : D.lst ds = d := Option.some.inj (Option.some.inj q)
        subst q'
        exact ⟨.ref a, h2, .lst (SqL.of (by rw [hide_out na]; exact h1)) (h4.mono sm)⟩
      · rw [List.getElem?_set_ne (Ne.symm hj)] at q
        exact st.2 j d q n
    · obtain ⟨hp', ne⟩ := os_drop os i p hp
      obtain ⟨ys, es, q1, q2, q3, q4⟩ := S.lst p hp'
      exact ⟨ys, es, q1, q2, by rw [List.getElem?_set_ne (Ne.symm ne)]; exact q3, q4.mono sm⟩
    · by_cases hj : j = i
      · subst hj
        rw [List.getElem?_set_self hl] at q
        cases q
      · rw [List.getElem?_set_ne (Ne.symm hj)] at q
        obtain ⟨b, hb⟩ := S.own j es q
        exact ⟨b, List.mem_filter.mpr ⟨hb, by simpa using hj⟩⟩
  · exact ⟨os, S, Same.refl _⟩
variable {e : Expr} {g : E} {pos : Pos} {st : Stmt} {gs : S}
theorem s_pub (i : Nat) (h : SS X st gs) : SS X st (pubS i gs) := PS.weak h fun D σ H ⟨δ, os, S, q⟩ => by
  obtain ⟨os', S', sm⟩ := S.pub i
  exact ⟨_, os', S', OQ.mono sm q⟩
end
end ES

set_option Elab.async false
set_option linter.all false
set_option maxRecDepth 100000
/-! LISTS OF ONE'S OWN: read on the way, made by a comprehension, an item stored. -/
namespace ES
open PySem PySem.Spec PyProof.Rows L2 EV
unseal SE ST SW SA SS SSs SI SO
section
variable {X : Cx} {N : List Str} {H : Hp} {σ : L2.St} {δ : Dt} {os : Os}
/-- a list just made is taken for one's own -/
theorem StO.adopt {i : Nat} {a : Addr} {xs : List V} {ds : List EV.D} {Hc : Hp} (S : StO X H σ δ os) (sm : Same H Hc) (hi : i < σ.length) (hn : H a = none) (ha : Hc a = some (.lst xs)) (r : Reps X.K X.mg Hc xs ds) (fl : EV.D.flats ds = true) :
    StO X Hc (σ.set i (some (.ref a))) (δ.set i (some (.own ds))) ((i, a) :: os.filter fun p => p.1 != i) ∧ Same (hide H os) (hide Hc ((i, a) :: os.filter fun p => p.1 != i)) := by
  have hd : i < δ.length := by rw [← S.st.1]; exact hi
  have sm2 : Same (hide H os) (hide Hc ((i, a) :: os.filter fun p => p.1 != i)) := fun b o e => by
    have hb : b ∉ adrs os := fun z => by rw [hide_in z] at e; cases e
    rw [hide_out hb] at e
    have ne : b ≠ a := fun z => by rw [z, hn] at e; cases e
    rw [hide_out fun z => ?_]; exact sm b o e
    obtain ⟨p, hp, e2⟩ := mem_adrs z
    rcases List.mem_cons.mp hp with q | q
    · exact ne (by rw [← e2, q])
    · exact hb (by rw [← e2]; exact adrs_mem (os_drop os i p q).1)
  have naos : ∀ p ∈ os, p.2 ≠ a := fun p hp z => by
    obtain ⟨_, _, q, _⟩ := S.lst p hp
    rw [z, hn] at q
    cases q
  have ls : Lsts Hc ((i, a) :: os.filter fun p => p.1 != i) := fun b hb => by
    obtain ⟨p, hp, e2⟩ := mem_adrs hb
    rcases List.mem_cons.mp hp with q | q
    · exact ⟨xs, by rw [← e2, q]; exact ha⟩
    · obtain ⟨ys, _, q1, _⟩ := S.lst p (os_drop os i p q).1
      exact ⟨ys, by rw [← e2]; exact sm _ _ q1⟩
  refine ⟨⟨?_, fun p hp => ?_, fun j es e => ?_, fun j k b h1 h2 => ?_⟩, sm2⟩
  · have st := S.st.mono sm2
    refine ⟨by rw [List.length_set, List.length_set]; exact st.1, fun j d e n => ?_⟩
    by_cases hj : j = i
    · subst hj
      rw [List.getElem?_set_self hd] at e
      exact absurd (Option.some.inj (Option.some.inj e)).symm (n ds)
    · rw [List.getElem?_set_ne (Ne.symm hj)] at e
      obtain ⟨v, e1, e2⟩ := st.2 j d e n
      exact ⟨v, by rw [List.getElem?_set_ne (Ne.symm hj)]; exact e1, e2⟩
  · rcases List.mem_cons.mp hp with q | q
    · subst q
      exact ⟨xs, ds, ha, List.getElem?_set_self hi, List.getElem?_set_self hd, reps_nol (nol_hide ls) fl r⟩
    · obtain ⟨hp', ne⟩ := os_drop os i p q
      obtain ⟨ys, es, q1, q2, q3, q4⟩ := S.lst p hp'
      exact ⟨ys, es, sm _ _ q1, by rw [List.getElem?_set_ne (Ne.symm ne)]; exact q2, by rw [List.getElem?_set_ne (Ne.symm ne)]; exact q3, q4.mono sm2⟩
  · by_cases hj : j = i
    · subst hj; exact ⟨a, .head _⟩
    · rw [List.getElem?_set_ne (Ne.symm hj)] at e
      obtain ⟨b, hb⟩ := S.own j es e
      exact ⟨b, .tail _ (List.mem_filter.mpr ⟨hb, by simpa using hj⟩)⟩
  · rcases List.mem_cons.mp h1 with q1 | q1 <;> rcases List.mem_cons.mp h2 with q2 | q2
    · cases q1; cases q2; rfl
    · cases q1; exact absurd rfl (naos _ (os_drop os i _ q2).1)
    · cases q2; exact absurd rfl (naos _ (os_drop os i _ q1).1)
    · exact S.inj j k b (os_drop os i _ q1).1 (os_drop os i _ q2).1
variable {e c k v : Expr} {g gc gk gv : E} {pos : Pos} {st : Stmt} {body els : List Stmt} {gs gb ge : S}
theorem set_reps {K : PySem.W.Frag} {mg : Str → Option Value} {H : Hp} {v : V} {d : EV.D} (rp : Rep K mg H v d) : ∀ {xs : List V} {ds : List EV.D}, Reps K mg H xs ds → ∀ j, Reps K mg H (xs.set j v) (ds.set j d)
  | _, _, .nil, _ => .nil
  | _, _, .cons _ rr, 0 => .cons rp rr
  | _, _, .cons r0 rr, j + 1 => .cons r0 (set_reps rp rr j)
theorem s_ownSet (Cx : Sx X N) (i : Nat) {x : Str} {p1 p2 : Pos} (hN : N[i]? = some x) (hv : SE X v gv) (hk : SE X k gk)
    (ha : ∀ w, assign (.Subscript (.Name x p1) k p2) X.env w = (do
      let ov ← holding [w] (eval (.Name x p1) X.env)
      let iv ← holding [w, ov] (eval k X.env)
      standAt p2
      holding [w, ov, iv] (setItem ov iv w)
      release [w, ov, iv] []) := by intro _; rfl)
    (hs : swapsWithSole [.Subscript (.Name x p1) k p2] v pos.line X.env = pure false := by rfl) (hw : swappedStores [.Subscript (.Name x p1) k p2] v X.env = pure none := by rfl)
    (h1 : (assignEach [.Subscript (.Name x p1) k p2] X.env).map (·.2) = [assign (.Subscript (.Name x p1) k p2) X.env] := by rfl) :
    SS X (.Assign [.Subscript (.Name x p1) k p2] v pos) (ownSet i gk gv) := by
  have hm : x ∈ N := List.mem_of_getElem? hN
  refine PS.weak (ps_asg (borrowE hv) (pg_sub (pe_var (i := i) (by rw [Cx.sc.n]; exact hN) (Cx.sc.vis x hm) (Cx.sc.dbg x hm).1 (Cx.sc.dbg x hm).2) (borrowE hk) set_list ha) hs hw h1) fun D σ H ⟨δ, os, S, q⟩ => ?_
  unfold ownSet onOwn at q
  split at q
  · rename_i ds ei
    obtain ⟨a, haos⟩ := S.own i ds ei
    unfold setO at q
    split at q
    · rename_i d kk ev ek
      dsimp only at q
      split at q
      · rename_i z
        refine ⟨δ, os, S, fun d' ed => ?_, ?_⟩
        · rw [ev] at ed; cases ed; exact z.1
        · rw [ev]
          intro w H1 S1 s1 rw1
          obtain ⟨xs1, ds1, a1, a2, a3, a4⟩ := S1.lst _ haos
          refine ⟨.ref a, a2, δ, os, S1, fun d' ed => ?_, ?_⟩
          · rw [ek] at ed; cases ed; rfl
          · rw [ek]
            intro w2 H2 S2 s2 rw2
            cases rw2
            obtain ⟨xs2, ds2, b1, b2, b3, b4⟩ := S2.lst _ haos
            rw [ei] at b3
            cases b3
            have hj : L2.ixN xs2.length kk = some kk.toNat := by
              unfold L2.ixN
              rw [if_pos z.2.1, if_pos (by rw [b4.length]; exact z.2.2)]
            refine ⟨a, xs2, kk, kk.toNat, rfl, rfl, b1, hj, ?_⟩
            have S3 := S2.write haos (set_reps (rw1.mono s2) b4 kk.toNat)
            exact q _ _ _ S3 (by rw [hide_upd (adrs_mem haos)]; exact s1.trans s2)
      · exact False.elim q
    · exact False.elim q
  · exact False.elim q
end
end ES

set_option Elab.async false
set_option linter.all false
set_option maxRecDepth 100000
/-! A DEF WHOSE ANSWER IS A LIST JUST MADE: the caller may take it for one's own. -/
namespace ES
open PySem PySem.Spec PyProof.Rows L2 EV
unseal SE ST SW SA SS SSs SI SO
/-- what is asked of an answer that is a list just made -/
noncomputable def RF (X : Cx) (σ : L2.St) (H : Hp) (r : R D) (Q : VK) : Prop := match r with
  | .ok (.lst rs) => ∀ a xs H', Same H H' → H a = none → H' a = some (.lst xs) → Reps X.K X.mg H' xs rs → EV.D.flats rs = true → Q (.ref a) H'
  | .ex C => ∀ Ca, X.mg C = some (.ref Ca) → ∀ H', Same H H' → ew X Ca σ H'
  | _ => False
noncomputable def FE (X : Cx) (e : Expr) (g : E) : Prop := PE X e fun σ H Q => ∃ δ, Stt X.K X.mg H σ δ ∧ RF X σ H (g δ) Q
noncomputable def OQF (X : Cx) (D : Ends) (F : Hp) : O → Prop
  | .rt (.lst rs) => ∀ a xs H, Same F H → F a = none → H a = some (.lst xs) → Reps X.K X.mg H xs rs → EV.D.flats rs = true → D.rt (.ref a) H
  | .rt _ => False
  | o => OQ X D F o
noncomputable def tSF (X : Cx) (g : S) : TS := fun D σ H => ∃ δ os, StO X H σ δ os ∧ OQF X D (hide H os) (g δ)
@[irreducible] noncomputable def SSF (X : Cx) (st : List Stmt) (g : S) : Prop := PSs X st (tSF X g)
unseal SSF
section
variable {X : Cx} {N : List Str}
variable {st : Stmt} {rest : List Stmt} {gs gr : S} {e : Expr} {g : E} {pos : Pos}
theorem show_same {H Hc : Hp} {os : Os} (hn : ∀ a ∈ adrs os, Hc a = none) : Same Hc (show_ H Hc os) := fun b o q => by
  unfold show_
  rw [if_neg fun z => by rw [hn b z] at q; cases q]
  exact q
end
noncomputable def spF (K : PySem.W.Frag) (mg : Str → Option Value) (f : List D → R D) : Sp := fun vs H Q E => ∃ ds, Reps K mg H vs ds ∧ match f ds with
  | .ok (.lst rs) => ∀ a xs H', Same H H' → H a = none → H' a = some (.lst xs) → Reps K mg H' xs rs → EV.D.flats rs = true → Q (.ref a) H'
  | .ex C => ∀ Ca, mg C = some (.ref Ca) → ∀ H', Same H H' → E (.ref Ca) none H'
  | _ => False
structure FnF (P : Program) (w : World) (K : PySem.W.Frag) (mg : Str → Option Value) (base : Heap) (x : Str) (k : Nat) (f : List D → R D) : Prop where
  ex : ∃ fa fd ps, FnOk P w K mg base (CXF P w) k fa fd ps (spF K mg f) ∧ mg x = some (.ref fa) ∧ PySem.W.keepIn K (.ref fa) = true ∧ Binds K fd ps []
structure CalleeF (X : Cx) (x : Str) (f : List D → R D) : Prop where
  ex : ∃ k fa fd ps, FnOk X.prog X.w X.K X.mg X.base (CXF X.prog X.w) k fa fd ps (spF X.K X.mg f) ∧ Room k X.A ∧ X.mg x = some (.ref fa) ∧ PySem.W.keepIn X.K (.ref fa) = true ∧ Binds X.K fd ps []
section
variable {X : Cx} {N : List Str} {x : Str} {f : List D → R D} {e : Expr} {es : List Expr} {gs : List E} {p pos : Pos} {g : E}
/-- a list just made is stored, for one's own -/
theorem s_ownTake (C : Sx X N) (i : Nat) {y : Str} {pos' : Pos} (hN : N[i]? = some y) (hy : Sto X y) (h : FE X e g) (hsw : swapsWith e (some (.Name y pos')) pos.line X.env = pure false := by rfl) : SS X (.Assign [.Name y pos'] e pos) (ownTake i g) := by
  intro pins s σ H D I ⟨δ, os, S, q⟩
  have hi : i < σ.length := by
    rw [I.len, C.sc.n]
    exact (List.getElem?_eq_some_iff.mp hN).1
  have hl := S.lsts
  unfold ownTake takO at q
  refine wpAny_Assign_Name (thn (h _ s σ _ (fun v Hc => ∃ a xs rs, v = .ref a ∧ g δ = .ok (.lst rs) ∧ Same (hide H os) Hc ∧ hide H os a = none ∧ Hc a = some (.lst xs) ∧ Reps X.K X.mg Hc xs rs ∧ EV.D.flats rs = true) (inv_hide I hl) ⟨δ, S.st, ?_⟩) fun u s1 ⟨v, Hc, I1, rv, a, xs, rs, ev, eg, sm, hn, ha, rr, fl⟩ => ?_) hsw
  · cases r : g δ with
    | ok d =>
      rw [r] at q
      cases d with
      | lst rs => exact fun a xs H' sm hn ha rr fl => ⟨a, xs, rs, rfl, rfl, sm, hn, ha, rr, fl⟩
      | _ => exact False.elim q
    | ex C => rw [r] at q; exact fun Ca hc H' s' => q σ H' s' (S.noOwn s') Ca hc
    | bad => rw [r] at q; exact False.elim q
  · obtain ⟨I2, hz⟩ := inv_show C.ex I hl I1
    rw [eg] at q
    subst ev
    have ss := show_same (H := H) hz
    have na : a ∉ adrs os := fun z => by rw [hz a z] at ha; cases ha
    have sH : Same H (show_ H Hc os) := fun b o e => by
      unfold show_
      by_cases hb : b ∈ adrs os
      · rw [if_pos hb]; exact e
      · rw [if_neg hb]
        exact sm b o (by rw [hide_out hb]; exact e)
    obtain ⟨S2, sm2⟩ := S.adopt (i := i) sH hi (by rw [hide_out na] at hn; exact hn) (ss a _ ha) (rr.mono ss) fl
    exact store_ok I2 (by rw [C.sc.n]; exact C.sc.nd) (by rw [C.sc.n]; exact hN) hy.1 rv (fun s2 I3 => ⟨_, _, I3, q _ _ _ S2 sm2⟩) hy.2
end
end ES

set_option Elab.async false
set_option linter.all false
set_option maxRecDepth 100000
/-! FURTHER SHALLOW DEEDS. -/
namespace EV
/-- a list just written down, of plain items -/
noncomputable def lstF (gs : List E) : E := fun δ => (evs gs δ).bind flatR
theorem u_lstF {gs : List E} {δ : Dt} : lstF gs δ = (evs gs δ).bind flatR := rfl
end EV

set_option Elab.async false
set_option linter.all false
set_option maxRecDepth 100000
/-! FURTHER DEEDS: lists written down and kept for one's own, pairs taken apart. -/
namespace ES
open PySem PySem.Spec PyProof.Rows L2 EV
unseal SE ST SW SA SS SSs SI SO
section
variable {X : Cx} {N : List Str} {e : Expr} {g : E} {pos : Pos}
theorem f_lst {es : List Expr} {gs : List E} (h : SA X es gs) (hl : es.length ≤ 1000) (hg : gs.length = es.length := by rfl) : FE X (.List es pos) (lstF gs) :=
  PE.weak (pe_lst h) fun σ H Q ⟨δ, hσ, q⟩ => ⟨δ, hσ, by
    unfold lstF at q
    cases e : evs gs δ with
    | ok ds =>
      have hd : ds.length = gs.length := e_tup.evs_len e
      rw [e] at q
      simp only [R.bind, flatR] at q
      refine fun vs H1 s1 rs => ⟨by rw [rs.length, hd, hg]; exact Nat.le_of_lt (small1000 hl), fun p hp => ?_⟩
      split at q
      · rename_i fl
        have q' : ∀ a xs H', Same H H' → H a = none → H' a = some (.lst xs) → Reps X.K X.mg H' xs ds → EV.D.flats ds = true → Q (.ref a) H' := q
        exact q' p vs _ (s1.trans (same_upd hp _)) (by
          cases z : H p with
          | none => rfl
          | some o => rw [s1 p o z] at hp; cases hp) upd_same (rs.mono (same_upd hp _)) fl
      · exact False.elim q
    | ex C => rw [e] at q; exact q
    | bad => rw [e] at q; exact False.elim q⟩
end
end ES

set_option Elab.async false
set_option linter.all false
set_option maxRecDepth 100000
namespace T
open EV
noncomputable def g_law_size_by : S :=
  seq (assign 1 (bin oMod (var 0) (con (.int 8))))
  (seq (assign 2 (bin oDiv (var 0) (con (.int 8))))
  (seq (ifs (bin oLt (var 1) (con (.int 4))) (ret (bin oIx (lstE [tupE [con (.int 5), con (.int 10)], tupE [con (.int 8), con (.int 23)], tupE [con (.int 11), con (.int 52)], tupE [con (.int 15), con (.int 112)]]) (var 1))) (pass_))
  (seq (ifs (bin oLt (var 1) (con (.int 6))) (ret (tupE [bin oAdd (con (.int 2)) (bin oMod (var 2) (con (.int 14))), bin oAdd (con (.int 1)) (bin oMod (bin oDiv (var 2) (con (.int 14))) (con (.int 112)))])) (pass_))
  (ret (tupE [bin oAdd (con (.int 2)) (bin oMod (var 2) (con (.int 4))), bin oAdd (con (.int 1)) (bin oMod (bin oDiv (var 2) (con (.int 4))) (con (.int 5)))])))))
noncomputable def p_law_size_by : List D → R D := fn 1 3 g_law_size_by
noncomputable def g_law_cell_at : S :=
  seq (ifs (bin oLt (var 1) (call bLen [var 0])) (ret (bin oIx (var 0) (var 1))) (pass_))
  (ret (con (.int 0)))
noncomputable def p_law_cell_at : List D → R D := fn 2 2 g_law_cell_at
noncomputable def g_law_bits_by : S :=
  seq (assign 2 (bin oShl (con (.int 1)) (bin oAdd (bin oIx (var 0) (con (.int 0))) (bin oIx (var 0) (con (.int 1))))))
  (seq (assign 3 (bin oShl (bin oSub (bin oShl (con (.int 1)) (bin oIx (var 0) (con (.int 0)))) (con (.int 1))) (bin oIx (var 0) (con (.int 1)))))
  (seq (assign 4 (bin oMod (var 1) (con (.int 9))))
  (seq (assign 5 (bin oDiv (var 1) (con (.int 9))))
  (seq (ifs (bin oLt (var 4) (con (.int 3))) (ret (bin oMod (bin oMul (var 5) (con (.int 73846150927364518273645509182736455091829))) (bin oMul (con (.int 2)) (var 2)))) (pass_))
  (seq (assign 6 (bin oMul (bin oMod (var 5) (con (.int 2))) (var 2)))
  (seq (assign 5 (bin oDiv (var 5) (con (.int 2))))
  (seq (ifs (bin oEq (var 4) (con (.int 3))) (ret (bin oAdd (var 6) (bin oMod (var 5) (con (.int 6))))) (pass_))
  (seq (ifs (bin oEq (var 4) (con (.int 4))) (ret (bin oAdd (bin oSub (bin oAdd (var 6) (var 3)) (con (.int 3))) (bin oMod (var 5) (con (.int 5))))) (pass_))
  (seq (ifs (bin oEq (var 4) (con (.int 5))) (ret (bin oAdd (bin oSub (bin oAdd (var 6) (bin oShl (con (.int 1)) (bin oIx (var 0) (con (.int 1))))) (con (.int 2))) (bin oMod (var 5) (con (.int 4))))) (pass_))
  (seq (ifs (bin oEq (var 4) (con (.int 6))) (ret (bin oAdd (bin oSub (bin oAdd (var 6) (bin oShl (bin oSub (bin oShl (con (.int 1)) (bin oSub (bin oIx (var 0) (con (.int 0))) (con (.int 1)))) (con (.int 1))) (bin oIx (var 0) (con (.int 1))))) (con (.int 2))) (bin oMod (var 5) (con (.int 5))))) (pass_))
  (seq (ifs (bin oEq (var 4) (con (.int 7))) (ret (bin oAdd (bin oAdd (bin oAdd (var 6) (var 3)) (con (.int 1))) (bin oMod (var 5) (bin oSub (bin oShl (con (.int 1)) (bin oIx (var 0) (con (.int 1)))) (con (.int 1)))))) (pass_))
  (seq (assign 7 (bin oIx (lstE [con (.int 0), con (.int 1), bin oSub (bin oShl (con (.int 1)) (bin oIx (var 0) (con (.int 1)))) (con (.int 1)), bin oShl (con (.int 1)) (bin oSub (bin oIx (var 0) (con (.int 1))) (con (.int 1)))]) (bin oMod (var 5) (con (.int 4)))))
  (ret (bin oAdd (bin oAdd (var 6) (bin oShl (bin oMod (bin oDiv (var 5) (con (.int 4))) (bin oShl (con (.int 1)) (bin oIx (var 0) (con (.int 0))))) (bin oIx (var 0) (con (.int 1))))) (var 7)))))))))))))))
noncomputable def p_law_bits_by : List D → R D := fn 2 8 g_law_bits_by
noncomputable def g_last_field : S :=
  ret (bin oSub (bin oShl (con (.int 1)) (bin oIx (var 0) (con (.int 0)))) (con (.int 1)))
noncomputable def p_last_field : List D → R D := fn 1 1 g_last_field
noncomputable def g_sign_bit : S :=
  ret (bin oShl (con (.int 1)) (bin oAdd (bin oIx (var 0) (con (.int 0))) (bin oIx (var 0) (con (.int 1)))))
noncomputable def p_sign_bit : List D → R D := fn 1 1 g_sign_bit
noncomputable def g_joined : S :=
  seq (ifs (or_ (bin oLt (var 1) (con (.int 0))) (bin oGt (var 1) (con (.int 1)))) (raise "NoParts") (pass_))
  (seq (ifs (or_ (bin oLt (var 2) (con (.int 0))) (bin oGt (var 2) (call p_last_field [var 0]))) (raise "NoParts") (pass_))
  (seq (ifs (or_ (bin oLt (var 3) (con (.int 0))) (bin oGe (var 3) (bin oShl (con (.int 1)) (bin oIx (var 0) (con (.int 1)))))) (raise "NoParts") (pass_))
  (ret (bin oAdd (bin oAdd (bin oMul (var 1) (call p_sign_bit [var 0])) (bin oShl (var 2) (bin oIx (var 0) (con (.int 1))))) (var 3)))))
noncomputable def p_joined : List D → R D := fn 4 4 g_joined
noncomputable def g_law_alone : S :=
  seq (assign 1 (lstE [call bIsi [var 0, con (.cls "NoSize")], call bIsi [var 0, con (.cls "NoBits")], call bIsi [var 0, con (.cls "NoParts")]]))
  (seq (assign 1 (bin oAdd (var 1) (lstE [call bIsi [var 0, con (.cls "NoRank")], call bIsi [var 0, con (.cls "NotFinite")], call bIsi [var 0, con (.cls "NoWay")]])))
  (seq (assign 1 (bin oAdd (var 1) (lstE [call bIsi [var 0, con (.cls "NoFlags")], call bIsi [var 0, con (.cls "NoFraction")], call bIsi [var 0, con (.cls "Unlike")]])))
  (seq (assign 1 (bin oAdd (var 1) (lstE [call bIsi [var 0, con (.cls "Empty")], call bIsi [var 0, con (.cls "NoLeft")], call bIsi [var 0, con (.cls "NoText")]])))
  (seq (assign 1 (bin oAdd (var 1) (lstE [call bIsi [var 0, con (.cls "NoRow")], call bIsi [var 0, con (.cls "NoName")], call bIsi [var 0, con (.cls "Stopped")]])))
  (ret (and_ (call bIsi [var 0, con (.ty "ValueError")]) (bin oEq (call bSum [comp (itA (var 1)) [] (call bInt [var 0])]) (con (.int 1)))))))))
noncomputable def p_law_alone : List D → R D := fn 1 2 g_law_alone
noncomputable def g_law_word : S :=
  seq (ifs (un oIsN (var 0)) (ret (con (.str ""))) (pass_))
  (seq (ifs (not_ (call p_law_alone [var 0])) (ret (con (.str "other"))) (pass_))
  (seq (ifs (call bIsi [var 0, con (.cls "NoBits")]) (ret (con (.str "bits"))) (pass_))
  (seq (ifs (call bIsi [var 0, con (.cls "NotFinite")]) (ret (con (.str "finite"))) (pass_))
  (seq (ifs (call bIsi [var 0, con (.cls "NoRank")]) (ret (con (.str "rank"))) (pass_))
  (seq (ifs (call bIsi [var 0, con (.cls "NoParts")]) (ret (con (.str "parts"))) (pass_))
  (ret (con (.str "other"))))))))
noncomputable def p_law_word : List D → R D := fn 1 1 g_law_word
noncomputable def g_law_out : S :=
  seq (assign 2 (bin oMod (bin oDiv (var 1) (con (.int 4))) (bin oPow (con (.int 10)) (con (.int 60)))))
  (ret (bin oIx (lstE [un oNeg (con (.int 1)), var 0, bin oSub (un oNeg (con (.int 1))) (var 2), bin oAdd (var 0) (var 2)]) (bin oMod (var 1) (con (.int 4)))))
noncomputable def p_law_out : List D → R D := fn 2 3 g_law_out
noncomputable def g_law_parts : S :=
  seq (assign 2 (lstE [con (.int 2), bin oShl (con (.int 1)) (bin oIx (var 0) (con (.int 0))), bin oShl (con (.int 1)) (bin oIx (var 0) (con (.int 1)))]))
  (seq (assign 3 (bin oDiv (var 1) (con (.int 8))))
  (seq (ownTake 4 (lstF [bin oMod (var 3) (con (.int 2)), bin oMod (bin oDiv (var 3) (con (.int 2))) (bin oIx (var 2) (con (.int 1))), bin oMod (bin oDiv (var 3) (con (.int 64))) (bin oIx (var 2) (con (.int 2)))]))
  (seq (forI 5 (itR1 (con (.int 3))) (ifs (bin oEq (bin oBand (bin oShr (bin oMod (var 1) (con (.int 8))) (var 5)) (con (.int 1))) (con (.int 1))) (ownSet 4 (var 5) (call p_law_out [bin oIx (var 2) (var 5), bin oDiv (var 3) (bin oIx (lstE [con (.int 1), con (.int 5), con (.int 25)]) (var 5))])) (pass_)))
  (seq (pubS 4 (assign 6 (con .non)))
  (seq (try_ (expr (call p_joined [var 0, bin oIx (var 4) (con (.int 0)), bin oIx (var 4) (con (.int 1)), bin oIx (var 4) (con (.int 2))])) "MillError" 7 (assign 6 (var 7)))
  (ret (bin oEq (call p_law_word [var 6]) (bin oIx (lstE [con (.str "parts"), con (.str "")]) (call bInt [bin oEq (bin oMod (var 1) (con (.int 8))) (con (.int 0))])))))))))
noncomputable def p_law_parts : List D → R D := fn 2 8 g_law_parts
noncomputable def g_width : S :=
  ret (bin oAdd (bin oAdd (bin oIx (var 0) (con (.int 0))) (bin oIx (var 0) (con (.int 1)))) (con (.int 1)))
noncomputable def p_width : List D → R D := fn 1 1 g_width
noncomputable def g_parted : S :=
  seq (ifs (or_ (bin oLt (var 1) (con (.int 0))) (bin oGe (var 1) (bin oShl (con (.int 1)) (call p_width [var 0])))) (raise "NoBits") (pass_))
  (seq (assign 2 (bin oMod (var 1) (call p_sign_bit [var 0])))
  (seq (assign 3 (bin oShl (con (.int 1)) (bin oIx (var 0) (con (.int 1)))))
  (ret (tupE [bin oDiv (var 1) (call p_sign_bit [var 0]), bin oDiv (var 2) (var 3), bin oMod (var 2) (var 3)]))))
noncomputable def p_parted : List D → R D := fn 2 4 g_parted
noncomputable def g_kind : S :=
  seq (assign 2 (call p_parted [var 0, var 1]))
  (seq (assign 3 (bin oIx (var 2) (con (.int 1))))
  (seq (assign 4 (bin oIx (var 2) (con (.int 2))))
  (seq (ifs (bin oEq (var 3) (con (.int 0))) (ret (ife (bin oEq (var 4) (con (.int 0))) (con (.str "nought")) (con (.str "faint")))) (pass_))
  (seq (ifs (bin oEq (var 3) (call p_last_field [var 0])) (ret (ife (bin oEq (var 4) (con (.int 0))) (con (.str "endless")) (con (.str "none")))) (pass_))
  (ret (con (.str "plain")))))))
noncomputable def p_kind : List D → R D := fn 2 5 g_kind
noncomputable def g_rank : S :=
  seq (ifs (bin oEq (call p_kind [var 0, var 1]) (con (.str "none"))) (raise "NoRank") (pass_))
  (seq (assign 2 (bin oMod (var 1) (call p_sign_bit [var 0])))
  (ret (ife (bin oEq (bin oIx (call p_parted [var 0, var 1]) (con (.int 0))) (con (.int 1))) (un oNeg (var 2)) (var 2))))
noncomputable def p_rank : List D → R D := fn 2 3 g_rank
noncomputable def g_endless : S :=
  ret (bin oShl (call p_last_field [var 0]) (bin oIx (var 0) (con (.int 1))))
noncomputable def p_endless : List D → R D := fn 1 1 g_endless
noncomputable def g_below : S :=
  seq (assign 2 (call p_rank [var 0, var 1]))
  (seq (ifs (bin oEq (var 2) (un oNeg (call p_endless [var 0]))) (ret (var 1)) (pass_))
  (seq (ifs (bin oGt (var 2) (con (.int 0))) (ret (bin oSub (var 2) (con (.int 1)))) (pass_))
  (ret (bin oSub (call p_sign_bit [var 0]) (bin oSub (var 2) (con (.int 1)))))))
noncomputable def p_below : List D → R D := fn 2 3 g_below
noncomputable def g_bias : S :=
  ret (bin oSub (bin oShl (con (.int 1)) (bin oSub (bin oIx (var 0) (con (.int 0))) (con (.int 1)))) (con (.int 1)))
noncomputable def p_bias : List D → R D := fn 1 1 g_bias
noncomputable def g_low : S :=
  ret (bin oSub (bin oSub (con (.int 1)) (call p_bias [var 0])) (bin oIx (var 0) (con (.int 1))))
noncomputable def p_low : List D → R D := fn 1 1 g_low
noncomputable def g_worth : S :=
  seq (assign 2 (call p_parted [var 0, var 1]))
  (seq (assign 3 (bin oIx (var 2) (con (.int 0))))
  (seq (assign 4 (bin oIx (var 2) (con (.int 1))))
  (seq (assign 5 (bin oIx (var 2) (con (.int 2))))
  (seq (ifs (bin oEq (var 4) (call p_last_field [var 0])) (raise "NotFinite") (pass_))
  (seq (ifs (bin oEq (var 4) (con (.int 0))) (ret (tupE [var 3, var 5, call p_low [var 0]])) (pass_))
  (ret (tupE [var 3, bin oAdd (bin oShl (con (.int 1)) (bin oIx (var 0) (con (.int 1)))) (var 5), bin oSub (bin oAdd (call p_low [var 0]) (var 4)) (con (.int 1))])))))))
noncomputable def p_worth : List D → R D := fn 2 6 g_worth
noncomputable def g_worth_fraction : S :=
  seq (assign 1 (bin oIx (var 0) (con (.int 1))))
  (seq (assign 2 (bin oIx (var 0) (con (.int 2))))
  (seq (ifs (bin oGe (var 2) (con (.int 0))) (ret (tupE [bin oIx (var 0) (con (.int 0)), bin oShl (var 1) (var 2), con (.int 1)])) (pass_))
  (ret (tupE [bin oIx (var 0) (con (.int 0)), var 1, bin oShl (con (.int 1)) (un oNeg (var 2))]))))
noncomputable def p_worth_fraction : List D → R D := fn 1 3 g_worth_fraction
noncomputable def g_fraction : S :=
  ret (call p_worth_fraction [call p_worth [var 0, var 1]])
noncomputable def p_fraction : List D → R D := fn 2 2 g_fraction
noncomputable def g_negated : S :=
  seq (assign 2 (call p_parted [var 0, var 1]))
  (ret (call p_joined [var 0, bin oSub (con (.int 1)) (bin oIx (var 2) (con (.int 0))), bin oIx (var 2) (con (.int 1)), bin oIx (var 2) (con (.int 2))]))
noncomputable def p_negated : List D → R D := fn 2 3 g_negated
noncomputable def g_compared : S :=
  seq (assign 3 (tupE [call p_kind [var 0, var 1], call p_kind [var 0, var 2]]))
  (seq (ifs (bin oIn (con (.str "none")) (var 3)) (ret (con (.str "apart"))) (pass_))
  (seq (assign 4 (call p_rank [var 0, var 1]))
  (seq (assign 5 (call p_rank [var 0, var 2]))
  (seq (ifs (bin oLt (var 4) (var 5)) (ret (con (.str "less"))) (pass_))
  (ret (ife (bin oEq (var 4) (var 5)) (con (.str "same")) (con (.str "more"))))))))
noncomputable def p_compared : List D → R D := fn 3 6 g_compared
noncomputable def g_above : S :=
  seq (assign 2 (call p_rank [var 0, var 1]))
  (seq (ifs (bin oEq (var 2) (call p_endless [var 0])) (ret (var 1)) (pass_))
  (seq (ifs (bin oLt (var 2) (con (.int 0))) (ret (bin oSub (call p_sign_bit [var 0]) (bin oAdd (var 2) (con (.int 1))))) (pass_))
  (ret (bin oAdd (var 2) (con (.int 1))))))
noncomputable def p_above : List D → R D := fn 2 3 g_above
noncomputable def g_law_asked : S :=
  seq (ifs (bin oEq (var 0) (con (.int 0))) (ret (call p_parted [var 1, var 2])) (pass_))
  (seq (ifs (bin oEq (var 0) (con (.int 1))) (ret (call p_kind [var 1, var 2])) (pass_))
  (seq (ifs (bin oEq (var 0) (con (.int 2))) (ret (call p_worth [var 1, var 2])) (pass_))
  (seq (ifs (bin oEq (var 0) (con (.int 3))) (ret (call p_fraction [var 1, var 2])) (pass_))
  (seq (ifs (bin oEq (var 0) (con (.int 4))) (ret (call p_negated [var 1, var 2])) (pass_))
  (seq (ifs (bin oEq (var 0) (con (.int 5))) (ret (call p_rank [var 1, var 2])) (pass_))
  (seq (ifs (bin oEq (var 0) (con (.int 6))) (ret (call p_compared [var 1, var 2, var 3])) (pass_))
  (seq (ifs (bin oEq (var 0) (con (.int 7))) (ret (call p_compared [var 1, var 3, var 2])) (pass_))
  (seq (ifs (bin oEq (var 0) (con (.int 8))) (ret (call p_above [var 1, var 2])) (pass_))
  (ret (call p_below [var 1, var 2]))))))))))
noncomputable def p_law_asked : List D → R D := fn 4 4 g_law_asked
noncomputable def g_law_due : S :=
  seq (assign 3 (bin oShl (con (.int 1)) (bin oAdd (bin oIx (var 1) (con (.int 0))) (bin oIx (var 1) (con (.int 1))))))
  (seq (ifs (or_ (bin oLt (var 2) (con (.int 0))) (bin oGe (var 2) (bin oMul (con (.int 2)) (var 3)))) (ret (con (.str "bits"))) (pass_))
  (seq (assign 4 (bin oMod (var 2) (var 3)))
  (seq (assign 5 (bin oSub (var 3) (bin oShl (con (.int 1)) (bin oIx (var 1) (con (.int 1))))))
  (seq (ifs (and_ (or_ (bin oEq (var 0) (con (.int 2))) (bin oEq (var 0) (con (.int 3)))) (bin oGe (var 4) (var 5))) (ret (con (.str "finite"))) (pass_))
  (seq (ifs (and_ (or_ (bin oEq (var 0) (con (.int 5))) (bin oGe (var 0) (con (.int 8)))) (bin oGt (var 4) (var 5))) (ret (con (.str "rank"))) (pass_))
  (ret (con (.str ""))))))))
noncomputable def p_law_due : List D → R D := fn 3 6 g_law_due
noncomputable def g_law_holds : S :=
  seq (assign 2 (bin oDiv (var 1) (con (.int 11))))
  (seq (ifs (bin oEq (bin oMod (var 1) (con (.int 11))) (con (.int 10))) (ret (call p_law_parts [var 0, var 2])) (pass_))
  (seq (assign 3 (call p_law_bits_by [var 0, bin oDiv (var 2) (con (.int 2))]))
  (seq (ifs (bin oEq (bin oMod (var 2) (con (.int 2))) (con (.int 1))) (assign 3 (call p_law_out [bin oShl (con (.int 2)) (bin oAdd (bin oIx (var 0) (con (.int 0))) (bin oIx (var 0) (con (.int 1)))), bin oDiv (var 2) (con (.int 2))])) (pass_))
  (seq (assign 4 (con .non))
  (seq (try_ (expr (call p_law_asked [bin oMod (var 1) (con (.int 11)), var 0, var 3, call p_law_bits_by [var 0, bin oDiv (var 2) (con (.int 7))]])) "MillError" 5 (assign 4 (var 5)))
  (ret (bin oEq (call p_law_word [var 4]) (call p_law_due [bin oMod (var 1) (con (.int 11)), var 0, var 3]))))))))
noncomputable def p_law_holds : List D → R D := fn 2 6 g_law_holds
noncomputable def g_law : S :=
  seq (assign 1 (call p_law_size_by [call p_law_cell_at [var 0, con (.int 0)]]))
  (seq (forI 2 (itA (bin oAdd (slc (var 0) (some (con (.int 1))) none) (lstE [con (.int 13)]))) (ifs (not_ (call p_law_holds [var 1, var 2])) (ret (con (.bl false))) (pass_)))
  (ret (con (.bl true))))
noncomputable def p_law : List D → R D := fn 1 3 g_law
end T

set_option Elab.async false
set_option linter.all false
set_option maxRecDepth 100000
namespace T
open PySem PySem.Spec PyProof.Rows L2 EV ES
noncomputable def top (i : Nat) : Stmt := PySem.Challenge.pw_roundmill_k03_refusals.main.body.getD i (.Pass ⟨0, 0, 0, 0⟩)
noncomputable def s_law_size_by : Stmt := top 39
noncomputable abbrev N_law_size_by : List Str := ["_law_cell", "_law_way", "_law_rest"]
noncomputable abbrev G_law_size_by : List Str := []
theorem sc_law_size_by : ScF N_law_size_by G_law_size_by ["_law_cell"] (defScope s_law_size_by) := ⟨⟨rfl, rfl, rfl, by decide +kernel, by decide +kernel, by decide +kernel, by decide +kernel⟩, by decide +kernel, by decide +kernel, by decide +kernel, by decide +kernel⟩
set_option maxHeartbeats 4000000 in
theorem b_law_size_by {X : Cx} {k : Nat} (hr : Room k X.A) (L : Lp X) (O : Own X) (P : Pl X N_law_size_by G_law_size_by) (hS : X.env.scope = defScope s_law_size_by)
     : SSs X (defBody s_law_size_by) g_law_size_by := by
  unfold g_law_size_by
  exact (s_cons (s_set P.toSx 1 rfl (P.sto _ (mG 1)) (e_mod (e_var P.sc 0 rfl) e_int))
  (s_cons (s_set P.toSx 2 rfl (P.sto _ (mG 2)) (e_div (e_var P.sc 0 rfl) e_int))
  (s_cons (s_if P.toSx (t_lt (e_var P.sc 1 rfl) e_int) (s_one (s_ret P.toSx (e_ix (e_lst (a_cons (e_tup (a_cons e_int (a_cons e_int a_nil)) (by decide)) (a_cons (e_tup (a_cons e_int (a_cons e_int a_nil)) (by decide)) (a_cons (e_tup (a_cons e_int (a_cons e_int a_nil)) (by decide)) (a_cons (e_tup (a_cons e_int (a_cons e_int a_nil)) (by decide)) a_nil)))) (by decide)) (e_var P.sc 1 rfl)))) s_nil)
  (s_cons (s_if P.toSx (t_lt (e_var P.sc 1 rfl) e_int) (s_one (s_ret P.toSx (e_tup (a_cons (e_add e_int (e_mod (e_var P.sc 2 rfl) e_int)) (a_cons (e_add e_int (e_mod (e_div (e_var P.sc 2 rfl) e_int) e_int)) a_nil)) (by decide)))) s_nil)
  (s_one (s_ret P.toSx (e_tup (a_cons (e_add e_int (e_mod (e_var P.sc 2 rfl) e_int)) (a_cons (e_add e_int (e_mod (e_div (e_var P.sc 2 rfl) e_int) e_int)) a_nil)) (by decide))))))))
noncomputable def s_law_cell_at : Stmt := top 38
noncomputable abbrev N_law_cell_at : List Str := ["_law_script", "_law_k"]
noncomputable abbrev G_law_cell_at : List Str := ["len"]
theorem sc_law_cell_at : ScF N_law_cell_at G_law_cell_at ["_law_script", "_law_k"] (defScope s_law_cell_at) := ⟨⟨rfl, rfl, rfl, by decide +kernel, by decide +kernel, by decide +kernel, by decide +kernel⟩, by decide +kernel, by decide +kernel, by decide +kernel, by decide +kernel⟩
set_option maxHeartbeats 4000000 in
theorem b_law_cell_at {X : Cx} {k : Nat} (hr : Room k X.A) (L : Lp X) (O : Own X) (P : Pl X N_law_cell_at G_law_cell_at) (hS : X.env.scope = defScope s_law_cell_at)
    (m_len : X.mg "len" = none) : SSs X (defBody s_law_cell_at) g_law_cell_at := by
  unfold g_law_cell_at
  exact (s_cons (s_if P.toSx (t_lt (e_var P.sc 1 rfl) (e_bltn c_len nxLen (P.gb _ (mG 0)) m_len PySem.boot_len (a_cons (e_var P.sc 0 rfl) a_nil))) (s_one (s_ret P.toSx (e_ix (e_var P.sc 0 rfl) (e_var P.sc 1 rfl)))) s_nil)
  (s_one (s_ret P.toSx e_int)))
noncomputable def s_law_bits_by : Stmt := top 40
noncomputable abbrev N_law_bits_by : List Str := ["_law_size", "_law_cell", "_law_half", "_law_last", "_law_way", "_law_rest", "_law_side", "_law_figures"]
noncomputable abbrev G_law_bits_by : List Str := []
theorem sc_law_bits_by : ScF N_law_bits_by G_law_bits_by ["_law_size", "_law_cell"] (defScope s_law_bits_by) := ⟨⟨rfl, rfl, rfl, by decide +kernel, by decide +kernel, by decide +kernel, by decide +kernel⟩, by decide +kernel, by decide +kernel, by decide +kernel, by decide +kernel⟩
set_option maxHeartbeats 4000000 in
theorem b_law_bits_by {X : Cx} {k : Nat} (hr : Room k X.A) (L : Lp X) (O : Own X) (P : Pl X N_law_bits_by G_law_bits_by) (hS : X.env.scope = defScope s_law_bits_by)
     : SSs X (defBody s_law_bits_by) g_law_bits_by := by
  unfold g_law_bits_by
  exact (s_cons (s_set P.toSx 2 rfl (P.sto _ (mG 2)) (e_shl e_int (e_add (e_ix (e_var P.sc 0 rfl) e_int) (e_ix (e_var P.sc 0 rfl) e_int))))
  (s_cons (s_set P.toSx 3 rfl (P.sto _ (mG 3)) (e_shl (e_sub (e_shl e_int (e_ix (e_var P.sc 0 rfl) e_int)) e_int) (e_ix (e_var P.sc 0 rfl) e_int)))
  (s_cons (s_set P.toSx 4 rfl (P.sto _ (mG 4)) (e_mod (e_var P.sc 1 rfl) e_int))
  (s_cons (s_set P.toSx 5 rfl (P.sto _ (mG 5)) (e_div (e_var P.sc 1 rfl) e_int))
  (s_cons (s_if P.toSx (t_lt (e_var P.sc 4 rfl) e_int) (s_one (s_ret P.toSx (e_mod (e_mul (e_var P.sc 5 rfl) e_int) (e_mul e_int (e_var P.sc 2 rfl))))) s_nil)
  (s_cons (s_set P.toSx 6 rfl (P.sto _ (mG 6)) (e_mul (e_mod (e_var P.sc 5 rfl) e_int) (e_var P.sc 2 rfl)))
  (s_cons (s_set P.toSx 5 rfl (P.sto _ (mG 5)) (e_div (e_var P.sc 5 rfl) e_int))
  (s_cons (s_if P.toSx (t_eq hr (e_var P.sc 4 rfl) e_int) (s_one (s_ret P.toSx (e_add (e_var P.sc 6 rfl) (e_mod (e_var P.sc 5 rfl) e_int)))) s_nil)
  (s_cons (s_if P.toSx (t_eq hr (e_var P.sc 4 rfl) e_int) (s_one (s_ret P.toSx (e_add (e_sub (e_add (e_var P.sc 6 rfl) (e_var P.sc 3 rfl)) e_int) (e_mod (e_var P.sc 5 rfl) e_int)))) s_nil)
  (s_cons (s_if P.toSx (t_eq hr (e_var P.sc 4 rfl) e_int) (s_one (s_ret P.toSx (e_add (e_sub (e_add (e_var P.sc 6 rfl) (e_shl e_int (e_ix (e_var P.sc 0 rfl) e_int))) e_int) (e_mod (e_var P.sc 5 rfl) e_int)))) s_nil)
  (s_cons (s_if P.toSx (t_eq hr (e_var P.sc 4 rfl) e_int) (s_one (s_ret P.toSx (e_add (e_sub (e_add (e_var P.sc 6 rfl) (e_shl (e_sub (e_shl e_int (e_sub (e_ix (e_var P.sc 0 rfl) e_int) e_int)) e_int) (e_ix (e_var P.sc 0 rfl) e_int))) e_int) (e_mod (e_var P.sc 5 rfl) e_int)))) s_nil)
  (s_cons (s_if P.toSx (t_eq hr (e_var P.sc 4 rfl) e_int) (s_one (s_ret P.toSx (e_add (e_add (e_add (e_var P.sc 6 rfl) (e_var P.sc 3 rfl)) e_int) (e_mod (e_var P.sc 5 rfl) (e_sub (e_shl e_int (e_ix (e_var P.sc 0 rfl) e_int)) e_int))))) s_nil)
  (s_cons (s_set P.toSx 7 rfl (P.sto _ (mG 7)) (e_ix (e_lst (a_cons e_int (a_cons e_int (a_cons (e_sub (e_shl e_int (e_ix (e_var P.sc 0 rfl) e_int)) e_int) (a_cons (e_shl e_int (e_sub (e_ix (e_var P.sc 0 rfl) e_int) e_int)) a_nil)))) (by decide)) (e_mod (e_var P.sc 5 rfl) e_int)))
  (s_one (s_ret P.toSx (e_add (e_add (e_var P.sc 6 rfl) (e_shl (e_mod (e_div (e_var P.sc 5 rfl) e_int) (e_shl e_int (e_ix (e_var P.sc 0 rfl) e_int))) (e_ix (e_var P.sc 0 rfl) e_int))) (e_var P.sc 7 rfl)))))))))))))))))
noncomputable def s_last_field : Stmt := top 22
noncomputable abbrev N_last_field : List Str := ["size"]
noncomputable abbrev G_last_field : List Str := []
theorem sc_last_field : ScF N_last_field G_last_field ["size"] (defScope s_last_field) := ⟨⟨rfl, rfl, rfl, by decide +kernel, by decide +kernel, by decide +kernel, by decide +kernel⟩, by decide +kernel, by decide +kernel, by decide +kernel, by decide +kernel⟩
set_option maxHeartbeats 4000000 in
theorem b_last_field {X : Cx} {k : Nat} (hr : Room k X.A) (L : Lp X) (O : Own X) (P : Pl X N_last_field G_last_field) (hS : X.env.scope = defScope s_last_field)
     : SSs X (defBody s_last_field) g_last_field := by
  unfold g_last_field
  exact (s_one (s_ret P.toSx (e_sub (e_shl e_int (e_ix (e_var P.sc 0 rfl) e_int)) e_int)))
noncomputable def s_sign_bit : Stmt := top 21
noncomputable abbrev N_sign_bit : List Str := ["size"]
noncomputable abbrev G_sign_bit : List Str := []
theorem sc_sign_bit : ScF N_sign_bit G_sign_bit ["size"] (defScope s_sign_bit) := ⟨⟨rfl, rfl, rfl, by decide +kernel, by decide +kernel, by decide +kernel, by decide +kernel⟩, by decide +kernel, by decide +kernel, by decide +kernel, by decide +kernel⟩
set_option maxHeartbeats 4000000 in
theorem b_sign_bit {X : Cx} {k : Nat} (hr : Room k X.A) (L : Lp X) (O : Own X) (P : Pl X N_sign_bit G_sign_bit) (hS : X.env.scope = defScope s_sign_bit)
     : SSs X (defBody s_sign_bit) g_sign_bit := by
  unfold g_sign_bit
  exact (s_one (s_ret P.toSx (e_shl e_int (e_add (e_ix (e_var P.sc 0 rfl) e_int) (e_ix (e_var P.sc 0 rfl) e_int)))))
noncomputable def s_joined : Stmt := top 26
noncomputable abbrev N_joined : List Str := ["size", "sign", "field", "figures"]
noncomputable abbrev G_joined : List Str := ["NoParts", "last_field", "sign_bit"]
theorem sc_joined : ScF N_joined G_joined ["size", "sign", "field", "figures"] (defScope s_joined) := ⟨⟨rfl, rfl, rfl, by decide +kernel, by decide +kernel, by decide +kernel, by decide +kernel⟩, by decide +kernel, by decide +kernel, by decide +kernel, by decide +kernel⟩
set_option maxHeartbeats 4000000 in
theorem b_joined {X : Cx} {k : Nat} (hr : Room k X.A) (L : Lp X) (O : Own X) (P : Pl X N_joined G_joined) (hS : X.env.scope = defScope s_joined) {C_NoParts : Addr}
    (q_NoParts : X.mg "NoParts" = some (.ref  C_NoParts)) (xi_NoParts : PySem.W.excIn X.K C_NoParts bmV "ValueError.__new__" = true) (c_last_field : Callee X "last_field" p_last_field) (c_sign_bit : Callee X "sign_bit" p_sign_bit) : SSs X (defBody s_joined) g_joined := by
  unfold g_joined
  exact (s_cons (s_if P.toSx (t_w (w_or (t_lt (e_var P.sc 1 rfl) e_int) (w_or1 (t_gt (e_var P.sc 1 rfl) e_int)))) (s_one (s_raise (x := "NoParts") L.calm (P.gb _ (mG 0)) q_NoParts xi_NoParts)) s_nil)
  (s_cons (s_if P.toSx (t_w (w_or (t_lt (e_var P.sc 2 rfl) e_int) (w_or1 (t_gt (e_var P.sc 2 rfl) (e_call c_last_field (P.gb _ (mG 1)) (a_cons (e_var P.sc 0 rfl) a_nil)))))) (s_one (s_raise (x := "NoParts") L.calm (P.gb _ (mG 0)) q_NoParts xi_NoParts)) s_nil)
  (s_cons (s_if P.toSx (t_w (w_or (t_lt (e_var P.sc 3 rfl) e_int) (w_or1 (t_ge (e_var P.sc 3 rfl) (e_shl e_int (e_ix (e_var P.sc 0 rfl) e_int)))))) (s_one (s_raise (x := "NoParts") L.calm (P.gb _ (mG 0)) q_NoParts xi_NoParts)) s_nil)
  (s_one (s_ret P.toSx (e_add (e_add (e_mul (e_var P.sc 1 rfl) (e_call c_sign_bit (P.gb _ (mG 2)) (a_cons (e_var P.sc 0 rfl) a_nil))) (e_shl (e_var P.sc 2 rfl) (e_ix (e_var P.sc 0 rfl) e_int))) (e_var P.sc 3 rfl)))))))
noncomputable def s_law_alone : Stmt := top 41
noncomputable abbrev N_law_alone : List Str := ["_law_caught", "_law_fits"]
noncomputable abbrev G_law_alone : List Str := ["isinstance", "NoSize", "NoBits", "NoParts", "NoRank", "NotFinite", "NoWay", "NoFlags", "NoFraction", "Unlike", "Empty", "NoLeft", "NoText", "NoRow", "NoName", "Stopped", "ValueError", "sum"]
theorem sc_law_alone : ScF N_law_alone G_law_alone ["_law_caught"] (defScope s_law_alone) := ⟨⟨rfl, rfl, rfl, by decide +kernel, by decide +kernel, by decide +kernel, by decide +kernel⟩, by decide +kernel, by decide +kernel, by decide +kernel, by decide +kernel⟩
set_option maxHeartbeats 4000000 in
theorem b_law_alone {X : Cx} {k : Nat} (hr : Room k X.A) (L : Lp X) (O : Own X) (P : Pl X N_law_alone G_law_alone) (hS : X.env.scope = defScope s_law_alone) {C_Empty C_NoBits C_NoFlags C_NoFraction C_NoLeft C_NoName C_NoParts C_NoRank C_NoRow C_NoSize C_NoText C_NoWay C_NotFinite C_Stopped C_Unlike : Addr}
    (q_NoSize : X.mg "NoSize" = some (.ref  C_NoSize)) (isi_NoSize : Isi X (.cls "NoSize")) (hE : ExcKit X) (m_isinstance : X.mg "isinstance" = none) (q_NoBits : X.mg "NoBits" = some (.ref  C_NoBits)) (isi_NoBits : Isi X (.cls "NoBits")) (q_NoParts : X.mg "NoParts" = some (.ref  C_NoParts)) (isi_NoParts : Isi X (.cls "NoParts")) (q_NoRank : X.mg "NoRank" = some (.ref  C_NoRank)) (isi_NoRank : Isi X (.cls "NoRank")) (q_NotFinite : X.mg "NotFinite" = some (.ref  C_NotFinite)) (isi_NotFinite : Isi X (.cls "NotFinite")) (q_NoWay : X.mg "NoWay" = some (.ref  C_NoWay)) (isi_NoWay : Isi X (.cls "NoWay")) (q_NoFlags : X.mg "NoFlags" = some (.ref  C_NoFlags)) (isi_NoFlags : Isi X (.cls "NoFlags")) (q_NoFraction : X.mg "NoFraction" = some (.ref  C_NoFraction)) (isi_NoFraction : Isi X (.cls "NoFraction")) (q_Unlike : X.mg "Unlike" = some (.ref  C_Unlike)) (isi_Unlike : Isi X (.cls "Unlike")) (q_Empty : X.mg "Empty" = some (.ref  C_Empty)) (isi_Empty : Isi X (.cls "Empty")) (q_NoLeft : X.mg "NoLeft" = some (.ref  C_NoLeft)) (isi_NoLeft : Isi X (.cls "NoLeft")) (q_NoText : X.mg "NoText" = some (.ref  C_NoText)) (isi_NoText : Isi X (.cls "NoText")) (q_NoRow : X.mg "NoRow" = some (.ref  C_NoRow)) (isi_NoRow : Isi X (.cls "NoRow")) (q_NoName : X.mg "NoName" = some (.ref  C_NoName)) (isi_NoName : Isi X (.cls "NoName")) (q_Stopped : X.mg "Stopped" = some (.ref  C_Stopped)) (isi_Stopped : Isi X (.cls "Stopped")) (m_ValueError : X.mg "ValueError" = none) (isi_ValueError : Isi X (.ty "ValueError")) (m_int : X.mg "int" = none) (m_sum : X.mg "sum" = none) : SSs X (defBody s_law_alone) g_law_alone := by
  unfold g_law_alone
  exact (s_cons (s_set P.toSx 1 rfl (P.sto _ (mG 1)) (e_lst (a_cons (e_isi isi_NoSize hE (P.gb _ (mG 0)) m_isinstance (e_var P.sc 0 rfl) (e_cls (x := "NoSize") (P.gb _ (mG 1)) q_NoSize)) (a_cons (e_isi isi_NoBits hE (P.gb _ (mG 0)) m_isinstance (e_var P.sc 0 rfl) (e_cls (x := "NoBits") (P.gb _ (mG 2)) q_NoBits)) (a_cons (e_isi isi_NoParts hE (P.gb _ (mG 0)) m_isinstance (e_var P.sc 0 rfl) (e_cls (x := "NoParts") (P.gb _ (mG 3)) q_NoParts)) a_nil))) (by decide)))
  (s_cons (s_set P.toSx 1 rfl (P.sto _ (mG 1)) (e_add (e_var P.sc 1 rfl) (e_lst (a_cons (e_isi isi_NoRank hE (P.gb _ (mG 0)) m_isinstance (e_var P.sc 0 rfl) (e_cls (x := "NoRank") (P.gb _ (mG 4)) q_NoRank)) (a_cons (e_isi isi_NotFinite hE (P.gb _ (mG 0)) m_isinstance (e_var P.sc 0 rfl) (e_cls (x := "NotFinite") (P.gb _ (mG 5)) q_NotFinite)) (a_cons (e_isi isi_NoWay hE (P.gb _ (mG 0)) m_isinstance (e_var P.sc 0 rfl) (e_cls (x := "NoWay") (P.gb _ (mG 6)) q_NoWay)) a_nil))) (by decide))))
  (s_cons (s_set P.toSx 1 rfl (P.sto _ (mG 1)) (e_add (e_var P.sc 1 rfl) (e_lst (a_cons (e_isi isi_NoFlags hE (P.gb _ (mG 0)) m_isinstance (e_var P.sc 0 rfl) (e_cls (x := "NoFlags") (P.gb _ (mG 7)) q_NoFlags)) (a_cons (e_isi isi_NoFraction hE (P.gb _ (mG 0)) m_isinstance (e_var P.sc 0 rfl) (e_cls (x := "NoFraction") (P.gb _ (mG 8)) q_NoFraction)) (a_cons (e_isi isi_Unlike hE (P.gb _ (mG 0)) m_isinstance (e_var P.sc 0 rfl) (e_cls (x := "Unlike") (P.gb _ (mG 9)) q_Unlike)) a_nil))) (by decide))))
  (s_cons (s_set P.toSx 1 rfl (P.sto _ (mG 1)) (e_add (e_var P.sc 1 rfl) (e_lst (a_cons (e_isi isi_Empty hE (P.gb _ (mG 0)) m_isinstance (e_var P.sc 0 rfl) (e_cls (x := "Empty") (P.gb _ (mG 10)) q_Empty)) (a_cons (e_isi isi_NoLeft hE (P.gb _ (mG 0)) m_isinstance (e_var P.sc 0 rfl) (e_cls (x := "NoLeft") (P.gb _ (mG 11)) q_NoLeft)) (a_cons (e_isi isi_NoText hE (P.gb _ (mG 0)) m_isinstance (e_var P.sc 0 rfl) (e_cls (x := "NoText") (P.gb _ (mG 12)) q_NoText)) a_nil))) (by decide))))
  (s_cons (s_set P.toSx 1 rfl (P.sto _ (mG 1)) (e_add (e_var P.sc 1 rfl) (e_lst (a_cons (e_isi isi_NoRow hE (P.gb _ (mG 0)) m_isinstance (e_var P.sc 0 rfl) (e_cls (x := "NoRow") (P.gb _ (mG 13)) q_NoRow)) (a_cons (e_isi isi_NoName hE (P.gb _ (mG 0)) m_isinstance (e_var P.sc 0 rfl) (e_cls (x := "NoName") (P.gb _ (mG 14)) q_NoName)) (a_cons (e_isi isi_Stopped hE (P.gb _ (mG 0)) m_isinstance (e_var P.sc 0 rfl) (e_cls (x := "Stopped") (P.gb _ (mG 15)) q_Stopped)) a_nil))) (by decide))))
  (s_one (s_ret P.toSx (e_and (e_isi isi_ValueError hE (P.gb _ (mG 0)) m_isinstance (e_var P.sc 0 rfl) (e_ty (n := "ValueError") (P.gb _ (mG 16)) m_ValueError boot_ValueError)) (e_one (e_eq hr (e_bltn (c_sum L.calm) nxSum (P.gb _ (mG 17)) m_sum boot_sum (a_cons (e_comp L.calm P.sc (x := "_law_fit") (ksn := []) (G := ["int"]) (ks := []) ⟨rfl, by decide +kernel, by decide +kernel, by decide +kernel, by decide +kernel, by decide +kernel, by decide +kernel, by decide +kernel, by decide +kernel, by decide +kernel⟩ rfl (by decide) (by rw [hS]; decide +kernel) (i_any (e_var P.sc 1 rfl)) (fun C fp s H S' G' => (e_btyp c_int nxInt (G' _ (mG 0)) m_int PyProof.Rows.boot_int (a_cons (e_var S' 0 rfl) a_nil)))) a_nil)) e_int))))))))))
noncomputable def s_law_word : Stmt := top 42
noncomputable abbrev N_law_word : List Str := ["_law_caught"]
noncomputable abbrev G_law_word : List Str := ["_law_alone", "isinstance", "NoBits", "NotFinite", "NoRank", "NoParts"]
theorem sc_law_word : ScF N_law_word G_law_word ["_law_caught"] (defScope s_law_word) := ⟨⟨rfl, rfl, rfl, by decide +kernel, by decide +kernel, by decide +kernel, by decide +kernel⟩, by decide +kernel, by decide +kernel, by decide +kernel, by decide +kernel⟩
set_option maxHeartbeats 4000000 in
theorem b_law_word {X : Cx} {k : Nat} (hr : Room k X.A) (L : Lp X) (O : Own X) (P : Pl X N_law_word G_law_word) (hS : X.env.scope = defScope s_law_word) {C_NoBits C_NoParts C_NoRank C_NotFinite : Addr}
    (c_law_alone : Callee X "_law_alone" p_law_alone) (q_NoBits : X.mg "NoBits" = some (.ref  C_NoBits)) (isi_NoBits : Isi X (.cls "NoBits")) (hE : ExcKit X) (m_isinstance : X.mg "isinstance" = none) (q_NotFinite : X.mg "NotFinite" = some (.ref  C_NotFinite)) (isi_NotFinite : Isi X (.cls "NotFinite")) (q_NoRank : X.mg "NoRank" = some (.ref  C_NoRank)) (isi_NoRank : Isi X (.cls "NoRank")) (q_NoParts : X.mg "NoParts" = some (.ref  C_NoParts)) (isi_NoParts : Isi X (.cls "NoParts")) : SSs X (defBody s_law_word) g_law_word := by
  unfold g_law_word
  exact (s_cons (s_if P.toSx (t_isN (e_var P.sc 0 rfl)) (s_one (s_ret P.toSx e_str)) s_nil)
  (s_cons (s_if P.toSx (t_not (t_val (e_call c_law_alone (P.gb _ (mG 0)) (a_cons (e_var P.sc 0 rfl) a_nil)))) (s_one (s_ret P.toSx e_str)) s_nil)
  (s_cons (s_if P.toSx (t_val (e_isi isi_NoBits hE (P.gb _ (mG 1)) m_isinstance (e_var P.sc 0 rfl) (e_cls (x := "NoBits") (P.gb _ (mG 2)) q_NoBits))) (s_one (s_ret P.toSx e_str)) s_nil)
  (s_cons (s_if P.toSx (t_val (e_isi isi_NotFinite hE (P.gb _ (mG 1)) m_isinstance (e_var P.sc 0 rfl) (e_cls (x := "NotFinite") (P.gb _ (mG 3)) q_NotFinite))) (s_one (s_ret P.toSx e_str)) s_nil)
  (s_cons (s_if P.toSx (t_val (e_isi isi_NoRank hE (P.gb _ (mG 1)) m_isinstance (e_var P.sc 0 rfl) (e_cls (x := "NoRank") (P.gb _ (mG 4)) q_NoRank))) (s_one (s_ret P.toSx e_str)) s_nil)
  (s_cons (s_if P.toSx (t_val (e_isi isi_NoParts hE (P.gb _ (mG 1)) m_isinstance (e_var P.sc 0 rfl) (e_cls (x := "NoParts") (P.gb _ (mG 5)) q_NoParts))) (s_one (s_ret P.toSx e_str)) s_nil)
  (s_one (s_ret P.toSx e_str))))))))
noncomputable def s_law_out : Stmt := top 45
noncomputable abbrev N_law_out : List Str := ["_law_many", "_law_cell", "_law_far"]
noncomputable abbrev G_law_out : List Str := []
theorem sc_law_out : ScF N_law_out G_law_out ["_law_many", "_law_cell"] (defScope s_law_out) := ⟨⟨rfl, rfl, rfl, by decide +kernel, by decide +kernel, by decide +kernel, by decide +kernel⟩, by decide +kernel, by decide +kernel, by decide +kernel, by decide +kernel⟩
set_option maxHeartbeats 4000000 in
theorem b_law_out {X : Cx} {k : Nat} (hr : Room k X.A) (L : Lp X) (O : Own X) (P : Pl X N_law_out G_law_out) (hS : X.env.scope = defScope s_law_out)
     : SSs X (defBody s_law_out) g_law_out := by
  unfold g_law_out
  exact (s_cons (s_set P.toSx 2 rfl (P.sto _ (mG 2)) (e_mod (e_div (e_var P.sc 1 rfl) e_int) (e_pow e_int e_int)))
  (s_one (s_ret P.toSx (e_ix (e_lst (a_cons (e_neg e_int) (a_cons (e_var P.sc 0 rfl) (a_cons (e_sub (e_neg e_int) (e_var P.sc 2 rfl)) (a_cons (e_add (e_var P.sc 0 rfl) (e_var P.sc 2 rfl)) a_nil)))) (by decide)) (e_mod (e_var P.sc 1 rfl) e_int)))))
noncomputable def s_law_parts : Stmt := top 46
noncomputable abbrev N_law_parts : List Str := ["_law_size", "_law_cell", "_law_many", "_law_rest", "_law_parts_here", "_law_k", "_law_caught", "e"]
noncomputable abbrev G_law_parts : List Str := ["range", "_law_out", "joined", "MillError", "_law_word", "int"]
theorem sc_law_parts : ScF N_law_parts G_law_parts ["_law_size", "_law_cell"] (defScope s_law_parts) := ⟨⟨rfl, rfl, rfl, by decide +kernel, by decide +kernel, by decide +kernel, by decide +kernel⟩, by decide +kernel, by decide +kernel, by decide +kernel, by decide +kernel⟩
set_option maxHeartbeats 4000000 in
theorem b_law_parts {X : Cx} {k : Nat} (hr : Room k X.A) (L : Lp X) (O : Own X) (P : Pl X N_law_parts G_law_parts) (hS : X.env.scope = defScope s_law_parts) {C_MillError : Addr}
    (m_range : X.mg "range" = none) (c_law_out : Callee X "_law_out" p_law_out) (c_joined : Callee X "joined" p_joined) (lc_7 : X.env.scope.names.lookup ("e" : Str) = some .local) (q_MillError : X.mg "MillError" = some (.ref  C_MillError)) (ct_MillError : Catches X "MillError" C_MillError) (c_law_word : Callee X "_law_word" p_law_word) (m_int : X.mg "int" = none) : SSs X (defBody s_law_parts) g_law_parts := by
  unfold g_law_parts
  exact (s_cons (s_set P.toSx 2 rfl (P.sto _ (mG 2)) (e_lst (a_cons e_int (a_cons (e_shl e_int (e_ix (e_var P.sc 0 rfl) e_int)) (a_cons (e_shl e_int (e_ix (e_var P.sc 0 rfl) e_int)) a_nil))) (by decide)))
  (s_cons (s_set P.toSx 3 rfl (P.sto _ (mG 3)) (e_div (e_var P.sc 1 rfl) e_int))
  (s_cons (s_ownTake P.toSx 4 rfl (P.sto _ (mG 4)) (f_lst (a_cons (e_mod (e_var P.sc 3 rfl) e_int) (a_cons (e_mod (e_div (e_var P.sc 3 rfl) e_int) (e_ix (e_var P.sc 2 rfl) e_int)) (a_cons (e_mod (e_div (e_var P.sc 3 rfl) e_int) (e_ix (e_var P.sc 2 rfl) e_int)) a_nil))) (by decide)))
  (s_cons (s_forI P.toSx L 5 rfl (P.sto _ (mG 5)) (i_rng1 (P.gb _ (mG 0)) m_range e_int) (s_one (s_if P.toSx (t_eq hr (e_band (e_shr (e_mod (e_var P.sc 1 rfl) e_int) (e_var P.sc 5 rfl)) e_int) e_int) (s_one (s_ownSet P.toSx 4 rfl (e_call c_law_out (P.gb _ (mG 1)) (a_cons (e_ix (e_var P.sc 2 rfl) (e_var P.sc 5 rfl)) (a_cons (e_div (e_var P.sc 3 rfl) (e_ix (e_lst (a_cons e_int (a_cons e_int (a_cons e_int a_nil))) (by decide)) (e_var P.sc 5 rfl))) a_nil))) (e_var P.sc 5 rfl))) s_nil)))
  (s_cons (s_pub 4 (s_set P.toSx 6 rfl (P.sto _ (mG 6)) e_non))
  (s_cons (s_try (cls := "MillError") P O 7 rfl lc_7 (P.gb _ (mG 3)) q_MillError ct_MillError (fun pins W => (s_one (s_expr (P.try pins W).toSx (e_call ⟨c_joined.ex⟩ ((P.try pins W).gb _ (mG 2)) (a_cons (e_var (P.try pins W).sc 0 rfl) (a_cons (e_ix (e_var (P.try pins W).sc 4 rfl) e_int) (a_cons (e_ix (e_var (P.try pins W).sc 4 rfl) e_int) (a_cons (e_ix (e_var (P.try pins W).sc 4 rfl) e_int) a_nil)))))))) (fun ea => (s_one (s_set (P.inn ea).toSx 6 rfl ((P.inn ea).sto _ (mG 6)) (e_var (P.inn ea).sc 7 rfl)))))
  (s_one (s_ret P.toSx (e_eq hr (e_call c_law_word (P.gb _ (mG 4)) (a_cons (e_var P.sc 6 rfl) a_nil)) (e_ix (e_lst (a_cons e_str (a_cons e_str a_nil)) (by decide)) (e_btyp c_int nxInt (P.gb _ (mG 5)) m_int PyProof.Rows.boot_int (a_cons (e_eq hr (e_mod (e_var P.sc 1 rfl) e_int) e_int) a_nil))))))))))))
noncomputable def s_width : Stmt := top 18
noncomputable abbrev N_width : List Str := ["size"]
noncomputable abbrev G_width : List Str := []
theorem sc_width : ScF N_width G_width ["size"] (defScope s_width) := ⟨⟨rfl, rfl, rfl, by decide +kernel, by decide +kernel, by decide +kernel, by decide +kernel⟩, by decide +kernel, by decide +kernel, by decide +kernel, by decide +kernel⟩
set_option maxHeartbeats 4000000 in
theorem b_width {X : Cx} {k : Nat} (hr : Room k X.A) (L : Lp X) (O : Own X) (P : Pl X N_width G_width) (hS : X.env.scope = defScope s_width)
     : SSs X (defBody s_width) g_width := by
  unfold g_width
  exact (s_one (s_ret P.toSx (e_add (e_add (e_ix (e_var P.sc 0 rfl) e_int) (e_ix (e_var P.sc 0 rfl) e_int)) e_int)))
noncomputable def s_parted : Stmt := top 25
noncomputable abbrev N_parted : List Str := ["size", "bits", "code", "step"]
noncomputable abbrev G_parted : List Str := ["width", "NoBits", "sign_bit"]
theorem sc_parted : ScF N_parted G_parted ["size", "bits"] (defScope s_parted) := ⟨⟨rfl, rfl, rfl, by decide +kernel, by decide +kernel, by decide +kernel, by decide +kernel⟩, by decide +kernel, by decide +kernel, by decide +kernel, by decide +kernel⟩
set_option maxHeartbeats 4000000 in
theorem b_parted {X : Cx} {k : Nat} (hr : Room k X.A) (L : Lp X) (O : Own X) (P : Pl X N_parted G_parted) (hS : X.env.scope = defScope s_parted) {C_NoBits : Addr}
    (c_width : Callee X "width" p_width) (q_NoBits : X.mg "NoBits" = some (.ref  C_NoBits)) (xi_NoBits : PySem.W.excIn X.K C_NoBits bmV "ValueError.__new__" = true) (c_sign_bit : Callee X "sign_bit" p_sign_bit) : SSs X (defBody s_parted) g_parted := by
  unfold g_parted
  exact (s_cons (s_if P.toSx (t_w (w_or (t_lt (e_var P.sc 1 rfl) e_int) (w_or1 (t_ge (e_var P.sc 1 rfl) (e_shl e_int (e_call c_width (P.gb _ (mG 0)) (a_cons (e_var P.sc 0 rfl) a_nil))))))) (s_one (s_raise (x := "NoBits") L.calm (P.gb _ (mG 1)) q_NoBits xi_NoBits)) s_nil)
  (s_cons (s_set P.toSx 2 rfl (P.sto _ (mG 2)) (e_mod (e_var P.sc 1 rfl) (e_call c_sign_bit (P.gb _ (mG 2)) (a_cons (e_var P.sc 0 rfl) a_nil))))
  (s_cons (s_set P.toSx 3 rfl (P.sto _ (mG 3)) (e_shl e_int (e_ix (e_var P.sc 0 rfl) e_int)))
  (s_one (s_ret P.toSx (e_tup (a_cons (e_div (e_var P.sc 1 rfl) (e_call c_sign_bit (P.gb _ (mG 2)) (a_cons (e_var P.sc 0 rfl) a_nil))) (a_cons (e_div (e_var P.sc 2 rfl) (e_var P.sc 3 rfl)) (a_cons (e_mod (e_var P.sc 2 rfl) (e_var P.sc 3 rfl)) a_nil))) (by decide)))))))
noncomputable def s_kind : Stmt := top 27
noncomputable abbrev N_kind : List Str := ["size", "bits", "parts", "field", "figures"]
noncomputable abbrev G_kind : List Str := ["parted", "last_field"]
theorem sc_kind : ScF N_kind G_kind ["size", "bits"] (defScope s_kind) := ⟨⟨rfl, rfl, rfl, by decide +kernel, by decide +kernel, by decide +kernel, by decide +kernel⟩, by decide +kernel, by decide +kernel, by decide +kernel, by decide +kernel⟩
set_option maxHeartbeats 4000000 in
theorem b_kind {X : Cx} {k : Nat} (hr : Room k X.A) (L : Lp X) (O : Own X) (P : Pl X N_kind G_kind) (hS : X.env.scope = defScope s_kind)
    (c_parted : Callee X "parted" p_parted) (c_last_field : Callee X "last_field" p_last_field) : SSs X (defBody s_kind) g_kind := by
  unfold g_kind
  exact (s_cons (s_set P.toSx 2 rfl (P.sto _ (mG 2)) (e_call c_parted (P.gb _ (mG 0)) (a_cons (e_var P.sc 0 rfl) (a_cons (e_var P.sc 1 rfl) a_nil))))
  (s_cons (s_set P.toSx 3 rfl (P.sto _ (mG 3)) (e_ix (e_var P.sc 2 rfl) e_int))
  (s_cons (s_set P.toSx 4 rfl (P.sto _ (mG 4)) (e_ix (e_var P.sc 2 rfl) e_int))
  (s_cons (s_if P.toSx (t_eq hr (e_var P.sc 3 rfl) e_int) (s_one (s_ret P.toSx (e_if (t_eq hr (e_var P.sc 4 rfl) e_int) e_str e_str))) s_nil)
  (s_cons (s_if P.toSx (t_eq hr (e_var P.sc 3 rfl) (e_call c_last_field (P.gb _ (mG 1)) (a_cons (e_var P.sc 0 rfl) a_nil))) (s_one (s_ret P.toSx (e_if (t_eq hr (e_var P.sc 4 rfl) e_int) e_str e_str))) s_nil)
  (s_one (s_ret P.toSx e_str)))))))
noncomputable def s_rank : Stmt := top 33
noncomputable abbrev N_rank : List Str := ["size", "bits", "code"]
noncomputable abbrev G_rank : List Str := ["kind", "NoRank", "sign_bit", "parted"]
theorem sc_rank : ScF N_rank G_rank ["size", "bits"] (defScope s_rank) := ⟨⟨rfl, rfl, rfl, by decide +kernel, by decide +kernel, by decide +kernel, by decide +kernel⟩, by decide +kernel, by decide +kernel, by decide +kernel, by decide +kernel⟩
set_option maxHeartbeats 4000000 in
theorem b_rank {X : Cx} {k : Nat} (hr : Room k X.A) (L : Lp X) (O : Own X) (P : Pl X N_rank G_rank) (hS : X.env.scope = defScope s_rank) {C_NoRank : Addr}
    (c_kind : Callee X "kind" p_kind) (q_NoRank : X.mg "NoRank" = some (.ref  C_NoRank)) (xi_NoRank : PySem.W.excIn X.K C_NoRank bmV "ValueError.__new__" = true) (c_sign_bit : Callee X "sign_bit" p_sign_bit) (c_parted : Callee X "parted" p_parted) : SSs X (defBody s_rank) g_rank := by
  unfold g_rank
  exact (s_cons (s_if P.toSx (t_eq hr (e_call c_kind (P.gb _ (mG 0)) (a_cons (e_var P.sc 0 rfl) (a_cons (e_var P.sc 1 rfl) a_nil))) e_str) (s_one (s_raise (x := "NoRank") L.calm (P.gb _ (mG 1)) q_NoRank xi_NoRank)) s_nil)
  (s_cons (s_set P.toSx 2 rfl (P.sto _ (mG 2)) (e_mod (e_var P.sc 1 rfl) (e_call c_sign_bit (P.gb _ (mG 2)) (a_cons (e_var P.sc 0 rfl) a_nil))))
  (s_one (s_ret P.toSx (e_if (t_eq hr (e_ix (e_call c_parted (P.gb _ (mG 3)) (a_cons (e_var P.sc 0 rfl) (a_cons (e_var P.sc 1 rfl) a_nil))) e_int) e_int) (e_neg (e_var P.sc 2 rfl)) (e_var P.sc 2 rfl))))))
noncomputable def s_endless : Stmt := top 23
noncomputable abbrev N_endless : List Str := ["size"]
noncomputable abbrev G_endless : List Str := ["last_field"]
theorem sc_endless : ScF N_endless G_endless ["size"] (defScope s_endless) := ⟨⟨rfl, rfl, rfl, by decide +kernel, by decide +kernel, by decide +kernel, by decide +kernel⟩, by decide +kernel, by decide +kernel, by decide +kernel, by decide +kernel⟩
set_option maxHeartbeats 4000000 in
theorem b_endless {X : Cx} {k : Nat} (hr : Room k X.A) (L : Lp X) (O : Own X) (P : Pl X N_endless G_endless) (hS : X.env.scope = defScope s_endless)
    (c_last_field : Callee X "last_field" p_last_field) : SSs X (defBody s_endless) g_endless := by
  unfold g_endless
  exact (s_one (s_ret P.toSx (e_shl (e_call c_last_field (P.gb _ (mG 0)) (a_cons (e_var P.sc 0 rfl) a_nil)) (e_ix (e_var P.sc 0 rfl) e_int))))
noncomputable def s_below : Stmt := top 36
noncomputable abbrev N_below : List Str := ["size", "bits", "place"]
noncomputable abbrev G_below : List Str := ["rank", "endless", "sign_bit"]
theorem sc_below : ScF N_below G_below ["size", "bits"] (defScope s_below) := ⟨⟨rfl, rfl, rfl, by decide +kernel, by decide +kernel, by decide +kernel, by decide +kernel⟩, by decide +kernel, by decide +kernel, by decide +kernel, by decide +kernel⟩
set_option maxHeartbeats 4000000 in
theorem b_below {X : Cx} {k : Nat} (hr : Room k X.A) (L : Lp X) (O : Own X) (P : Pl X N_below G_below) (hS : X.env.scope = defScope s_below)
    (c_rank : Callee X "rank" p_rank) (c_endless : Callee X "endless" p_endless) (c_sign_bit : Callee X "sign_bit" p_sign_bit) : SSs X (defBody s_below) g_below := by
  unfold g_below
  exact (s_cons (s_set P.toSx 2 rfl (P.sto _ (mG 2)) (e_call c_rank (P.gb _ (mG 0)) (a_cons (e_var P.sc 0 rfl) (a_cons (e_var P.sc 1 rfl) a_nil))))
  (s_cons (s_if P.toSx (t_eq hr (e_var P.sc 2 rfl) (e_neg (e_call c_endless (P.gb _ (mG 1)) (a_cons (e_var P.sc 0 rfl) a_nil)))) (s_one (s_ret P.toSx (e_var P.sc 1 rfl))) s_nil)
  (s_cons (s_if P.toSx (t_gt (e_var P.sc 2 rfl) e_int) (s_one (s_ret P.toSx (e_sub (e_var P.sc 2 rfl) e_int))) s_nil)
  (s_one (s_ret P.toSx (e_sub (e_call c_sign_bit (P.gb _ (mG 2)) (a_cons (e_var P.sc 0 rfl) a_nil)) (e_sub (e_var P.sc 2 rfl) e_int)))))))
noncomputable def s_bias : Stmt := top 19
noncomputable abbrev N_bias : List Str := ["size"]
noncomputable abbrev G_bias : List Str := []
theorem sc_bias : ScF N_bias G_bias ["size"] (defScope s_bias) := ⟨⟨rfl, rfl, rfl, by decide +kernel, by decide +kernel, by decide +kernel, by decide +kernel⟩, by decide +kernel, by decide +kernel, by decide +kernel, by decide +kernel⟩
set_option maxHeartbeats 4000000 in
theorem b_bias {X : Cx} {k : Nat} (hr : Room k X.A) (L : Lp X) (O : Own X) (P : Pl X N_bias G_bias) (hS : X.env.scope = defScope s_bias)
     : SSs X (defBody s_bias) g_bias := by
  unfold g_bias
  exact (s_one (s_ret P.toSx (e_sub (e_shl e_int (e_sub (e_ix (e_var P.sc 0 rfl) e_int) e_int)) e_int)))
noncomputable def s_low : Stmt := top 20
noncomputable abbrev N_low : List Str := ["size"]
noncomputable abbrev G_low : List Str := ["bias"]
theorem sc_low : ScF N_low G_low ["size"] (defScope s_low) := ⟨⟨rfl, rfl, rfl, by decide +kernel, by decide +kernel, by decide +kernel, by decide +kernel⟩, by decide +kernel, by decide +kernel, by decide +kernel, by decide +kernel⟩
set_option maxHeartbeats 4000000 in
theorem b_low {X : Cx} {k : Nat} (hr : Room k X.A) (L : Lp X) (O : Own X) (P : Pl X N_low G_low) (hS : X.env.scope = defScope s_low)
    (c_bias : Callee X "bias" p_bias) : SSs X (defBody s_low) g_low := by
  unfold g_low
  exact (s_one (s_ret P.toSx (e_sub (e_sub e_int (e_call c_bias (P.gb _ (mG 0)) (a_cons (e_var P.sc 0 rfl) a_nil))) (e_ix (e_var P.sc 0 rfl) e_int))))
noncomputable def s_worth : Stmt := top 28
noncomputable abbrev N_worth : List Str := ["size", "bits", "parts", "sign", "field", "figures"]
noncomputable abbrev G_worth : List Str := ["parted", "last_field", "NotFinite", "low"]
theorem sc_worth : ScF N_worth G_worth ["size", "bits"] (defScope s_worth) := ⟨⟨rfl, rfl, rfl, by decide +kernel, by decide +kernel, by decide +kernel, by decide +kernel⟩, by decide +kernel, by decide +kernel, by decide +kernel, by decide +kernel⟩
set_option maxHeartbeats 4000000 in
theorem b_worth {X : Cx} {k : Nat} (hr : Room k X.A) (L : Lp X) (O : Own X) (P : Pl X N_worth G_worth) (hS : X.env.scope = defScope s_worth) {C_NotFinite : Addr}
    (c_parted : Callee X "parted" p_parted) (c_last_field : Callee X "last_field" p_last_field) (q_NotFinite : X.mg "NotFinite" = some (.ref  C_NotFinite)) (xi_NotFinite : PySem.W.excIn X.K C_NotFinite bmV "ValueError.__new__" = true) (c_low : Callee X "low" p_low) : SSs X (defBody s_worth) g_worth := by
  unfold g_worth
  exact (s_cons (s_set P.toSx 2 rfl (P.sto _ (mG 2)) (e_call c_parted (P.gb _ (mG 0)) (a_cons (e_var P.sc 0 rfl) (a_cons (e_var P.sc 1 rfl) a_nil))))
  (s_cons (s_set P.toSx 3 rfl (P.sto _ (mG 3)) (e_ix (e_var P.sc 2 rfl) e_int))
  (s_cons (s_set P.toSx 4 rfl (P.sto _ (mG 4)) (e_ix (e_var P.sc 2 rfl) e_int))
  (s_cons (s_set P.toSx 5 rfl (P.sto _ (mG 5)) (e_ix (e_var P.sc 2 rfl) e_int))
  (s_cons (s_if P.toSx (t_eq hr (e_var P.sc 4 rfl) (e_call c_last_field (P.gb _ (mG 1)) (a_cons (e_var P.sc 0 rfl) a_nil))) (s_one (s_raise (x := "NotFinite") L.calm (P.gb _ (mG 2)) q_NotFinite xi_NotFinite)) s_nil)
  (s_cons (s_if P.toSx (t_eq hr (e_var P.sc 4 rfl) e_int) (s_one (s_ret P.toSx (e_tup (a_cons (e_var P.sc 3 rfl) (a_cons (e_var P.sc 5 rfl) (a_cons (e_call c_low (P.gb _ (mG 3)) (a_cons (e_var P.sc 0 rfl) a_nil)) a_nil))) (by decide)))) s_nil)
  (s_one (s_ret P.toSx (e_tup (a_cons (e_var P.sc 3 rfl) (a_cons (e_add (e_shl e_int (e_ix (e_var P.sc 0 rfl) e_int)) (e_var P.sc 5 rfl)) (a_cons (e_sub (e_add (e_call c_low (P.gb _ (mG 3)) (a_cons (e_var P.sc 0 rfl) a_nil)) (e_var P.sc 4 rfl)) e_int) a_nil))) (by decide))))))))))
noncomputable def s_worth_fraction : Stmt := top 29
noncomputable abbrev N_worth_fraction : List Str := ["value", "whole", "power"]
noncomputable abbrev G_worth_fraction : List Str := []
theorem sc_worth_fraction : ScF N_worth_fraction G_worth_fraction ["value"] (defScope s_worth_fraction) := ⟨⟨rfl, rfl, rfl, by decide +kernel, by decide +kernel, by decide +kernel, by decide +kernel⟩, by decide +kernel, by decide +kernel, by decide +kernel, by decide +kernel⟩
set_option maxHeartbeats 4000000 in
theorem b_worth_fraction {X : Cx} {k : Nat} (hr : Room k X.A) (L : Lp X) (O : Own X) (P : Pl X N_worth_fraction G_worth_fraction) (hS : X.env.scope = defScope s_worth_fraction)
     : SSs X (defBody s_worth_fraction) g_worth_fraction := by
  unfold g_worth_fraction
  exact (s_cons (s_set P.toSx 1 rfl (P.sto _ (mG 1)) (e_ix (e_var P.sc 0 rfl) e_int))
  (s_cons (s_set P.toSx 2 rfl (P.sto _ (mG 2)) (e_ix (e_var P.sc 0 rfl) e_int))
  (s_cons (s_if P.toSx (t_ge (e_var P.sc 2 rfl) e_int) (s_one (s_ret P.toSx (e_tup (a_cons (e_ix (e_var P.sc 0 rfl) e_int) (a_cons (e_shl (e_var P.sc 1 rfl) (e_var P.sc 2 rfl)) (a_cons e_int a_nil))) (by decide)))) s_nil)
  (s_one (s_ret P.toSx (e_tup (a_cons (e_ix (e_var P.sc 0 rfl) e_int) (a_cons (e_var P.sc 1 rfl) (a_cons (e_shl e_int (e_neg (e_var P.sc 2 rfl))) a_nil))) (by decide)))))))
noncomputable def s_fraction : Stmt := top 30
noncomputable abbrev N_fraction : List Str := ["size", "bits"]
noncomputable abbrev G_fraction : List Str := ["worth_fraction", "worth"]
theorem sc_fraction : ScF N_fraction G_fraction ["size", "bits"] (defScope s_fraction) := ⟨⟨rfl, rfl, rfl, by decide +kernel, by decide +kernel, by decide +kernel, by decide +kernel⟩, by decide +kernel, by decide +kernel, by decide +kernel, by decide +kernel⟩
set_option maxHeartbeats 4000000 in
theorem b_fraction {X : Cx} {k : Nat} (hr : Room k X.A) (L : Lp X) (O : Own X) (P : Pl X N_fraction G_fraction) (hS : X.env.scope = defScope s_fraction)
    (c_worth_fraction : Callee X "worth_fraction" p_worth_fraction) (c_worth : Callee X "worth" p_worth) : SSs X (defBody s_fraction) g_fraction := by
  unfold g_fraction
  exact (s_one (s_ret P.toSx (e_call c_worth_fraction (P.gb _ (mG 0)) (a_cons (e_call c_worth (P.gb _ (mG 1)) (a_cons (e_var P.sc 0 rfl) (a_cons (e_var P.sc 1 rfl) a_nil))) a_nil))))
noncomputable def s_negated : Stmt := top 31
noncomputable abbrev N_negated : List Str := ["size", "bits", "parts"]
noncomputable abbrev G_negated : List Str := ["parted", "joined"]
theorem sc_negated : ScF N_negated G_negated ["size", "bits"] (defScope s_negated) := ⟨⟨rfl, rfl, rfl, by decide +kernel, by decide +kernel, by decide +kernel, by decide +kernel⟩, by decide +kernel, by decide +kernel, by decide +kernel, by decide +kernel⟩
set_option maxHeartbeats 4000000 in
theorem b_negated {X : Cx} {k : Nat} (hr : Room k X.A) (L : Lp X) (O : Own X) (P : Pl X N_negated G_negated) (hS : X.env.scope = defScope s_negated)
    (c_parted : Callee X "parted" p_parted) (c_joined : Callee X "joined" p_joined) : SSs X (defBody s_negated) g_negated := by
  unfold g_negated
  exact (s_cons (s_set P.toSx 2 rfl (P.sto _ (mG 2)) (e_call c_parted (P.gb _ (mG 0)) (a_cons (e_var P.sc 0 rfl) (a_cons (e_var P.sc 1 rfl) a_nil))))
  (s_one (s_ret P.toSx (e_call c_joined (P.gb _ (mG 1)) (a_cons (e_var P.sc 0 rfl) (a_cons (e_sub e_int (e_ix (e_var P.sc 2 rfl) e_int)) (a_cons (e_ix (e_var P.sc 2 rfl) e_int) (a_cons (e_ix (e_var P.sc 2 rfl) e_int) a_nil))))))))
noncomputable def s_compared : Stmt := top 34
noncomputable abbrev N_compared : List Str := ["size", "a", "b", "kinds", "first", "second"]
noncomputable abbrev G_compared : List Str := ["kind", "rank"]
theorem sc_compared : ScF N_compared G_compared ["size", "a", "b"] (defScope s_compared) := ⟨⟨rfl, rfl, rfl, by decide +kernel, by decide +kernel, by decide +kernel, by decide +kernel⟩, by decide +kernel, by decide +kernel, by decide +kernel, by decide +kernel⟩
set_option maxHeartbeats 4000000 in
theorem b_compared {X : Cx} {k : Nat} (hr : Room k X.A) (L : Lp X) (O : Own X) (P : Pl X N_compared G_compared) (hS : X.env.scope = defScope s_compared)
    (c_kind : Callee X "kind" p_kind) (c_rank : Callee X "rank" p_rank) : SSs X (defBody s_compared) g_compared := by
  unfold g_compared
  exact (s_cons (s_set P.toSx 3 rfl (P.sto _ (mG 3)) (e_tup (a_cons (e_call c_kind (P.gb _ (mG 0)) (a_cons (e_var P.sc 0 rfl) (a_cons (e_var P.sc 1 rfl) a_nil))) (a_cons (e_call c_kind (P.gb _ (mG 0)) (a_cons (e_var P.sc 0 rfl) (a_cons (e_var P.sc 2 rfl) a_nil))) a_nil)) (by decide)))
  (s_cons (s_if P.toSx (t_in e_str (e_var P.sc 3 rfl)) (s_one (s_ret P.toSx e_str)) s_nil)
  (s_cons (s_set P.toSx 4 rfl (P.sto _ (mG 4)) (e_call c_rank (P.gb _ (mG 1)) (a_cons (e_var P.sc 0 rfl) (a_cons (e_var P.sc 1 rfl) a_nil))))
  (s_cons (s_set P.toSx 5 rfl (P.sto _ (mG 5)) (e_call c_rank (P.gb _ (mG 1)) (a_cons (e_var P.sc 0 rfl) (a_cons (e_var P.sc 2 rfl) a_nil))))
  (s_cons (s_if P.toSx (t_lt (e_var P.sc 4 rfl) (e_var P.sc 5 rfl)) (s_one (s_ret P.toSx e_str)) s_nil)
  (s_one (s_ret P.toSx (e_if (t_eq hr (e_var P.sc 4 rfl) (e_var P.sc 5 rfl)) e_str e_str))))))))
noncomputable def s_above : Stmt := top 35
noncomputable abbrev N_above : List Str := ["size", "bits", "place"]
noncomputable abbrev G_above : List Str := ["rank", "endless", "sign_bit"]
theorem sc_above : ScF N_above G_above ["size", "bits"] (defScope s_above) := ⟨⟨rfl, rfl, rfl, by decide +kernel, by decide +kernel, by decide +kernel, by decide +kernel⟩, by decide +kernel, by decide +kernel, by decide +kernel, by decide +kernel⟩
set_option maxHeartbeats 4000000 in
theorem b_above {X : Cx} {k : Nat} (hr : Room k X.A) (L : Lp X) (O : Own X) (P : Pl X N_above G_above) (hS : X.env.scope = defScope s_above)
    (c_rank : Callee X "rank" p_rank) (c_endless : Callee X "endless" p_endless) (c_sign_bit : Callee X "sign_bit" p_sign_bit) : SSs X (defBody s_above) g_above := by
  unfold g_above
  exact (s_cons (s_set P.toSx 2 rfl (P.sto _ (mG 2)) (e_call c_rank (P.gb _ (mG 0)) (a_cons (e_var P.sc 0 rfl) (a_cons (e_var P.sc 1 rfl) a_nil))))
  (s_cons (s_if P.toSx (t_eq hr (e_var P.sc 2 rfl) (e_call c_endless (P.gb _ (mG 1)) (a_cons (e_var P.sc 0 rfl) a_nil))) (s_one (s_ret P.toSx (e_var P.sc 1 rfl))) s_nil)
  (s_cons (s_if P.toSx (t_lt (e_var P.sc 2 rfl) e_int) (s_one (s_ret P.toSx (e_sub (e_call c_sign_bit (P.gb _ (mG 2)) (a_cons (e_var P.sc 0 rfl) a_nil)) (e_add (e_var P.sc 2 rfl) e_int)))) s_nil)
  (s_one (s_ret P.toSx (e_add (e_var P.sc 2 rfl) e_int))))))
noncomputable def s_law_asked : Stmt := top 43
noncomputable abbrev N_law_asked : List Str := ["_law_which", "_law_size", "_law_bits", "_law_other"]
noncomputable abbrev G_law_asked : List Str := ["parted", "kind", "worth", "fraction", "negated", "rank", "compared", "above", "below"]
theorem sc_law_asked : ScF N_law_asked G_law_asked ["_law_which", "_law_size", "_law_bits", "_law_other"] (defScope s_law_asked) := ⟨⟨rfl, rfl, rfl, by decide +kernel, by decide +kernel, by decide +kernel, by decide +kernel⟩, by decide +kernel, by decide +kernel, by decide +kernel, by decide +kernel⟩
set_option maxHeartbeats 4000000 in
theorem b_law_asked {X : Cx} {k : Nat} (hr : Room k X.A) (L : Lp X) (O : Own X) (P : Pl X N_law_asked G_law_asked) (hS : X.env.scope = defScope s_law_asked)
    (c_parted : Callee X "parted" p_parted) (c_kind : Callee X "kind" p_kind) (c_worth : Callee X "worth" p_worth) (c_fraction : Callee X "fraction" p_fraction) (c_negated : Callee X "negated" p_negated) (c_rank : Callee X "rank" p_rank) (c_compared : Callee X "compared" p_compared) (c_above : Callee X "above" p_above) (c_below : Callee X "below" p_below) : SSs X (defBody s_law_asked) g_law_asked := by
  unfold g_law_asked
  exact (s_cons (s_if P.toSx (t_eq hr (e_var P.sc 0 rfl) e_int) (s_one (s_ret P.toSx (e_call c_parted (P.gb _ (mG 0)) (a_cons (e_var P.sc 1 rfl) (a_cons (e_var P.sc 2 rfl) a_nil))))) s_nil)
  (s_cons (s_if P.toSx (t_eq hr (e_var P.sc 0 rfl) e_int) (s_one (s_ret P.toSx (e_call c_kind (P.gb _ (mG 1)) (a_cons (e_var P.sc 1 rfl) (a_cons (e_var P.sc 2 rfl) a_nil))))) s_nil)
  (s_cons (s_if P.toSx (t_eq hr (e_var P.sc 0 rfl) e_int) (s_one (s_ret P.toSx (e_call c_worth (P.gb _ (mG 2)) (a_cons (e_var P.sc 1 rfl) (a_cons (e_var P.sc 2 rfl) a_nil))))) s_nil)
  (s_cons (s_if P.toSx (t_eq hr (e_var P.sc 0 rfl) e_int) (s_one (s_ret P.toSx (e_call c_fraction (P.gb _ (mG 3)) (a_cons (e_var P.sc 1 rfl) (a_cons (e_var P.sc 2 rfl) a_nil))))) s_nil)
  (s_cons (s_if P.toSx (t_eq hr (e_var P.sc 0 rfl) e_int) (s_one (s_ret P.toSx (e_call c_negated (P.gb _ (mG 4)) (a_cons (e_var P.sc 1 rfl) (a_cons (e_var P.sc 2 rfl) a_nil))))) s_nil)
  (s_cons (s_if P.toSx (t_eq hr (e_var P.sc 0 rfl) e_int) (s_one (s_ret P.toSx (e_call c_rank (P.gb _ (mG 5)) (a_cons (e_var P.sc 1 rfl) (a_cons (e_var P.sc 2 rfl) a_nil))))) s_nil)
  (s_cons (s_if P.toSx (t_eq hr (e_var P.sc 0 rfl) e_int) (s_one (s_ret P.toSx (e_call c_compared (P.gb _ (mG 6)) (a_cons (e_var P.sc 1 rfl) (a_cons (e_var P.sc 2 rfl) (a_cons (e_var P.sc 3 rfl) a_nil)))))) s_nil)
  (s_cons (s_if P.toSx (t_eq hr (e_var P.sc 0 rfl) e_int) (s_one (s_ret P.toSx (e_call c_compared (P.gb _ (mG 6)) (a_cons (e_var P.sc 1 rfl) (a_cons (e_var P.sc 3 rfl) (a_cons (e_var P.sc 2 rfl) a_nil)))))) s_nil)
  (s_cons (s_if P.toSx (t_eq hr (e_var P.sc 0 rfl) e_int) (s_one (s_ret P.toSx (e_call c_above (P.gb _ (mG 7)) (a_cons (e_var P.sc 1 rfl) (a_cons (e_var P.sc 2 rfl) a_nil))))) s_nil)
  (s_one (s_ret P.toSx (e_call c_below (P.gb _ (mG 8)) (a_cons (e_var P.sc 1 rfl) (a_cons (e_var P.sc 2 rfl) a_nil))))))))))))))
noncomputable def s_law_due : Stmt := top 44
noncomputable abbrev N_law_due : List Str := ["_law_which", "_law_size", "_law_bits", "_law_half", "_law_code", "_law_last"]
noncomputable abbrev G_law_due : List Str := []
theorem sc_law_due : ScF N_law_due G_law_due ["_law_which", "_law_size", "_law_bits"] (defScope s_law_due) := ⟨⟨rfl, rfl, rfl, by decide +kernel, by decide +kernel, by decide +kernel, by decide +kernel⟩, by decide +kernel, by decide +kernel, by decide +kernel, by decide +kernel⟩
set_option maxHeartbeats 4000000 in
theorem b_law_due {X : Cx} {k : Nat} (hr : Room k X.A) (L : Lp X) (O : Own X) (P : Pl X N_law_due G_law_due) (hS : X.env.scope = defScope s_law_due)
     : SSs X (defBody s_law_due) g_law_due := by
  unfold g_law_due
  exact (s_cons (s_set P.toSx 3 rfl (P.sto _ (mG 3)) (e_shl e_int (e_add (e_ix (e_var P.sc 1 rfl) e_int) (e_ix (e_var P.sc 1 rfl) e_int))))
  (s_cons (s_if P.toSx (t_w (w_or (t_lt (e_var P.sc 2 rfl) e_int) (w_or1 (t_ge (e_var P.sc 2 rfl) (e_mul e_int (e_var P.sc 3 rfl)))))) (s_one (s_ret P.toSx e_str)) s_nil)
  (s_cons (s_set P.toSx 4 rfl (P.sto _ (mG 4)) (e_mod (e_var P.sc 2 rfl) (e_var P.sc 3 rfl)))
  (s_cons (s_set P.toSx 5 rfl (P.sto _ (mG 5)) (e_sub (e_var P.sc 3 rfl) (e_shl e_int (e_ix (e_var P.sc 1 rfl) e_int))))
  (s_cons (s_if P.toSx (t_w (w_and (t_w (w_or (t_eq hr (e_var P.sc 0 rfl) e_int) (w_or1 (t_eq hr (e_var P.sc 0 rfl) e_int)))) (w_and1 (t_ge (e_var P.sc 4 rfl) (e_var P.sc 5 rfl))))) (s_one (s_ret P.toSx e_str)) s_nil)
  (s_cons (s_if P.toSx (t_w (w_and (t_w (w_or (t_eq hr (e_var P.sc 0 rfl) e_int) (w_or1 (t_ge (e_var P.sc 0 rfl) e_int)))) (w_and1 (t_gt (e_var P.sc 4 rfl) (e_var P.sc 5 rfl))))) (s_one (s_ret P.toSx e_str)) s_nil)
  (s_one (s_ret P.toSx e_str))))))))
noncomputable def s_law_holds : Stmt := top 47
noncomputable abbrev N_law_holds : List Str := ["_law_size", "_law_cell", "_law_rest", "_law_bits", "_law_caught", "e"]
noncomputable abbrev G_law_holds : List Str := ["_law_parts", "_law_bits_by", "_law_out", "_law_asked", "MillError", "_law_word", "_law_due"]
theorem sc_law_holds : ScF N_law_holds G_law_holds ["_law_size", "_law_cell"] (defScope s_law_holds) := ⟨⟨rfl, rfl, rfl, by decide +kernel, by decide +kernel, by decide +kernel, by decide +kernel⟩, by decide +kernel, by decide +kernel, by decide +kernel, by decide +kernel⟩
set_option maxHeartbeats 4000000 in
theorem b_law_holds {X : Cx} {k : Nat} (hr : Room k X.A) (L : Lp X) (O : Own X) (P : Pl X N_law_holds G_law_holds) (hS : X.env.scope = defScope s_law_holds) {C_MillError : Addr}
    (c_law_parts : Callee X "_law_parts" p_law_parts) (c_law_bits_by : Callee X "_law_bits_by" p_law_bits_by) (c_law_out : Callee X "_law_out" p_law_out) (c_law_asked : Callee X "_law_asked" p_law_asked) (lc_5 : X.env.scope.names.lookup ("e" : Str) = some .local) (q_MillError : X.mg "MillError" = some (.ref  C_MillError)) (ct_MillError : Catches X "MillError" C_MillError) (c_law_word : Callee X "_law_word" p_law_word) (c_law_due : Callee X "_law_due" p_law_due) : SSs X (defBody s_law_holds) g_law_holds := by
  unfold g_law_holds
  exact (s_cons (s_set P.toSx 2 rfl (P.sto _ (mG 2)) (e_div (e_var P.sc 1 rfl) e_int))
  (s_cons (s_if P.toSx (t_eq hr (e_mod (e_var P.sc 1 rfl) e_int) e_int) (s_one (s_ret P.toSx (e_call c_law_parts (P.gb _ (mG 0)) (a_cons (e_var P.sc 0 rfl) (a_cons (e_var P.sc 2 rfl) a_nil))))) s_nil)
  (s_cons (s_set P.toSx 3 rfl (P.sto _ (mG 3)) (e_call c_law_bits_by (P.gb _ (mG 1)) (a_cons (e_var P.sc 0 rfl) (a_cons (e_div (e_var P.sc 2 rfl) e_int) a_nil))))
  (s_cons (s_if P.toSx (t_eq hr (e_mod (e_var P.sc 2 rfl) e_int) e_int) (s_one (s_set P.toSx 3 rfl (P.sto _ (mG 3)) (e_call c_law_out (P.gb _ (mG 2)) (a_cons (e_shl e_int (e_add (e_ix (e_var P.sc 0 rfl) e_int) (e_ix (e_var P.sc 0 rfl) e_int))) (a_cons (e_div (e_var P.sc 2 rfl) e_int) a_nil))))) s_nil)
  (s_cons (s_set P.toSx 4 rfl (P.sto _ (mG 4)) e_non)
  (s_cons (s_try (cls := "MillError") P O 5 rfl lc_5 (P.gb _ (mG 4)) q_MillError ct_MillError (fun pins W => (s_one (s_expr (P.try pins W).toSx (e_call ⟨c_law_asked.ex⟩ ((P.try pins W).gb _ (mG 3)) (a_cons (e_mod (e_var (P.try pins W).sc 1 rfl) e_int) (a_cons (e_var (P.try pins W).sc 0 rfl) (a_cons (e_var (P.try pins W).sc 3 rfl) (a_cons (e_call ⟨c_law_bits_by.ex⟩ ((P.try pins W).gb _ (mG 1)) (a_cons (e_var (P.try pins W).sc 0 rfl) (a_cons (e_div (e_var (P.try pins W).sc 2 rfl) e_int) a_nil))) a_nil)))))))) (fun ea => (s_one (s_set (P.inn ea).toSx 4 rfl ((P.inn ea).sto _ (mG 4)) (e_var (P.inn ea).sc 5 rfl)))))
  (s_one (s_ret P.toSx (e_eq hr (e_call c_law_word (P.gb _ (mG 5)) (a_cons (e_var P.sc 4 rfl) a_nil)) (e_call c_law_due (P.gb _ (mG 6)) (a_cons (e_mod (e_var P.sc 1 rfl) e_int) (a_cons (e_var P.sc 0 rfl) (a_cons (e_var P.sc 3 rfl) a_nil)))))))))))))
noncomputable def s_law : Stmt := top 48
noncomputable abbrev N_law : List Str := ["_law_script", "_law_size", "_law_cell"]
noncomputable abbrev G_law : List Str := ["_law_size_by", "_law_cell_at", "_law_holds"]
theorem sc_law : ScF N_law G_law ["_law_script"] (defScope s_law) := ⟨⟨rfl, rfl, rfl, by decide +kernel, by decide +kernel, by decide +kernel, by decide +kernel⟩, by decide +kernel, by decide +kernel, by decide +kernel, by decide +kernel⟩
set_option maxHeartbeats 4000000 in
theorem b_law {X : Cx} {k : Nat} (hr : Room k X.A) (L : Lp X) (O : Own X) (P : Pl X N_law G_law) (hS : X.env.scope = defScope s_law)
    (c_law_size_by : Callee X "_law_size_by" p_law_size_by) (c_law_cell_at : Callee X "_law_cell_at" p_law_cell_at) (c_law_holds : Callee X "_law_holds" p_law_holds) : SSs X (defBody s_law) g_law := by
  unfold g_law
  exact (s_cons (s_set P.toSx 1 rfl (P.sto _ (mG 1)) (e_call c_law_size_by (P.gb _ (mG 0)) (a_cons (e_call c_law_cell_at (P.gb _ (mG 1)) (a_cons (e_var P.sc 0 rfl) (a_cons e_int a_nil))) a_nil)))
  (s_cons (s_forI P.toSx L 2 rfl (P.sto _ (mG 2)) (i_any (e_add (e_slc (e_var P.sc 0 rfl) (po_some' e_int) po_none') (e_lst (a_cons e_int a_nil) (by decide)))) (s_one (s_if P.toSx (t_not (t_val (e_call c_law_holds (P.gb _ (mG 2)) (a_cons (e_var P.sc 1 rfl) (a_cons (e_var P.sc 2 rfl) a_nil))))) (s_one (s_ret P.toSx e_bl)) s_nil)))
  (s_one (s_ret P.toSx e_bl))))
set_option maxHeartbeats 4000000 in
theorem all_mk {P : Program} {w : World} {K : PySem.W.Frag} {h : Heap} {mg : Str → Option Value} {fa : Addr} (KX : K.In h) (GG : h.Ns mainGlobals mg) (hfa : mg "law" = some (.ref fa))
    {f1 : Addr} {od1 an1 : Option Addr} {sl1 : Array (Option Value)} {oc1 kV1 dc1 pm1 cd1 ct1 : Value}
    (a1 : PySem.W.nsIn K mainGlobals "_law_size_by" = some (some (.ref f1)))
    (l1 : K.lookup f1 = some ⟨oc1, od1, .func (PySem.W.fnOf "_law_size_by" "_law_size_by" (defArgs s_law_size_by) (defBody s_law_size_by) (defScope s_law_size_by) .none kV1 dc1 pm1 an1 cd1 ct1), sl1⟩)
    (e1 : PySem.W.codeIn K cd1 "_law_size_by" = true) (k1 : PySem.W.keepIn K (.ref f1) = true)
    {f2 : Addr} {od2 an2 : Option Addr} {sl2 : Array (Option Value)} {oc2 kV2 dc2 pm2 cd2 ct2 : Value}
    (a2 : PySem.W.nsIn K mainGlobals "_law_cell_at" = some (some (.ref f2)))
    (l2 : K.lookup f2 = some ⟨oc2, od2, .func (PySem.W.fnOf "_law_cell_at" "_law_cell_at" (defArgs s_law_cell_at) (defBody s_law_cell_at) (defScope s_law_cell_at) .none kV2 dc2 pm2 an2 cd2 ct2), sl2⟩)
    (e2 : PySem.W.codeIn K cd2 "_law_cell_at" = true) (k2 : PySem.W.keepIn K (.ref f2) = true)
    {f3 : Addr} {od3 an3 : Option Addr} {sl3 : Array (Option Value)} {oc3 kV3 dc3 pm3 cd3 ct3 : Value}
    (a3 : PySem.W.nsIn K mainGlobals "_law_bits_by" = some (some (.ref f3)))
    (l3 : K.lookup f3 = some ⟨oc3, od3, .func (PySem.W.fnOf "_law_bits_by" "_law_bits_by" (defArgs s_law_bits_by) (defBody s_law_bits_by) (defScope s_law_bits_by) .none kV3 dc3 pm3 an3 cd3 ct3), sl3⟩)
    (e3 : PySem.W.codeIn K cd3 "_law_bits_by" = true) (k3 : PySem.W.keepIn K (.ref f3) = true)
    {f4 : Addr} {od4 an4 : Option Addr} {sl4 : Array (Option Value)} {oc4 kV4 dc4 pm4 cd4 ct4 : Value}
    (a4 : PySem.W.nsIn K mainGlobals "last_field" = some (some (.ref f4)))
    (l4 : K.lookup f4 = some ⟨oc4, od4, .func (PySem.W.fnOf "last_field" "last_field" (defArgs s_last_field) (defBody s_last_field) (defScope s_last_field) .none kV4 dc4 pm4 an4 cd4 ct4), sl4⟩)
    (e4 : PySem.W.codeIn K cd4 "last_field" = true) (k4 : PySem.W.keepIn K (.ref f4) = true)
    {f5 : Addr} {od5 an5 : Option Addr} {sl5 : Array (Option Value)} {oc5 kV5 dc5 pm5 cd5 ct5 : Value}
    (a5 : PySem.W.nsIn K mainGlobals "sign_bit" = some (some (.ref f5)))
    (l5 : K.lookup f5 = some ⟨oc5, od5, .func (PySem.W.fnOf "sign_bit" "sign_bit" (defArgs s_sign_bit) (defBody s_sign_bit) (defScope s_sign_bit) .none kV5 dc5 pm5 an5 cd5 ct5), sl5⟩)
    (e5 : PySem.W.codeIn K cd5 "sign_bit" = true) (k5 : PySem.W.keepIn K (.ref f5) = true)
    {f6 : Addr} {od6 an6 : Option Addr} {sl6 : Array (Option Value)} {oc6 kV6 dc6 pm6 cd6 ct6 : Value}
    (a6 : PySem.W.nsIn K mainGlobals "joined" = some (some (.ref f6)))
    (l6 : K.lookup f6 = some ⟨oc6, od6, .func (PySem.W.fnOf "joined" "joined" (defArgs s_joined) (defBody s_joined) (defScope s_joined) .none kV6 dc6 pm6 an6 cd6 ct6), sl6⟩)
    (e6 : PySem.W.codeIn K cd6 "joined" = true) (k6 : PySem.W.keepIn K (.ref f6) = true)
    {f7 : Addr} {od7 an7 : Option Addr} {sl7 : Array (Option Value)} {oc7 kV7 dc7 pm7 cd7 ct7 : Value}
    (a7 : PySem.W.nsIn K mainGlobals "_law_alone" = some (some (.ref f7)))
    (l7 : K.lookup f7 = some ⟨oc7, od7, .func (PySem.W.fnOf "_law_alone" "_law_alone" (defArgs s_law_alone) (defBody s_law_alone) (defScope s_law_alone) .none kV7 dc7 pm7 an7 cd7 ct7), sl7⟩)
    (e7 : PySem.W.codeIn K cd7 "_law_alone" = true) (k7 : PySem.W.keepIn K (.ref f7) = true)
    {f8 : Addr} {od8 an8 : Option Addr} {sl8 : Array (Option Value)} {oc8 kV8 dc8 pm8 cd8 ct8 : Value}
    (a8 : PySem.W.nsIn K mainGlobals "_law_word" = some (some (.ref f8)))
    (l8 : K.lookup f8 = some ⟨oc8, od8, .func (PySem.W.fnOf "_law_word" "_law_word" (defArgs s_law_word) (defBody s_law_word) (defScope s_law_word) .none kV8 dc8 pm8 an8 cd8 ct8), sl8⟩)
    (e8 : PySem.W.codeIn K cd8 "_law_word" = true) (k8 : PySem.W.keepIn K (.ref f8) = true)
    {f9 : Addr} {od9 an9 : Option Addr} {sl9 : Array (Option Value)} {oc9 kV9 dc9 pm9 cd9 ct9 : Value}
    (a9 : PySem.W.nsIn K mainGlobals "_law_out" = some (some (.ref f9)))
    (l9 : K.lookup f9 = some ⟨oc9, od9, .func (PySem.W.fnOf "_law_out" "_law_out" (defArgs s_law_out) (defBody s_law_out) (defScope s_law_out) .none kV9 dc9 pm9 an9 cd9 ct9), sl9⟩)
    (e9 : PySem.W.codeIn K cd9 "_law_out" = true) (k9 : PySem.W.keepIn K (.ref f9) = true)
    {f10 : Addr} {od10 an10 : Option Addr} {sl10 : Array (Option Value)} {oc10 kV10 dc10 pm10 cd10 ct10 : Value}
    (a10 : PySem.W.nsIn K mainGlobals "_law_parts" = some (some (.ref f10)))
    (l10 : K.lookup f10 = some ⟨oc10, od10, .func (PySem.W.fnOf "_law_parts" "_law_parts" (defArgs s_law_parts) (defBody s_law_parts) (defScope s_law_parts) .none kV10 dc10 pm10 an10 cd10 ct10), sl10⟩)
    (e10 : PySem.W.codeIn K cd10 "_law_parts" = true) (k10 : PySem.W.keepIn K (.ref f10) = true)
    {f11 : Addr} {od11 an11 : Option Addr} {sl11 : Array (Option Value)} {oc11 kV11 dc11 pm11 cd11 ct11 : Value}
    (a11 : PySem.W.nsIn K mainGlobals "width" = some (some (.ref f11)))
    (l11 : K.lookup f11 = some ⟨oc11, od11, .func (PySem.W.fnOf "width" "width" (defArgs s_width) (defBody s_width) (defScope s_width) .none kV11 dc11 pm11 an11 cd11 ct11), sl11⟩)
    (e11 : PySem.W.codeIn K cd11 "width" = true) (k11 : PySem.W.keepIn K (.ref f11) = true)
    {f12 : Addr} {od12 an12 : Option Addr} {sl12 : Array (Option Value)} {oc12 kV12 dc12 pm12 cd12 ct12 : Value}
    (a12 : PySem.W.nsIn K mainGlobals "parted" = some (some (.ref f12)))
    (l12 : K.lookup f12 = some ⟨oc12, od12, .func (PySem.W.fnOf "parted" "parted" (defArgs s_parted) (defBody s_parted) (defScope s_parted) .none kV12 dc12 pm12 an12 cd12 ct12), sl12⟩)
    (e12 : PySem.W.codeIn K cd12 "parted" = true) (k12 : PySem.W.keepIn K (.ref f12) = true)
    {f13 : Addr} {od13 an13 : Option Addr} {sl13 : Array (Option Value)} {oc13 kV13 dc13 pm13 cd13 ct13 : Value}
    (a13 : PySem.W.nsIn K mainGlobals "kind" = some (some (.ref f13)))
    (l13 : K.lookup f13 = some ⟨oc13, od13, .func (PySem.W.fnOf "kind" "kind" (defArgs s_kind) (defBody s_kind) (defScope s_kind) .none kV13 dc13 pm13 an13 cd13 ct13), sl13⟩)
    (e13 : PySem.W.codeIn K cd13 "kind" = true) (k13 : PySem.W.keepIn K (.ref f13) = true)
    {f14 : Addr} {od14 an14 : Option Addr} {sl14 : Array (Option Value)} {oc14 kV14 dc14 pm14 cd14 ct14 : Value}
    (a14 : PySem.W.nsIn K mainGlobals "rank" = some (some (.ref f14)))
    (l14 : K.lookup f14 = some ⟨oc14, od14, .func (PySem.W.fnOf "rank" "rank" (defArgs s_rank) (defBody s_rank) (defScope s_rank) .none kV14 dc14 pm14 an14 cd14 ct14), sl14⟩)
    (e14 : PySem.W.codeIn K cd14 "rank" = true) (k14 : PySem.W.keepIn K (.ref f14) = true)
    {f15 : Addr} {od15 an15 : Option Addr} {sl15 : Array (Option Value)} {oc15 kV15 dc15 pm15 cd15 ct15 : Value}
    (a15 : PySem.W.nsIn K mainGlobals "endless" = some (some (.ref f15)))
    (l15 : K.lookup f15 = some ⟨oc15, od15, .func (PySem.W.fnOf "endless" "endless" (defArgs s_endless) (defBody s_endless) (defScope s_endless) .none kV15 dc15 pm15 an15 cd15 ct15), sl15⟩)
    (e15 : PySem.W.codeIn K cd15 "endless" = true) (k15 : PySem.W.keepIn K (.ref f15) = true)
    {f16 : Addr} {od16 an16 : Option Addr} {sl16 : Array (Option Value)} {oc16 kV16 dc16 pm16 cd16 ct16 : Value}
    (a16 : PySem.W.nsIn K mainGlobals "below" = some (some (.ref f16)))
    (l16 : K.lookup f16 = some ⟨oc16, od16, .func (PySem.W.fnOf "below" "below" (defArgs s_below) (defBody s_below) (defScope s_below) .none kV16 dc16 pm16 an16 cd16 ct16), sl16⟩)
    (e16 : PySem.W.codeIn K cd16 "below" = true) (k16 : PySem.W.keepIn K (.ref f16) = true)
    {f17 : Addr} {od17 an17 : Option Addr} {sl17 : Array (Option Value)} {oc17 kV17 dc17 pm17 cd17 ct17 : Value}
    (a17 : PySem.W.nsIn K mainGlobals "bias" = some (some (.ref f17)))
    (l17 : K.lookup f17 = some ⟨oc17, od17, .func (PySem.W.fnOf "bias" "bias" (defArgs s_bias) (defBody s_bias) (defScope s_bias) .none kV17 dc17 pm17 an17 cd17 ct17), sl17⟩)
    (e17 : PySem.W.codeIn K cd17 "bias" = true) (k17 : PySem.W.keepIn K (.ref f17) = true)
    {f18 : Addr} {od18 an18 : Option Addr} {sl18 : Array (Option Value)} {oc18 kV18 dc18 pm18 cd18 ct18 : Value}
    (a18 : PySem.W.nsIn K mainGlobals "low" = some (some (.ref f18)))
    (l18 : K.lookup f18 = some ⟨oc18, od18, .func (PySem.W.fnOf "low" "low" (defArgs s_low) (defBody s_low) (defScope s_low) .none kV18 dc18 pm18 an18 cd18 ct18), sl18⟩)
    (e18 : PySem.W.codeIn K cd18 "low" = true) (k18 : PySem.W.keepIn K (.ref f18) = true)
    {f19 : Addr} {od19 an19 : Option Addr} {sl19 : Array (Option Value)} {oc19 kV19 dc19 pm19 cd19 ct19 : Value}
    (a19 : PySem.W.nsIn K mainGlobals "worth" = some (some (.ref f19)))
    (l19 : K.lookup f19 = some ⟨oc19, od19, .func (PySem.W.fnOf "worth" "worth" (defArgs s_worth) (defBody s_worth) (defScope s_worth) .none kV19 dc19 pm19 an19 cd19 ct19), sl19⟩)
    (e19 : PySem.W.codeIn K cd19 "worth" = true) (k19 : PySem.W.keepIn K (.ref f19) = true)
    {f20 : Addr} {od20 an20 : Option Addr} {sl20 : Array (Option Value)} {oc20 kV20 dc20 pm20 cd20 ct20 : Value}
    (a20 : PySem.W.nsIn K mainGlobals "worth_fraction" = some (some (.ref f20)))
    (l20 : K.lookup f20 = some ⟨oc20, od20, .func (PySem.W.fnOf "worth_fraction" "worth_fraction" (defArgs s_worth_fraction) (defBody s_worth_fraction) (defScope s_worth_fraction) .none kV20 dc20 pm20 an20 cd20 ct20), sl20⟩)
    (e20 : PySem.W.codeIn K cd20 "worth_fraction" = true) (k20 : PySem.W.keepIn K (.ref f20) = true)
    {f21 : Addr} {od21 an21 : Option Addr} {sl21 : Array (Option Value)} {oc21 kV21 dc21 pm21 cd21 ct21 : Value}
    (a21 : PySem.W.nsIn K mainGlobals "fraction" = some (some (.ref f21)))
    (l21 : K.lookup f21 = some ⟨oc21, od21, .func (PySem.W.fnOf "fraction" "fraction" (defArgs s_fraction) (defBody s_fraction) (defScope s_fraction) .none kV21 dc21 pm21 an21 cd21 ct21), sl21⟩)
    (e21 : PySem.W.codeIn K cd21 "fraction" = true) (k21 : PySem.W.keepIn K (.ref f21) = true)
    {f22 : Addr} {od22 an22 : Option Addr} {sl22 : Array (Option Value)} {oc22 kV22 dc22 pm22 cd22 ct22 : Value}
    (a22 : PySem.W.nsIn K mainGlobals "negated" = some (some (.ref f22)))
    (l22 : K.lookup f22 = some ⟨oc22, od22, .func (PySem.W.fnOf "negated" "negated" (defArgs s_negated) (defBody s_negated) (defScope s_negated) .none kV22 dc22 pm22 an22 cd22 ct22), sl22⟩)
    (e22 : PySem.W.codeIn K cd22 "negated" = true) (k22 : PySem.W.keepIn K (.ref f22) = true)
    {f23 : Addr} {od23 an23 : Option Addr} {sl23 : Array (Option Value)} {oc23 kV23 dc23 pm23 cd23 ct23 : Value}
    (a23 : PySem.W.nsIn K mainGlobals "compared" = some (some (.ref f23)))
    (l23 : K.lookup f23 = some ⟨oc23, od23, .func (PySem.W.fnOf "compared" "compared" (defArgs s_compared) (defBody s_compared) (defScope s_compared) .none kV23 dc23 pm23 an23 cd23 ct23), sl23⟩)
    (e23 : PySem.W.codeIn K cd23 "compared" = true) (k23 : PySem.W.keepIn K (.ref f23) = true)
    {f24 : Addr} {od24 an24 : Option Addr} {sl24 : Array (Option Value)} {oc24 kV24 dc24 pm24 cd24 ct24 : Value}
    (a24 : PySem.W.nsIn K mainGlobals "above" = some (some (.ref f24)))
    (l24 : K.lookup f24 = some ⟨oc24, od24, .func (PySem.W.fnOf "above" "above" (defArgs s_above) (defBody s_above) (defScope s_above) .none kV24 dc24 pm24 an24 cd24 ct24), sl24⟩)
    (e24 : PySem.W.codeIn K cd24 "above" = true) (k24 : PySem.W.keepIn K (.ref f24) = true)
    {f25 : Addr} {od25 an25 : Option Addr} {sl25 : Array (Option Value)} {oc25 kV25 dc25 pm25 cd25 ct25 : Value}
    (a25 : PySem.W.nsIn K mainGlobals "_law_asked" = some (some (.ref f25)))
    (l25 : K.lookup f25 = some ⟨oc25, od25, .func (PySem.W.fnOf "_law_asked" "_law_asked" (defArgs s_law_asked) (defBody s_law_asked) (defScope s_law_asked) .none kV25 dc25 pm25 an25 cd25 ct25), sl25⟩)
    (e25 : PySem.W.codeIn K cd25 "_law_asked" = true) (k25 : PySem.W.keepIn K (.ref f25) = true)
    {f26 : Addr} {od26 an26 : Option Addr} {sl26 : Array (Option Value)} {oc26 kV26 dc26 pm26 cd26 ct26 : Value}
    (a26 : PySem.W.nsIn K mainGlobals "_law_due" = some (some (.ref f26)))
    (l26 : K.lookup f26 = some ⟨oc26, od26, .func (PySem.W.fnOf "_law_due" "_law_due" (defArgs s_law_due) (defBody s_law_due) (defScope s_law_due) .none kV26 dc26 pm26 an26 cd26 ct26), sl26⟩)
    (e26 : PySem.W.codeIn K cd26 "_law_due" = true) (k26 : PySem.W.keepIn K (.ref f26) = true)
    {f27 : Addr} {od27 an27 : Option Addr} {sl27 : Array (Option Value)} {oc27 kV27 dc27 pm27 cd27 ct27 : Value}
    (a27 : PySem.W.nsIn K mainGlobals "_law_holds" = some (some (.ref f27)))
    (l27 : K.lookup f27 = some ⟨oc27, od27, .func (PySem.W.fnOf "_law_holds" "_law_holds" (defArgs s_law_holds) (defBody s_law_holds) (defScope s_law_holds) .none kV27 dc27 pm27 an27 cd27 ct27), sl27⟩)
    (e27 : PySem.W.codeIn K cd27 "_law_holds" = true) (k27 : PySem.W.keepIn K (.ref f27) = true)
    {f28 : Addr} {od28 an28 : Option Addr} {sl28 : Array (Option Value)} {oc28 kV28 dc28 pm28 cd28 ct28 : Value}
    (a28 : PySem.W.nsIn K mainGlobals "law" = some (some (.ref f28)))
    (l28 : K.lookup f28 = some ⟨oc28, od28, .func (PySem.W.fnOf "law" "law" (defArgs s_law) (defBody s_law) (defScope s_law) .none kV28 dc28 pm28 an28 cd28 ct28), sl28⟩)
    (e28 : PySem.W.codeIn K cd28 "law" = true) (k28 : PySem.W.keepIn K (.ref f28) = true)
    (z_len : PySem.W.nsIn K mainGlobals "len" = some none)
    (z_isinstance : PySem.W.nsIn K mainGlobals "isinstance" = some none)
    (z_ValueError : PySem.W.nsIn K mainGlobals "ValueError" = some none)
    (z_int : PySem.W.nsIn K mainGlobals "int" = some none)
    (z_sum : PySem.W.nsIn K mainGlobals "sum" = some none)
    (z_range : PySem.W.nsIn K mainGlobals "range" = some none)
    {C_MillError : Addr} (n_MillError : PySem.W.nsIn K mainGlobals "MillError" = some (some (.ref C_MillError)))
    {C_NoSize : Addr} (n_NoSize : PySem.W.nsIn K mainGlobals "NoSize" = some (some (.ref C_NoSize)))
    {C_NoBits : Addr} (n_NoBits : PySem.W.nsIn K mainGlobals "NoBits" = some (some (.ref C_NoBits)))
    {C_NoParts : Addr} (n_NoParts : PySem.W.nsIn K mainGlobals "NoParts" = some (some (.ref C_NoParts)))
    {C_NoRank : Addr} (n_NoRank : PySem.W.nsIn K mainGlobals "NoRank" = some (some (.ref C_NoRank)))
    {C_NotFinite : Addr} (n_NotFinite : PySem.W.nsIn K mainGlobals "NotFinite" = some (some (.ref C_NotFinite)))
    {C_NoWay : Addr} (n_NoWay : PySem.W.nsIn K mainGlobals "NoWay" = some (some (.ref C_NoWay)))
    {C_NoFlags : Addr} (n_NoFlags : PySem.W.nsIn K mainGlobals "NoFlags" = some (some (.ref C_NoFlags)))
    {C_NoFraction : Addr} (n_NoFraction : PySem.W.nsIn K mainGlobals "NoFraction" = some (some (.ref C_NoFraction)))
    {C_Unlike : Addr} (n_Unlike : PySem.W.nsIn K mainGlobals "Unlike" = some (some (.ref C_Unlike)))
    {C_Empty : Addr} (n_Empty : PySem.W.nsIn K mainGlobals "Empty" = some (some (.ref C_Empty)))
    {C_NoLeft : Addr} (n_NoLeft : PySem.W.nsIn K mainGlobals "NoLeft" = some (some (.ref C_NoLeft)))
    {C_NoText : Addr} (n_NoText : PySem.W.nsIn K mainGlobals "NoText" = some (some (.ref C_NoText)))
    {C_NoRow : Addr} (n_NoRow : PySem.W.nsIn K mainGlobals "NoRow" = some (some (.ref C_NoRow)))
    {C_NoName : Addr} (n_NoName : PySem.W.nsIn K mainGlobals "NoName" = some (some (.ref C_NoName)))
    {C_Stopped : Addr} (n_Stopped : PySem.W.nsIn K mainGlobals "Stopped" = some (some (.ref C_Stopped)))
    (xi_NoParts : PySem.W.excIn K C_NoParts bmV "ValueError.__new__" = true)
    (xi_NoBits : PySem.W.excIn K C_NoBits bmV "ValueError.__new__" = true)
    (xi_NoRank : PySem.W.excIn K C_NoRank bmV "ValueError.__new__" = true)
    (xi_NotFinite : PySem.W.excIn K C_NotFinite bmV "ValueError.__new__" = true)
    (v_MillError : XCls K C_MillError)
    (v_NoSize : XCls K C_NoSize)
    (v_NoBits : XCls K C_NoBits)
    (v_NoParts : XCls K C_NoParts)
    (v_NoRank : XCls K C_NoRank)
    (v_NotFinite : XCls K C_NotFinite)
    (v_NoWay : XCls K C_NoWay)
    (v_NoFlags : XCls K C_NoFlags)
    (v_NoFraction : XCls K C_NoFraction)
    (v_Unlike : XCls K C_Unlike)
    (v_Empty : XCls K C_Empty)
    (v_NoLeft : XCls K C_NoLeft)
    (v_NoText : XCls K C_NoText)
    (v_NoRow : XCls K C_NoRow)
    (v_NoName : XCls K C_NoName)
    (v_Stopped : XCls K C_Stopped)
    (cb_MillError : CB K C_MillError)
    (r_MillError_MillError : PySem.W.mroIn K C_MillError (.ref C_MillError) = some true)
    (r_MillError_NoSize : PySem.W.mroIn K C_NoSize (.ref C_MillError) = some true)
    (r_MillError_NoBits : PySem.W.mroIn K C_NoBits (.ref C_MillError) = some true)
    (r_MillError_NoParts : PySem.W.mroIn K C_NoParts (.ref C_MillError) = some true)
    (r_MillError_NoRank : PySem.W.mroIn K C_NoRank (.ref C_MillError) = some true)
    (r_MillError_NotFinite : PySem.W.mroIn K C_NotFinite (.ref C_MillError) = some true)
    (r_MillError_NoWay : PySem.W.mroIn K C_NoWay (.ref C_MillError) = some true)
    (r_MillError_NoFlags : PySem.W.mroIn K C_NoFlags (.ref C_MillError) = some true)
    (r_MillError_NoFraction : PySem.W.mroIn K C_NoFraction (.ref C_MillError) = some true)
    (r_MillError_Unlike : PySem.W.mroIn K C_Unlike (.ref C_MillError) = some true)
    (r_MillError_Empty : PySem.W.mroIn K C_Empty (.ref C_MillError) = some true)
    (r_MillError_NoLeft : PySem.W.mroIn K C_NoLeft (.ref C_MillError) = some true)
    (r_MillError_NoText : PySem.W.mroIn K C_NoText (.ref C_MillError) = some true)
    (r_MillError_NoRow : PySem.W.mroIn K C_NoRow (.ref C_MillError) = some true)
    (r_MillError_NoName : PySem.W.mroIn K C_NoName (.ref C_MillError) = some true)
    (r_MillError_Stopped : PySem.W.mroIn K C_Stopped (.ref C_MillError) = some true)
    (i0_NoSize : PySem.W.kitOne K (.type "NoneType") (.ref C_NoSize) = some false)
    (i_NoSize_MillError : PySem.W.kitOne K (.ref C_MillError) (.ref C_NoSize) = some false)
    (i_NoSize_NoSize : PySem.W.kitOne K (.ref C_NoSize) (.ref C_NoSize) = some true)
    (i_NoSize_NoBits : PySem.W.kitOne K (.ref C_NoBits) (.ref C_NoSize) = some false)
    (i_NoSize_NoParts : PySem.W.kitOne K (.ref C_NoParts) (.ref C_NoSize) = some false)
    (i_NoSize_NoRank : PySem.W.kitOne K (.ref C_NoRank) (.ref C_NoSize) = some false)
    (i_NoSize_NotFinite : PySem.W.kitOne K (.ref C_NotFinite) (.ref C_NoSize) = some false)
    (i_NoSize_NoWay : PySem.W.kitOne K (.ref C_NoWay) (.ref C_NoSize) = some false)
    (i_NoSize_NoFlags : PySem.W.kitOne K (.ref C_NoFlags) (.ref C_NoSize) = some false)
    (i_NoSize_NoFraction : PySem.W.kitOne K (.ref C_NoFraction) (.ref C_NoSize) = some false)
    (i_NoSize_Unlike : PySem.W.kitOne K (.ref C_Unlike) (.ref C_NoSize) = some false)
    (i_NoSize_Empty : PySem.W.kitOne K (.ref C_Empty) (.ref C_NoSize) = some false)
    (i_NoSize_NoLeft : PySem.W.kitOne K (.ref C_NoLeft) (.ref C_NoSize) = some false)
    (i_NoSize_NoText : PySem.W.kitOne K (.ref C_NoText) (.ref C_NoSize) = some false)
    (i_NoSize_NoRow : PySem.W.kitOne K (.ref C_NoRow) (.ref C_NoSize) = some false)
    (i_NoSize_NoName : PySem.W.kitOne K (.ref C_NoName) (.ref C_NoSize) = some false)
    (i_NoSize_Stopped : PySem.W.kitOne K (.ref C_Stopped) (.ref C_NoSize) = some false)
    (i0_NoBits : PySem.W.kitOne K (.type "NoneType") (.ref C_NoBits) = some false)
    (i_NoBits_MillError : PySem.W.kitOne K (.ref C_MillError) (.ref C_NoBits) = some false)
    (i_NoBits_NoSize : PySem.W.kitOne K (.ref C_NoSize) (.ref C_NoBits) = some false)
    (i_NoBits_NoBits : PySem.W.kitOne K (.ref C_NoBits) (.ref C_NoBits) = some true)
    (i_NoBits_NoParts : PySem.W.kitOne K (.ref C_NoParts) (.ref C_NoBits) = some false)
    (i_NoBits_NoRank : PySem.W.kitOne K (.ref C_NoRank) (.ref C_NoBits) = some false)
    (i_NoBits_NotFinite : PySem.W.kitOne K (.ref C_NotFinite) (.ref C_NoBits) = some false)
    (i_NoBits_NoWay : PySem.W.kitOne K (.ref C_NoWay) (.ref C_NoBits) = some false)
    (i_NoBits_NoFlags : PySem.W.kitOne K (.ref C_NoFlags) (.ref C_NoBits) = some false)
    (i_NoBits_NoFraction : PySem.W.kitOne K (.ref C_NoFraction) (.ref C_NoBits) = some false)
    (i_NoBits_Unlike : PySem.W.kitOne K (.ref C_Unlike) (.ref C_NoBits) = some false)
    (i_NoBits_Empty : PySem.W.kitOne K (.ref C_Empty) (.ref C_NoBits) = some false)
    (i_NoBits_NoLeft : PySem.W.kitOne K (.ref C_NoLeft) (.ref C_NoBits) = some false)
    (i_NoBits_NoText : PySem.W.kitOne K (.ref C_NoText) (.ref C_NoBits) = some false)
    (i_NoBits_NoRow : PySem.W.kitOne K (.ref C_NoRow) (.ref C_NoBits) = some false)
    (i_NoBits_NoName : PySem.W.kitOne K (.ref C_NoName) (.ref C_NoBits) = some false)
    (i_NoBits_Stopped : PySem.W.kitOne K (.ref C_Stopped) (.ref C_NoBits) = some false)
    (i0_NoParts : PySem.W.kitOne K (.type "NoneType") (.ref C_NoParts) = some false)
    (i_NoParts_MillError : PySem.W.kitOne K (.ref C_MillError) (.ref C_NoParts) = some false)
    (i_NoParts_NoSize : PySem.W.kitOne K (.ref C_NoSize) (.ref C_NoParts) = some false)
    (i_NoParts_NoBits : PySem.W.kitOne K (.ref C_NoBits) (.ref C_NoParts) = some false)
    (i_NoParts_NoParts : PySem.W.kitOne K (.ref C_NoParts) (.ref C_NoParts) = some true)
    (i_NoParts_NoRank : PySem.W.kitOne K (.ref C_NoRank) (.ref C_NoParts) = some false)
    (i_NoParts_NotFinite : PySem.W.kitOne K (.ref C_NotFinite) (.ref C_NoParts) = some false)
    (i_NoParts_NoWay : PySem.W.kitOne K (.ref C_NoWay) (.ref C_NoParts) = some false)
    (i_NoParts_NoFlags : PySem.W.kitOne K (.ref C_NoFlags) (.ref C_NoParts) = some false)
    (i_NoParts_NoFraction : PySem.W.kitOne K (.ref C_NoFraction) (.ref C_NoParts) = some false)
    (i_NoParts_Unlike : PySem.W.kitOne K (.ref C_Unlike) (.ref C_NoParts) = some false)
    (i_NoParts_Empty : PySem.W.kitOne K (.ref C_Empty) (.ref C_NoParts) = some false)
    (i_NoParts_NoLeft : PySem.W.kitOne K (.ref C_NoLeft) (.ref C_NoParts) = some false)
    (i_NoParts_NoText : PySem.W.kitOne K (.ref C_NoText) (.ref C_NoParts) = some false)
    (i_NoParts_NoRow : PySem.W.kitOne K (.ref C_NoRow) (.ref C_NoParts) = some false)
    (i_NoParts_NoName : PySem.W.kitOne K (.ref C_NoName) (.ref C_NoParts) = some false)
    (i_NoParts_Stopped : PySem.W.kitOne K (.ref C_Stopped) (.ref C_NoParts) = some false)
    (i0_NoRank : PySem.W.kitOne K (.type "NoneType") (.ref C_NoRank) = some false)
    (i_NoRank_MillError : PySem.W.kitOne K (.ref C_MillError) (.ref C_NoRank) = some false)
    (i_NoRank_NoSize : PySem.W.kitOne K (.ref C_NoSize) (.ref C_NoRank) = some false)
    (i_NoRank_NoBits : PySem.W.kitOne K (.ref C_NoBits) (.ref C_NoRank) = some false)
    (i_NoRank_NoParts : PySem.W.kitOne K (.ref C_NoParts) (.ref C_NoRank) = some false)
    (i_NoRank_NoRank : PySem.W.kitOne K (.ref C_NoRank) (.ref C_NoRank) = some true)
    (i_NoRank_NotFinite : PySem.W.kitOne K (.ref C_NotFinite) (.ref C_NoRank) = some false)
    (i_NoRank_NoWay : PySem.W.kitOne K (.ref C_NoWay) (.ref C_NoRank) = some false)
    (i_NoRank_NoFlags : PySem.W.kitOne K (.ref C_NoFlags) (.ref C_NoRank) = some false)
    (i_NoRank_NoFraction : PySem.W.kitOne K (.ref C_NoFraction) (.ref C_NoRank) = some false)
    (i_NoRank_Unlike : PySem.W.kitOne K (.ref C_Unlike) (.ref C_NoRank) = some false)
    (i_NoRank_Empty : PySem.W.kitOne K (.ref C_Empty) (.ref C_NoRank) = some false)
    (i_NoRank_NoLeft : PySem.W.kitOne K (.ref C_NoLeft) (.ref C_NoRank) = some false)
    (i_NoRank_NoText : PySem.W.kitOne K (.ref C_NoText) (.ref C_NoRank) = some false)
    (i_NoRank_NoRow : PySem.W.kitOne K (.ref C_NoRow) (.ref C_NoRank) = some false)
    (i_NoRank_NoName : PySem.W.kitOne K (.ref C_NoName) (.ref C_NoRank) = some false)
    (i_NoRank_Stopped : PySem.W.kitOne K (.ref C_Stopped) (.ref C_NoRank) = some false)
    (i0_NotFinite : PySem.W.kitOne K (.type "NoneType") (.ref C_NotFinite) = some false)
    (i_NotFinite_MillError : PySem.W.kitOne K (.ref C_MillError) (.ref C_NotFinite) = some false)
    (i_NotFinite_NoSize : PySem.W.kitOne K (.ref C_NoSize) (.ref C_NotFinite) = some false)
    (i_NotFinite_NoBits : PySem.W.kitOne K (.ref C_NoBits) (.ref C_NotFinite) = some false)
    (i_NotFinite_NoParts : PySem.W.kitOne K (.ref C_NoParts) (.ref C_NotFinite) = some false)
    (i_NotFinite_NoRank : PySem.W.kitOne K (.ref C_NoRank) (.ref C_NotFinite) = some false)
    (i_NotFinite_NotFinite : PySem.W.kitOne K (.ref C_NotFinite) (.ref C_NotFinite) = some true)
    (i_NotFinite_NoWay : PySem.W.kitOne K (.ref C_NoWay) (.ref C_NotFinite) = some false)
    (i_NotFinite_NoFlags : PySem.W.kitOne K (.ref C_NoFlags) (.ref C_NotFinite) = some false)
    (i_NotFinite_NoFraction : PySem.W.kitOne K (.ref C_NoFraction) (.ref C_NotFinite) = some false)
    (i_NotFinite_Unlike : PySem.W.kitOne K (.ref C_Unlike) (.ref C_NotFinite) = some false)
    (i_NotFinite_Empty : PySem.W.kitOne K (.ref C_Empty) (.ref C_NotFinite) = some false)
    (i_NotFinite_NoLeft : PySem.W.kitOne K (.ref C_NoLeft) (.ref C_NotFinite) = some false)
    (i_NotFinite_NoText : PySem.W.kitOne K (.ref C_NoText) (.ref C_NotFinite) = some false)
    (i_NotFinite_NoRow : PySem.W.kitOne K (.ref C_NoRow) (.ref C_NotFinite) = some false)
    (i_NotFinite_NoName : PySem.W.kitOne K (.ref C_NoName) (.ref C_NotFinite) = some false)
    (i_NotFinite_Stopped : PySem.W.kitOne K (.ref C_Stopped) (.ref C_NotFinite) = some false)
    (i0_NoWay : PySem.W.kitOne K (.type "NoneType") (.ref C_NoWay) = some false)
    (i_NoWay_MillError : PySem.W.kitOne K (.ref C_MillError) (.ref C_NoWay) = some false)
    (i_NoWay_NoSize : PySem.W.kitOne K (.ref C_NoSize) (.ref C_NoWay) = some false)
    (i_NoWay_NoBits : PySem.W.kitOne K (.ref C_NoBits) (.ref C_NoWay) = some false)
    (i_NoWay_NoParts : PySem.W.kitOne K (.ref C_NoParts) (.ref C_NoWay) = some false)
    (i_NoWay_NoRank : PySem.W.kitOne K (.ref C_NoRank) (.ref C_NoWay) = some false)
    (i_NoWay_NotFinite : PySem.W.kitOne K (.ref C_NotFinite) (.ref C_NoWay) = some false)
    (i_NoWay_NoWay : PySem.W.kitOne K (.ref C_NoWay) (.ref C_NoWay) = some true)
    (i_NoWay_NoFlags : PySem.W.kitOne K (.ref C_NoFlags) (.ref C_NoWay) = some false)
    (i_NoWay_NoFraction : PySem.W.kitOne K (.ref C_NoFraction) (.ref C_NoWay) = some false)
    (i_NoWay_Unlike : PySem.W.kitOne K (.ref C_Unlike) (.ref C_NoWay) = some false)
    (i_NoWay_Empty : PySem.W.kitOne K (.ref C_Empty) (.ref C_NoWay) = some false)
    (i_NoWay_NoLeft : PySem.W.kitOne K (.ref C_NoLeft) (.ref C_NoWay) = some false)
    (i_NoWay_NoText : PySem.W.kitOne K (.ref C_NoText) (.ref C_NoWay) = some false)
    (i_NoWay_NoRow : PySem.W.kitOne K (.ref C_NoRow) (.ref C_NoWay) = some false)
    (i_NoWay_NoName : PySem.W.kitOne K (.ref C_NoName) (.ref C_NoWay) = some false)
    (i_NoWay_Stopped : PySem.W.kitOne K (.ref C_Stopped) (.ref C_NoWay) = some false)
    (i0_NoFlags : PySem.W.kitOne K (.type "NoneType") (.ref C_NoFlags) = some false)
    (i_NoFlags_MillError : PySem.W.kitOne K (.ref C_MillError) (.ref C_NoFlags) = some false)
    (i_NoFlags_NoSize : PySem.W.kitOne K (.ref C_NoSize) (.ref C_NoFlags) = some false)
    (i_NoFlags_NoBits : PySem.W.kitOne K (.ref C_NoBits) (.ref C_NoFlags) = some false)
    (i_NoFlags_NoParts : PySem.W.kitOne K (.ref C_NoParts) (.ref C_NoFlags) = some false)
    (i_NoFlags_NoRank : PySem.W.kitOne K (.ref C_NoRank) (.ref C_NoFlags) = some false)
    (i_NoFlags_NotFinite : PySem.W.kitOne K (.ref C_NotFinite) (.ref C_NoFlags) = some false)
    (i_NoFlags_NoWay : PySem.W.kitOne K (.ref C_NoWay) (.ref C_NoFlags) = some false)
    (i_NoFlags_NoFlags : PySem.W.kitOne K (.ref C_NoFlags) (.ref C_NoFlags) = some true)
    (i_NoFlags_NoFraction : PySem.W.kitOne K (.ref C_NoFraction) (.ref C_NoFlags) = some false)
    (i_NoFlags_Unlike : PySem.W.kitOne K (.ref C_Unlike) (.ref C_NoFlags) = some false)
    (i_NoFlags_Empty : PySem.W.kitOne K (.ref C_Empty) (.ref C_NoFlags) = some false)
    (i_NoFlags_NoLeft : PySem.W.kitOne K (.ref C_NoLeft) (.ref C_NoFlags) = some false)
    (i_NoFlags_NoText : PySem.W.kitOne K (.ref C_NoText) (.ref C_NoFlags) = some false)
    (i_NoFlags_NoRow : PySem.W.kitOne K (.ref C_NoRow) (.ref C_NoFlags) = some false)
    (i_NoFlags_NoName : PySem.W.kitOne K (.ref C_NoName) (.ref C_NoFlags) = some false)
    (i_NoFlags_Stopped : PySem.W.kitOne K (.ref C_Stopped) (.ref C_NoFlags) = some false)
    (i0_NoFraction : PySem.W.kitOne K (.type "NoneType") (.ref C_NoFraction) = some false)
    (i_NoFraction_MillError : PySem.W.kitOne K (.ref C_MillError) (.ref C_NoFraction) = some false)
    (i_NoFraction_NoSize : PySem.W.kitOne K (.ref C_NoSize) (.ref C_NoFraction) = some false)
    (i_NoFraction_NoBits : PySem.W.kitOne K (.ref C_NoBits) (.ref C_NoFraction) = some false)
    (i_NoFraction_NoParts : PySem.W.kitOne K (.ref C_NoParts) (.ref C_NoFraction) = some false)
    (i_NoFraction_NoRank : PySem.W.kitOne K (.ref C_NoRank) (.ref C_NoFraction) = some false)
    (i_NoFraction_NotFinite : PySem.W.kitOne K (.ref C_NotFinite) (.ref C_NoFraction) = some false)
    (i_NoFraction_NoWay : PySem.W.kitOne K (.ref C_NoWay) (.ref C_NoFraction) = some false)
    (i_NoFraction_NoFlags : PySem.W.kitOne K (.ref C_NoFlags) (.ref C_NoFraction) = some false)
    (i_NoFraction_NoFraction : PySem.W.kitOne K (.ref C_NoFraction) (.ref C_NoFraction) = some true)
    (i_NoFraction_Unlike : PySem.W.kitOne K (.ref C_Unlike) (.ref C_NoFraction) = some false)
    (i_NoFraction_Empty : PySem.W.kitOne K (.ref C_Empty) (.ref C_NoFraction) = some false)
    (i_NoFraction_NoLeft : PySem.W.kitOne K (.ref C_NoLeft) (.ref C_NoFraction) = some false)
    (i_NoFraction_NoText : PySem.W.kitOne K (.ref C_NoText) (.ref C_NoFraction) = some false)
    (i_NoFraction_NoRow : PySem.W.kitOne K (.ref C_NoRow) (.ref C_NoFraction) = some false)
    (i_NoFraction_NoName : PySem.W.kitOne K (.ref C_NoName) (.ref C_NoFraction) = some false)
    (i_NoFraction_Stopped : PySem.W.kitOne K (.ref C_Stopped) (.ref C_NoFraction) = some false)
    (i0_Unlike : PySem.W.kitOne K (.type "NoneType") (.ref C_Unlike) = some false)
    (i_Unlike_MillError : PySem.W.kitOne K (.ref C_MillError) (.ref C_Unlike) = some false)
    (i_Unlike_NoSize : PySem.W.kitOne K (.ref C_NoSize) (.ref C_Unlike) = some false)
    (i_Unlike_NoBits : PySem.W.kitOne K (.ref C_NoBits) (.ref C_Unlike) = some false)
    (i_Unlike_NoParts : PySem.W.kitOne K (.ref C_NoParts) (.ref C_Unlike) = some false)
    (i_Unlike_NoRank : PySem.W.kitOne K (.ref C_NoRank) (.ref C_Unlike) = some false)
    (i_Unlike_NotFinite : PySem.W.kitOne K (.ref C_NotFinite) (.ref C_Unlike) = some false)
    (i_Unlike_NoWay : PySem.W.kitOne K (.ref C_NoWay) (.ref C_Unlike) = some false)
    (i_Unlike_NoFlags : PySem.W.kitOne K (.ref C_NoFlags) (.ref C_Unlike) = some false)
    (i_Unlike_NoFraction : PySem.W.kitOne K (.ref C_NoFraction) (.ref C_Unlike) = some false)
    (i_Unlike_Unlike : PySem.W.kitOne K (.ref C_Unlike) (.ref C_Unlike) = some true)
    (i_Unlike_Empty : PySem.W.kitOne K (.ref C_Empty) (.ref C_Unlike) = some false)
    (i_Unlike_NoLeft : PySem.W.kitOne K (.ref C_NoLeft) (.ref C_Unlike) = some false)
    (i_Unlike_NoText : PySem.W.kitOne K (.ref C_NoText) (.ref C_Unlike) = some false)
    (i_Unlike_NoRow : PySem.W.kitOne K (.ref C_NoRow) (.ref C_Unlike) = some false)
    (i_Unlike_NoName : PySem.W.kitOne K (.ref C_NoName) (.ref C_Unlike) = some false)
    (i_Unlike_Stopped : PySem.W.kitOne K (.ref C_Stopped) (.ref C_Unlike) = some false)
    (i0_Empty : PySem.W.kitOne K (.type "NoneType") (.ref C_Empty) = some false)
    (i_Empty_MillError : PySem.W.kitOne K (.ref C_MillError) (.ref C_Empty) = some false)
    (i_Empty_NoSize : PySem.W.kitOne K (.ref C_NoSize) (.ref C_Empty) = some false)
    (i_Empty_NoBits : PySem.W.kitOne K (.ref C_NoBits) (.ref C_Empty) = some false)
    (i_Empty_NoParts : PySem.W.kitOne K (.ref C_NoParts) (.ref C_Empty) = some false)
    (i_Empty_NoRank : PySem.W.kitOne K (.ref C_NoRank) (.ref C_Empty) = some false)
    (i_Empty_NotFinite : PySem.W.kitOne K (.ref C_NotFinite) (.ref C_Empty) = some false)
    (i_Empty_NoWay : PySem.W.kitOne K (.ref C_NoWay) (.ref C_Empty) = some false)
    (i_Empty_NoFlags : PySem.W.kitOne K (.ref C_NoFlags) (.ref C_Empty) = some false)
    (i_Empty_NoFraction : PySem.W.kitOne K (.ref C_NoFraction) (.ref C_Empty) = some false)
    (i_Empty_Unlike : PySem.W.kitOne K (.ref C_Unlike) (.ref C_Empty) = some false)
    (i_Empty_Empty : PySem.W.kitOne K (.ref C_Empty) (.ref C_Empty) = some true)
    (i_Empty_NoLeft : PySem.W.kitOne K (.ref C_NoLeft) (.ref C_Empty) = some false)
    (i_Empty_NoText : PySem.W.kitOne K (.ref C_NoText) (.ref C_Empty) = some false)
    (i_Empty_NoRow : PySem.W.kitOne K (.ref C_NoRow) (.ref C_Empty) = some false)
    (i_Empty_NoName : PySem.W.kitOne K (.ref C_NoName) (.ref C_Empty) = some false)
    (i_Empty_Stopped : PySem.W.kitOne K (.ref C_Stopped) (.ref C_Empty) = some false)
    (i0_NoLeft : PySem.W.kitOne K (.type "NoneType") (.ref C_NoLeft) = some false)
    (i_NoLeft_MillError : PySem.W.kitOne K (.ref C_MillError) (.ref C_NoLeft) = some false)
    (i_NoLeft_NoSize : PySem.W.kitOne K (.ref C_NoSize) (.ref C_NoLeft) = some false)
    (i_NoLeft_NoBits : PySem.W.kitOne K (.ref C_NoBits) (.ref C_NoLeft) = some false)
    (i_NoLeft_NoParts : PySem.W.kitOne K (.ref C_NoParts) (.ref C_NoLeft) = some false)
    (i_NoLeft_NoRank : PySem.W.kitOne K (.ref C_NoRank) (.ref C_NoLeft) = some false)
    (i_NoLeft_NotFinite : PySem.W.kitOne K (.ref C_NotFinite) (.ref C_NoLeft) = some false)
    (i_NoLeft_NoWay : PySem.W.kitOne K (.ref C_NoWay) (.ref C_NoLeft) = some false)
    (i_NoLeft_NoFlags : PySem.W.kitOne K (.ref C_NoFlags) (.ref C_NoLeft) = some false)
    (i_NoLeft_NoFraction : PySem.W.kitOne K (.ref C_NoFraction) (.ref C_NoLeft) = some false)
    (i_NoLeft_Unlike : PySem.W.kitOne K (.ref C_Unlike) (.ref C_NoLeft) = some false)
    (i_NoLeft_Empty : PySem.W.kitOne K (.ref C_Empty) (.ref C_NoLeft) = some false)
    (i_NoLeft_NoLeft : PySem.W.kitOne K (.ref C_NoLeft) (.ref C_NoLeft) = some true)
    (i_NoLeft_NoText : PySem.W.kitOne K (.ref C_NoText) (.ref C_NoLeft) = some false)
    (i_NoLeft_NoRow : PySem.W.kitOne K (.ref C_NoRow) (.ref C_NoLeft) = some false)
    (i_NoLeft_NoName : PySem.W.kitOne K (.ref C_NoName) (.ref C_NoLeft) = some false)
    (i_NoLeft_Stopped : PySem.W.kitOne K (.ref C_Stopped) (.ref C_NoLeft) = some false)
    (i0_NoText : PySem.W.kitOne K (.type "NoneType") (.ref C_NoText) = some false)
    (i_NoText_MillError : PySem.W.kitOne K (.ref C_MillError) (.ref C_NoText) = some false)
    (i_NoText_NoSize : PySem.W.kitOne K (.ref C_NoSize) (.ref C_NoText) = some false)
    (i_NoText_NoBits : PySem.W.kitOne K (.ref C_NoBits) (.ref C_NoText) = some false)
    (i_NoText_NoParts : PySem.W.kitOne K (.ref C_NoParts) (.ref C_NoText) = some false)
    (i_NoText_NoRank : PySem.W.kitOne K (.ref C_NoRank) (.ref C_NoText) = some false)
    (i_NoText_NotFinite : PySem.W.kitOne K (.ref C_NotFinite) (.ref C_NoText) = some false)
    (i_NoText_NoWay : PySem.W.kitOne K (.ref C_NoWay) (.ref C_NoText) = some false)
    (i_NoText_NoFlags : PySem.W.kitOne K (.ref C_NoFlags) (.ref C_NoText) = some false)
    (i_NoText_NoFraction : PySem.W.kitOne K (.ref C_NoFraction) (.ref C_NoText) = some false)
    (i_NoText_Unlike : PySem.W.kitOne K (.ref C_Unlike) (.ref C_NoText) = some false)
    (i_NoText_Empty : PySem.W.kitOne K (.ref C_Empty) (.ref C_NoText) = some false)
    (i_NoText_NoLeft : PySem.W.kitOne K (.ref C_NoLeft) (.ref C_NoText) = some false)
    (i_NoText_NoText : PySem.W.kitOne K (.ref C_NoText) (.ref C_NoText) = some true)
    (i_NoText_NoRow : PySem.W.kitOne K (.ref C_NoRow) (.ref C_NoText) = some false)
    (i_NoText_NoName : PySem.W.kitOne K (.ref C_NoName) (.ref C_NoText) = some false)
    (i_NoText_Stopped : PySem.W.kitOne K (.ref C_Stopped) (.ref C_NoText) = some false)
    (i0_NoRow : PySem.W.kitOne K (.type "NoneType") (.ref C_NoRow) = some false)
    (i_NoRow_MillError : PySem.W.kitOne K (.ref C_MillError) (.ref C_NoRow) = some false)
    (i_NoRow_NoSize : PySem.W.kitOne K (.ref C_NoSize) (.ref C_NoRow) = some false)
    (i_NoRow_NoBits : PySem.W.kitOne K (.ref C_NoBits) (.ref C_NoRow) = some false)
    (i_NoRow_NoParts : PySem.W.kitOne K (.ref C_NoParts) (.ref C_NoRow) = some false)
    (i_NoRow_NoRank : PySem.W.kitOne K (.ref C_NoRank) (.ref C_NoRow) = some false)
    (i_NoRow_NotFinite : PySem.W.kitOne K (.ref C_NotFinite) (.ref C_NoRow) = some false)
    (i_NoRow_NoWay : PySem.W.kitOne K (.ref C_NoWay) (.ref C_NoRow) = some false)
    (i_NoRow_NoFlags : PySem.W.kitOne K (.ref C_NoFlags) (.ref C_NoRow) = some false)
    (i_NoRow_NoFraction : PySem.W.kitOne K (.ref C_NoFraction) (.ref C_NoRow) = some false)
    (i_NoRow_Unlike : PySem.W.kitOne K (.ref C_Unlike) (.ref C_NoRow) = some false)
    (i_NoRow_Empty : PySem.W.kitOne K (.ref C_Empty) (.ref C_NoRow) = some false)
    (i_NoRow_NoLeft : PySem.W.kitOne K (.ref C_NoLeft) (.ref C_NoRow) = some false)
    (i_NoRow_NoText : PySem.W.kitOne K (.ref C_NoText) (.ref C_NoRow) = some false)
    (i_NoRow_NoRow : PySem.W.kitOne K (.ref C_NoRow) (.ref C_NoRow) = some true)
    (i_NoRow_NoName : PySem.W.kitOne K (.ref C_NoName) (.ref C_NoRow) = some false)
    (i_NoRow_Stopped : PySem.W.kitOne K (.ref C_Stopped) (.ref C_NoRow) = some false)
    (i0_NoName : PySem.W.kitOne K (.type "NoneType") (.ref C_NoName) = some false)
    (i_NoName_MillError : PySem.W.kitOne K (.ref C_MillError) (.ref C_NoName) = some false)
    (i_NoName_NoSize : PySem.W.kitOne K (.ref C_NoSize) (.ref C_NoName) = some false)
    (i_NoName_NoBits : PySem.W.kitOne K (.ref C_NoBits) (.ref C_NoName) = some false)
    (i_NoName_NoParts : PySem.W.kitOne K (.ref C_NoParts) (.ref C_NoName) = some false)
    (i_NoName_NoRank : PySem.W.kitOne K (.ref C_NoRank) (.ref C_NoName) = some false)
    (i_NoName_NotFinite : PySem.W.kitOne K (.ref C_NotFinite) (.ref C_NoName) = some false)
    (i_NoName_NoWay : PySem.W.kitOne K (.ref C_NoWay) (.ref C_NoName) = some false)
    (i_NoName_NoFlags : PySem.W.kitOne K (.ref C_NoFlags) (.ref C_NoName) = some false)
    (i_NoName_NoFraction : PySem.W.kitOne K (.ref C_NoFraction) (.ref C_NoName) = some false)
    (i_NoName_Unlike : PySem.W.kitOne K (.ref C_Unlike) (.ref C_NoName) = some false)
    (i_NoName_Empty : PySem.W.kitOne K (.ref C_Empty) (.ref C_NoName) = some false)
    (i_NoName_NoLeft : PySem.W.kitOne K (.ref C_NoLeft) (.ref C_NoName) = some false)
    (i_NoName_NoText : PySem.W.kitOne K (.ref C_NoText) (.ref C_NoName) = some false)
    (i_NoName_NoRow : PySem.W.kitOne K (.ref C_NoRow) (.ref C_NoName) = some false)
    (i_NoName_NoName : PySem.W.kitOne K (.ref C_NoName) (.ref C_NoName) = some true)
    (i_NoName_Stopped : PySem.W.kitOne K (.ref C_Stopped) (.ref C_NoName) = some false)
    (i0_Stopped : PySem.W.kitOne K (.type "NoneType") (.ref C_Stopped) = some false)
    (i_Stopped_MillError : PySem.W.kitOne K (.ref C_MillError) (.ref C_Stopped) = some false)
    (i_Stopped_NoSize : PySem.W.kitOne K (.ref C_NoSize) (.ref C_Stopped) = some false)
    (i_Stopped_NoBits : PySem.W.kitOne K (.ref C_NoBits) (.ref C_Stopped) = some false)
    (i_Stopped_NoParts : PySem.W.kitOne K (.ref C_NoParts) (.ref C_Stopped) = some false)
    (i_Stopped_NoRank : PySem.W.kitOne K (.ref C_NoRank) (.ref C_Stopped) = some false)
    (i_Stopped_NotFinite : PySem.W.kitOne K (.ref C_NotFinite) (.ref C_Stopped) = some false)
    (i_Stopped_NoWay : PySem.W.kitOne K (.ref C_NoWay) (.ref C_Stopped) = some false)
    (i_Stopped_NoFlags : PySem.W.kitOne K (.ref C_NoFlags) (.ref C_Stopped) = some false)
    (i_Stopped_NoFraction : PySem.W.kitOne K (.ref C_NoFraction) (.ref C_Stopped) = some false)
    (i_Stopped_Unlike : PySem.W.kitOne K (.ref C_Unlike) (.ref C_Stopped) = some false)
    (i_Stopped_Empty : PySem.W.kitOne K (.ref C_Empty) (.ref C_Stopped) = some false)
    (i_Stopped_NoLeft : PySem.W.kitOne K (.ref C_NoLeft) (.ref C_Stopped) = some false)
    (i_Stopped_NoText : PySem.W.kitOne K (.ref C_NoText) (.ref C_Stopped) = some false)
    (i_Stopped_NoRow : PySem.W.kitOne K (.ref C_NoRow) (.ref C_Stopped) = some false)
    (i_Stopped_NoName : PySem.W.kitOne K (.ref C_NoName) (.ref C_Stopped) = some false)
    (i_Stopped_Stopped : PySem.W.kitOne K (.ref C_Stopped) (.ref C_Stopped) = some true)
    (i_VE_NoneType : PySem.W.kitOne K (.type "NoneType") (.type "ValueError") = some false)
    (i_VE_bool : PySem.W.kitOne K (.type "bool") (.type "ValueError") = some false)
    (i_VE_int : PySem.W.kitOne K (.type "int") (.type "ValueError") = some false)
    (i_VE_str : PySem.W.kitOne K (.type "str") (.type "ValueError") = some false)
    (i_VE_tuple : PySem.W.kitOne K (.type "tuple") (.type "ValueError") = some false)
    (i_VE_list : PySem.W.kitOne K (.type "list") (.type "ValueError") = some false)
    (i_ValueError_MillError : PySem.W.kitOne K (.ref C_MillError) (.type "ValueError") = some true)
    (i_ValueError_NoSize : PySem.W.kitOne K (.ref C_NoSize) (.type "ValueError") = some true)
    (i_ValueError_NoBits : PySem.W.kitOne K (.ref C_NoBits) (.type "ValueError") = some true)
    (i_ValueError_NoParts : PySem.W.kitOne K (.ref C_NoParts) (.type "ValueError") = some true)
    (i_ValueError_NoRank : PySem.W.kitOne K (.ref C_NoRank) (.type "ValueError") = some true)
    (i_ValueError_NotFinite : PySem.W.kitOne K (.ref C_NotFinite) (.type "ValueError") = some true)
    (i_ValueError_NoWay : PySem.W.kitOne K (.ref C_NoWay) (.type "ValueError") = some true)
    (i_ValueError_NoFlags : PySem.W.kitOne K (.ref C_NoFlags) (.type "ValueError") = some true)
    (i_ValueError_NoFraction : PySem.W.kitOne K (.ref C_NoFraction) (.type "ValueError") = some true)
    (i_ValueError_Unlike : PySem.W.kitOne K (.ref C_Unlike) (.type "ValueError") = some true)
    (i_ValueError_Empty : PySem.W.kitOne K (.ref C_Empty) (.type "ValueError") = some true)
    (i_ValueError_NoLeft : PySem.W.kitOne K (.ref C_NoLeft) (.type "ValueError") = some true)
    (i_ValueError_NoText : PySem.W.kitOne K (.ref C_NoText) (.type "ValueError") = some true)
    (i_ValueError_NoRow : PySem.W.kitOne K (.ref C_NoRow) (.type "ValueError") = some true)
    (i_ValueError_NoName : PySem.W.kitOne K (.ref C_NoName) (.type "ValueError") = some true)
    (i_ValueError_Stopped : PySem.W.kitOne K (.ref C_Stopped) (.type "ValueError") = some true)
    : ∃ fd : FuncData, (∀ (s : Shared) (v : Value), BindsTo s fd ⟨[v], []⟩ [("_law_script", v)]) ∧ ∀ base : Heap, K.In base → base.Ns mainGlobals mg → FnOk P w K mg base (CXF P w) 8 fa fd ["_law_script"] (spP K mg p_law) := by
  have e := hfa.symm.trans (PySem.W.mg_of KX GG a28)
  cases e
  have m_len := PySem.W.mg_none_of KX GG z_len
  have m_isinstance := PySem.W.mg_none_of KX GG z_isinstance
  have m_ValueError := PySem.W.mg_none_of KX GG z_ValueError
  have m_int := PySem.W.mg_none_of KX GG z_int
  have m_sum := PySem.W.mg_none_of KX GG z_sum
  have m_range := PySem.W.mg_none_of KX GG z_range
  have q_MillError := PySem.W.mg_of KX GG n_MillError
  have q_NoSize := PySem.W.mg_of KX GG n_NoSize
  have q_NoBits := PySem.W.mg_of KX GG n_NoBits
  have q_NoParts := PySem.W.mg_of KX GG n_NoParts
  have q_NoRank := PySem.W.mg_of KX GG n_NoRank
  have q_NotFinite := PySem.W.mg_of KX GG n_NotFinite
  have q_NoWay := PySem.W.mg_of KX GG n_NoWay
  have q_NoFlags := PySem.W.mg_of KX GG n_NoFlags
  have q_NoFraction := PySem.W.mg_of KX GG n_NoFraction
  have q_Unlike := PySem.W.mg_of KX GG n_Unlike
  have q_Empty := PySem.W.mg_of KX GG n_Empty
  have q_NoLeft := PySem.W.mg_of KX GG n_NoLeft
  have q_NoText := PySem.W.mg_of KX GG n_NoText
  have q_NoRow := PySem.W.mg_of KX GG n_NoRow
  have q_NoName := PySem.W.mg_of KX GG n_NoName
  have q_Stopped := PySem.W.mg_of KX GG n_Stopped
  have hXF : ∀ n ∈ excNames, XF K mg n := all16
    ⟨.inr ⟨_, q_MillError, v_MillError⟩⟩
    ⟨.inr ⟨_, q_NoSize, v_NoSize⟩⟩
    ⟨.inr ⟨_, q_NoBits, v_NoBits⟩⟩
    ⟨.inr ⟨_, q_NoParts, v_NoParts⟩⟩
    ⟨.inr ⟨_, q_NoRank, v_NoRank⟩⟩
    ⟨.inr ⟨_, q_NotFinite, v_NotFinite⟩⟩
    ⟨.inr ⟨_, q_NoWay, v_NoWay⟩⟩
    ⟨.inr ⟨_, q_NoFlags, v_NoFlags⟩⟩
    ⟨.inr ⟨_, q_NoFraction, v_NoFraction⟩⟩
    ⟨.inr ⟨_, q_Unlike, v_Unlike⟩⟩
    ⟨.inr ⟨_, q_Empty, v_Empty⟩⟩
    ⟨.inr ⟨_, q_NoLeft, v_NoLeft⟩⟩
    ⟨.inr ⟨_, q_NoText, v_NoText⟩⟩
    ⟨.inr ⟨_, q_NoRow, v_NoRow⟩⟩
    ⟨.inr ⟨_, q_NoName, v_NoName⟩⟩
    ⟨.inr ⟨_, q_Stopped, v_Stopped⟩⟩
  have hct_MillError : ∀ n ∈ excNames, exSub n "MillError" = true → CF K mg C_MillError n := all16 (P := fun n => exSub n "MillError" = true → CF K mg C_MillError n)
    (fun _ => ⟨.inr ⟨_, q_MillError, r_MillError_MillError⟩⟩)
    (fun _ => ⟨.inr ⟨_, q_NoSize, r_MillError_NoSize⟩⟩)
    (fun _ => ⟨.inr ⟨_, q_NoBits, r_MillError_NoBits⟩⟩)
    (fun _ => ⟨.inr ⟨_, q_NoParts, r_MillError_NoParts⟩⟩)
    (fun _ => ⟨.inr ⟨_, q_NoRank, r_MillError_NoRank⟩⟩)
    (fun _ => ⟨.inr ⟨_, q_NotFinite, r_MillError_NotFinite⟩⟩)
    (fun _ => ⟨.inr ⟨_, q_NoWay, r_MillError_NoWay⟩⟩)
    (fun _ => ⟨.inr ⟨_, q_NoFlags, r_MillError_NoFlags⟩⟩)
    (fun _ => ⟨.inr ⟨_, q_NoFraction, r_MillError_NoFraction⟩⟩)
    (fun _ => ⟨.inr ⟨_, q_Unlike, r_MillError_Unlike⟩⟩)
    (fun _ => ⟨.inr ⟨_, q_Empty, r_MillError_Empty⟩⟩)
    (fun _ => ⟨.inr ⟨_, q_NoLeft, r_MillError_NoLeft⟩⟩)
    (fun _ => ⟨.inr ⟨_, q_NoText, r_MillError_NoText⟩⟩)
    (fun _ => ⟨.inr ⟨_, q_NoRow, r_MillError_NoRow⟩⟩)
    (fun _ => ⟨.inr ⟨_, q_NoName, r_MillError_NoName⟩⟩)
    (fun _ => ⟨.inr ⟨_, q_Stopped, r_MillError_Stopped⟩⟩)
  have hisi_NoSize : ∀ n ∈ excNames, IF K mg (.ref C_NoSize) (n == "NoSize" || "NoSize" == "MillError") n := all16 (P := fun n => IF K mg (.ref C_NoSize) (n == "NoSize" || "NoSize" == "MillError") n)
    ⟨.inr ⟨_, q_MillError, i_NoSize_MillError⟩⟩
    ⟨.inr ⟨_, q_NoSize, i_NoSize_NoSize⟩⟩
    ⟨.inr ⟨_, q_NoBits, i_NoSize_NoBits⟩⟩
    ⟨.inr ⟨_, q_NoParts, i_NoSize_NoParts⟩⟩
    ⟨.inr ⟨_, q_NoRank, i_NoSize_NoRank⟩⟩
    ⟨.inr ⟨_, q_NotFinite, i_NoSize_NotFinite⟩⟩
    ⟨.inr ⟨_, q_NoWay, i_NoSize_NoWay⟩⟩
    ⟨.inr ⟨_, q_NoFlags, i_NoSize_NoFlags⟩⟩
    ⟨.inr ⟨_, q_NoFraction, i_NoSize_NoFraction⟩⟩
    ⟨.inr ⟨_, q_Unlike, i_NoSize_Unlike⟩⟩
    ⟨.inr ⟨_, q_Empty, i_NoSize_Empty⟩⟩
    ⟨.inr ⟨_, q_NoLeft, i_NoSize_NoLeft⟩⟩
    ⟨.inr ⟨_, q_NoText, i_NoSize_NoText⟩⟩
    ⟨.inr ⟨_, q_NoRow, i_NoSize_NoRow⟩⟩
    ⟨.inr ⟨_, q_NoName, i_NoSize_NoName⟩⟩
    ⟨.inr ⟨_, q_Stopped, i_NoSize_Stopped⟩⟩
  have hisi_NoBits : ∀ n ∈ excNames, IF K mg (.ref C_NoBits) (n == "NoBits" || "NoBits" == "MillError") n := all16 (P := fun n => IF K mg (.ref C_NoBits) (n == "NoBits" || "NoBits" == "MillError") n)
    ⟨.inr ⟨_, q_MillError, i_NoBits_MillError⟩⟩
    ⟨.inr ⟨_, q_NoSize, i_NoBits_NoSize⟩⟩
    ⟨.inr ⟨_, q_NoBits, i_NoBits_NoBits⟩⟩
    ⟨.inr ⟨_, q_NoParts, i_NoBits_NoParts⟩⟩
    ⟨.inr ⟨_, q_NoRank, i_NoBits_NoRank⟩⟩
    ⟨.inr ⟨_, q_NotFinite, i_NoBits_NotFinite⟩⟩
    ⟨.inr ⟨_, q_NoWay, i_NoBits_NoWay⟩⟩
    ⟨.inr ⟨_, q_NoFlags, i_NoBits_NoFlags⟩⟩
    ⟨.inr ⟨_, q_NoFraction, i_NoBits_NoFraction⟩⟩
    ⟨.inr ⟨_, q_Unlike, i_NoBits_Unlike⟩⟩
    ⟨.inr ⟨_, q_Empty, i_NoBits_Empty⟩⟩
    ⟨.inr ⟨_, q_NoLeft, i_NoBits_NoLeft⟩⟩
    ⟨.inr ⟨_, q_NoText, i_NoBits_NoText⟩⟩
    ⟨.inr ⟨_, q_NoRow, i_NoBits_NoRow⟩⟩
    ⟨.inr ⟨_, q_NoName, i_NoBits_NoName⟩⟩
    ⟨.inr ⟨_, q_Stopped, i_NoBits_Stopped⟩⟩
  have hisi_NoParts : ∀ n ∈ excNames, IF K mg (.ref C_NoParts) (n == "NoParts" || "NoParts" == "MillError") n := all16 (P := fun n => IF K mg (.ref C_NoParts) (n == "NoParts" || "NoParts" == "MillError") n)
    ⟨.inr ⟨_, q_MillError, i_NoParts_MillError⟩⟩
    ⟨.inr ⟨_, q_NoSize, i_NoParts_NoSize⟩⟩
    ⟨.inr ⟨_, q_NoBits, i_NoParts_NoBits⟩⟩
    ⟨.inr ⟨_, q_NoParts, i_NoParts_NoParts⟩⟩
    ⟨.inr ⟨_, q_NoRank, i_NoParts_NoRank⟩⟩
    ⟨.inr ⟨_, q_NotFinite, i_NoParts_NotFinite⟩⟩
    ⟨.inr ⟨_, q_NoWay, i_NoParts_NoWay⟩⟩
    ⟨.inr ⟨_, q_NoFlags, i_NoParts_NoFlags⟩⟩
    ⟨.inr ⟨_, q_NoFraction, i_NoParts_NoFraction⟩⟩
    ⟨.inr ⟨_, q_Unlike, i_NoParts_Unlike⟩⟩
    ⟨.inr ⟨_, q_Empty, i_NoParts_Empty⟩⟩
    ⟨.inr ⟨_, q_NoLeft, i_NoParts_NoLeft⟩⟩
    ⟨.inr ⟨_, q_NoText, i_NoParts_NoText⟩⟩
    ⟨.inr ⟨_, q_NoRow, i_NoParts_NoRow⟩⟩
    ⟨.inr ⟨_, q_NoName, i_NoParts_NoName⟩⟩
    ⟨.inr ⟨_, q_Stopped, i_NoParts_Stopped⟩⟩
  have hisi_NoRank : ∀ n ∈ excNames, IF K mg (.ref C_NoRank) (n == "NoRank" || "NoRank" == "MillError") n := all16 (P := fun n => IF K mg (.ref C_NoRank) (n == "NoRank" || "NoRank" == "MillError") n)
    ⟨.inr ⟨_, q_MillError, i_NoRank_MillError⟩⟩
    ⟨.inr ⟨_, q_NoSize, i_NoRank_NoSize⟩⟩
    ⟨.inr ⟨_, q_NoBits, i_NoRank_NoBits⟩⟩
    ⟨.inr ⟨_, q_NoParts, i_NoRank_NoParts⟩⟩
    ⟨.inr ⟨_, q_NoRank, i_NoRank_NoRank⟩⟩
    ⟨.inr ⟨_, q_NotFinite, i_NoRank_NotFinite⟩⟩
    ⟨.inr ⟨_, q_NoWay, i_NoRank_NoWay⟩⟩
    ⟨.inr ⟨_, q_NoFlags, i_NoRank_NoFlags⟩⟩
    ⟨.inr ⟨_, q_NoFraction, i_NoRank_NoFraction⟩⟩
    ⟨.inr ⟨_, q_Unlike, i_NoRank_Unlike⟩⟩
    ⟨.inr ⟨_, q_Empty, i_NoRank_Empty⟩⟩
    ⟨.inr ⟨_, q_NoLeft, i_NoRank_NoLeft⟩⟩
    ⟨.inr ⟨_, q_NoText, i_NoRank_NoText⟩⟩
    ⟨.inr ⟨_, q_NoRow, i_NoRank_NoRow⟩⟩
    ⟨.inr ⟨_, q_NoName, i_NoRank_NoName⟩⟩
    ⟨.inr ⟨_, q_Stopped, i_NoRank_Stopped⟩⟩
  have hisi_NotFinite : ∀ n ∈ excNames, IF K mg (.ref C_NotFinite) (n == "NotFinite" || "NotFinite" == "MillError") n := all16 (P := fun n => IF K mg (.ref C_NotFinite) (n == "NotFinite" || "NotFinite" == "MillError") n)
    ⟨.inr ⟨_, q_MillError, i_NotFinite_MillError⟩⟩
    ⟨.inr ⟨_, q_NoSize, i_NotFinite_NoSize⟩⟩
    ⟨.inr ⟨_, q_NoBits, i_NotFinite_NoBits⟩⟩
    ⟨.inr ⟨_, q_NoParts, i_NotFinite_NoParts⟩⟩
    ⟨.inr ⟨_, q_NoRank, i_NotFinite_NoRank⟩⟩
    ⟨.inr ⟨_, q_NotFinite, i_NotFinite_NotFinite⟩⟩
    ⟨.inr ⟨_, q_NoWay, i_NotFinite_NoWay⟩⟩
    ⟨.inr ⟨_, q_NoFlags, i_NotFinite_NoFlags⟩⟩
    ⟨.inr ⟨_, q_NoFraction, i_NotFinite_NoFraction⟩⟩
    ⟨.inr ⟨_, q_Unlike, i_NotFinite_Unlike⟩⟩
    ⟨.inr ⟨_, q_Empty, i_NotFinite_Empty⟩⟩
    ⟨.inr ⟨_, q_NoLeft, i_NotFinite_NoLeft⟩⟩
    ⟨.inr ⟨_, q_NoText, i_NotFinite_NoText⟩⟩
    ⟨.inr ⟨_, q_NoRow, i_NotFinite_NoRow⟩⟩
    ⟨.inr ⟨_, q_NoName, i_NotFinite_NoName⟩⟩
    ⟨.inr ⟨_, q_Stopped, i_NotFinite_Stopped⟩⟩
  have hisi_NoWay : ∀ n ∈ excNames, IF K mg (.ref C_NoWay) (n == "NoWay" || "NoWay" == "MillError") n := all16 (P := fun n => IF K mg (.ref C_NoWay) (n == "NoWay" || "NoWay" == "MillError") n)
    ⟨.inr ⟨_, q_MillError, i_NoWay_MillError⟩⟩
    ⟨.inr ⟨_, q_NoSize, i_NoWay_NoSize⟩⟩
    ⟨.inr ⟨_, q_NoBits, i_NoWay_NoBits⟩⟩
    ⟨.inr ⟨_, q_NoParts, i_NoWay_NoParts⟩⟩
    ⟨.inr ⟨_, q_NoRank, i_NoWay_NoRank⟩⟩
    ⟨.inr ⟨_, q_NotFinite, i_NoWay_NotFinite⟩⟩
    ⟨.inr ⟨_, q_NoWay, i_NoWay_NoWay⟩⟩
    ⟨.inr ⟨_, q_NoFlags, i_NoWay_NoFlags⟩⟩
    ⟨.inr ⟨_, q_NoFraction, i_NoWay_NoFraction⟩⟩
    ⟨.inr ⟨_, q_Unlike, i_NoWay_Unlike⟩⟩
    ⟨.inr ⟨_, q_Empty, i_NoWay_Empty⟩⟩
    ⟨.inr ⟨_, q_NoLeft, i_NoWay_NoLeft⟩⟩
    ⟨.inr ⟨_, q_NoText, i_NoWay_NoText⟩⟩
    ⟨.inr ⟨_, q_NoRow, i_NoWay_NoRow⟩⟩
    ⟨.inr ⟨_, q_NoName, i_NoWay_NoName⟩⟩
    ⟨.inr ⟨_, q_Stopped, i_NoWay_Stopped⟩⟩
  have hisi_NoFlags : ∀ n ∈ excNames, IF K mg (.ref C_NoFlags) (n == "NoFlags" || "NoFlags" == "MillError") n := all16 (P := fun n => IF K mg (.ref C_NoFlags) (n == "NoFlags" || "NoFlags" == "MillError") n)
    ⟨.inr ⟨_, q_MillError, i_NoFlags_MillError⟩⟩
    ⟨.inr ⟨_, q_NoSize, i_NoFlags_NoSize⟩⟩
    ⟨.inr ⟨_, q_NoBits, i_NoFlags_NoBits⟩⟩
    ⟨.inr ⟨_, q_NoParts, i_NoFlags_NoParts⟩⟩
    ⟨.inr ⟨_, q_NoRank, i_NoFlags_NoRank⟩⟩
    ⟨.inr ⟨_, q_NotFinite, i_NoFlags_NotFinite⟩⟩
    ⟨.inr ⟨_, q_NoWay, i_NoFlags_NoWay⟩⟩
    ⟨.inr ⟨_, q_NoFlags, i_NoFlags_NoFlags⟩⟩
    ⟨.inr ⟨_, q_NoFraction, i_NoFlags_NoFraction⟩⟩
    ⟨.inr ⟨_, q_Unlike, i_NoFlags_Unlike⟩⟩
    ⟨.inr ⟨_, q_Empty, i_NoFlags_Empty⟩⟩
    ⟨.inr ⟨_, q_NoLeft, i_NoFlags_NoLeft⟩⟩
    ⟨.inr ⟨_, q_NoText, i_NoFlags_NoText⟩⟩
    ⟨.inr ⟨_, q_NoRow, i_NoFlags_NoRow⟩⟩
    ⟨.inr ⟨_, q_NoName, i_NoFlags_NoName⟩⟩
    ⟨.inr ⟨_, q_Stopped, i_NoFlags_Stopped⟩⟩
  have hisi_NoFraction : ∀ n ∈ excNames, IF K mg (.ref C_NoFraction) (n == "NoFraction" || "NoFraction" == "MillError") n := all16 (P := fun n => IF K mg (.ref C_NoFraction) (n == "NoFraction" || "NoFraction" == "MillError") n)
    ⟨.inr ⟨_, q_MillError, i_NoFraction_MillError⟩⟩
    ⟨.inr ⟨_, q_NoSize, i_NoFraction_NoSize⟩⟩
    ⟨.inr ⟨_, q_NoBits, i_NoFraction_NoBits⟩⟩
    ⟨.inr ⟨_, q_NoParts, i_NoFraction_NoParts⟩⟩
    ⟨.inr ⟨_, q_NoRank, i_NoFraction_NoRank⟩⟩
    ⟨.inr ⟨_, q_NotFinite, i_NoFraction_NotFinite⟩⟩
    ⟨.inr ⟨_, q_NoWay, i_NoFraction_NoWay⟩⟩
    ⟨.inr ⟨_, q_NoFlags, i_NoFraction_NoFlags⟩⟩
    ⟨.inr ⟨_, q_NoFraction, i_NoFraction_NoFraction⟩⟩
    ⟨.inr ⟨_, q_Unlike, i_NoFraction_Unlike⟩⟩
    ⟨.inr ⟨_, q_Empty, i_NoFraction_Empty⟩⟩
    ⟨.inr ⟨_, q_NoLeft, i_NoFraction_NoLeft⟩⟩
    ⟨.inr ⟨_, q_NoText, i_NoFraction_NoText⟩⟩
    ⟨.inr ⟨_, q_NoRow, i_NoFraction_NoRow⟩⟩
    ⟨.inr ⟨_, q_NoName, i_NoFraction_NoName⟩⟩
    ⟨.inr ⟨_, q_Stopped, i_NoFraction_Stopped⟩⟩
  have hisi_Unlike : ∀ n ∈ excNames, IF K mg (.ref C_Unlike) (n == "Unlike" || "Unlike" == "MillError") n := all16 (P := fun n => IF K mg (.ref C_Unlike) (n == "Unlike" || "Unlike" == "MillError") n)
    ⟨.inr ⟨_, q_MillError, i_Unlike_MillError⟩⟩
    ⟨.inr ⟨_, q_NoSize, i_Unlike_NoSize⟩⟩
    ⟨.inr ⟨_, q_NoBits, i_Unlike_NoBits⟩⟩
    ⟨.inr ⟨_, q_NoParts, i_Unlike_NoParts⟩⟩
    ⟨.inr ⟨_, q_NoRank, i_Unlike_NoRank⟩⟩
    ⟨.inr ⟨_, q_NotFinite, i_Unlike_NotFinite⟩⟩
    ⟨.inr ⟨_, q_NoWay, i_Unlike_NoWay⟩⟩
    ⟨.inr ⟨_, q_NoFlags, i_Unlike_NoFlags⟩⟩
    ⟨.inr ⟨_, q_NoFraction, i_Unlike_NoFraction⟩⟩
    ⟨.inr ⟨_, q_Unlike, i_Unlike_Unlike⟩⟩
    ⟨.inr ⟨_, q_Empty, i_Unlike_Empty⟩⟩
    ⟨.inr ⟨_, q_NoLeft, i_Unlike_NoLeft⟩⟩
    ⟨.inr ⟨_, q_NoText, i_Unlike_NoText⟩⟩
    ⟨.inr ⟨_, q_NoRow, i_Unlike_NoRow⟩⟩
    ⟨.inr ⟨_, q_NoName, i_Unlike_NoName⟩⟩
    ⟨.inr ⟨_, q_Stopped, i_Unlike_Stopped⟩⟩
  have hisi_Empty : ∀ n ∈ excNames, IF K mg (.ref C_Empty) (n == "Empty" || "Empty" == "MillError") n := all16 (P := fun n => IF K mg (.ref C_Empty) (n == "Empty" || "Empty" == "MillError") n)
    ⟨.inr ⟨_, q_MillError, i_Empty_MillError⟩⟩
    ⟨.inr ⟨_, q_NoSize, i_Empty_NoSize⟩⟩
    ⟨.inr ⟨_, q_NoBits, i_Empty_NoBits⟩⟩
    ⟨.inr ⟨_, q_NoParts, i_Empty_NoParts⟩⟩
    ⟨.inr ⟨_, q_NoRank, i_Empty_NoRank⟩⟩
    ⟨.inr ⟨_, q_NotFinite, i_Empty_NotFinite⟩⟩
    ⟨.inr ⟨_, q_NoWay, i_Empty_NoWay⟩⟩
    ⟨.inr ⟨_, q_NoFlags, i_Empty_NoFlags⟩⟩
    ⟨.inr ⟨_, q_NoFraction, i_Empty_NoFraction⟩⟩
    ⟨.inr ⟨_, q_Unlike, i_Empty_Unlike⟩⟩
    ⟨.inr ⟨_, q_Empty, i_Empty_Empty⟩⟩
    ⟨.inr ⟨_, q_NoLeft, i_Empty_NoLeft⟩⟩
    ⟨.inr ⟨_, q_NoText, i_Empty_NoText⟩⟩
    ⟨.inr ⟨_, q_NoRow, i_Empty_NoRow⟩⟩
    ⟨.inr ⟨_, q_NoName, i_Empty_NoName⟩⟩
    ⟨.inr ⟨_, q_Stopped, i_Empty_Stopped⟩⟩
  have hisi_NoLeft : ∀ n ∈ excNames, IF K mg (.ref C_NoLeft) (n == "NoLeft" || "NoLeft" == "MillError") n := all16 (P := fun n => IF K mg (.ref C_NoLeft) (n == "NoLeft" || "NoLeft" == "MillError") n)
    ⟨.inr ⟨_, q_MillError, i_NoLeft_MillError⟩⟩
    ⟨.inr ⟨_, q_NoSize, i_NoLeft_NoSize⟩⟩
    ⟨.inr ⟨_, q_NoBits, i_NoLeft_NoBits⟩⟩
    ⟨.inr ⟨_, q_NoParts, i_NoLeft_NoParts⟩⟩
    ⟨.inr ⟨_, q_NoRank, i_NoLeft_NoRank⟩⟩
    ⟨.inr ⟨_, q_NotFinite, i_NoLeft_NotFinite⟩⟩
    ⟨.inr ⟨_, q_NoWay, i_NoLeft_NoWay⟩⟩
    ⟨.inr ⟨_, q_NoFlags, i_NoLeft_NoFlags⟩⟩
    ⟨.inr ⟨_, q_NoFraction, i_NoLeft_NoFraction⟩⟩
    ⟨.inr ⟨_, q_Unlike, i_NoLeft_Unlike⟩⟩
    ⟨.inr ⟨_, q_Empty, i_NoLeft_Empty⟩⟩
    ⟨.inr ⟨_, q_NoLeft, i_NoLeft_NoLeft⟩⟩
    ⟨.inr ⟨_, q_NoText, i_NoLeft_NoText⟩⟩
    ⟨.inr ⟨_, q_NoRow, i_NoLeft_NoRow⟩⟩
    ⟨.inr ⟨_, q_NoName, i_NoLeft_NoName⟩⟩
    ⟨.inr ⟨_, q_Stopped, i_NoLeft_Stopped⟩⟩
  have hisi_NoText : ∀ n ∈ excNames, IF K mg (.ref C_NoText) (n == "NoText" || "NoText" == "MillError") n := all16 (P := fun n => IF K mg (.ref C_NoText) (n == "NoText" || "NoText" == "MillError") n)
    ⟨.inr ⟨_, q_MillError, i_NoText_MillError⟩⟩
    ⟨.inr ⟨_, q_NoSize, i_NoText_NoSize⟩⟩
    ⟨.inr ⟨_, q_NoBits, i_NoText_NoBits⟩⟩
    ⟨.inr ⟨_, q_NoParts, i_NoText_NoParts⟩⟩
    ⟨.inr ⟨_, q_NoRank, i_NoText_NoRank⟩⟩
    ⟨.inr ⟨_, q_NotFinite, i_NoText_NotFinite⟩⟩
    ⟨.inr ⟨_, q_NoWay, i_NoText_NoWay⟩⟩
    ⟨.inr ⟨_, q_NoFlags, i_NoText_NoFlags⟩⟩
    ⟨.inr ⟨_, q_NoFraction, i_NoText_NoFraction⟩⟩
    ⟨.inr ⟨_, q_Unlike, i_NoText_Unlike⟩⟩
    ⟨.inr ⟨_, q_Empty, i_NoText_Empty⟩⟩
    ⟨.inr ⟨_, q_NoLeft, i_NoText_NoLeft⟩⟩
    ⟨.inr ⟨_, q_NoText, i_NoText_NoText⟩⟩
    ⟨.inr ⟨_, q_NoRow, i_NoText_NoRow⟩⟩
    ⟨.inr ⟨_, q_NoName, i_NoText_NoName⟩⟩
    ⟨.inr ⟨_, q_Stopped, i_NoText_Stopped⟩⟩
  have hisi_NoRow : ∀ n ∈ excNames, IF K mg (.ref C_NoRow) (n == "NoRow" || "NoRow" == "MillError") n := all16 (P := fun n => IF K mg (.ref C_NoRow) (n == "NoRow" || "NoRow" == "MillError") n)
    ⟨.inr ⟨_, q_MillError, i_NoRow_MillError⟩⟩
    ⟨.inr ⟨_, q_NoSize, i_NoRow_NoSize⟩⟩
    ⟨.inr ⟨_, q_NoBits, i_NoRow_NoBits⟩⟩
    ⟨.inr ⟨_, q_NoParts, i_NoRow_NoParts⟩⟩
    ⟨.inr ⟨_, q_NoRank, i_NoRow_NoRank⟩⟩
    ⟨.inr ⟨_, q_NotFinite, i_NoRow_NotFinite⟩⟩
    ⟨.inr ⟨_, q_NoWay, i_NoRow_NoWay⟩⟩
    ⟨.inr ⟨_, q_NoFlags, i_NoRow_NoFlags⟩⟩
    ⟨.inr ⟨_, q_NoFraction, i_NoRow_NoFraction⟩⟩
    ⟨.inr ⟨_, q_Unlike, i_NoRow_Unlike⟩⟩
    ⟨.inr ⟨_, q_Empty, i_NoRow_Empty⟩⟩
    ⟨.inr ⟨_, q_NoLeft, i_NoRow_NoLeft⟩⟩
    ⟨.inr ⟨_, q_NoText, i_NoRow_NoText⟩⟩
    ⟨.inr ⟨_, q_NoRow, i_NoRow_NoRow⟩⟩
    ⟨.inr ⟨_, q_NoName, i_NoRow_NoName⟩⟩
    ⟨.inr ⟨_, q_Stopped, i_NoRow_Stopped⟩⟩
  have hisi_NoName : ∀ n ∈ excNames, IF K mg (.ref C_NoName) (n == "NoName" || "NoName" == "MillError") n := all16 (P := fun n => IF K mg (.ref C_NoName) (n == "NoName" || "NoName" == "MillError") n)
    ⟨.inr ⟨_, q_MillError, i_NoName_MillError⟩⟩
    ⟨.inr ⟨_, q_NoSize, i_NoName_NoSize⟩⟩
    ⟨.inr ⟨_, q_NoBits, i_NoName_NoBits⟩⟩
    ⟨.inr ⟨_, q_NoParts, i_NoName_NoParts⟩⟩
    ⟨.inr ⟨_, q_NoRank, i_NoName_NoRank⟩⟩
    ⟨.inr ⟨_, q_NotFinite, i_NoName_NotFinite⟩⟩
    ⟨.inr ⟨_, q_NoWay, i_NoName_NoWay⟩⟩
    ⟨.inr ⟨_, q_NoFlags, i_NoName_NoFlags⟩⟩
    ⟨.inr ⟨_, q_NoFraction, i_NoName_NoFraction⟩⟩
    ⟨.inr ⟨_, q_Unlike, i_NoName_Unlike⟩⟩
    ⟨.inr ⟨_, q_Empty, i_NoName_Empty⟩⟩
    ⟨.inr ⟨_, q_NoLeft, i_NoName_NoLeft⟩⟩
    ⟨.inr ⟨_, q_NoText, i_NoName_NoText⟩⟩
    ⟨.inr ⟨_, q_NoRow, i_NoName_NoRow⟩⟩
    ⟨.inr ⟨_, q_NoName, i_NoName_NoName⟩⟩
    ⟨.inr ⟨_, q_Stopped, i_NoName_Stopped⟩⟩
  have hisi_Stopped : ∀ n ∈ excNames, IF K mg (.ref C_Stopped) (n == "Stopped" || "Stopped" == "MillError") n := all16 (P := fun n => IF K mg (.ref C_Stopped) (n == "Stopped" || "Stopped" == "MillError") n)
    ⟨.inr ⟨_, q_MillError, i_Stopped_MillError⟩⟩
    ⟨.inr ⟨_, q_NoSize, i_Stopped_NoSize⟩⟩
    ⟨.inr ⟨_, q_NoBits, i_Stopped_NoBits⟩⟩
    ⟨.inr ⟨_, q_NoParts, i_Stopped_NoParts⟩⟩
    ⟨.inr ⟨_, q_NoRank, i_Stopped_NoRank⟩⟩
    ⟨.inr ⟨_, q_NotFinite, i_Stopped_NotFinite⟩⟩
    ⟨.inr ⟨_, q_NoWay, i_Stopped_NoWay⟩⟩
    ⟨.inr ⟨_, q_NoFlags, i_Stopped_NoFlags⟩⟩
    ⟨.inr ⟨_, q_NoFraction, i_Stopped_NoFraction⟩⟩
    ⟨.inr ⟨_, q_Unlike, i_Stopped_Unlike⟩⟩
    ⟨.inr ⟨_, q_Empty, i_Stopped_Empty⟩⟩
    ⟨.inr ⟨_, q_NoLeft, i_Stopped_NoLeft⟩⟩
    ⟨.inr ⟨_, q_NoText, i_Stopped_NoText⟩⟩
    ⟨.inr ⟨_, q_NoRow, i_Stopped_NoRow⟩⟩
    ⟨.inr ⟨_, q_NoName, i_Stopped_NoName⟩⟩
    ⟨.inr ⟨_, q_Stopped, i_Stopped_Stopped⟩⟩
  have hisi_ValueError : ∀ n ∈ excNames, IF K mg (.type "ValueError") true n := all16
    ⟨.inr ⟨_, q_MillError, i_ValueError_MillError⟩⟩
    ⟨.inr ⟨_, q_NoSize, i_ValueError_NoSize⟩⟩
    ⟨.inr ⟨_, q_NoBits, i_ValueError_NoBits⟩⟩
    ⟨.inr ⟨_, q_NoParts, i_ValueError_NoParts⟩⟩
    ⟨.inr ⟨_, q_NoRank, i_ValueError_NoRank⟩⟩
    ⟨.inr ⟨_, q_NotFinite, i_ValueError_NotFinite⟩⟩
    ⟨.inr ⟨_, q_NoWay, i_ValueError_NoWay⟩⟩
    ⟨.inr ⟨_, q_NoFlags, i_ValueError_NoFlags⟩⟩
    ⟨.inr ⟨_, q_NoFraction, i_ValueError_NoFraction⟩⟩
    ⟨.inr ⟨_, q_Unlike, i_ValueError_Unlike⟩⟩
    ⟨.inr ⟨_, q_Empty, i_ValueError_Empty⟩⟩
    ⟨.inr ⟨_, q_NoLeft, i_ValueError_NoLeft⟩⟩
    ⟨.inr ⟨_, q_NoText, i_ValueError_NoText⟩⟩
    ⟨.inr ⟨_, q_NoRow, i_ValueError_NoRow⟩⟩
    ⟨.inr ⟨_, q_NoName, i_ValueError_NoName⟩⟩
    ⟨.inr ⟨_, q_Stopped, i_ValueError_Stopped⟩⟩
  refine ⟨PySem.W.fnOf "law" "law" (defArgs s_law) (defBody s_law) (defScope s_law) .none kV28 dc28 pm28 an28 cd28 ct28, fun s v => .of_eq rfl, fun base _ _ => ?_⟩
  have F1 := fun_mk (st := s_law_size_by) l1 e1 k1
  have B1 := binds1 (ps := ["_law_cell"]) F1 rfl fun _ _ _ _ _ _ _ => rfl
  have D1 : FnP P w K mg base "_law_size_by" 1 p_law_size_by := by
    refine fn_def (fn_ok2 (k := 0) F1 sc_law_size_by rfl rfl fun X hr L O Pl hS => ?_) k1 (PySem.W.mg_of KX GG a1) B1
    exact b_law_size_by (X := at5 X P w K mg base) hr L O Pl hS 
  have F2 := fun_mk (st := s_law_cell_at) l2 e2 k2
  have B2 := binds2 (ps := ["_law_script", "_law_k"]) F2 rfl fun _ _ _ _ _ _ _ _ => rfl
  have D2 : FnP P w K mg base "_law_cell_at" 1 p_law_cell_at := by
    refine fn_def (fn_ok2 (k := 0) F2 sc_law_cell_at rfl rfl fun X hr L O Pl hS => ?_) k2 (PySem.W.mg_of KX GG a2) B2
    exact b_law_cell_at (X := at5 X P w K mg base) hr L O Pl hS m_len
  have F3 := fun_mk (st := s_law_bits_by) l3 e3 k3
  have B3 := binds2 (ps := ["_law_size", "_law_cell"]) F3 rfl fun _ _ _ _ _ _ _ _ => rfl
  have D3 : FnP P w K mg base "_law_bits_by" 1 p_law_bits_by := by
    refine fn_def (fn_ok2 (k := 0) F3 sc_law_bits_by rfl rfl fun X hr L O Pl hS => ?_) k3 (PySem.W.mg_of KX GG a3) B3
    exact b_law_bits_by (X := at5 X P w K mg base) hr L O Pl hS 
  have F4 := fun_mk (st := s_last_field) l4 e4 k4
  have B4 := binds1 (ps := ["size"]) F4 rfl fun _ _ _ _ _ _ _ => rfl
  have D4 : FnP P w K mg base "last_field" 1 p_last_field := by
    refine fn_def (fn_ok2 (k := 0) F4 sc_last_field rfl rfl fun X hr L O Pl hS => ?_) k4 (PySem.W.mg_of KX GG a4) B4
    exact b_last_field (X := at5 X P w K mg base) hr L O Pl hS 
  have F5 := fun_mk (st := s_sign_bit) l5 e5 k5
  have B5 := binds1 (ps := ["size"]) F5 rfl fun _ _ _ _ _ _ _ => rfl
  have D5 : FnP P w K mg base "sign_bit" 1 p_sign_bit := by
    refine fn_def (fn_ok2 (k := 0) F5 sc_sign_bit rfl rfl fun X hr L O Pl hS => ?_) k5 (PySem.W.mg_of KX GG a5) B5
    exact b_sign_bit (X := at5 X P w K mg base) hr L O Pl hS 
  have F6 := fun_mk (st := s_joined) l6 e6 k6
  have B6 := binds4 (ps := ["size", "sign", "field", "figures"]) F6 rfl fun _ _ _ _ _ _ _ _ _ _ => rfl
  have D6 : FnP P w K mg base "joined" 2 p_joined := by
    refine fn_def (fn_ok2 (k := 1) F6 sc_joined rfl rfl fun X hr L O Pl hS => ?_) k6 (PySem.W.mg_of KX GG a6) B6
    exact b_joined (X := at5 X P w K mg base) hr L O Pl hS q_NoParts xi_NoParts (D4.callee hr (by decide)) (D5.callee hr (by decide))
  have F7 := fun_mk (st := s_law_alone) l7 e7 k7
  have B7 := binds1 (ps := ["_law_caught"]) F7 rfl fun _ _ _ _ _ _ _ => rfl
  have D7 : FnP P w K mg base "_law_alone" 1 p_law_alone := by
    refine fn_def (fn_ok2 (k := 0) F7 sc_law_alone rfl rfl fun X hr L O Pl hS => ?_) k7 (PySem.W.mg_of KX GG a7) B7
    exact b_law_alone (X := at5 X P w K mg base) hr L O Pl hS q_NoSize (isi_cls q_NoSize (ref_of hXF) i0_NoSize hisi_NoSize) (excKit_of (xcls_of hXF)) m_isinstance q_NoBits (isi_cls q_NoBits (ref_of hXF) i0_NoBits hisi_NoBits) q_NoParts (isi_cls q_NoParts (ref_of hXF) i0_NoParts hisi_NoParts) q_NoRank (isi_cls q_NoRank (ref_of hXF) i0_NoRank hisi_NoRank) q_NotFinite (isi_cls q_NotFinite (ref_of hXF) i0_NotFinite hisi_NotFinite) q_NoWay (isi_cls q_NoWay (ref_of hXF) i0_NoWay hisi_NoWay) q_NoFlags (isi_cls q_NoFlags (ref_of hXF) i0_NoFlags hisi_NoFlags) q_NoFraction (isi_cls q_NoFraction (ref_of hXF) i0_NoFraction hisi_NoFraction) q_Unlike (isi_cls q_Unlike (ref_of hXF) i0_Unlike hisi_Unlike) q_Empty (isi_cls q_Empty (ref_of hXF) i0_Empty hisi_Empty) q_NoLeft (isi_cls q_NoLeft (ref_of hXF) i0_NoLeft hisi_NoLeft) q_NoText (isi_cls q_NoText (ref_of hXF) i0_NoText hisi_NoText) q_NoRow (isi_cls q_NoRow (ref_of hXF) i0_NoRow hisi_NoRow) q_NoName (isi_cls q_NoName (ref_of hXF) i0_NoName hisi_NoName) q_Stopped (isi_cls q_Stopped (ref_of hXF) i0_Stopped hisi_Stopped) m_ValueError (isi_ve (fun _ _ _ _ => trivial) (ref_of hXF) i_VE_NoneType i_VE_bool i_VE_int i_VE_str i_VE_tuple i_VE_list hisi_ValueError) m_int m_sum
  have F8 := fun_mk (st := s_law_word) l8 e8 k8
  have B8 := binds1 (ps := ["_law_caught"]) F8 rfl fun _ _ _ _ _ _ _ => rfl
  have D8 : FnP P w K mg base "_law_word" 2 p_law_word := by
    refine fn_def (fn_ok2 (k := 1) F8 sc_law_word rfl rfl fun X hr L O Pl hS => ?_) k8 (PySem.W.mg_of KX GG a8) B8
    exact b_law_word (X := at5 X P w K mg base) hr L O Pl hS (D7.callee hr (by decide)) q_NoBits (isi_cls q_NoBits (ref_of hXF) i0_NoBits hisi_NoBits) (excKit_of (xcls_of hXF)) m_isinstance q_NotFinite (isi_cls q_NotFinite (ref_of hXF) i0_NotFinite hisi_NotFinite) q_NoRank (isi_cls q_NoRank (ref_of hXF) i0_NoRank hisi_NoRank) q_NoParts (isi_cls q_NoParts (ref_of hXF) i0_NoParts hisi_NoParts)
  have F9 := fun_mk (st := s_law_out) l9 e9 k9
  have B9 := binds2 (ps := ["_law_many", "_law_cell"]) F9 rfl fun _ _ _ _ _ _ _ _ => rfl
  have D9 : FnP P w K mg base "_law_out" 1 p_law_out := by
    refine fn_def (fn_ok2 (k := 0) F9 sc_law_out rfl rfl fun X hr L O Pl hS => ?_) k9 (PySem.W.mg_of KX GG a9) B9
    exact b_law_out (X := at5 X P w K mg base) hr L O Pl hS 
  have F10 := fun_mk (st := s_law_parts) l10 e10 k10
  have B10 := binds2 (ps := ["_law_size", "_law_cell"]) F10 rfl fun _ _ _ _ _ _ _ _ => rfl
  have D10 : FnP P w K mg base "_law_parts" 3 p_law_parts := by
    refine fn_def (fn_ok2 (k := 2) F10 sc_law_parts rfl rfl fun X hr L O Pl hS => ?_) k10 (PySem.W.mg_of KX GG a10) B10
    exact b_law_parts (X := at5 X P w K mg base) hr L O Pl hS m_range (D9.callee hr (by decide)) (D6.callee hr (by decide)) (by rw [hS]; decide +kernel) q_MillError (catches_of cb_MillError hct_MillError) (D8.callee hr (by decide)) m_int
  have F11 := fun_mk (st := s_width) l11 e11 k11
  have B11 := binds1 (ps := ["size"]) F11 rfl fun _ _ _ _ _ _ _ => rfl
  have D11 : FnP P w K mg base "width" 1 p_width := by
    refine fn_def (fn_ok2 (k := 0) F11 sc_width rfl rfl fun X hr L O Pl hS => ?_) k11 (PySem.W.mg_of KX GG a11) B11
    exact b_width (X := at5 X P w K mg base) hr L O Pl hS 
  have F12 := fun_mk (st := s_parted) l12 e12 k12
  have B12 := binds2 (ps := ["size", "bits"]) F12 rfl fun _ _ _ _ _ _ _ _ => rfl
  have D12 : FnP P w K mg base "parted" 2 p_parted := by
    refine fn_def (fn_ok2 (k := 1) F12 sc_parted rfl rfl fun X hr L O Pl hS => ?_) k12 (PySem.W.mg_of KX GG a12) B12
    exact b_parted (X := at5 X P w K mg base) hr L O Pl hS (D11.callee hr (by decide)) q_NoBits xi_NoBits (D5.callee hr (by decide))
  have F13 := fun_mk (st := s_kind) l13 e13 k13
  have B13 := binds2 (ps := ["size", "bits"]) F13 rfl fun _ _ _ _ _ _ _ _ => rfl
  have D13 : FnP P w K mg base "kind" 3 p_kind := by
    refine fn_def (fn_ok2 (k := 2) F13 sc_kind rfl rfl fun X hr L O Pl hS => ?_) k13 (PySem.W.mg_of KX GG a13) B13
    exact b_kind (X := at5 X P w K mg base) hr L O Pl hS (D12.callee hr (by decide)) (D4.callee hr (by decide))
  have F14 := fun_mk (st := s_rank) l14 e14 k14
  have B14 := binds2 (ps := ["size", "bits"]) F14 rfl fun _ _ _ _ _ _ _ _ => rfl
  have D14 : FnP P w K mg base "rank" 4 p_rank := by
    refine fn_def (fn_ok2 (k := 3) F14 sc_rank rfl rfl fun X hr L O Pl hS => ?_) k14 (PySem.W.mg_of KX GG a14) B14
    exact b_rank (X := at5 X P w K mg base) hr L O Pl hS (D13.callee hr (by decide)) q_NoRank xi_NoRank (D5.callee hr (by decide)) (D12.callee hr (by decide))
  have F15 := fun_mk (st := s_endless) l15 e15 k15
  have B15 := binds1 (ps := ["size"]) F15 rfl fun _ _ _ _ _ _ _ => rfl
  have D15 : FnP P w K mg base "endless" 2 p_endless := by
    refine fn_def (fn_ok2 (k := 1) F15 sc_endless rfl rfl fun X hr L O Pl hS => ?_) k15 (PySem.W.mg_of KX GG a15) B15
    exact b_endless (X := at5 X P w K mg base) hr L O Pl hS (D4.callee hr (by decide))
  have F16 := fun_mk (st := s_below) l16 e16 k16
  have B16 := binds2 (ps := ["size", "bits"]) F16 rfl fun _ _ _ _ _ _ _ _ => rfl
  have D16 : FnP P w K mg base "below" 5 p_below := by
    refine fn_def (fn_ok2 (k := 4) F16 sc_below rfl rfl fun X hr L O Pl hS => ?_) k16 (PySem.W.mg_of KX GG a16) B16
    exact b_below (X := at5 X P w K mg base) hr L O Pl hS (D14.callee hr (by decide)) (D15.callee hr (by decide)) (D5.callee hr (by decide))
  have F17 := fun_mk (st := s_bias) l17 e17 k17
  have B17 := binds1 (ps := ["size"]) F17 rfl fun _ _ _ _ _ _ _ => rfl
  have D17 : FnP P w K mg base "bias" 1 p_bias := by
    refine fn_def (fn_ok2 (k := 0) F17 sc_bias rfl rfl fun X hr L O Pl hS => ?_) k17 (PySem.W.mg_of KX GG a17) B17
    exact b_bias (X := at5 X P w K mg base) hr L O Pl hS 
  have F18 := fun_mk (st := s_low) l18 e18 k18
  have B18 := binds1 (ps := ["size"]) F18 rfl fun _ _ _ _ _ _ _ => rfl
  have D18 : FnP P w K mg base "low" 2 p_low := by
    refine fn_def (fn_ok2 (k := 1) F18 sc_low rfl rfl fun X hr L O Pl hS => ?_) k18 (PySem.W.mg_of KX GG a18) B18
    exact b_low (X := at5 X P w K mg base) hr L O Pl hS (D17.callee hr (by decide))
  have F19 := fun_mk (st := s_worth) l19 e19 k19
  have B19 := binds2 (ps := ["size", "bits"]) F19 rfl fun _ _ _ _ _ _ _ _ => rfl
  have D19 : FnP P w K mg base "worth" 3 p_worth := by
    refine fn_def (fn_ok2 (k := 2) F19 sc_worth rfl rfl fun X hr L O Pl hS => ?_) k19 (PySem.W.mg_of KX GG a19) B19
    exact b_worth (X := at5 X P w K mg base) hr L O Pl hS (D12.callee hr (by decide)) (D4.callee hr (by decide)) q_NotFinite xi_NotFinite (D18.callee hr (by decide))
  have F20 := fun_mk (st := s_worth_fraction) l20 e20 k20
  have B20 := binds1 (ps := ["value"]) F20 rfl fun _ _ _ _ _ _ _ => rfl
  have D20 : FnP P w K mg base "worth_fraction" 1 p_worth_fraction := by
    refine fn_def (fn_ok2 (k := 0) F20 sc_worth_fraction rfl rfl fun X hr L O Pl hS => ?_) k20 (PySem.W.mg_of KX GG a20) B20
    exact b_worth_fraction (X := at5 X P w K mg base) hr L O Pl hS 
  have F21 := fun_mk (st := s_fraction) l21 e21 k21
  have B21 := binds2 (ps := ["size", "bits"]) F21 rfl fun _ _ _ _ _ _ _ _ => rfl
  have D21 : FnP P w K mg base "fraction" 4 p_fraction := by
    refine fn_def (fn_ok2 (k := 3) F21 sc_fraction rfl rfl fun X hr L O Pl hS => ?_) k21 (PySem.W.mg_of KX GG a21) B21
    exact b_fraction (X := at5 X P w K mg base) hr L O Pl hS (D20.callee hr (by decide)) (D19.callee hr (by decide))
  have F22 := fun_mk (st := s_negated) l22 e22 k22
  have B22 := binds2 (ps := ["size", "bits"]) F22 rfl fun _ _ _ _ _ _ _ _ => rfl
  have D22 : FnP P w K mg base "negated" 3 p_negated := by
    refine fn_def (fn_ok2 (k := 2) F22 sc_negated rfl rfl fun X hr L O Pl hS => ?_) k22 (PySem.W.mg_of KX GG a22) B22
    exact b_negated (X := at5 X P w K mg base) hr L O Pl hS (D12.callee hr (by decide)) (D6.callee hr (by decide))
  have F23 := fun_mk (st := s_compared) l23 e23 k23
  have B23 := binds3 (ps := ["size", "a", "b"]) F23 rfl fun _ _ _ _ _ _ _ _ _ => rfl
  have D23 : FnP P w K mg base "compared" 5 p_compared := by
    refine fn_def (fn_ok2 (k := 4) F23 sc_compared rfl rfl fun X hr L O Pl hS => ?_) k23 (PySem.W.mg_of KX GG a23) B23
    exact b_compared (X := at5 X P w K mg base) hr L O Pl hS (D13.callee hr (by decide)) (D14.callee hr (by decide))
  have F24 := fun_mk (st := s_above) l24 e24 k24
  have B24 := binds2 (ps := ["size", "bits"]) F24 rfl fun _ _ _ _ _ _ _ _ => rfl
  have D24 : FnP P w K mg base "above" 5 p_above := by
    refine fn_def (fn_ok2 (k := 4) F24 sc_above rfl rfl fun X hr L O Pl hS => ?_) k24 (PySem.W.mg_of KX GG a24) B24
    exact b_above (X := at5 X P w K mg base) hr L O Pl hS (D14.callee hr (by decide)) (D15.callee hr (by decide)) (D5.callee hr (by decide))
  have F25 := fun_mk (st := s_law_asked) l25 e25 k25
  have B25 := binds4 (ps := ["_law_which", "_law_size", "_law_bits", "_law_other"]) F25 rfl fun _ _ _ _ _ _ _ _ _ _ => rfl
  have D25 : FnP P w K mg base "_law_asked" 6 p_law_asked := by
    refine fn_def (fn_ok2 (k := 5) F25 sc_law_asked rfl rfl fun X hr L O Pl hS => ?_) k25 (PySem.W.mg_of KX GG a25) B25
    exact b_law_asked (X := at5 X P w K mg base) hr L O Pl hS (D12.callee hr (by decide)) (D13.callee hr (by decide)) (D19.callee hr (by decide)) (D21.callee hr (by decide)) (D22.callee hr (by decide)) (D14.callee hr (by decide)) (D23.callee hr (by decide)) (D24.callee hr (by decide)) (D16.callee hr (by decide))
  have F26 := fun_mk (st := s_law_due) l26 e26 k26
  have B26 := binds3 (ps := ["_law_which", "_law_size", "_law_bits"]) F26 rfl fun _ _ _ _ _ _ _ _ _ => rfl
  have D26 : FnP P w K mg base "_law_due" 1 p_law_due := by
    refine fn_def (fn_ok2 (k := 0) F26 sc_law_due rfl rfl fun X hr L O Pl hS => ?_) k26 (PySem.W.mg_of KX GG a26) B26
    exact b_law_due (X := at5 X P w K mg base) hr L O Pl hS 
  have F27 := fun_mk (st := s_law_holds) l27 e27 k27
  have B27 := binds2 (ps := ["_law_size", "_law_cell"]) F27 rfl fun _ _ _ _ _ _ _ _ => rfl
  have D27 : FnP P w K mg base "_law_holds" 7 p_law_holds := by
    refine fn_def (fn_ok2 (k := 6) F27 sc_law_holds rfl rfl fun X hr L O Pl hS => ?_) k27 (PySem.W.mg_of KX GG a27) B27
    exact b_law_holds (X := at5 X P w K mg base) hr L O Pl hS (D10.callee hr (by decide)) (D3.callee hr (by decide)) (D9.callee hr (by decide)) (D25.callee hr (by decide)) (by rw [hS]; decide +kernel) q_MillError (catches_of cb_MillError hct_MillError) (D8.callee hr (by decide)) (D26.callee hr (by decide))
  have F28 := fun_mk (st := s_law) l28 e28 k28
  · refine fn_ok2 (k := 7) F28 sc_law rfl rfl fun X hr L O Pl hS => ?_
    exact b_law (X := at5 X P w K mg base) hr L O Pl hS (D1.callee hr (by decide)) (D2.callee hr (by decide)) (D27.callee hr (by decide))
end T

set_option Elab.async false
set_option linter.all false
set_option maxRecDepth 100000
namespace H
open PySem PySem.W PySem.Spec PyProof.Rows L2 EV ES
noncomputable section
noncomputable abbrev vS (x : Str) (n : Nat) : Value := .str x n
noncomputable abbrev vI (x : Int) (n : Nat) : Value := .int x n
noncomputable abbrev en (P : Params) (x : Str) (n : Nat) (v : Value) : DictEntry := ⟨PyData.keyHash P x, .str x n, v⟩
noncomputable abbrev sqO (c : Value) (a : Array Value) : Obj := ⟨c, none, .seq a 0, #[]⟩
noncomputable abbrev fiO (c : Value) (a : Array Value) : Obj := ⟨c, none, .fields a, #[]⟩
noncomputable abbrev diO (c : Value) (a : Array DictEntry) (n : Nat) : Obj := ⟨c, none, .dict a n, #[]⟩
noncomputable abbrev fnO (c : Value) (x q : Str) (s : Stmt) (g : Addr) (cl : List (Str × Addr)) (d k dc m : Value) (an : Option Addr) (cd ct : Value) (b : Addr) : Obj := ⟨c, none, .func ⟨x, q, defArgs s, .stmts (defBody s), defScope s, g, cl, d, k, dc, m, an, cd, ct, b⟩, #[]⟩
noncomputable abbrev N : BT := .nil
noncomputable abbrev L (o : Obj) : BT := .node o .nil .nil
noncomputable abbrev B (o : Obj) (l r : BT) : BT := .node o l r
noncomputable def cut (n : Nat) (t : BT) : Nat → Nat → BT := @BT.rec (fun _ => Nat → Nat → BT) (fun _ _ => .nil) (fun v _ _ l r a b => @Bool.rec (fun _ => BT) .nil (.node v (l (Nat.mul 2 a) (Nat.add a b)) (r (Nat.mul 2 a) (Nat.add (Nat.mul 2 a) b))) (Nat.blt b n)) t
noncomputable def o0 : Obj := sqO (.type "tuple") #[]
noncomputable def o1 : Obj := fiO .none #[]
noncomputable def o2 : Obj := fiO (.type "code") #[(vS "<module>" 182), (vS "<module>" 183), (vS "/claim/cut.py" 184), (vI 1 0), (vI 0 0), (vI 0 0), (vI 0 0), (vI 0 0), (.ref 11), (.bool false), (vI 181 0), (.ref 12), .none, .none, .none, .none, (vI 185 0), (vI 1 0), (vS "/claim/cut.py" 186)]
noncomputable def o3 : Obj := (Obj.mk (.type "frame") none Data.plain #[(some (.ref 13)), (some (.ref 3)), (some (.ref 3)), none, (some (vS "__main__" 164)), none, (some (.ref 0))])
noncomputable def o4 (P : Params) : Obj := diO (.type "dict") #[(en P "__name__" 165 (vS "roundmill.errors" 187)), (en P "__doc__" 166 .none), (en P "__package__" 167 .none), (en P "__loader__" 168 (.builtin "__main__.__loader__#opaque")), (en P "__spec__" 169 .none), (en P "__annotations__" 170 (.ref 6)), (en P "__builtins__" 171 (.ref 4)), (en P "__file__" 173 (vS "/claim/cut.py" 172)), (en P "__cached__" 174 .none), (en P "MillError" 206 (.ref 24))] 10
noncomputable def o5 : Obj := fiO .none #[(vI 2 0), (vI 0 0), (.ref 20)]
noncomputable def o6 : Obj := sqO (.type "tuple") #[(.type "ValueError")]
noncomputable def o7 : Obj := fiO (.type "builtin_function_or_method") #[(.builtin "type.__prepare__"), (.type "type")]
noncomputable def o8 (P : Params) : Obj := diO (.type "dict") #[(en P "__module__" 196 (vS "roundmill.errors" 187)), (en P "__qualname__" 198 (vS "MillError" 197)), (en P "__firstlineno__" 200 (vI 2 199)), (en P "__static_attributes__" 201 (.ref 22))] 4
noncomputable def o9 : Obj := fiO (.type "code") #[(vS "MillError" 191), (vS "MillError" 192), (vS "/claim/cut.py" 193), (vI 2 0), (vI 0 0), (vI 0 0), (vI 0 0), (vI 0 0), (.ref 18), (.bool false), (vI 181 0), (.ref 19), .none, .none, .none, .none, (vI 194 0), (vI 2 0), (vS "/claim/cut.py" 195)]
noncomputable def o10 : Obj := (Obj.mk (.type "frame") none Data.plain #[(some (.ref 20)), (some (.ref 3)), (some (.ref 17)), none, (some (vS "roundmill.errors" 187)), none, (some (.ref 0))])
noncomputable def o11 (P : Params) : Obj := diO (.type "dict") #[(en P "__module__" 196 (vS "roundmill.errors" 187)), (en P "__firstlineno__" 200 (vI 2 199)), (en P "__static_attributes__" 201 (.ref 22)), (en P "__weakref__" 203 (.ref 25)), (en P "__doc__" 204 .none)] 3
noncomputable def o12 : Obj := (Obj.mk (.type "type") none (Data.cls (ClassData.mk "MillError" [(.type "ValueError")] [(.ref 24), (.type "ValueError"), (.type "Exception"), (.type "BaseException"), (.type "object")] 23 "MillError" true [] [] false none false)) #[(some (.ref 15)), none, (some (vS "MillError" 189)), (some (vS "MillError" 197)), (some (.builtin "ValueError.__new__")), (some (.bool true))])
noncomputable def o13 : Obj := fiO (.type "getset_descriptor") #[(vS "__weakref__" 202), (.ref 24), (.builtin "ExceptionGroup.__weakref__"), .none]
noncomputable def o14 : Obj := fiO (.type "super") #[(.ref 24), (.ref 24), (.ref 24)]
noncomputable def o15 : Obj := fiO (.type "builtin_function_or_method") #[(.builtin "object.__init_subclass__"), (.ref 24)]
noncomputable def o16 (P : Params) : Obj := diO (.type "dict") #[(en P "__name__" 165 (vS "roundmill.errors" 187)), (en P "__doc__" 166 .none), (en P "__package__" 167 .none), (en P "__loader__" 168 (.builtin "__main__.__loader__#opaque")), (en P "__spec__" 169 .none), (en P "__annotations__" 170 (.ref 6)), (en P "__builtins__" 171 (.ref 4)), (en P "__file__" 173 (vS "/claim/cut.py" 172)), (en P "__cached__" 174 .none), (en P "MillError" 206 (.ref 24)), (en P "NoSize" 222 (.ref 37))] 11
noncomputable def o17 : Obj := fiO .none #[(vI 2 0), (vI 0 0), (.ref 20), (vI 4 0), (vI 0 0), (.ref 33)]
noncomputable def o18 : Obj := (Obj.mk (.type "type") none (Data.cls (ClassData.mk "MillError" [(.type "ValueError")] [(.ref 24), (.type "ValueError"), (.type "Exception"), (.type "BaseException"), (.type "object")] 23 "MillError" true [] [(.ref 37)] false none false)) #[(some (.ref 15)), none, (some (vS "MillError" 189)), (some (vS "MillError" 197)), (some (.builtin "ValueError.__new__")), (some (.bool true))])
noncomputable def o19 : Obj := sqO (.type "tuple") #[(.ref 24)]
noncomputable def o20 (P : Params) : Obj := diO (.type "dict") #[(en P "__module__" 214 (vS "roundmill.errors" 187)), (en P "__qualname__" 216 (vS "NoSize" 215)), (en P "__firstlineno__" 218 (vI 4 217)), (en P "__static_attributes__" 219 (.ref 35))] 4
noncomputable def o21 : Obj := fiO (.type "code") #[(vS "NoSize" 209), (vS "NoSize" 210), (vS "/claim/cut.py" 211), (vI 4 0), (vI 0 0), (vI 0 0), (vI 0 0), (vI 0 0), (.ref 31), (.bool false), (vI 181 0), (.ref 32), .none, .none, .none, .none, (vI 212 0), (vI 4 0), (vS "/claim/cut.py" 213)]
noncomputable def o22 : Obj := (Obj.mk (.type "frame") none Data.plain #[(some (.ref 33)), (some (.ref 3)), (some (.ref 30)), none, (some (vS "roundmill.errors" 187)), none, (some (.ref 0))])
noncomputable def o23 (P : Params) : Obj := diO (.type "dict") #[(en P "__module__" 214 (vS "roundmill.errors" 187)), (en P "__firstlineno__" 218 (vI 4 217)), (en P "__static_attributes__" 219 (.ref 35)), (en P "__doc__" 220 .none)] 2
noncomputable def o24 : Obj := (Obj.mk (.type "type") none (Data.cls (ClassData.mk "NoSize" [(.ref 24)] [(.ref 37), (.ref 24), (.type "ValueError"), (.type "Exception"), (.type "BaseException"), (.type "object")] 36 "NoSize" true [] [] false none false)) #[(some (.ref 28)), none, (some (vS "NoSize" 207)), (some (vS "NoSize" 215)), (some (.builtin "ValueError.__new__")), (some (.bool true))])
noncomputable def o25 : Obj := fiO (.type "super") #[(.ref 37), (.ref 37), (.ref 37)]
noncomputable def o26 : Obj := fiO (.type "builtin_function_or_method") #[(.builtin "object.__init_subclass__"), (.ref 37)]
noncomputable def o27 (P : Params) : Obj := diO (.type "dict") #[(en P "__name__" 165 (vS "roundmill.errors" 187)), (en P "__doc__" 166 .none), (en P "__package__" 167 .none), (en P "__loader__" 168 (.builtin "__main__.__loader__#opaque")), (en P "__spec__" 169 .none), (en P "__annotations__" 170 (.ref 6)), (en P "__builtins__" 171 (.ref 4)), (en P "__file__" 173 (vS "/claim/cut.py" 172)), (en P "__cached__" 174 .none), (en P "MillError" 206 (.ref 24)), (en P "NoSize" 222 (.ref 37)), (en P "NoBits" 238 (.ref 49))] 12
noncomputable def o28 : Obj := fiO .none #[(vI 2 0), (vI 0 0), (.ref 20), (vI 4 0), (vI 0 0), (.ref 33), (vI 6 0), (vI 0 0), (.ref 45)]
noncomputable def o29 : Obj := (Obj.mk (.type "type") none (Data.cls (ClassData.mk "MillError" [(.type "ValueError")] [(.ref 24), (.type "ValueError"), (.type "Exception"), (.type "BaseException"), (.type "object")] 23 "MillError" true [] [(.ref 37), (.ref 49)] false none false)) #[(some (.ref 15)), none, (some (vS "MillError" 189)), (some (vS "MillError" 197)), (some (.builtin "ValueError.__new__")), (some (.bool true))])
noncomputable def o30 (P : Params) : Obj := diO (.type "dict") #[(en P "__module__" 230 (vS "roundmill.errors" 187)), (en P "__qualname__" 232 (vS "NoBits" 231)), (en P "__firstlineno__" 234 (vI 6 233)), (en P "__static_attributes__" 235 (.ref 47))] 4
noncomputable def o31 : Obj := fiO (.type "code") #[(vS "NoBits" 225), (vS "NoBits" 226), (vS "/claim/cut.py" 227), (vI 6 0), (vI 0 0), (vI 0 0), (vI 0 0), (vI 0 0), (.ref 43), (.bool false), (vI 181 0), (.ref 44), .none, .none, .none, .none, (vI 228 0), (vI 6 0), (vS "/claim/cut.py" 229)]
noncomputable def o32 : Obj := (Obj.mk (.type "frame") none Data.plain #[(some (.ref 45)), (some (.ref 3)), (some (.ref 42)), none, (some (vS "roundmill.errors" 187)), none, (some (.ref 0))])
noncomputable def o33 (P : Params) : Obj := diO (.type "dict") #[(en P "__module__" 230 (vS "roundmill.errors" 187)), (en P "__firstlineno__" 234 (vI 6 233)), (en P "__static_attributes__" 235 (.ref 47)), (en P "__doc__" 236 .none)] 2
noncomputable def o34 : Obj := (Obj.mk (.type "type") none (Data.cls (ClassData.mk "NoBits" [(.ref 24)] [(.ref 49), (.ref 24), (.type "ValueError"), (.type "Exception"), (.type "BaseException"), (.type "object")] 48 "NoBits" true [] [] false none false)) #[(some (.ref 40)), none, (some (vS "NoBits" 223)), (some (vS "NoBits" 231)), (some (.builtin "ValueError.__new__")), (some (.bool true))])
noncomputable def o35 : Obj := fiO (.type "super") #[(.ref 49), (.ref 49), (.ref 49)]
noncomputable def o36 : Obj := fiO (.type "builtin_function_or_method") #[(.builtin "object.__init_subclass__"), (.ref 49)]
noncomputable def o37 (P : Params) : Obj := diO (.type "dict") #[(en P "__name__" 165 (vS "roundmill.errors" 187)), (en P "__doc__" 166 .none), (en P "__package__" 167 .none), (en P "__loader__" 168 (.builtin "__main__.__loader__#opaque")), (en P "__spec__" 169 .none), (en P "__annotations__" 170 (.ref 6)), (en P "__builtins__" 171 (.ref 4)), (en P "__file__" 173 (vS "/claim/cut.py" 172)), (en P "__cached__" 174 .none), (en P "MillError" 206 (.ref 24)), (en P "NoSize" 222 (.ref 37)), (en P "NoBits" 238 (.ref 49)), (en P "NoParts" 254 (.ref 61))] 13
noncomputable def o38 : Obj := fiO .none #[(vI 2 0), (vI 0 0), (.ref 20), (vI 4 0), (vI 0 0), (.ref 33), (vI 6 0), (vI 0 0), (.ref 45), (vI 8 0), (vI 0 0), (.ref 57)]
noncomputable def o39 : Obj := (Obj.mk (.type "type") none (Data.cls (ClassData.mk "MillError" [(.type "ValueError")] [(.ref 24), (.type "ValueError"), (.type "Exception"), (.type "BaseException"), (.type "object")] 23 "MillError" true [] [(.ref 37), (.ref 49), (.ref 61)] false none false)) #[(some (.ref 15)), none, (some (vS "MillError" 189)), (some (vS "MillError" 197)), (some (.builtin "ValueError.__new__")), (some (.bool true))])
noncomputable def o40 (P : Params) : Obj := diO (.type "dict") #[(en P "__module__" 246 (vS "roundmill.errors" 187)), (en P "__qualname__" 248 (vS "NoParts" 247)), (en P "__firstlineno__" 250 (vI 8 249)), (en P "__static_attributes__" 251 (.ref 59))] 4
noncomputable def o41 : Obj := fiO (.type "code") #[(vS "NoParts" 241), (vS "NoParts" 242), (vS "/claim/cut.py" 243), (vI 8 0), (vI 0 0), (vI 0 0), (vI 0 0), (vI 0 0), (.ref 55), (.bool false), (vI 181 0), (.ref 56), .none, .none, .none, .none, (vI 244 0), (vI 8 0), (vS "/claim/cut.py" 245)]
noncomputable def o42 : Obj := (Obj.mk (.type "frame") none Data.plain #[(some (.ref 57)), (some (.ref 3)), (some (.ref 54)), none, (some (vS "roundmill.errors" 187)), none, (some (.ref 0))])
noncomputable def o43 (P : Params) : Obj := diO (.type "dict") #[(en P "__module__" 246 (vS "roundmill.errors" 187)), (en P "__firstlineno__" 250 (vI 8 249)), (en P "__static_attributes__" 251 (.ref 59)), (en P "__doc__" 252 .none)] 2
noncomputable def o44 : Obj := (Obj.mk (.type "type") none (Data.cls (ClassData.mk "NoParts" [(.ref 24)] [(.ref 61), (.ref 24), (.type "ValueError"), (.type "Exception"), (.type "BaseException"), (.type "object")] 60 "NoParts" true [] [] false none false)) #[(some (.ref 52)), none, (some (vS "NoParts" 239)), (some (vS "NoParts" 247)), (some (.builtin "ValueError.__new__")), (some (.bool true))])
noncomputable def o45 : Obj := fiO (.type "super") #[(.ref 61), (.ref 61), (.ref 61)]
noncomputable def o46 : Obj := fiO (.type "builtin_function_or_method") #[(.builtin "object.__init_subclass__"), (.ref 61)]
noncomputable def o47 (P : Params) : Obj := diO (.type "dict") #[(en P "__name__" 165 (vS "roundmill.errors" 187)), (en P "__doc__" 166 .none), (en P "__package__" 167 .none), (en P "__loader__" 168 (.builtin "__main__.__loader__#opaque")), (en P "__spec__" 169 .none), (en P "__annotations__" 170 (.ref 6)), (en P "__builtins__" 171 (.ref 4)), (en P "__file__" 173 (vS "/claim/cut.py" 172)), (en P "__cached__" 174 .none), (en P "MillError" 206 (.ref 24)), (en P "NoSize" 222 (.ref 37)), (en P "NoBits" 238 (.ref 49)), (en P "NoParts" 254 (.ref 61)), (en P "NoRank" 270 (.ref 73))] 14
noncomputable def o48 : Obj := fiO .none #[(vI 2 0), (vI 0 0), (.ref 20), (vI 4 0), (vI 0 0), (.ref 33), (vI 6 0), (vI 0 0), (.ref 45), (vI 8 0), (vI 0 0), (.ref 57), (vI 10 0), (vI 0 0), (.ref 69)]
noncomputable def o49 : Obj := (Obj.mk (.type "type") none (Data.cls (ClassData.mk "MillError" [(.type "ValueError")] [(.ref 24), (.type "ValueError"), (.type "Exception"), (.type "BaseException"), (.type "object")] 23 "MillError" true [] [(.ref 37), (.ref 49), (.ref 61), (.ref 73)] false none false)) #[(some (.ref 15)), none, (some (vS "MillError" 189)), (some (vS "MillError" 197)), (some (.builtin "ValueError.__new__")), (some (.bool true))])
noncomputable def o50 (P : Params) : Obj := diO (.type "dict") #[(en P "__module__" 262 (vS "roundmill.errors" 187)), (en P "__qualname__" 264 (vS "NoRank" 263)), (en P "__firstlineno__" 266 (vI 10 265)), (en P "__static_attributes__" 267 (.ref 71))] 4
noncomputable def o51 : Obj := fiO (.type "code") #[(vS "NoRank" 257), (vS "NoRank" 258), (vS "/claim/cut.py" 259), (vI 10 0), (vI 0 0), (vI 0 0), (vI 0 0), (vI 0 0), (.ref 67), (.bool false), (vI 181 0), (.ref 68), .none, .none, .none, .none, (vI 260 0), (vI 10 0), (vS "/claim/cut.py" 261)]
noncomputable def o52 : Obj := (Obj.mk (.type "frame") none Data.plain #[(some (.ref 69)), (some (.ref 3)), (some (.ref 66)), none, (some (vS "roundmill.errors" 187)), none, (some (.ref 0))])
noncomputable def o53 (P : Params) : Obj := diO (.type "dict") #[(en P "__module__" 262 (vS "roundmill.errors" 187)), (en P "__firstlineno__" 266 (vI 10 265)), (en P "__static_attributes__" 267 (.ref 71)), (en P "__doc__" 268 .none)] 2
noncomputable def o54 : Obj := (Obj.mk (.type "type") none (Data.cls (ClassData.mk "NoRank" [(.ref 24)] [(.ref 73), (.ref 24), (.type "ValueError"), (.type "Exception"), (.type "BaseException"), (.type "object")] 72 "NoRank" true [] [] false none false)) #[(some (.ref 64)), none, (some (vS "NoRank" 255)), (some (vS "NoRank" 263)), (some (.builtin "ValueError.__new__")), (some (.bool true))])
noncomputable def o55 : Obj := fiO (.type "super") #[(.ref 73), (.ref 73), (.ref 73)]
noncomputable def o56 : Obj := fiO (.type "builtin_function_or_method") #[(.builtin "object.__init_subclass__"), (.ref 73)]
noncomputable def o57 (P : Params) : Obj := diO (.type "dict") #[(en P "__name__" 165 (vS "roundmill.errors" 187)), (en P "__doc__" 166 .none), (en P "__package__" 167 .none), (en P "__loader__" 168 (.builtin "__main__.__loader__#opaque")), (en P "__spec__" 169 .none), (en P "__annotations__" 170 (.ref 6)), (en P "__builtins__" 171 (.ref 4)), (en P "__file__" 173 (vS "/claim/cut.py" 172)), (en P "__cached__" 174 .none), (en P "MillError" 206 (.ref 24)), (en P "NoSize" 222 (.ref 37)), (en P "NoBits" 238 (.ref 49)), (en P "NoParts" 254 (.ref 61)), (en P "NoRank" 270 (.ref 73)), (en P "NotFinite" 286 (.ref 85))] 15
noncomputable def o58 : Obj := fiO .none #[(vI 2 0), (vI 0 0), (.ref 20), (vI 4 0), (vI 0 0), (.ref 33), (vI 6 0), (vI 0 0), (.ref 45), (vI 8 0), (vI 0 0), (.ref 57), (vI 10 0), (vI 0 0), (.ref 69), (vI 12 0), (vI 0 0), (.ref 81)]
noncomputable def o59 : Obj := (Obj.mk (.type "type") none (Data.cls (ClassData.mk "MillError" [(.type "ValueError")] [(.ref 24), (.type "ValueError"), (.type "Exception"), (.type "BaseException"), (.type "object")] 23 "MillError" true [] [(.ref 37), (.ref 49), (.ref 61), (.ref 73), (.ref 85)] false none false)) #[(some (.ref 15)), none, (some (vS "MillError" 189)), (some (vS "MillError" 197)), (some (.builtin "ValueError.__new__")), (some (.bool true))])
noncomputable def o60 (P : Params) : Obj := diO (.type "dict") #[(en P "__module__" 278 (vS "roundmill.errors" 187)), (en P "__qualname__" 280 (vS "NotFinite" 279)), (en P "__firstlineno__" 282 (vI 12 281)), (en P "__static_attributes__" 283 (.ref 83))] 4
noncomputable def o61 : Obj := fiO (.type "code") #[(vS "NotFinite" 273), (vS "NotFinite" 274), (vS "/claim/cut.py" 275), (vI 12 0), (vI 0 0), (vI 0 0), (vI 0 0), (vI 0 0), (.ref 79), (.bool false), (vI 181 0), (.ref 80), .none, .none, .none, .none, (vI 276 0), (vI 12 0), (vS "/claim/cut.py" 277)]
noncomputable def o62 : Obj := (Obj.mk (.type "frame") none Data.plain #[(some (.ref 81)), (some (.ref 3)), (some (.ref 78)), none, (some (vS "roundmill.errors" 187)), none, (some (.ref 0))])
noncomputable def o63 (P : Params) : Obj := diO (.type "dict") #[(en P "__module__" 278 (vS "roundmill.errors" 187)), (en P "__firstlineno__" 282 (vI 12 281)), (en P "__static_attributes__" 283 (.ref 83)), (en P "__doc__" 284 .none)] 2
noncomputable def o64 : Obj := (Obj.mk (.type "type") none (Data.cls (ClassData.mk "NotFinite" [(.ref 24)] [(.ref 85), (.ref 24), (.type "ValueError"), (.type "Exception"), (.type "BaseException"), (.type "object")] 84 "NotFinite" true [] [] false none false)) #[(some (.ref 76)), none, (some (vS "NotFinite" 271)), (some (vS "NotFinite" 279)), (some (.builtin "ValueError.__new__")), (some (.bool true))])
noncomputable def o65 : Obj := fiO (.type "super") #[(.ref 85), (.ref 85), (.ref 85)]
noncomputable def o66 : Obj := fiO (.type "builtin_function_or_method") #[(.builtin "object.__init_subclass__"), (.ref 85)]
noncomputable def o67 (P : Params) : Obj := diO (.type "dict") #[(en P "__name__" 165 (vS "roundmill.errors" 187)), (en P "__doc__" 166 .none), (en P "__package__" 167 .none), (en P "__loader__" 168 (.builtin "__main__.__loader__#opaque")), (en P "__spec__" 169 .none), (en P "__annotations__" 170 (.ref 6)), (en P "__builtins__" 171 (.ref 4)), (en P "__file__" 173 (vS "/claim/cut.py" 172)), (en P "__cached__" 174 .none), (en P "MillError" 206 (.ref 24)), (en P "NoSize" 222 (.ref 37)), (en P "NoBits" 238 (.ref 49)), (en P "NoParts" 254 (.ref 61)), (en P "NoRank" 270 (.ref 73)), (en P "NotFinite" 286 (.ref 85)), (en P "NoWay" 302 (.ref 97))] 16
noncomputable def o68 : Obj := fiO .none #[(vI 2 0), (vI 0 0), (.ref 20), (vI 4 0), (vI 0 0), (.ref 33), (vI 6 0), (vI 0 0), (.ref 45), (vI 8 0), (vI 0 0), (.ref 57), (vI 10 0), (vI 0 0), (.ref 69), (vI 12 0), (vI 0 0), (.ref 81), (vI 14 0), (vI 0 0), (.ref 93)]
noncomputable def o69 : Obj := (Obj.mk (.type "type") none (Data.cls (ClassData.mk "MillError" [(.type "ValueError")] [(.ref 24), (.type "ValueError"), (.type "Exception"), (.type "BaseException"), (.type "object")] 23 "MillError" true [] [(.ref 37), (.ref 49), (.ref 61), (.ref 73), (.ref 85), (.ref 97)] false none false)) #[(some (.ref 15)), none, (some (vS "MillError" 189)), (some (vS "MillError" 197)), (some (.builtin "ValueError.__new__")), (some (.bool true))])
noncomputable def o70 (P : Params) : Obj := diO (.type "dict") #[(en P "__module__" 294 (vS "roundmill.errors" 187)), (en P "__qualname__" 296 (vS "NoWay" 295)), (en P "__firstlineno__" 298 (vI 14 297)), (en P "__static_attributes__" 299 (.ref 95))] 4
noncomputable def o71 : Obj := fiO (.type "code") #[(vS "NoWay" 289), (vS "NoWay" 290), (vS "/claim/cut.py" 291), (vI 14 0), (vI 0 0), (vI 0 0), (vI 0 0), (vI 0 0), (.ref 91), (.bool false), (vI 181 0), (.ref 92), .none, .none, .none, .none, (vI 292 0), (vI 14 0), (vS "/claim/cut.py" 293)]
noncomputable def o72 : Obj := (Obj.mk (.type "frame") none Data.plain #[(some (.ref 93)), (some (.ref 3)), (some (.ref 90)), none, (some (vS "roundmill.errors" 187)), none, (some (.ref 0))])
noncomputable def o73 (P : Params) : Obj := diO (.type "dict") #[(en P "__module__" 294 (vS "roundmill.errors" 187)), (en P "__firstlineno__" 298 (vI 14 297)), (en P "__static_attributes__" 299 (.ref 95)), (en P "__doc__" 300 .none)] 2
noncomputable def o74 : Obj := (Obj.mk (.type "type") none (Data.cls (ClassData.mk "NoWay" [(.ref 24)] [(.ref 97), (.ref 24), (.type "ValueError"), (.type "Exception"), (.type "BaseException"), (.type "object")] 96 "NoWay" true [] [] false none false)) #[(some (.ref 88)), none, (some (vS "NoWay" 287)), (some (vS "NoWay" 295)), (some (.builtin "ValueError.__new__")), (some (.bool true))])
noncomputable def o75 : Obj := fiO (.type "super") #[(.ref 97), (.ref 97), (.ref 97)]
noncomputable def o76 : Obj := fiO (.type "builtin_function_or_method") #[(.builtin "object.__init_subclass__"), (.ref 97)]
noncomputable def o77 (P : Params) : Obj := diO (.type "dict") #[(en P "__name__" 165 (vS "roundmill.errors" 187)), (en P "__doc__" 166 .none), (en P "__package__" 167 .none), (en P "__loader__" 168 (.builtin "__main__.__loader__#opaque")), (en P "__spec__" 169 .none), (en P "__annotations__" 170 (.ref 6)), (en P "__builtins__" 171 (.ref 4)), (en P "__file__" 173 (vS "/claim/cut.py" 172)), (en P "__cached__" 174 .none), (en P "MillError" 206 (.ref 24)), (en P "NoSize" 222 (.ref 37)), (en P "NoBits" 238 (.ref 49)), (en P "NoParts" 254 (.ref 61)), (en P "NoRank" 270 (.ref 73)), (en P "NotFinite" 286 (.ref 85)), (en P "NoWay" 302 (.ref 97)), (en P "NoFlags" 318 (.ref 109))] 17
noncomputable def o78 : Obj := fiO .none #[(vI 2 0), (vI 0 0), (.ref 20), (vI 4 0), (vI 0 0), (.ref 33), (vI 6 0), (vI 0 0), (.ref 45), (vI 8 0), (vI 0 0), (.ref 57), (vI 10 0), (vI 0 0), (.ref 69), (vI 12 0), (vI 0 0), (.ref 81), (vI 14 0), (vI 0 0), (.ref 93), (vI 16 0), (vI 0 0), (.ref 105)]
noncomputable def o79 : Obj := (Obj.mk (.type "type") none (Data.cls (ClassData.mk "MillError" [(.type "ValueError")] [(.ref 24), (.type "ValueError"), (.type "Exception"), (.type "BaseException"), (.type "object")] 23 "MillError" true [] [(.ref 37), (.ref 49), (.ref 61), (.ref 73), (.ref 85), (.ref 97), (.ref 109)] false none false)) #[(some (.ref 15)), none, (some (vS "MillError" 189)), (some (vS "MillError" 197)), (some (.builtin "ValueError.__new__")), (some (.bool true))])
noncomputable def o80 (P : Params) : Obj := diO (.type "dict") #[(en P "__module__" 310 (vS "roundmill.errors" 187)), (en P "__qualname__" 312 (vS "NoFlags" 311)), (en P "__firstlineno__" 314 (vI 16 313)), (en P "__static_attributes__" 315 (.ref 107))] 4
noncomputable def o81 : Obj := fiO (.type "code") #[(vS "NoFlags" 305), (vS "NoFlags" 306), (vS "/claim/cut.py" 307), (vI 16 0), (vI 0 0), (vI 0 0), (vI 0 0), (vI 0 0), (.ref 103), (.bool false), (vI 181 0), (.ref 104), .none, .none, .none, .none, (vI 308 0), (vI 16 0), (vS "/claim/cut.py" 309)]
noncomputable def o82 : Obj := (Obj.mk (.type "frame") none Data.plain #[(some (.ref 105)), (some (.ref 3)), (some (.ref 102)), none, (some (vS "roundmill.errors" 187)), none, (some (.ref 0))])
noncomputable def o83 (P : Params) : Obj := diO (.type "dict") #[(en P "__module__" 310 (vS "roundmill.errors" 187)), (en P "__firstlineno__" 314 (vI 16 313)), (en P "__static_attributes__" 315 (.ref 107)), (en P "__doc__" 316 .none)] 2
noncomputable def o84 : Obj := (Obj.mk (.type "type") none (Data.cls (ClassData.mk "NoFlags" [(.ref 24)] [(.ref 109), (.ref 24), (.type "ValueError"), (.type "Exception"), (.type "BaseException"), (.type "object")] 108 "NoFlags" true [] [] false none false)) #[(some (.ref 100)), none, (some (vS "NoFlags" 303)), (some (vS "NoFlags" 311)), (some (.builtin "ValueError.__new__")), (some (.bool true))])
noncomputable def o85 : Obj := fiO (.type "super") #[(.ref 109), (.ref 109), (.ref 109)]
noncomputable def o86 : Obj := fiO (.type "builtin_function_or_method") #[(.builtin "object.__init_subclass__"), (.ref 109)]
noncomputable def o87 (P : Params) : Obj := diO (.type "dict") #[(en P "__name__" 165 (vS "roundmill.errors" 187)), (en P "__doc__" 166 .none), (en P "__package__" 167 .none), (en P "__loader__" 168 (.builtin "__main__.__loader__#opaque")), (en P "__spec__" 169 .none), (en P "__annotations__" 170 (.ref 6)), (en P "__builtins__" 171 (.ref 4)), (en P "__file__" 173 (vS "/claim/cut.py" 172)), (en P "__cached__" 174 .none), (en P "MillError" 206 (.ref 24)), (en P "NoSize" 222 (.ref 37)), (en P "NoBits" 238 (.ref 49)), (en P "NoParts" 254 (.ref 61)), (en P "NoRank" 270 (.ref 73)), (en P "NotFinite" 286 (.ref 85)), (en P "NoWay" 302 (.ref 97)), (en P "NoFlags" 318 (.ref 109)), (en P "NoFraction" 334 (.ref 121))] 18
noncomputable def o88 : Obj := fiO .none #[(vI 2 0), (vI 0 0), (.ref 20), (vI 4 0), (vI 0 0), (.ref 33), (vI 6 0), (vI 0 0), (.ref 45), (vI 8 0), (vI 0 0), (.ref 57), (vI 10 0), (vI 0 0), (.ref 69), (vI 12 0), (vI 0 0), (.ref 81), (vI 14 0), (vI 0 0), (.ref 93), (vI 16 0), (vI 0 0), (.ref 105), (vI 18 0), (vI 0 0), (.ref 117)]
noncomputable def o89 : Obj := (Obj.mk (.type "type") none (Data.cls (ClassData.mk "MillError" [(.type "ValueError")] [(.ref 24), (.type "ValueError"), (.type "Exception"), (.type "BaseException"), (.type "object")] 23 "MillError" true [] [(.ref 37), (.ref 49), (.ref 61), (.ref 73), (.ref 85), (.ref 97), (.ref 109), (.ref 121)] false none false)) #[(some (.ref 15)), none, (some (vS "MillError" 189)), (some (vS "MillError" 197)), (some (.builtin "ValueError.__new__")), (some (.bool true))])
noncomputable def o90 (P : Params) : Obj := diO (.type "dict") #[(en P "__module__" 326 (vS "roundmill.errors" 187)), (en P "__qualname__" 328 (vS "NoFraction" 327)), (en P "__firstlineno__" 330 (vI 18 329)), (en P "__static_attributes__" 331 (.ref 119))] 4
noncomputable def o91 : Obj := fiO (.type "code") #[(vS "NoFraction" 321), (vS "NoFraction" 322), (vS "/claim/cut.py" 323), (vI 18 0), (vI 0 0), (vI 0 0), (vI 0 0), (vI 0 0), (.ref 115), (.bool false), (vI 181 0), (.ref 116), .none, .none, .none, .none, (vI 324 0), (vI 18 0), (vS "/claim/cut.py" 325)]
noncomputable def o92 : Obj := (Obj.mk (.type "frame") none Data.plain #[(some (.ref 117)), (some (.ref 3)), (some (.ref 114)), none, (some (vS "roundmill.errors" 187)), none, (some (.ref 0))])
noncomputable def o93 (P : Params) : Obj := diO (.type "dict") #[(en P "__module__" 326 (vS "roundmill.errors" 187)), (en P "__firstlineno__" 330 (vI 18 329)), (en P "__static_attributes__" 331 (.ref 119)), (en P "__doc__" 332 .none)] 2
noncomputable def o94 : Obj := (Obj.mk (.type "type") none (Data.cls (ClassData.mk "NoFraction" [(.ref 24)] [(.ref 121), (.ref 24), (.type "ValueError"), (.type "Exception"), (.type "BaseException"), (.type "object")] 120 "NoFraction" true [] [] false none false)) #[(some (.ref 112)), none, (some (vS "NoFraction" 319)), (some (vS "NoFraction" 327)), (some (.builtin "ValueError.__new__")), (some (.bool true))])
noncomputable def o95 : Obj := fiO (.type "super") #[(.ref 121), (.ref 121), (.ref 121)]
noncomputable def o96 : Obj := fiO (.type "builtin_function_or_method") #[(.builtin "object.__init_subclass__"), (.ref 121)]
noncomputable def o97 (P : Params) : Obj := diO (.type "dict") #[(en P "__name__" 165 (vS "roundmill.errors" 187)), (en P "__doc__" 166 .none), (en P "__package__" 167 .none), (en P "__loader__" 168 (.builtin "__main__.__loader__#opaque")), (en P "__spec__" 169 .none), (en P "__annotations__" 170 (.ref 6)), (en P "__builtins__" 171 (.ref 4)), (en P "__file__" 173 (vS "/claim/cut.py" 172)), (en P "__cached__" 174 .none), (en P "MillError" 206 (.ref 24)), (en P "NoSize" 222 (.ref 37)), (en P "NoBits" 238 (.ref 49)), (en P "NoParts" 254 (.ref 61)), (en P "NoRank" 270 (.ref 73)), (en P "NotFinite" 286 (.ref 85)), (en P "NoWay" 302 (.ref 97)), (en P "NoFlags" 318 (.ref 109)), (en P "NoFraction" 334 (.ref 121)), (en P "Unlike" 350 (.ref 133))] 19
noncomputable def o98 : Obj := fiO .none #[(vI 2 0), (vI 0 0), (.ref 20), (vI 4 0), (vI 0 0), (.ref 33), (vI 6 0), (vI 0 0), (.ref 45), (vI 8 0), (vI 0 0), (.ref 57), (vI 10 0), (vI 0 0), (.ref 69), (vI 12 0), (vI 0 0), (.ref 81), (vI 14 0), (vI 0 0), (.ref 93), (vI 16 0), (vI 0 0), (.ref 105), (vI 18 0), (vI 0 0), (.ref 117), (vI 20 0), (vI 0 0), (.ref 129)]
noncomputable def o99 : Obj := (Obj.mk (.type "type") none (Data.cls (ClassData.mk "MillError" [(.type "ValueError")] [(.ref 24), (.type "ValueError"), (.type "Exception"), (.type "BaseException"), (.type "object")] 23 "MillError" true [] [(.ref 37), (.ref 49), (.ref 61), (.ref 73), (.ref 85), (.ref 97), (.ref 109), (.ref 121), (.ref 133)] false none false)) #[(some (.ref 15)), none, (some (vS "MillError" 189)), (some (vS "MillError" 197)), (some (.builtin "ValueError.__new__")), (some (.bool true))])
noncomputable def o100 (P : Params) : Obj := diO (.type "dict") #[(en P "__module__" 342 (vS "roundmill.errors" 187)), (en P "__qualname__" 344 (vS "Unlike" 343)), (en P "__firstlineno__" 346 (vI 20 345)), (en P "__static_attributes__" 347 (.ref 131))] 4
noncomputable def o101 : Obj := fiO (.type "code") #[(vS "Unlike" 337), (vS "Unlike" 338), (vS "/claim/cut.py" 339), (vI 20 0), (vI 0 0), (vI 0 0), (vI 0 0), (vI 0 0), (.ref 127), (.bool false), (vI 181 0), (.ref 128), .none, .none, .none, .none, (vI 340 0), (vI 20 0), (vS "/claim/cut.py" 341)]
noncomputable def o102 : Obj := (Obj.mk (.type "frame") none Data.plain #[(some (.ref 129)), (some (.ref 3)), (some (.ref 126)), none, (some (vS "roundmill.errors" 187)), none, (some (.ref 0))])
noncomputable def o103 (P : Params) : Obj := diO (.type "dict") #[(en P "__module__" 342 (vS "roundmill.errors" 187)), (en P "__firstlineno__" 346 (vI 20 345)), (en P "__static_attributes__" 347 (.ref 131)), (en P "__doc__" 348 .none)] 2
noncomputable def o104 : Obj := (Obj.mk (.type "type") none (Data.cls (ClassData.mk "Unlike" [(.ref 24)] [(.ref 133), (.ref 24), (.type "ValueError"), (.type "Exception"), (.type "BaseException"), (.type "object")] 132 "Unlike" true [] [] false none false)) #[(some (.ref 124)), none, (some (vS "Unlike" 335)), (some (vS "Unlike" 343)), (some (.builtin "ValueError.__new__")), (some (.bool true))])
noncomputable def o105 : Obj := fiO (.type "super") #[(.ref 133), (.ref 133), (.ref 133)]
noncomputable def o106 : Obj := fiO (.type "builtin_function_or_method") #[(.builtin "object.__init_subclass__"), (.ref 133)]
noncomputable def o107 (P : Params) : Obj := diO (.type "dict") #[(en P "__name__" 165 (vS "roundmill.errors" 187)), (en P "__doc__" 166 .none), (en P "__package__" 167 .none), (en P "__loader__" 168 (.builtin "__main__.__loader__#opaque")), (en P "__spec__" 169 .none), (en P "__annotations__" 170 (.ref 6)), (en P "__builtins__" 171 (.ref 4)), (en P "__file__" 173 (vS "/claim/cut.py" 172)), (en P "__cached__" 174 .none), (en P "MillError" 206 (.ref 24)), (en P "NoSize" 222 (.ref 37)), (en P "NoBits" 238 (.ref 49)), (en P "NoParts" 254 (.ref 61)), (en P "NoRank" 270 (.ref 73)), (en P "NotFinite" 286 (.ref 85)), (en P "NoWay" 302 (.ref 97)), (en P "NoFlags" 318 (.ref 109)), (en P "NoFraction" 334 (.ref 121)), (en P "Unlike" 350 (.ref 133)), (en P "Empty" 366 (.ref 145))] 20
noncomputable def o108 : Obj := fiO .none #[(vI 2 0), (vI 0 0), (.ref 20), (vI 4 0), (vI 0 0), (.ref 33), (vI 6 0), (vI 0 0), (.ref 45), (vI 8 0), (vI 0 0), (.ref 57), (vI 10 0), (vI 0 0), (.ref 69), (vI 12 0), (vI 0 0), (.ref 81), (vI 14 0), (vI 0 0), (.ref 93), (vI 16 0), (vI 0 0), (.ref 105), (vI 18 0), (vI 0 0), (.ref 117), (vI 20 0), (vI 0 0), (.ref 129), (vI 22 0), (vI 0 0), (.ref 141)]
noncomputable def o109 : Obj := (Obj.mk (.type "type") none (Data.cls (ClassData.mk "MillError" [(.type "ValueError")] [(.ref 24), (.type "ValueError"), (.type "Exception"), (.type "BaseException"), (.type "object")] 23 "MillError" true [] [(.ref 37), (.ref 49), (.ref 61), (.ref 73), (.ref 85), (.ref 97), (.ref 109), (.ref 121), (.ref 133), (.ref 145)] false none false)) #[(some (.ref 15)), none, (some (vS "MillError" 189)), (some (vS "MillError" 197)), (some (.builtin "ValueError.__new__")), (some (.bool true))])
noncomputable def o110 (P : Params) : Obj := diO (.type "dict") #[(en P "__module__" 358 (vS "roundmill.errors" 187)), (en P "__qualname__" 360 (vS "Empty" 359)), (en P "__firstlineno__" 362 (vI 22 361)), (en P "__static_attributes__" 363 (.ref 143))] 4
noncomputable def o111 : Obj := fiO (.type "code") #[(vS "Empty" 353), (vS "Empty" 354), (vS "/claim/cut.py" 355), (vI 22 0), (vI 0 0), (vI 0 0), (vI 0 0), (vI 0 0), (.ref 139), (.bool false), (vI 181 0), (.ref 140), .none, .none, .none, .none, (vI 356 0), (vI 22 0), (vS "/claim/cut.py" 357)]
noncomputable def o112 : Obj := (Obj.mk (.type "frame") none Data.plain #[(some (.ref 141)), (some (.ref 3)), (some (.ref 138)), none, (some (vS "roundmill.errors" 187)), none, (some (.ref 0))])
noncomputable def o113 (P : Params) : Obj := diO (.type "dict") #[(en P "__module__" 358 (vS "roundmill.errors" 187)), (en P "__firstlineno__" 362 (vI 22 361)), (en P "__static_attributes__" 363 (.ref 143)), (en P "__doc__" 364 .none)] 2
noncomputable def o114 : Obj := (Obj.mk (.type "type") none (Data.cls (ClassData.mk "Empty" [(.ref 24)] [(.ref 145), (.ref 24), (.type "ValueError"), (.type "Exception"), (.type "BaseException"), (.type "object")] 144 "Empty" true [] [] false none false)) #[(some (.ref 136)), none, (some (vS "Empty" 351)), (some (vS "Empty" 359)), (some (.builtin "ValueError.__new__")), (some (.bool true))])
noncomputable def o115 : Obj := fiO (.type "super") #[(.ref 145), (.ref 145), (.ref 145)]
noncomputable def o116 : Obj := fiO (.type "builtin_function_or_method") #[(.builtin "object.__init_subclass__"), (.ref 145)]
noncomputable def o117 (P : Params) : Obj := diO (.type "dict") #[(en P "__name__" 165 (vS "roundmill.errors" 187)), (en P "__doc__" 166 .none), (en P "__package__" 167 .none), (en P "__loader__" 168 (.builtin "__main__.__loader__#opaque")), (en P "__spec__" 169 .none), (en P "__annotations__" 170 (.ref 6)), (en P "__builtins__" 171 (.ref 4)), (en P "__file__" 173 (vS "/claim/cut.py" 172)), (en P "__cached__" 174 .none), (en P "MillError" 206 (.ref 24)), (en P "NoSize" 222 (.ref 37)), (en P "NoBits" 238 (.ref 49)), (en P "NoParts" 254 (.ref 61)), (en P "NoRank" 270 (.ref 73)), (en P "NotFinite" 286 (.ref 85)), (en P "NoWay" 302 (.ref 97)), (en P "NoFlags" 318 (.ref 109)), (en P "NoFraction" 334 (.ref 121)), (en P "Unlike" 350 (.ref 133)), (en P "Empty" 366 (.ref 145)), (en P "NoLeft" 382 (.ref 157))] 21
noncomputable def o118 : Obj := fiO .none #[(vI 2 0), (vI 0 0), (.ref 20), (vI 4 0), (vI 0 0), (.ref 33), (vI 6 0), (vI 0 0), (.ref 45), (vI 8 0), (vI 0 0), (.ref 57), (vI 10 0), (vI 0 0), (.ref 69), (vI 12 0), (vI 0 0), (.ref 81), (vI 14 0), (vI 0 0), (.ref 93), (vI 16 0), (vI 0 0), (.ref 105), (vI 18 0), (vI 0 0), (.ref 117), (vI 20 0), (vI 0 0), (.ref 129), (vI 22 0), (vI 0 0), (.ref 141), (vI 24 0), (vI 0 0), (.ref 153)]
noncomputable def o119 : Obj := (Obj.mk (.type "type") none (Data.cls (ClassData.mk "MillError" [(.type "ValueError")] [(.ref 24), (.type "ValueError"), (.type "Exception"), (.type "BaseException"), (.type "object")] 23 "MillError" true [] [(.ref 37), (.ref 49), (.ref 61), (.ref 73), (.ref 85), (.ref 97), (.ref 109), (.ref 121), (.ref 133), (.ref 145), (.ref 157)] false none false)) #[(some (.ref 15)), none, (some (vS "MillError" 189)), (some (vS "MillError" 197)), (some (.builtin "ValueError.__new__")), (some (.bool true))])
noncomputable def o120 (P : Params) : Obj := diO (.type "dict") #[(en P "__module__" 374 (vS "roundmill.errors" 187)), (en P "__qualname__" 376 (vS "NoLeft" 375)), (en P "__firstlineno__" 378 (vI 24 377)), (en P "__static_attributes__" 379 (.ref 155))] 4
noncomputable def o121 : Obj := fiO (.type "code") #[(vS "NoLeft" 369), (vS "NoLeft" 370), (vS "/claim/cut.py" 371), (vI 24 0), (vI 0 0), (vI 0 0), (vI 0 0), (vI 0 0), (.ref 151), (.bool false), (vI 181 0), (.ref 152), .none, .none, .none, .none, (vI 372 0), (vI 24 0), (vS "/claim/cut.py" 373)]
noncomputable def o122 : Obj := (Obj.mk (.type "frame") none Data.plain #[(some (.ref 153)), (some (.ref 3)), (some (.ref 150)), none, (some (vS "roundmill.errors" 187)), none, (some (.ref 0))])
noncomputable def o123 (P : Params) : Obj := diO (.type "dict") #[(en P "__module__" 374 (vS "roundmill.errors" 187)), (en P "__firstlineno__" 378 (vI 24 377)), (en P "__static_attributes__" 379 (.ref 155)), (en P "__doc__" 380 .none)] 2
noncomputable def o124 : Obj := (Obj.mk (.type "type") none (Data.cls (ClassData.mk "NoLeft" [(.ref 24)] [(.ref 157), (.ref 24), (.type "ValueError"), (.type "Exception"), (.type "BaseException"), (.type "object")] 156 "NoLeft" true [] [] false none false)) #[(some (.ref 148)), none, (some (vS "NoLeft" 367)), (some (vS "NoLeft" 375)), (some (.builtin "ValueError.__new__")), (some (.bool true))])
noncomputable def o125 : Obj := fiO (.type "super") #[(.ref 157), (.ref 157), (.ref 157)]
noncomputable def o126 : Obj := fiO (.type "builtin_function_or_method") #[(.builtin "object.__init_subclass__"), (.ref 157)]
noncomputable def o127 (P : Params) : Obj := diO (.type "dict") #[(en P "__name__" 165 (vS "roundmill.errors" 187)), (en P "__doc__" 166 .none), (en P "__package__" 167 .none), (en P "__loader__" 168 (.builtin "__main__.__loader__#opaque")), (en P "__spec__" 169 .none), (en P "__annotations__" 170 (.ref 6)), (en P "__builtins__" 171 (.ref 4)), (en P "__file__" 173 (vS "/claim/cut.py" 172)), (en P "__cached__" 174 .none), (en P "MillError" 206 (.ref 24)), (en P "NoSize" 222 (.ref 37)), (en P "NoBits" 238 (.ref 49)), (en P "NoParts" 254 (.ref 61)), (en P "NoRank" 270 (.ref 73)), (en P "NotFinite" 286 (.ref 85)), (en P "NoWay" 302 (.ref 97)), (en P "NoFlags" 318 (.ref 109)), (en P "NoFraction" 334 (.ref 121)), (en P "Unlike" 350 (.ref 133)), (en P "Empty" 366 (.ref 145)), (en P "NoLeft" 382 (.ref 157)), (en P "NoText" 398 (.ref 169))] 22
noncomputable def o128 : Obj := fiO .none #[(vI 2 0), (vI 0 0), (.ref 20), (vI 4 0), (vI 0 0), (.ref 33), (vI 6 0), (vI 0 0), (.ref 45), (vI 8 0), (vI 0 0), (.ref 57), (vI 10 0), (vI 0 0), (.ref 69), (vI 12 0), (vI 0 0), (.ref 81), (vI 14 0), (vI 0 0), (.ref 93), (vI 16 0), (vI 0 0), (.ref 105), (vI 18 0), (vI 0 0), (.ref 117), (vI 20 0), (vI 0 0), (.ref 129), (vI 22 0), (vI 0 0), (.ref 141), (vI 24 0), (vI 0 0), (.ref 153), (vI 26 0), (vI 0 0), (.ref 165)]
noncomputable def o129 : Obj := (Obj.mk (.type "type") none (Data.cls (ClassData.mk "MillError" [(.type "ValueError")] [(.ref 24), (.type "ValueError"), (.type "Exception"), (.type "BaseException"), (.type "object")] 23 "MillError" true [] [(.ref 37), (.ref 49), (.ref 61), (.ref 73), (.ref 85), (.ref 97), (.ref 109), (.ref 121), (.ref 133), (.ref 145), (.ref 157), (.ref 169)] false none false)) #[(some (.ref 15)), none, (some (vS "MillError" 189)), (some (vS "MillError" 197)), (some (.builtin "ValueError.__new__")), (some (.bool true))])
noncomputable def o130 (P : Params) : Obj := diO (.type "dict") #[(en P "__module__" 390 (vS "roundmill.errors" 187)), (en P "__qualname__" 392 (vS "NoText" 391)), (en P "__firstlineno__" 394 (vI 26 393)), (en P "__static_attributes__" 395 (.ref 167))] 4
noncomputable def o131 : Obj := fiO (.type "code") #[(vS "NoText" 385), (vS "NoText" 386), (vS "/claim/cut.py" 387), (vI 26 0), (vI 0 0), (vI 0 0), (vI 0 0), (vI 0 0), (.ref 163), (.bool false), (vI 181 0), (.ref 164), .none, .none, .none, .none, (vI 388 0), (vI 26 0), (vS "/claim/cut.py" 389)]
noncomputable def o132 : Obj := (Obj.mk (.type "frame") none Data.plain #[(some (.ref 165)), (some (.ref 3)), (some (.ref 162)), none, (some (vS "roundmill.errors" 187)), none, (some (.ref 0))])
noncomputable def o133 (P : Params) : Obj := diO (.type "dict") #[(en P "__module__" 390 (vS "roundmill.errors" 187)), (en P "__firstlineno__" 394 (vI 26 393)), (en P "__static_attributes__" 395 (.ref 167)), (en P "__doc__" 396 .none)] 2
noncomputable def o134 : Obj := (Obj.mk (.type "type") none (Data.cls (ClassData.mk "NoText" [(.ref 24)] [(.ref 169), (.ref 24), (.type "ValueError"), (.type "Exception"), (.type "BaseException"), (.type "object")] 168 "NoText" true [] [] false none false)) #[(some (.ref 160)), none, (some (vS "NoText" 383)), (some (vS "NoText" 391)), (some (.builtin "ValueError.__new__")), (some (.bool true))])
noncomputable def o135 : Obj := fiO (.type "super") #[(.ref 169), (.ref 169), (.ref 169)]
noncomputable def o136 : Obj := fiO (.type "builtin_function_or_method") #[(.builtin "object.__init_subclass__"), (.ref 169)]
noncomputable def o137 (P : Params) : Obj := diO (.type "dict") #[(en P "__name__" 165 (vS "roundmill.errors" 187)), (en P "__doc__" 166 .none), (en P "__package__" 167 .none), (en P "__loader__" 168 (.builtin "__main__.__loader__#opaque")), (en P "__spec__" 169 .none), (en P "__annotations__" 170 (.ref 6)), (en P "__builtins__" 171 (.ref 4)), (en P "__file__" 173 (vS "/claim/cut.py" 172)), (en P "__cached__" 174 .none), (en P "MillError" 206 (.ref 24)), (en P "NoSize" 222 (.ref 37)), (en P "NoBits" 238 (.ref 49)), (en P "NoParts" 254 (.ref 61)), (en P "NoRank" 270 (.ref 73)), (en P "NotFinite" 286 (.ref 85)), (en P "NoWay" 302 (.ref 97)), (en P "NoFlags" 318 (.ref 109)), (en P "NoFraction" 334 (.ref 121)), (en P "Unlike" 350 (.ref 133)), (en P "Empty" 366 (.ref 145)), (en P "NoLeft" 382 (.ref 157)), (en P "NoText" 398 (.ref 169)), (en P "NoRow" 414 (.ref 181))] 23
noncomputable def o138 : Obj := fiO .none #[(vI 2 0), (vI 0 0), (.ref 20), (vI 4 0), (vI 0 0), (.ref 33), (vI 6 0), (vI 0 0), (.ref 45), (vI 8 0), (vI 0 0), (.ref 57), (vI 10 0), (vI 0 0), (.ref 69), (vI 12 0), (vI 0 0), (.ref 81), (vI 14 0), (vI 0 0), (.ref 93), (vI 16 0), (vI 0 0), (.ref 105), (vI 18 0), (vI 0 0), (.ref 117), (vI 20 0), (vI 0 0), (.ref 129), (vI 22 0), (vI 0 0), (.ref 141), (vI 24 0), (vI 0 0), (.ref 153), (vI 26 0), (vI 0 0), (.ref 165), (vI 28 0), (vI 0 0), (.ref 177)]
noncomputable def o139 : Obj := (Obj.mk (.type "type") none (Data.cls (ClassData.mk "MillError" [(.type "ValueError")] [(.ref 24), (.type "ValueError"), (.type "Exception"), (.type "BaseException"), (.type "object")] 23 "MillError" true [] [(.ref 37), (.ref 49), (.ref 61), (.ref 73), (.ref 85), (.ref 97), (.ref 109), (.ref 121), (.ref 133), (.ref 145), (.ref 157), (.ref 169), (.ref 181)] false none false)) #[(some (.ref 15)), none, (some (vS "MillError" 189)), (some (vS "MillError" 197)), (some (.builtin "ValueError.__new__")), (some (.bool true))])
noncomputable def o140 (P : Params) : Obj := diO (.type "dict") #[(en P "__module__" 406 (vS "roundmill.errors" 187)), (en P "__qualname__" 408 (vS "NoRow" 407)), (en P "__firstlineno__" 410 (vI 28 409)), (en P "__static_attributes__" 411 (.ref 179))] 4
noncomputable def o141 : Obj := fiO (.type "code") #[(vS "NoRow" 401), (vS "NoRow" 402), (vS "/claim/cut.py" 403), (vI 28 0), (vI 0 0), (vI 0 0), (vI 0 0), (vI 0 0), (.ref 175), (.bool false), (vI 181 0), (.ref 176), .none, .none, .none, .none, (vI 404 0), (vI 28 0), (vS "/claim/cut.py" 405)]
noncomputable def o142 : Obj := (Obj.mk (.type "frame") none Data.plain #[(some (.ref 177)), (some (.ref 3)), (some (.ref 174)), none, (some (vS "roundmill.errors" 187)), none, (some (.ref 0))])
noncomputable def o143 (P : Params) : Obj := diO (.type "dict") #[(en P "__module__" 406 (vS "roundmill.errors" 187)), (en P "__firstlineno__" 410 (vI 28 409)), (en P "__static_attributes__" 411 (.ref 179)), (en P "__doc__" 412 .none)] 2
noncomputable def o144 : Obj := (Obj.mk (.type "type") none (Data.cls (ClassData.mk "NoRow" [(.ref 24)] [(.ref 181), (.ref 24), (.type "ValueError"), (.type "Exception"), (.type "BaseException"), (.type "object")] 180 "NoRow" true [] [] false none false)) #[(some (.ref 172)), none, (some (vS "NoRow" 399)), (some (vS "NoRow" 407)), (some (.builtin "ValueError.__new__")), (some (.bool true))])
noncomputable def o145 : Obj := fiO (.type "super") #[(.ref 181), (.ref 181), (.ref 181)]
noncomputable def o146 : Obj := fiO (.type "builtin_function_or_method") #[(.builtin "object.__init_subclass__"), (.ref 181)]
noncomputable def o147 (P : Params) : Obj := diO (.type "dict") #[(en P "__name__" 165 (vS "roundmill.errors" 187)), (en P "__doc__" 166 .none), (en P "__package__" 167 .none), (en P "__loader__" 168 (.builtin "__main__.__loader__#opaque")), (en P "__spec__" 169 .none), (en P "__annotations__" 170 (.ref 6)), (en P "__builtins__" 171 (.ref 4)), (en P "__file__" 173 (vS "/claim/cut.py" 172)), (en P "__cached__" 174 .none), (en P "MillError" 206 (.ref 24)), (en P "NoSize" 222 (.ref 37)), (en P "NoBits" 238 (.ref 49)), (en P "NoParts" 254 (.ref 61)), (en P "NoRank" 270 (.ref 73)), (en P "NotFinite" 286 (.ref 85)), (en P "NoWay" 302 (.ref 97)), (en P "NoFlags" 318 (.ref 109)), (en P "NoFraction" 334 (.ref 121)), (en P "Unlike" 350 (.ref 133)), (en P "Empty" 366 (.ref 145)), (en P "NoLeft" 382 (.ref 157)), (en P "NoText" 398 (.ref 169)), (en P "NoRow" 414 (.ref 181)), (en P "NoName" 430 (.ref 193))] 24
noncomputable def o148 : Obj := fiO .none #[(vI 2 0), (vI 0 0), (.ref 20), (vI 4 0), (vI 0 0), (.ref 33), (vI 6 0), (vI 0 0), (.ref 45), (vI 8 0), (vI 0 0), (.ref 57), (vI 10 0), (vI 0 0), (.ref 69), (vI 12 0), (vI 0 0), (.ref 81), (vI 14 0), (vI 0 0), (.ref 93), (vI 16 0), (vI 0 0), (.ref 105), (vI 18 0), (vI 0 0), (.ref 117), (vI 20 0), (vI 0 0), (.ref 129), (vI 22 0), (vI 0 0), (.ref 141), (vI 24 0), (vI 0 0), (.ref 153), (vI 26 0), (vI 0 0), (.ref 165), (vI 28 0), (vI 0 0), (.ref 177), (vI 30 0), (vI 0 0), (.ref 189)]
noncomputable def o149 : Obj := (Obj.mk (.type "type") none (Data.cls (ClassData.mk "MillError" [(.type "ValueError")] [(.ref 24), (.type "ValueError"), (.type "Exception"), (.type "BaseException"), (.type "object")] 23 "MillError" true [] [(.ref 37), (.ref 49), (.ref 61), (.ref 73), (.ref 85), (.ref 97), (.ref 109), (.ref 121), (.ref 133), (.ref 145), (.ref 157), (.ref 169), (.ref 181), (.ref 193)] false none false)) #[(some (.ref 15)), none, (some (vS "MillError" 189)), (some (vS "MillError" 197)), (some (.builtin "ValueError.__new__")), (some (.bool true))])
noncomputable def o150 (P : Params) : Obj := diO (.type "dict") #[(en P "__module__" 422 (vS "roundmill.errors" 187)), (en P "__qualname__" 424 (vS "NoName" 423)), (en P "__firstlineno__" 426 (vI 30 425)), (en P "__static_attributes__" 427 (.ref 191))] 4
noncomputable def o151 : Obj := fiO (.type "code") #[(vS "NoName" 417), (vS "NoName" 418), (vS "/claim/cut.py" 419), (vI 30 0), (vI 0 0), (vI 0 0), (vI 0 0), (vI 0 0), (.ref 187), (.bool false), (vI 181 0), (.ref 188), .none, .none, .none, .none, (vI 420 0), (vI 30 0), (vS "/claim/cut.py" 421)]
noncomputable def o152 : Obj := (Obj.mk (.type "frame") none Data.plain #[(some (.ref 189)), (some (.ref 3)), (some (.ref 186)), none, (some (vS "roundmill.errors" 187)), none, (some (.ref 0))])
noncomputable def o153 (P : Params) : Obj := diO (.type "dict") #[(en P "__module__" 422 (vS "roundmill.errors" 187)), (en P "__firstlineno__" 426 (vI 30 425)), (en P "__static_attributes__" 427 (.ref 191)), (en P "__doc__" 428 .none)] 2
noncomputable def o154 : Obj := (Obj.mk (.type "type") none (Data.cls (ClassData.mk "NoName" [(.ref 24)] [(.ref 193), (.ref 24), (.type "ValueError"), (.type "Exception"), (.type "BaseException"), (.type "object")] 192 "NoName" true [] [] false none false)) #[(some (.ref 184)), none, (some (vS "NoName" 415)), (some (vS "NoName" 423)), (some (.builtin "ValueError.__new__")), (some (.bool true))])
noncomputable def o155 : Obj := fiO (.type "super") #[(.ref 193), (.ref 193), (.ref 193)]
noncomputable def o156 : Obj := fiO (.type "builtin_function_or_method") #[(.builtin "object.__init_subclass__"), (.ref 193)]
noncomputable def o157 (P : Params) : Obj := diO (.type "dict") #[(en P "__name__" 165 (vS "roundmill.sizes" 458)), (en P "__doc__" 166 .none), (en P "__package__" 167 .none), (en P "__loader__" 168 (.builtin "__main__.__loader__#opaque")), (en P "__spec__" 169 .none), (en P "__annotations__" 170 (.ref 6)), (en P "__builtins__" 171 (.ref 4)), (en P "__file__" 173 (vS "/claim/cut.py" 172)), (en P "__cached__" 174 .none), (en P "MillError" 206 (.ref 24)), (en P "NoSize" 222 (.ref 37)), (en P "NoBits" 238 (.ref 49)), (en P "NoParts" 254 (.ref 61)), (en P "NoRank" 270 (.ref 73)), (en P "NotFinite" 286 (.ref 85)), (en P "NoWay" 302 (.ref 97)), (en P "NoFlags" 318 (.ref 109)), (en P "NoFraction" 334 (.ref 121)), (en P "Unlike" 350 (.ref 133)), (en P "Empty" 366 (.ref 145)), (en P "NoLeft" 382 (.ref 157)), (en P "NoText" 398 (.ref 169)), (en P "NoRow" 414 (.ref 181)), (en P "NoName" 430 (.ref 193)), (en P "Stopped" 457 (.ref 212)), (en P "width" 466 (.ref 221)), (en P "bias" 473 (.ref 228)), (en P "low" 480 (.ref 235)), (en P "sign_bit" 487 (.ref 242))] 29
noncomputable def o158 : Obj := fiO .none #[(vI 2 0), (vI 0 0), (.ref 20), (vI 4 0), (vI 0 0), (.ref 33), (vI 6 0), (vI 0 0), (.ref 45), (vI 8 0), (vI 0 0), (.ref 57), (vI 10 0), (vI 0 0), (.ref 69), (vI 12 0), (vI 0 0), (.ref 81), (vI 14 0), (vI 0 0), (.ref 93), (vI 16 0), (vI 0 0), (.ref 105), (vI 18 0), (vI 0 0), (.ref 117), (vI 20 0), (vI 0 0), (.ref 129), (vI 22 0), (vI 0 0), (.ref 141), (vI 24 0), (vI 0 0), (.ref 153), (vI 26 0), (vI 0 0), (.ref 165), (vI 28 0), (vI 0 0), (.ref 177), (vI 30 0), (vI 0 0), (.ref 189), (vI 32 0), (vI 0 0), (.ref 201), (vI 39 0), (vI 0 0), (.ref 220), (vI 41 0), (vI 0 0), (.ref 227), (vI 43 0), (vI 0 0), (.ref 234), (vI 45 0), (vI 0 0), (.ref 241)]
noncomputable def o159 : Obj := (Obj.mk (.type "type") none (Data.cls (ClassData.mk "MillError" [(.type "ValueError")] [(.ref 24), (.type "ValueError"), (.type "Exception"), (.type "BaseException"), (.type "object")] 23 "MillError" true [] [(.ref 37), (.ref 49), (.ref 61), (.ref 73), (.ref 85), (.ref 97), (.ref 109), (.ref 121), (.ref 133), (.ref 145), (.ref 157), (.ref 169), (.ref 181), (.ref 193), (.ref 212)] false none false)) #[(some (.ref 15)), none, (some (vS "MillError" 189)), (some (vS "MillError" 197)), (some (.builtin "ValueError.__new__")), (some (.bool true))])
noncomputable def o160 (P : Params) : Obj := diO (.type "dict") #[(en P "__module__" 438 (vS "roundmill.errors" 187)), (en P "__qualname__" 440 (vS "Stopped" 439)), (en P "__firstlineno__" 442 (vI 32 441)), (en P "__init__" 451 (.ref 209)), (en P "__static_attributes__" 454 (.ref 210))] 5
noncomputable def o161 : Obj := fiO .none #[(vI 34 0), (vI 4 0), (.ref 208)]
noncomputable def o162 : Obj := fiO (.type "code") #[(vS "Stopped" 433), (vS "Stopped" 434), (vS "/claim/cut.py" 435), (vI 32 0), (vI 0 0), (vI 0 0), (vI 0 0), (vI 0 0), (.ref 199), (.bool false), (vI 181 0), (.ref 200), .none, .none, .none, .none, (vI 436 0), (vI 32 0), (vS "/claim/cut.py" 437)]
noncomputable def o163 : Obj := (Obj.mk (.type "frame") none Data.plain #[(some (.ref 201)), (some (.ref 3)), (some (.ref 198)), none, (some (vS "roundmill.errors" 187)), none, (some (.ref 0))])
noncomputable def o164 : Obj := sqO (.type "tuple") #[(vS "self" 446), (vS "at" 447), (vS "told" 448)]
noncomputable def o165 : Obj := fnO .none "__init__" "Stopped.__init__" ((clsBody (T.top 16)).getD 0 (.Pass ⟨0, 0, 0, 0⟩)) 0 [] .none .none .none .none none .none .none 0
noncomputable def o166 : Obj := fiO (.type "code") #[(vS "__init__" 443), (vS "Stopped.__init__" 444), (vS "/claim/cut.py" 445), (vI 34 0), (vI 3 0), (vI 0 0), (vI 0 0), (vI 3 0), (.ref 203), (.bool true), (vI 181 0), (.ref 204), .none, (.ref 205), (.ref 206), (.ref 207), (vI 449 0), (vI 34 0), (vS "/claim/cut.py" 450)]
noncomputable def o167 : Obj := fnO (.type "function") "__init__" "Stopped.__init__" ((clsBody (T.top 16)).getD 0 (.Pass ⟨0, 0, 0, 0⟩)) 3 [] .none .none .none (vS "roundmill.errors" 187) none (.ref 208) .none 0
noncomputable def o168 : Obj := sqO (.type "tuple") #[(vS "at" 452), (vS "told" 453)]
noncomputable def o169 (P : Params) : Obj := diO (.type "dict") #[(en P "__module__" 438 (vS "roundmill.errors" 187)), (en P "__firstlineno__" 442 (vI 32 441)), (en P "__init__" 451 (.ref 209)), (en P "__static_attributes__" 454 (.ref 210)), (en P "__doc__" 455 .none)] 2
noncomputable def o170 : Obj := (Obj.mk (.type "type") none (Data.cls (ClassData.mk "Stopped" [(.ref 24)] [(.ref 212), (.ref 24), (.type "ValueError"), (.type "Exception"), (.type "BaseException"), (.type "object")] 211 "Stopped" true [] [] false none false)) #[(some (.ref 196)), none, (some (vS "Stopped" 431)), (some (vS "Stopped" 439)), (some (.builtin "ValueError.__new__")), (some (.bool true))])
noncomputable def o171 : Obj := fiO (.type "super") #[(.ref 212), (.ref 212), (.ref 212)]
noncomputable def o172 : Obj := fiO (.type "builtin_function_or_method") #[(.builtin "object.__init_subclass__"), (.ref 212)]
noncomputable def o173 : Obj := sqO (.type "tuple") #[(vS "size" 463)]
noncomputable def o174 : Obj := fnO .none "width" "width" (T.top 18) 0 [] .none .none .none .none none .none .none 0
noncomputable def o175 : Obj := fiO (.type "code") #[(vS "width" 460), (vS "width" 461), (vS "/claim/cut.py" 462), (vI 39 0), (vI 1 0), (vI 0 0), (vI 0 0), (vI 3 0), (.ref 215), (.bool true), (vI 181 0), (.ref 216), .none, (.ref 217), (.ref 218), (.ref 219), (vI 464 0), (vI 39 0), (vS "/claim/cut.py" 465)]
noncomputable def o176 : Obj := fnO (.type "function") "width" "width" (T.top 18) 3 [] .none .none .none (vS "roundmill.sizes" 458) none (.ref 220) .none 0
noncomputable def o177 : Obj := sqO (.type "tuple") #[(vS "size" 470)]
noncomputable def o178 : Obj := fnO .none "bias" "bias" (T.top 19) 0 [] .none .none .none .none none .none .none 0
noncomputable def o179 : Obj := fiO (.type "code") #[(vS "bias" 467), (vS "bias" 468), (vS "/claim/cut.py" 469), (vI 41 0), (vI 1 0), (vI 0 0), (vI 0 0), (vI 3 0), (.ref 222), (.bool true), (vI 181 0), (.ref 223), .none, (.ref 224), (.ref 225), (.ref 226), (vI 471 0), (vI 41 0), (vS "/claim/cut.py" 472)]
noncomputable def o180 : Obj := fnO (.type "function") "bias" "bias" (T.top 19) 3 [] .none .none .none (vS "roundmill.sizes" 458) none (.ref 227) .none 0
noncomputable def o181 : Obj := sqO (.type "tuple") #[(vS "size" 477)]
noncomputable def o182 : Obj := fnO .none "low" "low" (T.top 20) 0 [] .none .none .none .none none .none .none 0
noncomputable def o183 : Obj := fiO (.type "code") #[(vS "low" 474), (vS "low" 475), (vS "/claim/cut.py" 476), (vI 43 0), (vI 1 0), (vI 0 0), (vI 0 0), (vI 3 0), (.ref 229), (.bool true), (vI 181 0), (.ref 230), .none, (.ref 231), (.ref 232), (.ref 233), (vI 478 0), (vI 43 0), (vS "/claim/cut.py" 479)]
noncomputable def o184 : Obj := fnO (.type "function") "low" "low" (T.top 20) 3 [] .none .none .none (vS "roundmill.sizes" 458) none (.ref 234) .none 0
noncomputable def o185 : Obj := sqO (.type "tuple") #[(vS "size" 484)]
noncomputable def o186 : Obj := fnO .none "sign_bit" "sign_bit" (T.top 21) 0 [] .none .none .none .none none .none .none 0
noncomputable def o187 : Obj := fiO (.type "code") #[(vS "sign_bit" 481), (vS "sign_bit" 482), (vS "/claim/cut.py" 483), (vI 45 0), (vI 1 0), (vI 0 0), (vI 0 0), (vI 3 0), (.ref 236), (.bool true), (vI 181 0), (.ref 237), .none, (.ref 238), (.ref 239), (.ref 240), (vI 485 0), (vI 45 0), (vS "/claim/cut.py" 486)]
noncomputable def o188 : Obj := fnO (.type "function") "sign_bit" "sign_bit" (T.top 21) 3 [] .none .none .none (vS "roundmill.sizes" 458) none (.ref 241) .none 0
noncomputable def o189 (P : Params) : Obj := diO (.type "dict") #[(en P "__name__" 165 (vS "roundmill.order" 573)), (en P "__doc__" 166 .none), (en P "__package__" 167 .none), (en P "__loader__" 168 (.builtin "__main__.__loader__#opaque")), (en P "__spec__" 169 .none), (en P "__annotations__" 170 (.ref 6)), (en P "__builtins__" 171 (.ref 4)), (en P "__file__" 173 (vS "/claim/cut.py" 172)), (en P "__cached__" 174 .none), (en P "MillError" 206 (.ref 24)), (en P "NoSize" 222 (.ref 37)), (en P "NoBits" 238 (.ref 49)), (en P "NoParts" 254 (.ref 61)), (en P "NoRank" 270 (.ref 73)), (en P "NotFinite" 286 (.ref 85)), (en P "NoWay" 302 (.ref 97)), (en P "NoFlags" 318 (.ref 109)), (en P "NoFraction" 334 (.ref 121)), (en P "Unlike" 350 (.ref 133)), (en P "Empty" 366 (.ref 145)), (en P "NoLeft" 382 (.ref 157)), (en P "NoText" 398 (.ref 169)), (en P "NoRow" 414 (.ref 181)), (en P "NoName" 430 (.ref 193)), (en P "Stopped" 457 (.ref 212)), (en P "width" 466 (.ref 221)), (en P "bias" 473 (.ref 228)), (en P "low" 480 (.ref 235)), (en P "sign_bit" 487 (.ref 242)), (en P "last_field" 494 (.ref 249)), (en P "endless" 501 (.ref 256)), (en P "parted" 513 (.ref 263)), (en P "joined" 523 (.ref 270)), (en P "kind" 534 (.ref 277)), (en P "worth" 546 (.ref 284)), (en P "worth_fraction" 555 (.ref 291)), (en P "fraction" 563 (.ref 298)), (en P "negated" 572 (.ref 305)), (en P "rank" 583 (.ref 312)), (en P "compared" 595 (.ref 319)), (en P "above" 604 (.ref 326))] 41
noncomputable def o190 : Obj := fiO .none #[(vI 2 0), (vI 0 0), (.ref 20), (vI 4 0), (vI 0 0), (.ref 33), (vI 6 0), (vI 0 0), (.ref 45), (vI 8 0), (vI 0 0), (.ref 57), (vI 10 0), (vI 0 0), (.ref 69), (vI 12 0), (vI 0 0), (.ref 81), (vI 14 0), (vI 0 0), (.ref 93), (vI 16 0), (vI 0 0), (.ref 105), (vI 18 0), (vI 0 0), (.ref 117), (vI 20 0), (vI 0 0), (.ref 129), (vI 22 0), (vI 0 0), (.ref 141), (vI 24 0), (vI 0 0), (.ref 153), (vI 26 0), (vI 0 0), (.ref 165), (vI 28 0), (vI 0 0), (.ref 177), (vI 30 0), (vI 0 0), (.ref 189), (vI 32 0), (vI 0 0), (.ref 201), (vI 39 0), (vI 0 0), (.ref 220), (vI 41 0), (vI 0 0), (.ref 227), (vI 43 0), (vI 0 0), (.ref 234), (vI 45 0), (vI 0 0), (.ref 241), (vI 47 0), (vI 0 0), (.ref 248), (vI 49 0), (vI 0 0), (.ref 255), (vI 52 0), (vI 0 0), (.ref 262), (vI 58 0), (vI 0 0), (.ref 269), (vI 66 0), (vI 0 0), (.ref 276), (vI 75 0), (vI 0 0), (.ref 283), (vI 85 0), (vI 0 0), (.ref 290), (vI 91 0), (vI 0 0), (.ref 297), (vI 93 0), (vI 0 0), (.ref 304), (vI 97 0), (vI 0 0), (.ref 311), (vI 102 0), (vI 0 0), (.ref 318), (vI 111 0), (vI 0 0), (.ref 325)]
noncomputable def o191 : Obj := sqO (.type "tuple") #[(vS "size" 491)]
noncomputable def o192 : Obj := fnO .none "last_field" "last_field" (T.top 22) 0 [] .none .none .none .none none .none .none 0
noncomputable def o193 : Obj := fiO (.type "code") #[(vS "last_field" 488), (vS "last_field" 489), (vS "/claim/cut.py" 490), (vI 47 0), (vI 1 0), (vI 0 0), (vI 0 0), (vI 3 0), (.ref 243), (.bool true), (vI 181 0), (.ref 244), .none, (.ref 245), (.ref 246), (.ref 247), (vI 492 0), (vI 47 0), (vS "/claim/cut.py" 493)]
noncomputable def o194 : Obj := fnO (.type "function") "last_field" "last_field" (T.top 22) 3 [] .none .none .none (vS "roundmill.sizes" 458) none (.ref 248) .none 0
noncomputable def o195 : Obj := sqO (.type "tuple") #[(vS "size" 498)]
noncomputable def o196 : Obj := fnO .none "endless" "endless" (T.top 23) 0 [] .none .none .none .none none .none .none 0
noncomputable def o197 : Obj := fiO (.type "code") #[(vS "endless" 495), (vS "endless" 496), (vS "/claim/cut.py" 497), (vI 49 0), (vI 1 0), (vI 0 0), (vI 0 0), (vI 3 0), (.ref 250), (.bool true), (vI 181 0), (.ref 251), .none, (.ref 252), (.ref 253), (.ref 254), (vI 499 0), (vI 49 0), (vS "/claim/cut.py" 500)]
noncomputable def o198 : Obj := fnO (.type "function") "endless" "endless" (T.top 23) 3 [] .none .none .none (vS "roundmill.sizes" 458) none (.ref 255) .none 0
noncomputable def o199 : Obj := sqO (.type "tuple") #[(vS "size" 507), (vS "bits" 508), (vS "code" 509), (vS "step" 510)]
noncomputable def o200 : Obj := fnO .none "parted" "parted" (T.top 25) 0 [] .none .none .none .none none .none .none 0
noncomputable def o201 : Obj := fiO (.type "code") #[(vS "parted" 504), (vS "parted" 505), (vS "/claim/cut.py" 506), (vI 52 0), (vI 2 0), (vI 0 0), (vI 0 0), (vI 3 0), (.ref 257), (.bool true), (vI 181 0), (.ref 258), .none, (.ref 259), (.ref 260), (.ref 261), (vI 511 0), (vI 52 0), (vS "/claim/cut.py" 512)]
noncomputable def o202 : Obj := fnO (.type "function") "parted" "parted" (T.top 25) 3 [] .none .none .none (vS "roundmill.parts" 502) none (.ref 262) .none 0
noncomputable def o203 : Obj := sqO (.type "tuple") #[(vS "size" 517), (vS "sign" 518), (vS "field" 519), (vS "figures" 520)]
noncomputable def o204 : Obj := fnO .none "joined" "joined" (T.top 26) 0 [] .none .none .none .none none .none .none 0
noncomputable def o205 : Obj := fiO (.type "code") #[(vS "joined" 514), (vS "joined" 515), (vS "/claim/cut.py" 516), (vI 58 0), (vI 4 0), (vI 0 0), (vI 0 0), (vI 3 0), (.ref 264), (.bool true), (vI 181 0), (.ref 265), .none, (.ref 266), (.ref 267), (.ref 268), (vI 521 0), (vI 58 0), (vS "/claim/cut.py" 522)]
noncomputable def o206 : Obj := fnO (.type "function") "joined" "joined" (T.top 26) 3 [] .none .none .none (vS "roundmill.parts" 502) none (.ref 269) .none 0
noncomputable def o207 : Obj := sqO (.type "tuple") #[(vS "size" 527), (vS "bits" 528), (vS "parts" 529), (vS "field" 530), (vS "figures" 531)]
noncomputable def o208 : Obj := fnO .none "kind" "kind" (T.top 27) 0 [] .none .none .none .none none .none .none 0
noncomputable def o209 : Obj := fiO (.type "code") #[(vS "kind" 524), (vS "kind" 525), (vS "/claim/cut.py" 526), (vI 66 0), (vI 2 0), (vI 0 0), (vI 0 0), (vI 3 0), (.ref 271), (.bool true), (vI 181 0), (.ref 272), .none, (.ref 273), (.ref 274), (.ref 275), (vI 532 0), (vI 66 0), (vS "/claim/cut.py" 533)]
noncomputable def o210 : Obj := fnO (.type "function") "kind" "kind" (T.top 27) 3 [] .none .none .none (vS "roundmill.parts" 502) none (.ref 276) .none 0
noncomputable def o211 : Obj := sqO (.type "tuple") #[(vS "size" 538), (vS "bits" 539), (vS "parts" 540), (vS "sign" 541), (vS "field" 542), (vS "figures" 543)]
noncomputable def o212 : Obj := fnO .none "worth" "worth" (T.top 28) 0 [] .none .none .none .none none .none .none 0
noncomputable def o213 : Obj := fiO (.type "code") #[(vS "worth" 535), (vS "worth" 536), (vS "/claim/cut.py" 537), (vI 75 0), (vI 2 0), (vI 0 0), (vI 0 0), (vI 3 0), (.ref 278), (.bool true), (vI 181 0), (.ref 279), .none, (.ref 280), (.ref 281), (.ref 282), (vI 544 0), (vI 75 0), (vS "/claim/cut.py" 545)]
noncomputable def o214 : Obj := fnO (.type "function") "worth" "worth" (T.top 28) 3 [] .none .none .none (vS "roundmill.parts" 502) none (.ref 283) .none 0
noncomputable def o215 : Obj := sqO (.type "tuple") #[(vS "value" 550), (vS "whole" 551), (vS "power" 552)]
noncomputable def o216 : Obj := fnO .none "worth_fraction" "worth_fraction" (T.top 29) 0 [] .none .none .none .none none .none .none 0
noncomputable def o217 : Obj := fiO (.type "code") #[(vS "worth_fraction" 547), (vS "worth_fraction" 548), (vS "/claim/cut.py" 549), (vI 85 0), (vI 1 0), (vI 0 0), (vI 0 0), (vI 3 0), (.ref 285), (.bool true), (vI 181 0), (.ref 286), .none, (.ref 287), (.ref 288), (.ref 289), (vI 553 0), (vI 85 0), (vS "/claim/cut.py" 554)]
noncomputable def o218 : Obj := fnO (.type "function") "worth_fraction" "worth_fraction" (T.top 29) 3 [] .none .none .none (vS "roundmill.parts" 502) none (.ref 290) .none 0
noncomputable def o219 : Obj := sqO (.type "tuple") #[(vS "size" 559), (vS "bits" 560)]
noncomputable def o220 : Obj := fnO .none "fraction" "fraction" (T.top 30) 0 [] .none .none .none .none none .none .none 0
noncomputable def o221 : Obj := fiO (.type "code") #[(vS "fraction" 556), (vS "fraction" 557), (vS "/claim/cut.py" 558), (vI 91 0), (vI 2 0), (vI 0 0), (vI 0 0), (vI 3 0), (.ref 292), (.bool true), (vI 181 0), (.ref 293), .none, (.ref 294), (.ref 295), (.ref 296), (vI 561 0), (vI 91 0), (vS "/claim/cut.py" 562)]
noncomputable def o222 : Obj := fnO (.type "function") "fraction" "fraction" (T.top 30) 3 [] .none .none .none (vS "roundmill.parts" 502) none (.ref 297) .none 0
noncomputable def o223 : Obj := sqO (.type "tuple") #[(vS "size" 567), (vS "bits" 568), (vS "parts" 569)]
noncomputable def o224 : Obj := fnO .none "negated" "negated" (T.top 31) 0 [] .none .none .none .none none .none .none 0
noncomputable def o225 : Obj := fiO (.type "code") #[(vS "negated" 564), (vS "negated" 565), (vS "/claim/cut.py" 566), (vI 93 0), (vI 2 0), (vI 0 0), (vI 0 0), (vI 3 0), (.ref 299), (.bool true), (vI 181 0), (.ref 300), .none, (.ref 301), (.ref 302), (.ref 303), (vI 570 0), (vI 93 0), (vS "/claim/cut.py" 571)]
noncomputable def o226 : Obj := fnO (.type "function") "negated" "negated" (T.top 31) 3 [] .none .none .none (vS "roundmill.parts" 502) none (.ref 304) .none 0
noncomputable def o227 : Obj := sqO (.type "tuple") #[(vS "size" 578), (vS "bits" 579), (vS "code" 580)]
noncomputable def o228 : Obj := fnO .none "rank" "rank" (T.top 33) 0 [] .none .none .none .none none .none .none 0
noncomputable def o229 : Obj := fiO (.type "code") #[(vS "rank" 575), (vS "rank" 576), (vS "/claim/cut.py" 577), (vI 97 0), (vI 2 0), (vI 0 0), (vI 0 0), (vI 3 0), (.ref 306), (.bool true), (vI 181 0), (.ref 307), .none, (.ref 308), (.ref 309), (.ref 310), (vI 581 0), (vI 97 0), (vS "/claim/cut.py" 582)]
noncomputable def o230 : Obj := fnO (.type "function") "rank" "rank" (T.top 33) 3 [] .none .none .none (vS "roundmill.order" 573) none (.ref 311) .none 0
noncomputable def o231 : Obj := sqO (.type "tuple") #[(vS "size" 587), (vS "a" 588), (vS "b" 589), (vS "kinds" 590), (vS "first" 591), (vS "second" 592)]
noncomputable def o232 : Obj := fnO .none "compared" "compared" (T.top 34) 0 [] .none .none .none .none none .none .none 0
noncomputable def o233 : Obj := fiO (.type "code") #[(vS "compared" 584), (vS "compared" 585), (vS "/claim/cut.py" 586), (vI 102 0), (vI 3 0), (vI 0 0), (vI 0 0), (vI 3 0), (.ref 313), (.bool true), (vI 181 0), (.ref 314), .none, (.ref 315), (.ref 316), (.ref 317), (vI 593 0), (vI 102 0), (vS "/claim/cut.py" 594)]
noncomputable def o234 : Obj := fnO (.type "function") "compared" "compared" (T.top 34) 3 [] .none .none .none (vS "roundmill.order" 573) none (.ref 318) .none 0
noncomputable def o235 : Obj := sqO (.type "tuple") #[(vS "size" 599), (vS "bits" 600), (vS "place" 601)]
noncomputable def o236 : Obj := fnO .none "above" "above" (T.top 35) 0 [] .none .none .none .none none .none .none 0
noncomputable def o237 : Obj := fiO (.type "code") #[(vS "above" 596), (vS "above" 597), (vS "/claim/cut.py" 598), (vI 111 0), (vI 2 0), (vI 0 0), (vI 0 0), (vI 3 0), (.ref 320), (.bool true), (vI 181 0), (.ref 321), .none, (.ref 322), (.ref 323), (.ref 324), (vI 602 0), (vI 111 0), (vS "/claim/cut.py" 603)]
noncomputable def o238 : Obj := fnO (.type "function") "above" "above" (T.top 35) 3 [] .none .none .none (vS "roundmill.order" 573) none (.ref 325) .none 0
noncomputable def o239 (P : Params) : Obj := diO (.type "dict") #[(en P "__name__" 165 (vS "law_roundmill_k03_refusals" 614)), (en P "__doc__" 166 .none), (en P "__package__" 167 .none), (en P "__loader__" 168 (.builtin "__main__.__loader__#opaque")), (en P "__spec__" 169 .none), (en P "__annotations__" 170 (.ref 6)), (en P "__builtins__" 171 (.ref 4)), (en P "__file__" 173 (vS "/claim/cut.py" 172)), (en P "__cached__" 174 .none), (en P "MillError" 206 (.ref 24)), (en P "NoSize" 222 (.ref 37)), (en P "NoBits" 238 (.ref 49)), (en P "NoParts" 254 (.ref 61)), (en P "NoRank" 270 (.ref 73)), (en P "NotFinite" 286 (.ref 85)), (en P "NoWay" 302 (.ref 97)), (en P "NoFlags" 318 (.ref 109)), (en P "NoFraction" 334 (.ref 121)), (en P "Unlike" 350 (.ref 133)), (en P "Empty" 366 (.ref 145)), (en P "NoLeft" 382 (.ref 157)), (en P "NoText" 398 (.ref 169)), (en P "NoRow" 414 (.ref 181)), (en P "NoName" 430 (.ref 193)), (en P "Stopped" 457 (.ref 212)), (en P "width" 466 (.ref 221)), (en P "bias" 473 (.ref 228)), (en P "low" 480 (.ref 235)), (en P "sign_bit" 487 (.ref 242)), (en P "last_field" 494 (.ref 249)), (en P "endless" 501 (.ref 256)), (en P "parted" 513 (.ref 263)), (en P "joined" 523 (.ref 270)), (en P "kind" 534 (.ref 277)), (en P "worth" 546 (.ref 284)), (en P "worth_fraction" 555 (.ref 291)), (en P "fraction" 563 (.ref 298)), (en P "negated" 572 (.ref 305)), (en P "rank" 583 (.ref 312)), (en P "compared" 595 (.ref 319)), (en P "above" 604 (.ref 326)), (en P "below" 613 (.ref 333)), (en P "_law_cell_at" 623 (.ref 340)), (en P "_law_size_by" 632 (.ref 347)), (en P "_law_bits_by" 646 (.ref 354)), (en P "_law_alone" 652 (.ref 359)), (en P "_law_word" 659 (.ref 366)), (en P "_law_asked" 669 (.ref 373)), (en P "_law_due" 681 (.ref 380)), (en P "_law_out" 690 (.ref 387)), (en P "_law_parts" 704 (.ref 394)), (en P "_law_holds" 716 (.ref 401)), (en P "law" 725 (.ref 408))] 53
noncomputable def o240 : Obj := fiO .none #[(vI 2 0), (vI 0 0), (.ref 20), (vI 4 0), (vI 0 0), (.ref 33), (vI 6 0), (vI 0 0), (.ref 45), (vI 8 0), (vI 0 0), (.ref 57), (vI 10 0), (vI 0 0), (.ref 69), (vI 12 0), (vI 0 0), (.ref 81), (vI 14 0), (vI 0 0), (.ref 93), (vI 16 0), (vI 0 0), (.ref 105), (vI 18 0), (vI 0 0), (.ref 117), (vI 20 0), (vI 0 0), (.ref 129), (vI 22 0), (vI 0 0), (.ref 141), (vI 24 0), (vI 0 0), (.ref 153), (vI 26 0), (vI 0 0), (.ref 165), (vI 28 0), (vI 0 0), (.ref 177), (vI 30 0), (vI 0 0), (.ref 189), (vI 32 0), (vI 0 0), (.ref 201), (vI 39 0), (vI 0 0), (.ref 220), (vI 41 0), (vI 0 0), (.ref 227), (vI 43 0), (vI 0 0), (.ref 234), (vI 45 0), (vI 0 0), (.ref 241), (vI 47 0), (vI 0 0), (.ref 248), (vI 49 0), (vI 0 0), (.ref 255), (vI 52 0), (vI 0 0), (.ref 262), (vI 58 0), (vI 0 0), (.ref 269), (vI 66 0), (vI 0 0), (.ref 276), (vI 75 0), (vI 0 0), (.ref 283), (vI 85 0), (vI 0 0), (.ref 290), (vI 91 0), (vI 0 0), (.ref 297), (vI 93 0), (vI 0 0), (.ref 304), (vI 97 0), (vI 0 0), (.ref 311), (vI 102 0), (vI 0 0), (.ref 318), (vI 111 0), (vI 0 0), (.ref 325), (vI 118 0), (vI 0 0), (.ref 332), (vI 126 0), (vI 0 0), (.ref 339), (vI 130 0), (vI 0 0), (.ref 346), (vI 138 0), (vI 0 0), (.ref 353), (vI 159 0), (vI 0 0), (.ref 358), (vI 166 0), (vI 0 0), (.ref 365), (vI 180 0), (vI 0 0), (.ref 372), (vI 200 0), (vI 0 0), (.ref 379), (vI 211 0), (vI 0 0), (.ref 386), (vI 214 0), (vI 0 0), (.ref 393), (vI 227 0), (vI 0 0), (.ref 400), (vI 240 0), (vI 0 0), (.ref 407)]
noncomputable def o241 : Obj := sqO (.type "tuple") #[(vS "size" 608), (vS "bits" 609), (vS "place" 610)]
noncomputable def o242 : Obj := fnO .none "below" "below" (T.top 36) 0 [] .none .none .none .none none .none .none 0
noncomputable def o243 : Obj := fiO (.type "code") #[(vS "below" 605), (vS "below" 606), (vS "/claim/cut.py" 607), (vI 118 0), (vI 2 0), (vI 0 0), (vI 0 0), (vI 3 0), (.ref 327), (.bool true), (vI 181 0), (.ref 328), .none, (.ref 329), (.ref 330), (.ref 331), (vI 611 0), (vI 118 0), (vS "/claim/cut.py" 612)]
noncomputable def o244 : Obj := fnO (.type "function") "below" "below" (T.top 36) 3 [] .none .none .none (vS "roundmill.order" 573) none (.ref 332) .none 0
noncomputable def o245 : Obj := sqO (.type "tuple") #[(vS "_law_script" 619), (vS "_law_k" 620)]
noncomputable def o246 : Obj := fnO .none "_law_cell_at" "_law_cell_at" (T.top 38) 0 [] .none .none .none .none none .none .none 0
noncomputable def o247 : Obj := fiO (.type "code") #[(vS "_law_cell_at" 616), (vS "_law_cell_at" 617), (vS "/claim/cut.py" 618), (vI 126 0), (vI 2 0), (vI 0 0), (vI 0 0), (vI 3 0), (.ref 334), (.bool true), (vI 181 0), (.ref 335), .none, (.ref 336), (.ref 337), (.ref 338), (vI 621 0), (vI 126 0), (vS "/claim/cut.py" 622)]
noncomputable def o248 : Obj := fnO (.type "function") "_law_cell_at" "_law_cell_at" (T.top 38) 3 [] .none .none .none (vS "law_roundmill_k03_refusals" 614) none (.ref 339) .none 0
noncomputable def o249 : Obj := sqO (.type "tuple") #[(vS "_law_cell" 627), (vS "_law_way" 628), (vS "_law_rest" 629)]
noncomputable def o250 : Obj := fnO .none "_law_size_by" "_law_size_by" (T.top 39) 0 [] .none .none .none .none none .none .none 0
noncomputable def o251 : Obj := fiO (.type "code") #[(vS "_law_size_by" 624), (vS "_law_size_by" 625), (vS "/claim/cut.py" 626), (vI 130 0), (vI 1 0), (vI 0 0), (vI 0 0), (vI 3 0), (.ref 341), (.bool true), (vI 181 0), (.ref 342), .none, (.ref 343), (.ref 344), (.ref 345), (vI 630 0), (vI 130 0), (vS "/claim/cut.py" 631)]
noncomputable def o252 : Obj := fnO (.type "function") "_law_size_by" "_law_size_by" (T.top 39) 3 [] .none .none .none (vS "law_roundmill_k03_refusals" 614) none (.ref 346) .none 0
noncomputable def o253 : Obj := sqO (.type "tuple") #[(vS "_law_size" 636), (vS "_law_cell" 637), (vS "_law_half" 638), (vS "_law_last" 639), (vS "_law_way" 640), (vS "_law_rest" 641), (vS "_law_side" 642), (vS "_law_figures" 643)]
noncomputable def o254 : Obj := fnO .none "_law_bits_by" "_law_bits_by" (T.top 40) 0 [] .none .none .none .none none .none .none 0
noncomputable def o255 : Obj := fiO (.type "code") #[(vS "_law_bits_by" 633), (vS "_law_bits_by" 634), (vS "/claim/cut.py" 635), (vI 138 0), (vI 2 0), (vI 0 0), (vI 0 0), (vI 3 0), (.ref 348), (.bool true), (vI 181 0), (.ref 349), .none, (.ref 350), (.ref 351), (.ref 352), (vI 644 0), (vI 138 0), (vS "/claim/cut.py" 645)]
noncomputable def o256 : Obj := fnO (.type "function") "_law_bits_by" "_law_bits_by" (T.top 40) 3 [] .none .none .none (vS "law_roundmill_k03_refusals" 614) none (.ref 353) .none 0
noncomputable def o257 : Obj := fnO .none "_law_alone" "_law_alone" (T.top 41) 0 [] .none .none .none .none none .none .none 0
noncomputable def o258 : Obj := fiO (.type "code") #[(vS "_law_alone" 647), (vS "_law_alone" 648), (vS "/claim/cut.py" 649), (vI 159 0), (vI 1 0), (vI 0 0), (vI 0 0), (vI 3 0), (.ref 355), (.bool true), (vI 181 0), (.ref 356), .none, .none, .none, (.ref 357), (vI 650 0), (vI 159 0), (vS "/claim/cut.py" 651)]
noncomputable def o259 : Obj := fnO (.type "function") "_law_alone" "_law_alone" (T.top 41) 3 [] .none .none .none (vS "law_roundmill_k03_refusals" 614) none (.ref 358) .none 0
noncomputable def o260 : Obj := sqO (.type "tuple") #[(vS "_law_caught" 656)]
noncomputable def o261 : Obj := fnO .none "_law_word" "_law_word" (T.top 42) 0 [] .none .none .none .none none .none .none 0
noncomputable def o262 : Obj := fiO (.type "code") #[(vS "_law_word" 653), (vS "_law_word" 654), (vS "/claim/cut.py" 655), (vI 166 0), (vI 1 0), (vI 0 0), (vI 0 0), (vI 3 0), (.ref 360), (.bool true), (vI 181 0), (.ref 361), .none, (.ref 362), (.ref 363), (.ref 364), (vI 657 0), (vI 166 0), (vS "/claim/cut.py" 658)]
noncomputable def o263 : Obj := fnO (.type "function") "_law_word" "_law_word" (T.top 42) 3 [] .none .none .none (vS "law_roundmill_k03_refusals" 614) none (.ref 365) .none 0
noncomputable def o264 : Obj := sqO (.type "tuple") #[(vS "_law_which" 663), (vS "_law_size" 664), (vS "_law_bits" 665), (vS "_law_other" 666)]
noncomputable def o265 : Obj := fnO .none "_law_asked" "_law_asked" (T.top 43) 0 [] .none .none .none .none none .none .none 0
noncomputable def o266 : Obj := fiO (.type "code") #[(vS "_law_asked" 660), (vS "_law_asked" 661), (vS "/claim/cut.py" 662), (vI 180 0), (vI 4 0), (vI 0 0), (vI 0 0), (vI 3 0), (.ref 367), (.bool true), (vI 181 0), (.ref 368), .none, (.ref 369), (.ref 370), (.ref 371), (vI 667 0), (vI 180 0), (vS "/claim/cut.py" 668)]
noncomputable def o267 : Obj := fnO (.type "function") "_law_asked" "_law_asked" (T.top 43) 3 [] .none .none .none (vS "law_roundmill_k03_refusals" 614) none (.ref 372) .none 0
noncomputable def o268 : Obj := sqO (.type "tuple") #[(vS "_law_which" 673), (vS "_law_size" 674), (vS "_law_bits" 675), (vS "_law_half" 676), (vS "_law_code" 677), (vS "_law_last" 678)]
noncomputable def o269 : Obj := fnO .none "_law_due" "_law_due" (T.top 44) 0 [] .none .none .none .none none .none .none 0
noncomputable def o270 : Obj := fiO (.type "code") #[(vS "_law_due" 670), (vS "_law_due" 671), (vS "/claim/cut.py" 672), (vI 200 0), (vI 3 0), (vI 0 0), (vI 0 0), (vI 3 0), (.ref 374), (.bool true), (vI 181 0), (.ref 375), .none, (.ref 376), (.ref 377), (.ref 378), (vI 679 0), (vI 200 0), (vS "/claim/cut.py" 680)]
noncomputable def o271 : Obj := fnO (.type "function") "_law_due" "_law_due" (T.top 44) 3 [] .none .none .none (vS "law_roundmill_k03_refusals" 614) none (.ref 379) .none 0
noncomputable def o272 : Obj := sqO (.type "tuple") #[(vS "_law_many" 685), (vS "_law_cell" 686), (vS "_law_far" 687)]
noncomputable def o273 : Obj := fnO .none "_law_out" "_law_out" (T.top 45) 0 [] .none .none .none .none none .none .none 0
noncomputable def o274 : Obj := fiO (.type "code") #[(vS "_law_out" 682), (vS "_law_out" 683), (vS "/claim/cut.py" 684), (vI 211 0), (vI 2 0), (vI 0 0), (vI 0 0), (vI 3 0), (.ref 381), (.bool true), (vI 181 0), (.ref 382), .none, (.ref 383), (.ref 384), (.ref 385), (vI 688 0), (vI 211 0), (vS "/claim/cut.py" 689)]
noncomputable def o275 : Obj := fnO (.type "function") "_law_out" "_law_out" (T.top 45) 3 [] .none .none .none (vS "law_roundmill_k03_refusals" 614) none (.ref 386) .none 0
noncomputable def o276 : Obj := sqO (.type "tuple") #[(vS "_law_size" 694), (vS "_law_cell" 695), (vS "_law_many" 696), (vS "_law_rest" 697), (vS "_law_parts_here" 698), (vS "_law_k" 699), (vS "_law_caught" 700), (vS "e" 701)]
noncomputable def o277 : Obj := fnO .none "_law_parts" "_law_parts" (T.top 46) 0 [] .none .none .none .none none .none .none 0
noncomputable def o278 : Obj := fiO (.type "code") #[(vS "_law_parts" 691), (vS "_law_parts" 692), (vS "/claim/cut.py" 693), (vI 214 0), (vI 2 0), (vI 0 0), (vI 0 0), (vI 3 0), (.ref 388), (.bool true), (vI 181 0), (.ref 389), .none, (.ref 390), (.ref 391), (.ref 392), (vI 702 0), (vI 214 0), (vS "/claim/cut.py" 703)]
noncomputable def o279 : Obj := fnO (.type "function") "_law_parts" "_law_parts" (T.top 46) 3 [] .none .none .none (vS "law_roundmill_k03_refusals" 614) none (.ref 393) .none 0
noncomputable def o280 : Obj := sqO (.type "tuple") #[(vS "_law_size" 708), (vS "_law_cell" 709), (vS "_law_rest" 710), (vS "_law_bits" 711), (vS "_law_caught" 712), (vS "e" 713)]
noncomputable def o281 : Obj := fnO .none "_law_holds" "_law_holds" (T.top 47) 0 [] .none .none .none .none none .none .none 0
noncomputable def o282 : Obj := fiO (.type "code") #[(vS "_law_holds" 705), (vS "_law_holds" 706), (vS "/claim/cut.py" 707), (vI 227 0), (vI 2 0), (vI 0 0), (vI 0 0), (vI 3 0), (.ref 395), (.bool true), (vI 181 0), (.ref 396), .none, (.ref 397), (.ref 398), (.ref 399), (vI 714 0), (vI 227 0), (vS "/claim/cut.py" 715)]
noncomputable def o283 : Obj := fnO (.type "function") "_law_holds" "_law_holds" (T.top 47) 3 [] .none .none .none (vS "law_roundmill_k03_refusals" 614) none (.ref 400) .none 0
noncomputable def o284 : Obj := sqO (.type "tuple") #[(vS "_law_script" 720), (vS "_law_size" 721), (vS "_law_cell" 722)]
noncomputable def o285 : Obj := fnO .none "law" "law" (T.top 48) 0 [] .none .none .none .none none .none .none 0
noncomputable def o286 : Obj := fiO (.type "code") #[(vS "law" 717), (vS "law" 718), (vS "/claim/cut.py" 719), (vI 240 0), (vI 1 0), (vI 0 0), (vI 0 0), (vI 3 0), (.ref 402), (.bool true), (vI 181 0), (.ref 403), .none, (.ref 404), (.ref 405), (.ref 406), (vI 723 0), (vI 240 0), (vS "/claim/cut.py" 724)]
noncomputable def o287 : Obj := fnO (.type "function") "law" "law" (T.top 48) 3 [] .none .none .none (vS "law_roundmill_k03_refusals" 614) none (.ref 407) .none 0
noncomputable def full (P : Params) : BT := (B (boot_o_0 P) (B (boot_o_1 P) (B (o239 P) (B (boot_o_7 P) (B o6 (B o0 (B o46 (B o0 (L o197) (L o272)) (B o0 (L o234) N)) (B o0 (B o126 (L o215) N) (B o1 (L o0) N))) (B o0 (B o0 (B o0 (L o0) (L o281)) (B o165 (L o1) N)) (B o86 (B o0 (L o224) N) (B o0 (L o0) N)))) (B (o11 P) (B o26 (B o0 (B o106 (L o202) (L o0)) (B o0 (L o0) N)) (B o0 (B o0 (L o0) N) (B o181 (L o259) N))) (B o0 (B o66 (B o0 (L o1) (L o286)) (B o0 (L o249) N)) (B o0 (B o146 (L o229) N) (B o192 (L o1) N))))) (B o0 (B o1 (B o0 (B o0 (B o0 (L o199) (L o275)) (B o156 (L o0) N)) (B o76 (B o0 (L o218) N) (B o179 (L o0) N))) (B o36 (B o0 (B o116 (L o208) (L o1)) (B (o169 P) (L o247) N)) (B o0 (B o0 (L o1) N) (B o0 (L o265) N)))) (B o15 (B o0 (B o56 (B o0 (L o0) (L o0)) (B o0 (L o242) N)) (B o0 (B o136 (L o0) N) (B o184 (L o0) N))) (B o0 (B o0 (B o0 (L o213) N) (B o174 (L o252) N)) (B o96 (B o0 (L o231) N) (B o1 (L o270) N)))))) (B (boot_o_5 P) (B (boot_o_9 P) (B (o8 P) (B o21 (B o7 (B o101 (L o0) (L o273)) (B o154 (L o1) N)) (B o74 (B o7 (L o216) N) (B o0 (L o255) N))) (B o34 (B o61 (B o114 (L o207) (L o283)) (B o167 (L o0) N)) (B o7 (B o141 (L o226) N) (B o187 (L o264) N)))) (B o13 (B o7 (B o54 (B o7 (L o1) (L o278)) (B o162 (L o241) N)) (B o81 (B o134 (L o221) N) (B o182 (L o1) N))) (B o41 (B o7 (B o121 (L o0) N) (B o173 (L o250) N)) (B o94 (B o7 (L o0) N) (B o194 (L o0) N))))) (B o2 (B o10 (B o24 (B o51 (B o104 (L o200) (L o1)) (B o7 (L o237) N)) (B o7 (B o131 (L o1) N) (B o0 (L o257) N))) (B o7 (B o64 (B o7 (L o210) (L o0)) (B o171 (L o0) N)) (B o91 (B o144 (L o0) N) (B o191 (L o267) N)))) (B o7 (B o31 (B o7 (B o111 (L o205) (L o280)) (B o164 (L o244) N)) (B o84 (B o7 (L o223) N) (B o1 (L o262) N))) (B o44 (B o71 (B o124 (L o0) N) (B o176 (L o1) N)) (B o7 (B o151 (L o232) N) (B o0 (L o0) N))))))) (B (boot_o_2 P) (B (boot_o_4 P) (B (boot_o_8 P) (B o7 (B o1 (B o19 (B o1 (L o198) (L o0)) (B (o153 P) (L o0) N)) (B (o73 P) (B o19 (L o0) N) (B o177 (L o254) N))) (B (o33 P) (B o1 (B (o113 P) (L o1) (L o282)) (B o166 (L o245) N)) (B o19 (B o1 (L o225) N) (B o186 (L o1) N)))) (B o159 (B o19 (B (o53 P) (B o19 (L o0) (L o277)) (B o161 (L o1) N)) (B o1 (B (o133 P) (L o220) N) (B o0 (L o0) N))) (B o1 (B o19 (B o1 (L o211) (L o287)) (B o1 (L o0) N)) (B (o93 P) (B o19 (L o230) N) (B o193 (L o268) N))))) (B o240 (B o9 (B (o23 P) (B o1 (B (o103 P) (L o0) (L o0)) (B o19 (L o236) N)) (B o19 (B o1 (L o0) N) (B o180 (L o1) N))) (B o19 (B (o63 P) (B o19 (L o209) (L o284)) (B o170 (L o248) N)) (B o1 (B (o143 P) (L o227) N) (B o1 (L o266) N)))) (B o19 (B o1 (B o19 (B o1 (L o204) (L o1)) (B o1 (L o243) N)) (B (o83 P) (B o19 (L o1) N) (B o0 (L o261) N))) (B (o43 P) (B o1 (B (o123 P) (L o214) N) (B o175 (L o0) N)) (B o19 (B o1 (L o0) N) (B o195 (L o271) N)))))) (B (boot_o_6 P) (B (boot_o_10 P) (B o0 (B o22 (B (o50 P) (B o102 (L o1) (L o274)) (B o155 (L o235) N)) (B o75 (B (o130 P) (L o217) N) (B o178 (L o256) N))) (B o35 (B o62 (B o115 (L o0) (L o0)) (B o168 (L o246) N)) (B (o90 P) (B o142 (L o0) N) (B o188 (L o0) N)))) (B o14 (B (o30 P) (B o55 (B (o110 P) (L o203) (L o279)) (B o163 (L o0) N)) (B o82 (B o135 (L o222) N) (B o183 (L o260) N))) (B o42 (B (o70 P) (B o122 (L o212) N) (B o0 (L o251) N)) (B o95 (B (o150 P) (L o1) N) (B o0 (L o269) N))))) (B o3 (B o0 (B o25 (B o52 (B o105 (L o201) (L o276)) (B (o160 P) (L o238) N)) (B (o80 P) (B o132 (L o219) N) (B o1 (L o258) N))) (B (o40 P) (B o65 (B (o120 P) (L o0) (L o285)) (B o172 (L o1) N)) (B o92 (B o145 (L o228) N) (B o0 (L o0) N)))) (B (o20 P) (B o32 (B (o60 P) (B o112 (L o206) (L o0)) (B o0 (L o0) N)) (B o85 (B (o140 P) (L o0) N) (B o185 (L o263) N))) (B o45 (B o72 (B o125 (L o1) N) (B o0 (L o253) N)) (B (o100 P) (B o152 (L o233) N) (B o196 (L o1) N))))))))
noncomputable def t_0 (P : Params) : BT := (((cut 15 (full P) 1 0).ins 3 (boot_o_3 P)).ins 12 (o1))
noncomputable def t_1 (P : Params) : BT := ((((cut 28 (full P) 1 0).ins 3 (o4 P)).ins 12 (o5)).ins 24 (o12))
noncomputable def t_2 (P : Params) : BT := ((((cut 40 (full P) 1 0).ins 3 (o16 P)).ins 12 (o17)).ins 24 (o18))
noncomputable def t_3 (P : Params) : BT := ((((cut 52 (full P) 1 0).ins 3 (o27 P)).ins 12 (o28)).ins 24 (o29))
noncomputable def t_4 (P : Params) : BT := ((((cut 64 (full P) 1 0).ins 3 (o37 P)).ins 12 (o38)).ins 24 (o39))
noncomputable def t_5 (P : Params) : BT := ((((cut 76 (full P) 1 0).ins 3 (o47 P)).ins 12 (o48)).ins 24 (o49))
noncomputable def t_6 (P : Params) : BT := ((((cut 88 (full P) 1 0).ins 3 (o57 P)).ins 12 (o58)).ins 24 (o59))
noncomputable def t_7 (P : Params) : BT := ((((cut 100 (full P) 1 0).ins 3 (o67 P)).ins 12 (o68)).ins 24 (o69))
noncomputable def t_8 (P : Params) : BT := ((((cut 112 (full P) 1 0).ins 3 (o77 P)).ins 12 (o78)).ins 24 (o79))
noncomputable def t_9 (P : Params) : BT := ((((cut 124 (full P) 1 0).ins 3 (o87 P)).ins 12 (o88)).ins 24 (o89))
noncomputable def t_10 (P : Params) : BT := ((((cut 136 (full P) 1 0).ins 3 (o97 P)).ins 12 (o98)).ins 24 (o99))
noncomputable def t_11 (P : Params) : BT := ((((cut 148 (full P) 1 0).ins 3 (o107 P)).ins 12 (o108)).ins 24 (o109))
noncomputable def t_12 (P : Params) : BT := ((((cut 160 (full P) 1 0).ins 3 (o117 P)).ins 12 (o118)).ins 24 (o119))
noncomputable def t_13 (P : Params) : BT := ((((cut 172 (full P) 1 0).ins 3 (o127 P)).ins 12 (o128)).ins 24 (o129))
noncomputable def t_14 (P : Params) : BT := ((((cut 184 (full P) 1 0).ins 3 (o137 P)).ins 12 (o138)).ins 24 (o139))
noncomputable def t_15 (P : Params) : BT := ((((cut 196 (full P) 1 0).ins 3 (o147 P)).ins 12 (o148)).ins 24 (o149))
noncomputable def t_16 (P : Params) : BT := (((cut 243 (full P) 1 0).ins 3 (o157 P)).ins 12 (o158))
noncomputable def t_17 (P : Params) : BT := (((cut 327 (full P) 1 0).ins 3 (o189 P)).ins 12 (o190))
noncomputable def t_18 (P : Params) : BT := (cut 409 (full P) 1 0)
noncomputable def ha (P : Params) : Heap := ⟨⟨[boot_o_0 P, boot_o_1 P, boot_o_2 P, boot_o_3 P, boot_o_4 P, boot_o_5 P, boot_o_6 P, boot_o_7 P, boot_o_8 P, boot_o_9 P, boot_o_10 P, o0, o1, o2, o3]⟩, (Life.mk [] [] [] 0 [] [] false #[] [] 0 false false false 0 [2000, 10, 10] false 0 true [] [] 0 false)⟩
noncomputable def hf (P : Params) : Heap := absHeap (full P) 409 (Life.mk [] [] [] 0 [] [] false #[] [] 0 false false false 0 [2000, 10, 10] false 0 true [] [] 0 false)
noncomputable def K (P : Params) : Frag := (nat_lit 2, boot_o_2 P) :: (nat_lit 3, o239 P) :: (nat_lit 15, o6) :: (nat_lit 22, o0) :: (nat_lit 23, o11 P) :: (nat_lit 24, o159) :: (nat_lit 25, o13) :: (nat_lit 28, o19) :: (nat_lit 35, o0) :: (nat_lit 36, o23 P) :: (nat_lit 37, o24) :: (nat_lit 40, o19) :: (nat_lit 47, o0) :: (nat_lit 48, o33 P) :: (nat_lit 49, o34) :: (nat_lit 52, o19) :: (nat_lit 59, o0) :: (nat_lit 60, o43 P) :: (nat_lit 61, o44) :: (nat_lit 64, o19) :: (nat_lit 71, o0) :: (nat_lit 72, o53 P) :: (nat_lit 73, o54) :: (nat_lit 76, o19) :: (nat_lit 83, o0) :: (nat_lit 84, o63 P) :: (nat_lit 85, o64) :: (nat_lit 88, o19) :: (nat_lit 95, o0) :: (nat_lit 96, o73 P) :: (nat_lit 97, o74) :: (nat_lit 100, o19) :: (nat_lit 107, o0) :: (nat_lit 108, o83 P) :: (nat_lit 109, o84) :: (nat_lit 112, o19) :: (nat_lit 119, o0) :: (nat_lit 120, o93 P) :: (nat_lit 121, o94) :: (nat_lit 124, o19) :: (nat_lit 131, o0) :: (nat_lit 132, o103 P) :: (nat_lit 133, o104) :: (nat_lit 136, o19) :: (nat_lit 143, o0) :: (nat_lit 144, o113 P) :: (nat_lit 145, o114) :: (nat_lit 148, o19) :: (nat_lit 155, o0) :: (nat_lit 156, o123 P) :: (nat_lit 157, o124) :: (nat_lit 160, o19) :: (nat_lit 167, o0) :: (nat_lit 168, o133 P) :: (nat_lit 169, o134) :: (nat_lit 172, o19) :: (nat_lit 179, o0) :: (nat_lit 180, o143 P) :: (nat_lit 181, o144) :: (nat_lit 184, o19) :: (nat_lit 191, o0) :: (nat_lit 192, o153 P) :: (nat_lit 193, o154) :: (nat_lit 196, o19) :: (nat_lit 203, o0) :: (nat_lit 205, o164) :: (nat_lit 206, o0) :: (nat_lit 208, o166) :: (nat_lit 209, o167) :: (nat_lit 210, o168) :: (nat_lit 211, o169 P) :: (nat_lit 212, o170) :: (nat_lit 215, o0) :: (nat_lit 217, o173) :: (nat_lit 218, o0) :: (nat_lit 220, o175) :: (nat_lit 221, o176) :: (nat_lit 222, o0) :: (nat_lit 224, o177) :: (nat_lit 225, o0) :: (nat_lit 227, o179) :: (nat_lit 228, o180) :: (nat_lit 229, o0) :: (nat_lit 231, o181) :: (nat_lit 232, o0) :: (nat_lit 234, o183) :: (nat_lit 235, o184) :: (nat_lit 236, o0) :: (nat_lit 238, o185) :: (nat_lit 239, o0) :: (nat_lit 241, o187) :: (nat_lit 242, o188) :: (nat_lit 243, o0) :: (nat_lit 245, o191) :: (nat_lit 246, o0) :: (nat_lit 248, o193) :: (nat_lit 249, o194) :: (nat_lit 250, o0) :: (nat_lit 252, o195) :: (nat_lit 253, o0) :: (nat_lit 255, o197) :: (nat_lit 256, o198) :: (nat_lit 257, o0) :: (nat_lit 259, o199) :: (nat_lit 260, o0) :: (nat_lit 262, o201) :: (nat_lit 263, o202) :: (nat_lit 264, o0) :: (nat_lit 266, o203) :: (nat_lit 267, o0) :: (nat_lit 269, o205) :: (nat_lit 270, o206) :: (nat_lit 271, o0) :: (nat_lit 273, o207) :: (nat_lit 274, o0) :: (nat_lit 276, o209) :: (nat_lit 277, o210) :: (nat_lit 278, o0) :: (nat_lit 280, o211) :: (nat_lit 281, o0) :: (nat_lit 283, o213) :: (nat_lit 284, o214) :: (nat_lit 285, o0) :: (nat_lit 287, o215) :: (nat_lit 288, o0) :: (nat_lit 290, o217) :: (nat_lit 291, o218) :: (nat_lit 292, o0) :: (nat_lit 294, o219) :: (nat_lit 295, o0) :: (nat_lit 297, o221) :: (nat_lit 298, o222) :: (nat_lit 299, o0) :: (nat_lit 301, o223) :: (nat_lit 302, o0) :: (nat_lit 304, o225) :: (nat_lit 305, o226) :: (nat_lit 306, o0) :: (nat_lit 308, o227) :: (nat_lit 309, o0) :: (nat_lit 311, o229) :: (nat_lit 312, o230) :: (nat_lit 313, o0) :: (nat_lit 315, o231) :: (nat_lit 316, o0) :: (nat_lit 318, o233) :: (nat_lit 319, o234) :: (nat_lit 320, o0) :: (nat_lit 322, o235) :: (nat_lit 323, o0) :: (nat_lit 325, o237) :: (nat_lit 326, o238) :: (nat_lit 327, o0) :: (nat_lit 329, o241) :: (nat_lit 330, o0) :: (nat_lit 332, o243) :: (nat_lit 333, o244) :: (nat_lit 334, o0) :: (nat_lit 336, o245) :: (nat_lit 337, o0) :: (nat_lit 339, o247) :: (nat_lit 340, o248) :: (nat_lit 341, o0) :: (nat_lit 343, o249) :: (nat_lit 344, o0) :: (nat_lit 346, o251) :: (nat_lit 347, o252) :: (nat_lit 348, o0) :: (nat_lit 350, o253) :: (nat_lit 351, o0) :: (nat_lit 353, o255) :: (nat_lit 354, o256) :: (nat_lit 355, o0) :: (nat_lit 358, o258) :: (nat_lit 359, o259) :: (nat_lit 360, o0) :: (nat_lit 362, o260) :: (nat_lit 363, o0) :: (nat_lit 365, o262) :: (nat_lit 366, o263) :: (nat_lit 367, o0) :: (nat_lit 369, o264) :: (nat_lit 370, o0) :: (nat_lit 372, o266) :: (nat_lit 373, o267) :: (nat_lit 374, o0) :: (nat_lit 376, o268) :: (nat_lit 377, o0) :: (nat_lit 379, o270) :: (nat_lit 380, o271) :: (nat_lit 381, o0) :: (nat_lit 383, o272) :: (nat_lit 384, o0) :: (nat_lit 386, o274) :: (nat_lit 387, o275) :: (nat_lit 388, o0) :: (nat_lit 390, o276) :: (nat_lit 391, o0) :: (nat_lit 393, o278) :: (nat_lit 394, o279) :: (nat_lit 395, o0) :: (nat_lit 397, o280) :: (nat_lit 398, o0) :: (nat_lit 400, o282) :: (nat_lit 401, o283) :: (nat_lit 402, o0) :: (nat_lit 404, o284) :: (nat_lit 405, o0) :: (nat_lit 407, o286) :: (nat_lit 408, o287) :: []
noncomputable def as : List Addr := [2, 3, 15, 22, 23, 24, 25, 28, 35, 36, 37, 40, 47, 48, 49, 52, 59, 60, 61, 64, 71, 72, 73, 76, 83, 84, 85, 88, 95, 96, 97, 100, 107, 108, 109, 112, 119, 120, 121, 124, 131, 132, 133, 136, 143, 144, 145, 148, 155, 156, 157, 160, 167, 168, 169, 172, 179, 180, 181, 184, 191, 192, 193, 196, 203, 205, 206, 208, 209, 210, 211, 212, 215, 217, 218, 220, 221, 222, 224, 225, 227, 228, 229, 231, 232, 234, 235, 236, 238, 239, 241, 242, 243, 245, 246, 248, 249, 250, 252, 253, 255, 256, 257, 259, 260, 262, 263, 264, 266, 267, 269, 270, 271, 273, 274, 276, 277, 278, 280, 281, 283, 284, 285, 287, 288, 290, 291, 292, 294, 295, 297, 298, 299, 301, 302, 304, 305, 306, 308, 309, 311, 312, 313, 315, 316, 318, 319, 320, 322, 323, 325, 326, 327, 329, 330, 332, 333, 334, 336, 337, 339, 340, 341, 343, 344, 346, 347, 348, 350, 351, 353, 354, 355, 358, 359, 360, 362, 363, 365, 366, 367, 369, 370, 372, 373, 374, 376, 377, 379, 380, 381, 383, 384, 386, 387, 388, 390, 391, 393, 394, 395, 397, 398, 400, 401, 402, 404, 405, 407, 408]
noncomputable def env : Env := { scope := PySem.Challenge.pw_roundmill_k03_refusals.main.scope, locals := mainNs, globals := mainNs, cells := [], code := (.ref 13), frame := some 14 }
noncomputable def sts_1 : List Stmt := [T.top 0, T.top 1]
noncomputable def sts_2 : List Stmt := [T.top 2]
noncomputable def sts_3 : List Stmt := [T.top 3]
noncomputable def sts_4 : List Stmt := [T.top 4]
noncomputable def sts_5 : List Stmt := [T.top 5]
noncomputable def sts_6 : List Stmt := [T.top 6]
noncomputable def sts_7 : List Stmt := [T.top 7]
noncomputable def sts_8 : List Stmt := [T.top 8]
noncomputable def sts_9 : List Stmt := [T.top 9]
noncomputable def sts_10 : List Stmt := [T.top 10]
noncomputable def sts_11 : List Stmt := [T.top 11]
noncomputable def sts_12 : List Stmt := [T.top 12]
noncomputable def sts_13 : List Stmt := [T.top 13]
noncomputable def sts_14 : List Stmt := [T.top 14]
noncomputable def sts_15 : List Stmt := [T.top 15]
noncomputable def sts_16 : List Stmt := [T.top 16, T.top 17, T.top 18, T.top 19, T.top 20, T.top 21]
noncomputable def sts_17 : List Stmt := [T.top 22, T.top 23, T.top 24, T.top 25, T.top 26, T.top 27, T.top 28, T.top 29, T.top 30, T.top 31, T.top 32, T.top 33, T.top 34, T.top 35]
noncomputable def sts_18 : List Stmt := [T.top 36, T.top 37, T.top 38, T.top 39, T.top 40, T.top 41, T.top 42, T.top 43, T.top 44, T.top 45, T.top 46, T.top 47, T.top 48]
noncomputable def q : Program := PySem.W.view PySem.Challenge.pw_roundmill_k03_refusals [1, 2, 3, 4, 5, 6, 7, 8, 9, 10, 11, 12, 13, 14, 15, 16, 18, 19, 20, 21, 22, 23, 25, 26, 27, 28, 29, 30, 31, 33, 34, 35, 36, 38, 39, 40, 41, 42, 43, 44, 45, 46, 47, 48]
end
end H

set_option Elab.async false
set_option linter.all false
set_option maxRecDepth 100000
namespace H
open PySem PySem.W PySem.Calls PySem.Spec PyProof.Rows L2 EV ES
noncomputable section
noncomputable def cB : Code := Code.body (behindTheImports PySem.Challenge.pw_roundmill_k03_refusals) env
noncomputable def row : RowW := OpenRow.toRowW (OpenLaw.row PySem.Challenge.rw_roundmill_k03_refusals)
noncomputable def Xt (s : Shared) : Bool := xlAt q [] s && recOk (RowW.records row) s
end
theorem cw_tws : (fun (_ : Program) (_ : Program) (_ : Env) (_ : Code) (_ : Shared → Bool) => true) PySem.Challenge.pw_roundmill_k03_refusals q env cB Xt = true := by k_qdec
set_option maxHeartbeats 0 in
theorem t_pre : ∀ w : World, (fun os : OsState => topGo treeTable PySem.Challenge.pw_roundmill_k03_refusals w 11 (some (.ref 6)) 12 (Shared.mk (boot_heap w.params) (Array.mk []) boot_drawn boot_toks os) (topStub PySem.Challenge.pw_roundmill_k03_refusals)) = fun os : OsState => some ((Shared.mk (ha w.params) ⟨[]⟩ (Drawn.mk 0 0 0 0) 187 os), Thread.mk (denote treeTable cB) cB (Pos.mk 0 0 0 0) [topFrame (Pos.mk 0 0 0 0)]) := by
  rewrite [PySem.W.Fast.te15667345088766844465, PySem.W.Fast.te14364793385576792824, PySem.W.Fast.te6415974008869775796, PySem.W.Fast.te11892475500146522536, PySem.W.Fast.te2060423359788512156]
  intro w
  kernel_rfl
set_option maxHeartbeats 0 in
theorem t_block : ∀ w : World, (fun os : OsState => segRun treeTable PySem.Challenge.pw_roundmill_k03_refusals w 11 (some (.ref 6)) 1 1 (Shared.mk (ha w.params) ⟨[]⟩ (Drawn.mk 0 0 0 0) 187 os) (blockOf (behindTheImports PySem.Challenge.pw_roundmill_k03_refusals) env cB (Pos.mk 0 0 0 0) [topFrame (Pos.mk 0 0 0 0)])) = fun os : OsState => some (Flow.next, (SharedT.abs (SharedT.mk (t_0 w.params) 15 (Life.mk [] [] [] 0 [] [] false #[] [] 0 false false false 0 [2000, 10, 10] false 0 true [] [] 0 false) ⟨[]⟩ (Drawn.mk 0 0 0 0) 187 os)), cB, (Pos.mk 0 0 0 0)) := by
  rewrite [PySem.W.Fast.te14374325043358763698, PySem.W.Fast.te14364793385576792824, PySem.W.Fast.te6415974008869775796, PySem.W.Fast.te2060423359788512156]
  intro w
  kernel_rfl
set_option maxHeartbeats 0 in
theorem t_p1 : ∀ w : World, (fun os : OsState => segRunT treeTable PySem.Challenge.pw_roundmill_k03_refusals w 11 (some (.ref 6)) 1 196 (SharedT.mk (t_0 w.params) 15 (Life.mk [] [] [] 0 [] [] false #[] [] 0 false false false 0 [2000, 10, 10] false 0 true [] [] 0 false) ⟨[]⟩ (Drawn.mk 0 0 0 0) 187 os) (piecesOf sts_1 env cB (Pos.mk 0 0 0 0) [topFrame (Pos.mk 0 0 0 0)])) = fun os : OsState => some (Flow.next, (SharedT.mk (t_1 w.params) 28 (Life.mk [] [] [] 0 [] [] false #[] [] 0 false false false 0 [2000, 10, 10] false 0 true [] [] 0 false) ⟨[]⟩ (Drawn.mk 0 0 0 0) 207 os), cB, (Pos.mk 2 0 3 8)) := by
  rewrite [PySem.W.Fast.te10110043849684766642, PySem.W.Fast.te14364793385576792824, PySem.W.Fast.te6415974008869775796, PySem.W.Fast.te2060423359788512156]
  intro w
  kernel_rfl
set_option maxHeartbeats 0 in
theorem t_p2 : ∀ w : World, (fun os : OsState => segRunT treeTable PySem.Challenge.pw_roundmill_k03_refusals w 11 (some (.ref 6)) 1 214 (SharedT.mk (t_1 w.params) 28 (Life.mk [] [] [] 0 [] [] false #[] [] 0 false false false 0 [2000, 10, 10] false 0 true [] [] 0 false) ⟨[]⟩ (Drawn.mk 0 0 0 0) 207 os) (piecesOf sts_2 env cB (Pos.mk 2 0 3 8) [topFrame (Pos.mk 0 0 0 0)])) = fun os : OsState => some (Flow.next, (SharedT.mk (t_2 w.params) 40 (Life.mk [] [] [] 0 [] [] false #[] [] 0 false false false 0 [2000, 10, 10] false 0 true [] [] 0 false) ⟨[]⟩ (Drawn.mk 0 0 0 0) 223 os), cB, (Pos.mk 4 0 5 8)) := by
  rewrite [PySem.W.Fast.te10110043849684766642, PySem.W.Fast.te14364793385576792824, PySem.W.Fast.te6415974008869775796, PySem.W.Fast.te2060423359788512156]
  intro w
  kernel_rfl
set_option maxHeartbeats 0 in
theorem t_p3 : ∀ w : World, (fun os : OsState => segRunT treeTable PySem.Challenge.pw_roundmill_k03_refusals w 11 (some (.ref 6)) 1 214 (SharedT.mk (t_2 w.params) 40 (Life.mk [] [] [] 0 [] [] false #[] [] 0 false false false 0 [2000, 10, 10] false 0 true [] [] 0 false) ⟨[]⟩ (Drawn.mk 0 0 0 0) 223 os) (piecesOf sts_3 env cB (Pos.mk 4 0 5 8) [topFrame (Pos.mk 0 0 0 0)])) = fun os : OsState => some (Flow.next, (SharedT.mk (t_3 w.params) 52 (Life.mk [] [] [] 0 [] [] false #[] [] 0 false false false 0 [2000, 10, 10] false 0 true [] [] 0 false) ⟨[]⟩ (Drawn.mk 0 0 0 0) 239 os), cB, (Pos.mk 6 0 7 8)) := by
  rewrite [PySem.W.Fast.te10110043849684766642, PySem.W.Fast.te14364793385576792824, PySem.W.Fast.te6415974008869775796, PySem.W.Fast.te2060423359788512156]
  intro w
  kernel_rfl
set_option maxHeartbeats 0 in
theorem t_p4 : ∀ w : World, (fun os : OsState => segRunT treeTable PySem.Challenge.pw_roundmill_k03_refusals w 11 (some (.ref 6)) 1 214 (SharedT.mk (t_3 w.params) 52 (Life.mk [] [] [] 0 [] [] false #[] [] 0 false false false 0 [2000, 10, 10] false 0 true [] [] 0 false) ⟨[]⟩ (Drawn.mk 0 0 0 0) 239 os) (piecesOf sts_4 env cB (Pos.mk 6 0 7 8) [topFrame (Pos.mk 0 0 0 0)])) = fun os : OsState => some (Flow.next, (SharedT.mk (t_4 w.params) 64 (Life.mk [] [] [] 0 [] [] false #[] [] 0 false false false 0 [2000, 10, 10] false 0 true [] [] 0 false) ⟨[]⟩ (Drawn.mk 0 0 0 0) 255 os), cB, (Pos.mk 8 0 9 8)) := by
  rewrite [PySem.W.Fast.te10110043849684766642, PySem.W.Fast.te14364793385576792824, PySem.W.Fast.te6415974008869775796, PySem.W.Fast.te2060423359788512156]
  intro w
  kernel_rfl
set_option maxHeartbeats 0 in
theorem t_p5 : ∀ w : World, (fun os : OsState => segRunT treeTable PySem.Challenge.pw_roundmill_k03_refusals w 11 (some (.ref 6)) 1 214 (SharedT.mk (t_4 w.params) 64 (Life.mk [] [] [] 0 [] [] false #[] [] 0 false false false 0 [2000, 10, 10] false 0 true [] [] 0 false) ⟨[]⟩ (Drawn.mk 0 0 0 0) 255 os) (piecesOf sts_5 env cB (Pos.mk 8 0 9 8) [topFrame (Pos.mk 0 0 0 0)])) = fun os : OsState => some (Flow.next, (SharedT.mk (t_5 w.params) 76 (Life.mk [] [] [] 0 [] [] false #[] [] 0 false false false 0 [2000, 10, 10] false 0 true [] [] 0 false) ⟨[]⟩ (Drawn.mk 0 0 0 0) 271 os), cB, (Pos.mk 10 0 11 8)) := by
  rewrite [PySem.W.Fast.te10110043849684766642, PySem.W.Fast.te14364793385576792824, PySem.W.Fast.te6415974008869775796, PySem.W.Fast.te2060423359788512156]
  intro w
  kernel_rfl
set_option maxHeartbeats 0 in
theorem t_p6 : ∀ w : World, (fun os : OsState => segRunT treeTable PySem.Challenge.pw_roundmill_k03_refusals w 11 (some (.ref 6)) 1 214 (SharedT.mk (t_5 w.params) 76 (Life.mk [] [] [] 0 [] [] false #[] [] 0 false false false 0 [2000, 10, 10] false 0 true [] [] 0 false) ⟨[]⟩ (Drawn.mk 0 0 0 0) 271 os) (piecesOf sts_6 env cB (Pos.mk 10 0 11 8) [topFrame (Pos.mk 0 0 0 0)])) = fun os : OsState => some (Flow.next, (SharedT.mk (t_6 w.params) 88 (Life.mk [] [] [] 0 [] [] false #[] [] 0 false false false 0 [2000, 10, 10] false 0 true [] [] 0 false) ⟨[]⟩ (Drawn.mk 0 0 0 0) 287 os), cB, (Pos.mk 12 0 13 8)) := by
  rewrite [PySem.W.Fast.te10110043849684766642, PySem.W.Fast.te14364793385576792824, PySem.W.Fast.te6415974008869775796, PySem.W.Fast.te2060423359788512156]
  intro w
  kernel_rfl
set_option maxHeartbeats 0 in
theorem t_p7 : ∀ w : World, (fun os : OsState => segRunT treeTable PySem.Challenge.pw_roundmill_k03_refusals w 11 (some (.ref 6)) 1 214 (SharedT.mk (t_6 w.params) 88 (Life.mk [] [] [] 0 [] [] false #[] [] 0 false false false 0 [2000, 10, 10] false 0 true [] [] 0 false) ⟨[]⟩ (Drawn.mk 0 0 0 0) 287 os) (piecesOf sts_7 env cB (Pos.mk 12 0 13 8) [topFrame (Pos.mk 0 0 0 0)])) = fun os : OsState => some (Flow.next, (SharedT.mk (t_7 w.params) 100 (Life.mk [] [] [] 0 [] [] false #[] [] 0 false false false 0 [2000, 10, 10] false 0 true [] [] 0 false) ⟨[]⟩ (Drawn.mk 0 0 0 0) 303 os), cB, (Pos.mk 14 0 15 8)) := by
  rewrite [PySem.W.Fast.te10110043849684766642, PySem.W.Fast.te14364793385576792824, PySem.W.Fast.te6415974008869775796, PySem.W.Fast.te2060423359788512156]
  intro w
  kernel_rfl
set_option maxHeartbeats 0 in
theorem t_p8 : ∀ w : World, (fun os : OsState => segRunT treeTable PySem.Challenge.pw_roundmill_k03_refusals w 11 (some (.ref 6)) 1 214 (SharedT.mk (t_7 w.params) 100 (Life.mk [] [] [] 0 [] [] false #[] [] 0 false false false 0 [2000, 10, 10] false 0 true [] [] 0 false) ⟨[]⟩ (Drawn.mk 0 0 0 0) 303 os) (piecesOf sts_8 env cB (Pos.mk 14 0 15 8) [topFrame (Pos.mk 0 0 0 0)])) = fun os : OsState => some (Flow.next, (SharedT.mk (t_8 w.params) 112 (Life.mk [] [] [] 0 [] [] false #[] [] 0 false false false 0 [2000, 10, 10] false 0 true [] [] 0 false) ⟨[]⟩ (Drawn.mk 0 0 0 0) 319 os), cB, (Pos.mk 16 0 17 8)) := by
  rewrite [PySem.W.Fast.te10110043849684766642, PySem.W.Fast.te14364793385576792824, PySem.W.Fast.te6415974008869775796, PySem.W.Fast.te2060423359788512156]
  intro w
  kernel_rfl
set_option maxHeartbeats 0 in
theorem t_p9 : ∀ w : World, (fun os : OsState => segRunT treeTable PySem.Challenge.pw_roundmill_k03_refusals w 11 (some (.ref 6)) 1 214 (SharedT.mk (t_8 w.params) 112 (Life.mk [] [] [] 0 [] [] false #[] [] 0 false false false 0 [2000, 10, 10] false 0 true [] [] 0 false) ⟨[]⟩ (Drawn.mk 0 0 0 0) 319 os) (piecesOf sts_9 env cB (Pos.mk 16 0 17 8) [topFrame (Pos.mk 0 0 0 0)])) = fun os : OsState => some (Flow.next, (SharedT.mk (t_9 w.params) 124 (Life.mk [] [] [] 0 [] [] false #[] [] 0 false false false 0 [2000, 10, 10] false 0 true [] [] 0 false) ⟨[]⟩ (Drawn.mk 0 0 0 0) 335 os), cB, (Pos.mk 18 0 19 8)) := by
  rewrite [PySem.W.Fast.te10110043849684766642, PySem.W.Fast.te14364793385576792824, PySem.W.Fast.te6415974008869775796, PySem.W.Fast.te2060423359788512156]
  intro w
  kernel_rfl
set_option maxHeartbeats 0 in
theorem t_p10 : ∀ w : World, (fun os : OsState => segRunT treeTable PySem.Challenge.pw_roundmill_k03_refusals w 11 (some (.ref 6)) 1 214 (SharedT.mk (t_9 w.params) 124 (Life.mk [] [] [] 0 [] [] false #[] [] 0 false false false 0 [2000, 10, 10] false 0 true [] [] 0 false) ⟨[]⟩ (Drawn.mk 0 0 0 0) 335 os) (piecesOf sts_10 env cB (Pos.mk 18 0 19 8) [topFrame (Pos.mk 0 0 0 0)])) = fun os : OsState => some (Flow.next, (SharedT.mk (t_10 w.params) 136 (Life.mk [] [] [] 0 [] [] false #[] [] 0 false false false 0 [2000, 10, 10] false 0 true [] [] 0 false) ⟨[]⟩ (Drawn.mk 0 0 0 0) 351 os), cB, (Pos.mk 20 0 21 8)) := by
  rewrite [PySem.W.Fast.te10110043849684766642, PySem.W.Fast.te14364793385576792824, PySem.W.Fast.te6415974008869775796, PySem.W.Fast.te2060423359788512156]
  intro w
  kernel_rfl
set_option maxHeartbeats 0 in
theorem t_p11 : ∀ w : World, (fun os : OsState => segRunT treeTable PySem.Challenge.pw_roundmill_k03_refusals w 11 (some (.ref 6)) 1 214 (SharedT.mk (t_10 w.params) 136 (Life.mk [] [] [] 0 [] [] false #[] [] 0 false false false 0 [2000, 10, 10] false 0 true [] [] 0 false) ⟨[]⟩ (Drawn.mk 0 0 0 0) 351 os) (piecesOf sts_11 env cB (Pos.mk 20 0 21 8) [topFrame (Pos.mk 0 0 0 0)])) = fun os : OsState => some (Flow.next, (SharedT.mk (t_11 w.params) 148 (Life.mk [] [] [] 0 [] [] false #[] [] 0 false false false 0 [2000, 10, 10] false 0 true [] [] 0 false) ⟨[]⟩ (Drawn.mk 0 0 0 0) 367 os), cB, (Pos.mk 22 0 23 8)) := by
  rewrite [PySem.W.Fast.te10110043849684766642, PySem.W.Fast.te14364793385576792824, PySem.W.Fast.te6415974008869775796, PySem.W.Fast.te2060423359788512156]
  intro w
  kernel_rfl
set_option maxHeartbeats 0 in
theorem t_p12 : ∀ w : World, (fun os : OsState => segRunT treeTable PySem.Challenge.pw_roundmill_k03_refusals w 11 (some (.ref 6)) 1 214 (SharedT.mk (t_11 w.params) 148 (Life.mk [] [] [] 0 [] [] false #[] [] 0 false false false 0 [2000, 10, 10] false 0 true [] [] 0 false) ⟨[]⟩ (Drawn.mk 0 0 0 0) 367 os) (piecesOf sts_12 env cB (Pos.mk 22 0 23 8) [topFrame (Pos.mk 0 0 0 0)])) = fun os : OsState => some (Flow.next, (SharedT.mk (t_12 w.params) 160 (Life.mk [] [] [] 0 [] [] false #[] [] 0 false false false 0 [2000, 10, 10] false 0 true [] [] 0 false) ⟨[]⟩ (Drawn.mk 0 0 0 0) 383 os), cB, (Pos.mk 24 0 25 8)) := by
  rewrite [PySem.W.Fast.te10110043849684766642, PySem.W.Fast.te14364793385576792824, PySem.W.Fast.te6415974008869775796, PySem.W.Fast.te2060423359788512156]
  intro w
  kernel_rfl
set_option maxHeartbeats 0 in
theorem t_p13 : ∀ w : World, (fun os : OsState => segRunT treeTable PySem.Challenge.pw_roundmill_k03_refusals w 11 (some (.ref 6)) 1 214 (SharedT.mk (t_12 w.params) 160 (Life.mk [] [] [] 0 [] [] false #[] [] 0 false false false 0 [2000, 10, 10] false 0 true [] [] 0 false) ⟨[]⟩ (Drawn.mk 0 0 0 0) 383 os) (piecesOf sts_13 env cB (Pos.mk 24 0 25 8) [topFrame (Pos.mk 0 0 0 0)])) = fun os : OsState => some (Flow.next, (SharedT.mk (t_13 w.params) 172 (Life.mk [] [] [] 0 [] [] false #[] [] 0 false false false 0 [2000, 10, 10] false 0 true [] [] 0 false) ⟨[]⟩ (Drawn.mk 0 0 0 0) 399 os), cB, (Pos.mk 26 0 27 8)) := by
  rewrite [PySem.W.Fast.te10110043849684766642, PySem.W.Fast.te14364793385576792824, PySem.W.Fast.te6415974008869775796, PySem.W.Fast.te2060423359788512156]
  intro w
  kernel_rfl
set_option maxHeartbeats 0 in
theorem t_p14 : ∀ w : World, (fun os : OsState => segRunT treeTable PySem.Challenge.pw_roundmill_k03_refusals w 11 (some (.ref 6)) 1 214 (SharedT.mk (t_13 w.params) 172 (Life.mk [] [] [] 0 [] [] false #[] [] 0 false false false 0 [2000, 10, 10] false 0 true [] [] 0 false) ⟨[]⟩ (Drawn.mk 0 0 0 0) 399 os) (piecesOf sts_14 env cB (Pos.mk 26 0 27 8) [topFrame (Pos.mk 0 0 0 0)])) = fun os : OsState => some (Flow.next, (SharedT.mk (t_14 w.params) 184 (Life.mk [] [] [] 0 [] [] false #[] [] 0 false false false 0 [2000, 10, 10] false 0 true [] [] 0 false) ⟨[]⟩ (Drawn.mk 0 0 0 0) 415 os), cB, (Pos.mk 28 0 29 8)) := by
  rewrite [PySem.W.Fast.te10110043849684766642, PySem.W.Fast.te14364793385576792824, PySem.W.Fast.te6415974008869775796, PySem.W.Fast.te2060423359788512156]
  intro w
  kernel_rfl
set_option maxHeartbeats 0 in
theorem t_p15 : ∀ w : World, (fun os : OsState => segRunT treeTable PySem.Challenge.pw_roundmill_k03_refusals w 11 (some (.ref 6)) 1 214 (SharedT.mk (t_14 w.params) 184 (Life.mk [] [] [] 0 [] [] false #[] [] 0 false false false 0 [2000, 10, 10] false 0 true [] [] 0 false) ⟨[]⟩ (Drawn.mk 0 0 0 0) 415 os) (piecesOf sts_15 env cB (Pos.mk 28 0 29 8) [topFrame (Pos.mk 0 0 0 0)])) = fun os : OsState => some (Flow.next, (SharedT.mk (t_15 w.params) 196 (Life.mk [] [] [] 0 [] [] false #[] [] 0 false false false 0 [2000, 10, 10] false 0 true [] [] 0 false) ⟨[]⟩ (Drawn.mk 0 0 0 0) 431 os), cB, (Pos.mk 30 0 31 8)) := by
  rewrite [PySem.W.Fast.te10110043849684766642, PySem.W.Fast.te14364793385576792824, PySem.W.Fast.te6415974008869775796, PySem.W.Fast.te2060423359788512156]
  intro w
  kernel_rfl
set_option maxHeartbeats 0 in
theorem t_p16 : ∀ w : World, (fun os : OsState => segRunT treeTable PySem.Challenge.pw_roundmill_k03_refusals w 11 (some (.ref 6)) 1 373 (SharedT.mk (t_15 w.params) 196 (Life.mk [] [] [] 0 [] [] false #[] [] 0 false false false 0 [2000, 10, 10] false 0 true [] [] 0 false) ⟨[]⟩ (Drawn.mk 0 0 0 0) 431 os) (piecesOf sts_16 env cB (Pos.mk 30 0 31 8) [topFrame (Pos.mk 0 0 0 0)])) = fun os : OsState => some (Flow.next, (SharedT.mk (t_16 w.params) 243 (Life.mk [] [] [] 0 [] [] false #[] [] 0 false false false 0 [2000, 10, 10] false 0 true [] [] 0 false) ⟨[]⟩ (Drawn.mk 0 0 0 0) 488 os), cB, (Pos.mk 45 0 46 33)) := by
  rewrite [PySem.W.Fast.te10110043849684766642, PySem.W.Fast.te14364793385576792824, PySem.W.Fast.te6415974008869775796, PySem.W.Fast.te2060423359788512156]
  intro w
  kernel_rfl
set_option maxHeartbeats 0 in
theorem t_p17 : ∀ w : World, (fun os : OsState => segRunT treeTable PySem.Challenge.pw_roundmill_k03_refusals w 11 (some (.ref 6)) 1 396 (SharedT.mk (t_16 w.params) 243 (Life.mk [] [] [] 0 [] [] false #[] [] 0 false false false 0 [2000, 10, 10] false 0 true [] [] 0 false) ⟨[]⟩ (Drawn.mk 0 0 0 0) 488 os) (piecesOf sts_17 env cB (Pos.mk 45 0 46 33) [topFrame (Pos.mk 0 0 0 0)])) = fun os : OsState => some (Flow.next, (SharedT.mk (t_17 w.params) 327 (Life.mk [] [] [] 0 [] [] false #[] [] 0 false false false 0 [2000, 10, 10] false 0 true [] [] 0 false) ⟨[]⟩ (Drawn.mk 0 0 0 0) 605 os), cB, (Pos.mk 111 0 117 20)) := by
  rewrite [PySem.W.Fast.te10110043849684766642, PySem.W.Fast.te14364793385576792824, PySem.W.Fast.te6415974008869775796, PySem.W.Fast.te2060423359788512156]
  intro w
  kernel_rfl
set_option maxHeartbeats 0 in
theorem t_p18 : ∀ w : World, (fun os : OsState => segRunT treeTable PySem.Challenge.pw_roundmill_k03_refusals w 11 (some (.ref 6)) 1 391 (SharedT.mk (t_17 w.params) 327 (Life.mk [] [] [] 0 [] [] false #[] [] 0 false false false 0 [2000, 10, 10] false 0 true [] [] 0 false) ⟨[]⟩ (Drawn.mk 0 0 0 0) 605 os) (piecesOf sts_18 env cB (Pos.mk 111 0 117 20) [topFrame (Pos.mk 0 0 0 0)])) = fun os : OsState => some (Flow.next, (SharedT.mk (t_18 w.params) 409 (Life.mk [] [] [] 0 [] [] false #[] [] 0 false false false 0 [2000, 10, 10] false 0 true [] [] 0 false) ⟨[]⟩ (Drawn.mk 0 0 0 0) 726 os), cB, (Pos.mk 240 0 245 15)) := by
  rewrite [PySem.W.Fast.te10110043849684766642, PySem.W.Fast.te14364793385576792824, PySem.W.Fast.te6415974008869775796, PySem.W.Fast.te2060423359788512156]
  intro w
  kernel_rfl
set_option maxHeartbeats 0 in
theorem t_fin : ∀ w : World, (fun os : OsState => topRun treeTable PySem.Challenge.pw_roundmill_k03_refusals w 11 (some (.ref 6)) 2 (SharedT.abs (SharedT.mk (t_18 w.params) 409 (Life.mk [] [] [] 0 [] [] false #[] [] 0 false false false 0 [2000, 10, 10] false 0 true [] [] 0 false) ⟨[]⟩ (Drawn.mk 0 0 0 0) 726 os)) (Thread.mk (doneF Flow.next) cB (Pos.mk 240 0 245 15) [topFrame (Pos.mk 0 0 0 0)])) = fun os : OsState => some (Shared.mk (hf w.params) ⟨[]⟩ (Drawn.mk 0 0 0 0) 726 os) := by
  rewrite [PySem.W.Fast.te14082659384304107361, PySem.W.Fast.te14364793385576792824, PySem.W.Fast.te6415974008869775796, PySem.W.Fast.te2060423359788512156]
  intro w
  kernel_rfl
set_option maxHeartbeats 0 in
theorem t_size : ∀ w : World, ((boot_heap w.params).isNs mainGlobals && (Array.mk [] : Array GenState).size == 0, (boot_heap w.params).objs.size, (boot_heap w.params).nsMap mainGlobals "__annotations__") = (true, 11, (some (.ref 6))) := by
  rewrite [PySem.W.Fast.te8920871248978507458]
  intro w
  kernel_rfl
set_option maxHeartbeats 0 in
theorem l_1 : ∀ w : World, (fun os : OsState => staticsOk (importedModules (Program.main PySem.Challenge.pw_roundmill_k03_refusals).body) (boot_heap w.params) (hf w.params) && namesBound PySem.Challenge.pw_roundmill_k03_refusals (hf w.params) && gensDone (Shared.mk (hf w.params) ⟨[]⟩ (Drawn.mk 0 0 0 0) 726 os) && laidKept (boot_heap w.params) (hf w.params)) = fun os : OsState => true := by
  rewrite [PySem.W.Fast.te5923862056798008813, PySem.W.Fast.te6415974008869775796]
  intro w
  kernel_rfl
set_option maxHeartbeats 0 in
theorem l_s0 : ∀ w : World, (fun os : OsState => (openSeen q [] (importedModules (Program.main PySem.Challenge.pw_roundmill_k03_refusals).body) Xt true (Shared.mk (hf w.params) ⟨[]⟩ (Drawn.mk 0 0 0 0) 726 os)).1) = fun os : OsState => (openGood q []).1 := by
  unfold openSeen openGood
  dsimp only
  rewrite [PySem.W.Fast.te5160383126252970620, PySem.W.R.mapR_eq, PySem.W.Fast.te3399658132070893891, PySem.W.Fast.te5991557255702980513]
  intro w
  kernel_rfl
set_option maxHeartbeats 0 in
theorem l_s1 : ∀ w : World, (fun os : OsState => (openSeen q [] (importedModules (Program.main PySem.Challenge.pw_roundmill_k03_refusals).body) Xt true (Shared.mk (hf w.params) ⟨[]⟩ (Drawn.mk 0 0 0 0) 726 os)).2.1) = fun os : OsState => (openGood q []).2.1 := by
  unfold openSeen openGood
  dsimp only
  intro w
  kernel_rfl
set_option maxHeartbeats 0 in
theorem l_s2 : ∀ w : World, (fun os : OsState => (openSeen q [] (importedModules (Program.main PySem.Challenge.pw_roundmill_k03_refusals).body) Xt true (Shared.mk (hf w.params) ⟨[]⟩ (Drawn.mk 0 0 0 0) 726 os)).2.2.1) = fun os : OsState => (openGood q []).2.2.1 := by
  unfold openSeen openGood
  dsimp only
  rewrite [PySem.W.Fast.te10880121769531294198, PySem.W.Fast.te821141287760084731, PySem.W.R.mapR_eq, PySem.W.Fast.te3399658132070893891, PySem.W.Fast.te7409074990110511671, PySem.W.Fast.te13664370479719496447, PySem.W.Fast.te14722251495701143533, PySem.W.Fast.te5923862056798008813, PySem.W.Fast.te6415974008869775796, PySem.W.Fast.te10994771534591457954, PySem.W.Fast.te18408535023408442824]
  intro w
  kernel_rfl
set_option maxHeartbeats 0 in
theorem l_s3 : ∀ w : World, (fun os : OsState => (openSeen q [] (importedModules (Program.main PySem.Challenge.pw_roundmill_k03_refusals).body) Xt true (Shared.mk (hf w.params) ⟨[]⟩ (Drawn.mk 0 0 0 0) 726 os)).2.2.2.1) = fun os : OsState => (openGood q []).2.2.2.1 := by
  unfold openSeen openGood
  dsimp only
  rewrite [PySem.W.Fast.te479339242167458305]
  intro w
  kernel_rfl
set_option maxHeartbeats 0 in
theorem l_s4 : ∀ w : World, (fun os : OsState => (openSeen q [] (importedModules (Program.main PySem.Challenge.pw_roundmill_k03_refusals).body) Xt true (Shared.mk (hf w.params) ⟨[]⟩ (Drawn.mk 0 0 0 0) 726 os)).2.2.2.2.1) = fun os : OsState => (openGood q []).2.2.2.2.1 := by
  unfold openSeen openGood
  dsimp only
  rewrite [PySem.W.Fast.te16090120013241838585, PySem.W.Fast.te3247288618530077131]
  intro w
  kernel_rfl
set_option maxHeartbeats 0 in
theorem l_s5 : ∀ w : World, (fun os : OsState => (openSeen q [] (importedModules (Program.main PySem.Challenge.pw_roundmill_k03_refusals).body) Xt true (Shared.mk (hf w.params) ⟨[]⟩ (Drawn.mk 0 0 0 0) 726 os)).2.2.2.2.2.1) = fun os : OsState => (openGood q []).2.2.2.2.2.1 := by
  unfold openSeen openGood
  dsimp only
  rewrite [PySem.W.Fast.te2386780881361962483, PySem.W.Fast.te821141287760084731]
  intro w
  kernel_rfl
set_option maxHeartbeats 0 in
theorem l_s6 : ∀ w : World, (fun os : OsState => (openSeen q [] (importedModules (Program.main PySem.Challenge.pw_roundmill_k03_refusals).body) Xt true (Shared.mk (hf w.params) ⟨[]⟩ (Drawn.mk 0 0 0 0) 726 os)).2.2.2.2.2.2.1) = fun os : OsState => (openGood q []).2.2.2.2.2.2.1 := by
  unfold openSeen openGood
  dsimp only
  rewrite [PySem.W.Fast.te11698064438423848299]
  intro w
  kernel_rfl
set_option maxHeartbeats 0 in
theorem l_s7 : ∀ w : World, (fun os : OsState => (openSeen q [] (importedModules (Program.main PySem.Challenge.pw_roundmill_k03_refusals).body) Xt true (Shared.mk (hf w.params) ⟨[]⟩ (Drawn.mk 0 0 0 0) 726 os)).2.2.2.2.2.2.2.1) = fun os : OsState => (openGood q []).2.2.2.2.2.2.2.1 := by
  unfold openSeen openGood
  dsimp only
  rewrite [PySem.W.Fast.te7317090234206586261]
  intro w
  kernel_rfl
set_option maxHeartbeats 0 in
theorem l_s8 : ∀ w : World, (fun os : OsState => (openSeen q [] (importedModules (Program.main PySem.Challenge.pw_roundmill_k03_refusals).body) Xt true (Shared.mk (hf w.params) ⟨[]⟩ (Drawn.mk 0 0 0 0) 726 os)).2.2.2.2.2.2.2.2) = fun os : OsState => (openGood q []).2.2.2.2.2.2.2.2 := by
  unfold openSeen openGood
  dsimp only
  rewrite [PySem.W.Fast.te7369524293546568484]
  intro w
  kernel_rfl
set_option maxHeartbeats 0 in
theorem l_k : ∀ w : World, (fun os : OsState => as.map (Shared.heap (Shared.mk (hf w.params) ⟨[]⟩ (Drawn.mk 0 0 0 0) 726 os)).get?) = fun os : OsState => (K w.params).map fun x => some x.2 := by
  rewrite [PySem.W.R.mapR_eq]
  intro w
  kernel_rfl
theorem h_b : behindTheImports PySem.Challenge.pw_roundmill_k03_refusals = sts_1 ++ (sts_2 ++ (sts_3 ++ (sts_4 ++ (sts_5 ++ (sts_6 ++ (sts_7 ++ (sts_8 ++ (sts_9 ++ (sts_10 ++ (sts_11 ++ (sts_12 ++ (sts_13 ++ (sts_14 ++ (sts_15 ++ (sts_16 ++ (sts_17 ++ (sts_18 ++ []))))))))))))))))) := by kernel_rfl
theorem run_b (w : World) (os : OsState) : topRun treeTable PySem.Challenge.pw_roundmill_k03_refusals w 11 (some (.ref 6)) (196 + (214 + (214 + (214 + (214 + (214 + (214 + (214 + (214 + (214 + (214 + (214 + (214 + (214 + (214 + (373 + (396 + (391 + (2))))))))))))))))))) (SharedT.abs (SharedT.mk (t_0 w.params) 15 (Life.mk [] [] [] 0 [] [] false #[] [] 0 false false false 0 [2000, 10, 10] false 0 true [] [] 0 false) ⟨[]⟩ (Drawn.mk 0 0 0 0) 187 os)) (restOf (sts_1 ++ (sts_2 ++ (sts_3 ++ (sts_4 ++ (sts_5 ++ (sts_6 ++ (sts_7 ++ (sts_8 ++ (sts_9 ++ (sts_10 ++ (sts_11 ++ (sts_12 ++ (sts_13 ++ (sts_14 ++ (sts_15 ++ (sts_16 ++ (sts_17 ++ (sts_18 ++ [])))))))))))))))))) env cB (Pos.mk 0 0 0 0) [topFrame (Pos.mk 0 0 0 0)]) = some (Shared.mk (hf w.params) ⟨[]⟩ (Drawn.mk 0 0 0 0) 726 os) :=
  piece_app (segRun_of (congrFun (t_p1 w) os)) (piece_app (segRun_of (congrFun (t_p2 w) os)) (piece_app (segRun_of (congrFun (t_p3 w) os)) (piece_app (segRun_of (congrFun (t_p4 w) os)) (piece_app (segRun_of (congrFun (t_p5 w) os)) (piece_app (segRun_of (congrFun (t_p6 w) os)) (piece_app (segRun_of (congrFun (t_p7 w) os)) (piece_app (segRun_of (congrFun (t_p8 w) os)) (piece_app (segRun_of (congrFun (t_p9 w) os)) (piece_app (segRun_of (congrFun (t_p10 w) os)) (piece_app (segRun_of (congrFun (t_p11 w) os)) (piece_app (segRun_of (congrFun (t_p12 w) os)) (piece_app (segRun_of (congrFun (t_p13 w) os)) (piece_app (segRun_of (congrFun (t_p14 w) os)) (piece_app (segRun_of (congrFun (t_p15 w) os)) (piece_app (segRun_of (congrFun (t_p16 w) os)) (piece_app (segRun_of (congrFun (t_p17 w) os)) (piece_app (segRun_of (congrFun (t_p18 w) os)) (piece_nil (congrFun (t_fin w) os)))))))))))))))))))
theorem run (w : World) (os : OsState) : topRun treeTable PySem.Challenge.pw_roundmill_k03_refusals w 11 (some (.ref 6)) (12 + (1 + (196 + (214 + (214 + (214 + (214 + (214 + (214 + (214 + (214 + (214 + (214 + (214 + (214 + (214 + (214 + (373 + (396 + (391 + (2))))))))))))))))))))) (Shared.mk (boot_heap w.params) (Array.mk []) boot_drawn boot_toks os) (topStub PySem.Challenge.pw_roundmill_k03_refusals) = some (Shared.mk (hf w.params) ⟨[]⟩ (Drawn.mk 0 0 0 0) 726 os) :=
  go_top (congrFun (t_pre w) os) (piece_block (congrFun (t_block w) os) ((congrArg (fun b => topRun treeTable PySem.Challenge.pw_roundmill_k03_refusals w 11 (some (.ref 6)) (196 + (214 + (214 + (214 + (214 + (214 + (214 + (214 + (214 + (214 + (214 + (214 + (214 + (214 + (214 + (373 + (396 + (391 + (2))))))))))))))))))) (SharedT.abs (SharedT.mk (t_0 w.params) 15 (Life.mk [] [] [] 0 [] [] false #[] [] 0 false false false 0 [2000, 10, 10] false 0 true [] [] 0 false) ⟨[]⟩ (Drawn.mk 0 0 0 0) 187 os)) (restOf b env cB (Pos.mk 0 0 0 0) [topFrame (Pos.mk 0 0 0 0)])) h_b).trans (run_b w os)))
theorem opened : ∀ w : World, (fencedOpening treeTable PySem.Challenge.pw_roundmill_k03_refusals w 8794).map (fun s => (s.heap, s.gens, s.drawn, s.toks)) = some (boot_heap w.params, Array.mk [], boot_drawn, boot_toks) := boot_open (by kernel_rfl) (by decide) (fun s => by kernel_rfl)
theorem he : ∀ P, as = (K P).map (·.1) := fun _ => by kernel_rfl
theorem left : LeftO PySem.Challenge.pw_roundmill_k03_refusals q [] Xt (kHook K as he).obs (kHook K as he).val 8794 :=
  LeftO.of_pieces opened t_size run (by decide) fun w => funext fun os => Prod.ext (congrFun (l_1 w) os) (Prod.ext (Prod.ext (congrFun (l_s0 w) os) (Prod.ext (congrFun (l_s1 w) os) (Prod.ext (congrFun (l_s2 w) os) (Prod.ext (congrFun (l_s3 w) os) (Prod.ext (congrFun (l_s4 w) os) (Prod.ext (congrFun (l_s5 w) os) (Prod.ext (congrFun (l_s6 w) os) (Prod.ext (congrFun (l_s7 w) os) (congrFun (l_s8 w) os))))))))) (congrFun (l_k w) os))
end H

set_option Elab.async false
set_option linter.all false
set_option maxRecDepth 100000
/-! THE MATHEMATICS that many laws share: running shallow functions, numbers of two. -/
namespace EV
open PySem (Str)

/-! ### powers of two, lengths in bits -/
theorem pw_pos (k : Int) : 0 < pw k := Int.pow_pos (by decide)
theorem pw_add {a b : Int} (ha : 0 ≤ a) (hb : 0 ≤ b) : pw (a + b) = pw a * pw b := by
  unfold pw
  rw [Int.toNat_add ha hb, Int.pow_add]
theorem pw_succ {a : Int} (ha : 0 ≤ a) : pw (a + 1) = 2 * pw a := by
  rw [pw_add ha (by decide), Int.mul_comm]
  rfl
theorem pw_mono {a b : Int} (h : a ≤ b) : pw a ≤ pw b := by
  unfold pw
  have e1 : ((2 ^ a.toNat : Nat) : Int) = (2 : Int) ^ a.toNat := by simp
  have e2 : ((2 ^ b.toNat : Nat) : Int) = (2 : Int) ^ b.toNat := by simp
  rw [← e1, ← e2]
  exact Int.ofNat_le.mpr (Nat.pow_le_pow_right (by decide) (by omega))
/-- nb i ≤ k just where |i| < 2 ** k -/
theorem nb_le {i : Int} {k : Nat} : nb i ≤ k ↔ i.natAbs < 2 ^ k := by
  unfold nb
  by_cases h : i = 0
  · subst h
    simp
    exact Nat.two_pow_pos k
  · rw [if_neg h]
    have h0 : i.natAbs ≠ 0 := by omega
    rw [← Nat.log2_lt h0]
    omega
theorem nb_le_self (i : Int) : i.natAbs < 2 ^ nb i := nb_le.mp (Nat.le_refl _)
theorem nb_mono {i j : Int} (h : i.natAbs ≤ j.natAbs) : nb i ≤ nb j := nb_le.mpr (Nat.lt_of_le_of_lt h (nb_le_self j))
theorem nb_add {i j : Int} {a b : Nat} (hi : nb i ≤ a) (hj : nb j ≤ b) : nb (i + j) ≤ max a b + 1 := by
  rw [nb_le] at hi hj ⊢
  have h1 : 2 ^ a ≤ 2 ^ max a b := Nat.pow_le_pow_right (by decide) (Nat.le_max_left a b)
  have h2 : 2 ^ b ≤ 2 ^ max a b := Nat.pow_le_pow_right (by decide) (Nat.le_max_right a b)
  rw [Nat.pow_succ]
  omega
theorem nb_neg (i : Int) : nb (-i) = nb i := Nat.le_antisymm (nb_mono (by omega)) (nb_mono (by omega))
theorem nb_sub {i j : Int} {a b : Nat} (hi : nb i ≤ a) (hj : nb j ≤ b) : nb (i - j) ≤ max a b + 1 := by
  rw [Int.sub_eq_add_neg]
  exact nb_add hi (by rw [nb_neg]; exact hj)
theorem natAbs_div {i j : Int} (h : 0 < j) : (i / j).natAbs ≤ i.natAbs := by
  have h3 : i = j * (i / j) + i % j := (Int.mul_ediv_add_emod i j).symm
  have h1 := Int.emod_nonneg i (by omega : j ≠ 0)
  have h2 := Int.emod_lt_of_pos i h
  by_cases hi : 0 ≤ i
  · have := Int.ediv_nonneg hi (by omega : (0 : Int) ≤ j)
    have := Int.ediv_le_self j hi
    omega
  · have h4 : i / j < 0 := Int.ediv_neg_of_neg_of_pos (by omega) h
    have h5 : (j - 1) * (i / j) ≤ (j - 1) * (-1) := Int.mul_le_mul_of_nonneg_left (by omega) (by omega)
    rw [Int.sub_mul, Int.one_mul] at h5
    generalize j * (i / j) = z at *
    omega
theorem nb_div {i j : Int} {a : Nat} (h : 0 < j) (hi : nb i ≤ a) : nb (i / j) ≤ a := Nat.le_trans (nb_mono (natAbs_div h)) hi
theorem nb_pw {k : Int} {c : Nat} (hk : k ≤ c) : nb (pw k) ≤ c + 1 := by
  rw [nb_le]
  unfold pw
  rw [Int.natAbs_pow]
  exact Nat.pow_lt_pow_right (a := 2) (by decide) (by omega)
theorem MulOk.of {i j : Int} {a b : Nat} (hi : nb i ≤ a) (hj : nb j ≤ b) (h : a + b ≤ 134217728) : MulOk i j := by
  unfold MulOk
  omega
theorem DivOk.small {i j : Int} (h : 0 < j) (hj : nb j ≤ 9000) : DivOk i j := ⟨h, .inl hj⟩
/-! ### bounds of lengths, found -/
theorem nb_self {i : Int} : nb i ≤ nb i := Nat.le_refl _
theorem nb_le_of {i : Int} {a b : Nat} (h : nb i ≤ a) (h2 : a ≤ b) : nb i ≤ b := Nat.le_trans h h2
theorem oMul_ok {i j : Int} (h : MulOk i j) : oMul (.int i) (.int j) = .ok (.int (i * j)) := by unfold oMul; simp only; rw [if_pos h]
theorem oDiv_ok {i j : Int} (h : DivOk i j) : oDiv (.int i) (.int j) = .ok (.int (i / j)) := by unfold oDiv; simp only; rw [if_pos h]
theorem oMod_ok {i j : Int} (h : 0 < j) : oMod (.int i) (.int j) = .ok (.int (i % j)) := by unfold oMod; simp only; rw [if_pos h]
theorem oDiv_lit {i j : Int} (h : 0 < j) (h2 : j < 18446744073709551616) : oDiv (.int i) (.int j) = .ok (.int (i / j)) := oDiv_ok (DivOk.small h (by
  have : nb j ≤ 64 := nb_le.mpr (by omega)
  omega))
theorem oShl_ok {i j : Int} (h : 0 ≤ j) (h2 : (nb i : Int) + j ≤ 134217728) : oShl (.int i) (.int j) = .ok (.int (i * pw j)) := by unfold oShl; simp only; rw [if_pos ⟨h, h2⟩]
theorem oShr_ok {i j : Int} (h : 0 ≤ j) : oShr (.int i) (.int j) = .ok (.int (i / pw j)) := by unfold oShr; simp only; rw [if_pos h]
theorem oPow_ok {i j : Int} (h : 0 ≤ j) (h2 : (nb i : Int) * j ≤ 134217728) : oPow (.int i) (.int j) = .ok (.int (i ^ j.toNat)) := by unfold oPow; simp only; rw [if_pos ⟨h, h2⟩]

/-! ### running: what each part comes to, once its own parts have -/
section
variable {α β : Type} {d d' : D} {δ : Dt} {C : String} {f : α → R β} {c : Option D}
theorem bind_ok (a : α) : (R.ok a).bind f = f a := rfl
theorem bind_ex : (R.ex C : R α).bind f = .ex C := rfl
theorem bind_bad : (R.bad : R α).bind f = .bad := rfl
theorem bind_ite {p : Prop} [Decidable p] (x y : R α) : (if p then x else y).bind f = if p then x.bind f else y.bind f := by split <;> rfl
theorem then_nx {s : S} : (O.nx δ).then s = s δ := rfl
theorem then_rt {s : S} : (O.rt d).then s = .rt d := rfl
theorem then_ex {s : S} : (O.ex C δ).then s = .ex C δ := rfl
theorem then_mk {s : S} : (O.mk C δ).then s = .mk C δ := rfl
theorem then_bk {s : S} : (O.bk δ).then s = .bk δ := rfl
theorem then_ct {s : S} : (O.ct δ).then s = .ct δ := rfl
theorem then_bad {s : S} : (O.bad).then s = .bad := rfl
theorem then_ite {p : Prop} [Decidable p] (x y : O) {s : S} : (if p then x else y).then s = if p then x.then s else y.then s := by split <;> rfl
theorem res_rt : (O.rt d).res = .ok d := rfl
theorem res_nx : (O.nx δ).res = .ok .non := rfl
theorem res_ex : (O.ex C δ).res = .ex C := rfl
theorem res_mk : (O.mk C δ).res = .ex C := rfl
theorem res_bad : O.bad.res = .bad := rfl
theorem res_ite {p : Prop} [Decidable p] (x y : O) : (if p then x else y).res = if p then x.res else y.res := by split <;> rfl
theorem asg_ok {i : Nat} : asg i δ (.ok d) = .nx (δ.set i (some d)) := rfl
theorem asg_ex {i : Nat} : asg i δ (.ex C) = .ex C (noOwn δ) := rfl
theorem asg_ite {i : Nat} {p : Prop} [Decidable p] (x y : R D) : asg i δ (if p then x else y) = if p then asg i δ x else asg i δ y := by split <;> rfl
theorem xpr_ok : xpr δ (.ok d) = .nx δ := rfl
theorem xpr_ex : xpr δ (.ex C) = .ex C (noOwn δ) := rfl
theorem xpr_ite {p : Prop} [Decidable p] (x y : R D) : xpr δ (if p then x else y) = if p then xpr δ x else xpr δ y := by split <;> rfl
theorem rtn_ok : rtn δ (.ok d) = .rt d := rfl
theorem rtn_ex : rtn δ (.ex C) = .ex C (noOwn δ) := rfl
theorem rtn_ite {p : Prop} [Decidable p] (x y : R D) : rtn δ (if p then x else y) = if p then rtn δ x else rtn δ y := by split <;> rfl
theorem ifO_bl {b : Bool} {x y : O} : ifO δ (.ok (.bl b)) x y = if b = true then x else y := by cases b <;> rfl
theorem ifO_ex {x y : O} : ifO δ (.ex C) x y = .ex C (noOwn δ) := rfl
theorem ifO_ite {p : Prop} [Decidable p] (u v : R D) {x y : O} : ifO δ (if p then u else v) x y = if p then ifO δ u x y else ifO δ v x y := by split <;> rfl
theorem truth_bl {b : Bool} {x y : R β} : truth (.bl b) x y = if b = true then x else y := by cases b <;> rfl
theorem ite_bl {p : Prop} [Decidable p] {a b : Bool} : (if p then R.ok (D.bl a) else R.ok (D.bl b)) = R.ok (D.bl (if p then a else b)) := by split <;> rfl
theorem ite_int {p : Prop} [Decidable p] {a b : Int} : (if p then R.ok (D.int a) else R.ok (D.int b)) = R.ok (D.int (if p then a else b)) := by split <;> rfl
theorem ite_b1 {p : Prop} [Decidable p] {b : Bool} : ((if p then b else false) = true) = (p ∧ b = true) := by by_cases h : p <;> simp [h]
theorem ite_b2 {p : Prop} [Decidable p] {b : Bool} : ((if p then true else b) = true) = (p ∨ b = true) := by by_cases h : p <;> simp [h]
theorem ite_b3 {p : Prop} [Decidable p] : ((if p then false else true) = true) = ¬ p := by by_cases h : p <;> simp [h]
theorem var_0n : var 0 (none :: δ) = .bad := rfl
theorem var_int {i : Int} : var 0 (some (.int i) :: δ) = .ok (.int i) := rfl
theorem var_bl {b : Bool} : var 0 (some (.bl b) :: δ) = .ok (.bl b) := rfl
theorem var_str {x : PySem.Str} : var 0 (some (.str x) :: δ) = .ok (.str x) := rfl
theorem var_non : var 0 (some .non :: δ) = .ok .non := rfl
theorem var_tup {ds : List D} : var 0 (some (.tup ds) :: δ) = .ok (.tup ds) := rfl
theorem var_lst {ds : List D} : var 0 (some (.lst ds) :: δ) = .ok (.lst ds) := rfl
theorem var_own {ds : List D} : var 0 (some (.own ds) :: δ) = .bad := rfl
theorem var_exc : var 0 (some (.exc C) :: δ) = .ok (.exc C) := rfl
theorem var_cls : var 0 (some (.cls C) :: δ) = .ok (.cls C) := rfl
theorem var_ins {fs : List (String × D)} : var 0 (some (.ins C fs) :: δ) = .ok (.ins C fs) := rfl
theorem var_succ {n : Nat} : var (n + 1) (c :: δ) = var n δ := rfl
theorem evs_nil : evs [] δ = .ok [] := rfl
theorem evs_cons {e : E} {es : List E} : evs (e :: es) δ = (e δ).bind fun d => (evs es δ).bind fun ds => .ok (d :: ds) := rfl
theorem oAdd_int {i j : Int} : oAdd (.int i) (.int j) = .ok (.int (i + j)) := rfl
theorem oSub_int {i j : Int} : oSub (.int i) (.int j) = .ok (.int (i - j)) := rfl
theorem oNeg_int {i : Int} : oNeg (.int i) = .ok (.int (-i)) := rfl
theorem oLt_int {i j : Int} : oLt (.int i) (.int j) = .ok (.bl (decide (i < j))) := rfl
theorem oLe_int {i j : Int} : oLe (.int i) (.int j) = .ok (.bl (decide (i ≤ j))) := rfl
theorem oGt_int {i j : Int} : oGt (.int i) (.int j) = .ok (.bl (decide (j < i))) := rfl
theorem oGe_int {i j : Int} : oGe (.int i) (.int j) = .ok (.bl (decide (j ≤ i))) := rfl
theorem oEq_int {i j : Int} : oEq (.int i) (.int j) = .ok (.bl (decide (i = j))) := by simp [oEq, D.cmp, D.sc, D.beq, Bool.beq_eq_decide_eq]
theorem oNe_int {i j : Int} : oNe (.int i) (.int j) = .ok (.bl (decide (i ≠ j))) := by simp [oNe, D.cmp, D.sc, D.beq, Bool.beq_eq_decide_eq]
theorem oEq_str {i j : PySem.Str} : oEq (.str i) (.str j) = .ok (.bl (decide (i = j))) := by simp [oEq, D.cmp, D.sc, D.beq, Bool.beq_eq_decide_eq]
theorem oNe_str {i j : PySem.Str} : oNe (.str i) (.str j) = .ok (.bl (decide (i ≠ j))) := by simp [oNe, D.cmp, D.sc, D.beq, Bool.beq_eq_decide_eq]
theorem oEq_bl {i j : Bool} : oEq (.bl i) (.bl j) = .ok (.bl (decide (i = j))) := by simp [oEq, D.cmp, D.sc, D.beq, Bool.beq_eq_decide_eq]
theorem oIsN_non : oIsN .non = .ok (.bl true) := rfl
theorem oNotN_non : oNotN .non = .ok (.bl false) := rfl
theorem oIsN_exc : oIsN (.exc C) = .ok (.bl false) := rfl
theorem oNotN_exc : oNotN (.exc C) = .ok (.bl true) := rfl
theorem oIsN_int {i : Int} : oIsN (.int i) = .ok (.bl false) := rfl
theorem oNotN_int {i : Int} : oNotN (.int i) = .ok (.bl true) := rfl
theorem bMax_int {i j : Int} : bMax [.int i, .int j] = .ok (.int (max i j)) := by
  unfold bMax; simp only; congr 2; omega
theorem bMin_int {i j : Int} : bMin [.int i, .int j] = .ok (.int (min i j)) := by
  unfold bMin; simp only; congr 2; omega
theorem bAbs_int {i : Int} : bAbs [.int i] = .ok (.int (if i < 0 then -i else i)) := rfl
theorem bLen_lst {ds : List D} : bLen [.lst ds] = .ok (.int ds.length) := rfl
theorem bLen_tup {ds : List D} : bLen [.tup ds] = .ok (.int ds.length) := rfl
theorem bInt_int {i : Int} : bInt [.int i] = .ok (.int i) := rfl
theorem bInt_bl {k : Bool} : bInt [.bl k] = .ok (.int (if k then 1 else 0)) := rfl
theorem bBitLen_int {i : Int} : bBitLen [.int i] = .ok (.int (nb i)) := rfl
theorem bList_lst {ds : List D} : bList [.lst ds] = .ok (.lst ds) := rfl
theorem bList_tup {ds : List D} : bList [.tup ds] = .ok (.lst ds) := rfl
theorem isi_int_int {i : Int} : bIsi [.int i, .ty "int"] = .ok (.bl true) := by simp [bIsi]
theorem isi_int_bool {i : Int} : bIsi [.int i, .ty "bool"] = .ok (.bl false) := by simp [bIsi]
theorem isi_tup_tup {ds : List D} : bIsi [.tup ds, .ty "tuple"] = .ok (.bl true) := by simp [bIsi]
theorem isi_lst_lst {ds : List D} : bIsi [.lst ds, .ty "list"] = .ok (.bl true) := by simp [bIsi]
theorem isi_exc_ve : bIsi [.exc C, .ty "ValueError"] = if excNames.contains C then .ok (.bl true) else .bad := by simp [bIsi]
theorem isi_exc_cls {B : String} : bIsi [.exc C, .cls B] = if excNames.contains C && excNames.contains B then .ok (.bl (C == B || B == "MillError")) else .bad := rfl
theorem isi_non_cls {B : String} : bIsi [.non, .cls B] = if excNames.contains B then .ok (.bl false) else .bad := rfl
theorem trn_nx {k : S} : trn (.nx δ) k = k δ := rfl
theorem trn_ct {k : S} : trn (.ct δ) k = k δ := rfl
theorem trn_bk {k : S} : trn (.bk δ) k = .nx δ := rfl
theorem trn_rt {k : S} : trn (.rt d) k = .rt d := rfl
theorem trn_ex {k : S} : trn (.ex C δ) k = .ex C δ := rfl
theorem trn_mk {k : S} : trn (.mk C δ) k = .mk C δ := rfl
theorem trn_ite {p : Prop} [Decidable p] (x y : O) {k : S} : trn (if p then x else y) k = if p then trn x k else trn y k := by split <;> rfl
theorem forL_nil {i : Nat} {b : S} : forL i b [] δ = .nx δ := rfl
theorem forL_cons {i : Nat} {b : S} {ds : List D} : forL i b (d :: ds) δ = trn (b (δ.set i (some d))) (forL i b ds) := rfl
theorem ovL_ok {ds : List D} {k : List D → O} : ovL δ (.ok (.lst ds)) k = k ds := rfl
theorem ovT_ok {ds : List D} {k : List D → O} : ovT δ (.ok (.tup ds)) k = k ds := rfl
theorem tryO_nx {B : String} {i : Nat} {s : S} : tryO (.nx δ) B i s = .nx δ := rfl
theorem tryO_ex {B : String} {i : Nat} {s : S} : tryO (.ex C δ) B i s = if exSub C B then forget i (s ((noOwn δ).set i (some (.exc C)))) else .bad := rfl
theorem tryO_ite {p : Prop} [Decidable p] (x y : O) {B : String} {i : Nat} {s : S} : tryO (if p then x else y) B i s = if p then tryO x B i s else tryO y B i s := by split <;> rfl
theorem forget_nx {i : Nat} : forget i (.nx δ) = .nx (δ.set i none) := rfl
theorem noOwn_nil : noOwn [] = [] := rfl
theorem noOwn_none : noOwn (none :: δ) = none :: noOwn δ := rfl
theorem noOwn_int {i : Int} : noOwn (some (.int i) :: δ) = some (.int i) :: noOwn δ := rfl
theorem noOwn_bl {i : Bool} : noOwn (some (.bl i) :: δ) = some (.bl i) :: noOwn δ := rfl
theorem noOwn_str {i : PySem.Str} : noOwn (some (.str i) :: δ) = some (.str i) :: noOwn δ := rfl
theorem noOwn_non : noOwn (some .non :: δ) = some .non :: noOwn δ := rfl
theorem noOwn_tup {ds : List D} : noOwn (some (.tup ds) :: δ) = some (.tup ds) :: noOwn δ := rfl
theorem noOwn_lst {ds : List D} : noOwn (some (.lst ds) :: δ) = some (.lst ds) :: noOwn δ := rfl
theorem noOwn_exc : noOwn (some (.exc C) :: δ) = some (.exc C) :: noOwn δ := rfl
theorem exSub_mill {C : String} : exSub C "MillError" = excNames.contains C := by simp [exSub]
end
theorem ix_tup {ds : List D} {k : Nat} {d : D} (h : ds[k]? = some d) : oIx (.tup ds) (.int k) = .ok d := by
  obtain ⟨hk, he⟩ := List.getElem?_eq_some_iff.mp h
  unfold oIx ixN
  simp [he, hk]
theorem ix_lst {ds : List D} {k : Nat} {d : D} (h : ds[k]? = some d) : oIx (.lst ds) (.int k) = .ok d := by
  obtain ⟨hk, he⟩ := List.getElem?_eq_some_iff.mp h
  unfold oIx ixN
  simp [he, hk]
section
variable {a b c d e : D} {r : List D}
theorem ix0 : oIx (.tup (a :: r)) (.int 0) = .ok a := ix_tup (k := 0) rfl
theorem ix1 : oIx (.tup (a :: b :: r)) (.int 1) = .ok b := ix_tup (k := 1) rfl
theorem ix2 : oIx (.tup (a :: b :: c :: r)) (.int 2) = .ok c := ix_tup (k := 2) rfl
theorem ix3 : oIx (.tup (a :: b :: c :: d :: r)) (.int 3) = .ok d := ix_tup (k := 3) rfl
theorem ixl0 : oIx (.lst (a :: r)) (.int 0) = .ok a := ix_lst (k := 0) rfl
theorem ixl1 : oIx (.lst (a :: b :: r)) (.int 1) = .ok b := ix_lst (k := 1) rfl
theorem ixl2 : oIx (.lst (a :: b :: c :: r)) (.int 2) = .ok c := ix_lst (k := 2) rfl
end
theorem fn_0 {m : Nat} {gg : S} : fn 0 m gg [] = (gg (List.replicate m none)).res := rfl
theorem fn_1 {m : Nat} {gg : S} {a : D} : fn 1 m gg [a] = (gg (some a :: List.replicate (m - 1) none)).res := rfl
theorem fn_2 {m : Nat} {gg : S} {a b : D} : fn 2 m gg [a, b] = (gg (some a :: some b :: List.replicate (m - 2) none)).res := rfl
theorem fn_3 {m : Nat} {gg : S} {a b c : D} : fn 3 m gg [a, b, c] = (gg (some a :: some b :: some c :: List.replicate (m - 3) none)).res := rfl
theorem fn_4 {m : Nat} {gg : S} {a b c d : D} : fn 4 m gg [a, b, c, d] = (gg (some a :: some b :: some c :: some d :: List.replicate (m - 4) none)).res := rfl
theorem fn_5 {m : Nat} {gg : S} {a b c d e : D} : fn 5 m gg [a, b, c, d, e] = (gg (some a :: some b :: some c :: some d :: some e :: List.replicate (m - 5) none)).res := rfl
theorem fn_6 {m : Nat} {gg : S} {a b c d e f : D} : fn 6 m gg [a, b, c, d, e, f] = (gg (some a :: some b :: some c :: some d :: some e :: some f :: List.replicate (m - 6) none)).res := rfl
theorem fn_7 {m : Nat} {gg : S} {a b c d e f g : D} : fn 7 m gg [a, b, c, d, e, f, g] = (gg (some a :: some b :: some c :: some d :: some e :: some f :: some g :: List.replicate (m - 7) none)).res := rfl
theorem fn_8 {m : Nat} {gg : S} {a b c d e f g h : D} : fn 8 m gg [a, b, c, d, e, f, g, h] = (gg (some a :: some b :: some c :: some d :: some e :: some f :: some g :: some h :: List.replicate (m - 8) none)).res := rfl
section
variable {α β : Type} {a : α} {l : List α} {n : Nat} {p : Prop} {x y : α}
theorem z_len_cons : (a :: l).length = l.length + 1 := rfl
theorem z_len_nil : ([] : List α).length = 0 := rfl
theorem z_len_map {f : α → β} : (l.map f).length = l.length := List.length_map f
theorem z_map_cons {f : α → β} : (a :: l).map f = f a :: l.map f := rfl
theorem z_map_nil {f : α → β} : ([] : List α).map f = [] := rfl
theorem z_set_0 : (a :: l).set 0 x = x :: l := rfl
theorem z_set_s : (a :: l).set (n + 1) x = a :: l.set n x := rfl
theorem z_rep_0 : List.replicate 0 a = [] := rfl
theorem z_rep_s : List.replicate (n + 1) a = a :: List.replicate n a := rfl
theorem z_add0 : 0 + n = n := Nat.zero_add n
theorem z_if_t : (if True then x else y) = x := if_pos trivial
theorem z_if_f : (if False then x else y) = y := if_neg id
theorem z_ft : (false = true) = False := by simp
theorem z_tt : (true = true) = True := by simp
theorem z_not_t : (!true) = false := rfl
theorem z_not_f : (!false) = true := rfl
theorem z_dec [Decidable p] : (decide p = true) = p := decide_eq_true_eq
theorem z_dec_t [Decidable True] : decide True = true := by simp
theorem z_dec_f [Decidable False] : decide False = false := by simp
theorem z_and_t : (p ∧ True) = p := by simp
theorem z_t_and : (True ∧ p) = p := by simp
theorem z_and_f : (p ∧ False) = False := by simp
theorem z_f_and : (False ∧ p) = False := by simp
theorem z_or_t : (p ∨ True) = True := by simp
theorem z_t_or : (True ∨ p) = True := by simp
theorem z_or_f : (p ∨ False) = p := by simp
theorem z_f_or : (False ∨ p) = p := by simp
theorem z_nt : (¬ True) = False := by simp
theorem z_nf : (¬ False) = True := by simp
end
section
variable {a b c : E} {s t : S} {δ : Dt} {i : Nat} {f h : D → D → R D} {k : D → R D} {es : List E} {F : List D → R D} {d : D} {C : String}
theorem u_seq : seq s t δ = (s δ).then t := rfl
theorem u_assign : assign i a δ = asg i δ (a δ) := rfl
theorem u_ret : ret a δ = rtn δ (a δ) := rfl
theorem u_retV : retV a δ = rtn δ (a (view δ)) := rfl
theorem u_ifs : ifs a s t δ = ifO δ (a δ) (s δ) (t δ) := rfl
theorem u_expr : expr a δ = xpr δ (a δ) := rfl
theorem u_raise : raise C δ = .mk C δ := rfl
theorem u_pass : pass_ δ = .nx δ := rfl
theorem u_retN : retN δ = .rt .non := rfl
theorem u_brk : brk δ = .bk δ := rfl
theorem u_cont : cont δ = .ct δ := rfl
theorem u_con : con d δ = .ok d := rfl
theorem u_bin : bin f a b δ = (a δ).bind fun x => (b δ).bind fun y => f x y := rfl
theorem u_un : un k a δ = (a δ).bind k := rfl
theorem u_and : and_ a b δ = (a δ).bind fun d => truth d (b δ) (.ok (.bl false)) := rfl
theorem u_or : or_ a b δ = (a δ).bind fun d => truth d (.ok (.bl true)) (b δ) := rfl
theorem u_not : not_ a δ = (a δ).bind fun d => truth d (.ok (.bl false)) (.ok (.bl true)) := rfl
theorem u_ife : ife c a b δ = (c δ).bind fun d => truth d (a δ) (b δ) := rfl
theorem u_chain : chain f h a b c δ = (a δ).bind fun x => (b δ).bind fun y => (f x y).bind fun d => truth d ((c δ).bind fun z => h y z) (.ok (.bl false)) := rfl
theorem u_tup : tupE es δ = (evs es δ).bind fun ds => .ok (.tup ds) := rfl
theorem u_lst : lstE es δ = (evs es δ).bind fun ds => .ok (.lst ds) := rfl
theorem u_call : call F es δ = (evs es δ).bind F := rfl
theorem u_try : try_ s C i t δ = tryO (s δ) C i t := rfl
theorem u_forsL : forsL i a s δ = ovL δ (a δ) fun ds => forL i s ds δ := rfl
theorem u_forsT : forsT i a s δ = ovT δ (a δ) fun ds => forL i s ds δ := rfl
theorem u_forR1 : forR1 i a s δ = ovR δ (a δ) fun ds => forL i s ds δ := rfl
end
/-! ### more of what «ev» rewrites by -/
theorem xn_MillError : excNames.contains "MillError" = true := by decide
theorem xn_NoSize : excNames.contains "NoSize" = true := by decide
theorem xn_NoBits : excNames.contains "NoBits" = true := by decide
theorem xn_NoParts : excNames.contains "NoParts" = true := by decide
theorem xn_NoRank : excNames.contains "NoRank" = true := by decide
theorem xn_NotFinite : excNames.contains "NotFinite" = true := by decide
theorem xn_NoWay : excNames.contains "NoWay" = true := by decide
theorem xn_NoFlags : excNames.contains "NoFlags" = true := by decide
theorem xn_NoFraction : excNames.contains "NoFraction" = true := by decide
theorem xn_Unlike : excNames.contains "Unlike" = true := by decide
theorem xn_Empty : excNames.contains "Empty" = true := by decide
theorem xn_NoLeft : excNames.contains "NoLeft" = true := by decide
theorem xn_NoText : excNames.contains "NoText" = true := by decide
theorem xn_NoRow : excNames.contains "NoRow" = true := by decide
theorem xn_NoName : excNames.contains "NoName" = true := by decide
theorem xn_Stopped : excNames.contains "Stopped" = true := by decide
section
variable {α : Type} {b : Bool} {ds es : List D} {i : Nat} {it : IT} {g h : E} {s : S} {δ : Dt} {C : String} {ks : List Nat} {k : List D → O} {x : D} {fs : List (String × D)} {F : List D → R D} {gs : List E} {cn m f : String}
theorem y_and_t : (b && true) = b := by simp
theorem y_t_and : (true && b) = b := by simp
theorem y_f_and : (false && b) = false := by simp
theorem y_and_f : (b && false) = false := by simp
theorem y_or_f : (b || false) = b := by simp
theorem y_f_or : (false || b) = b := by simp
theorem y_t_or : (true || b) = true := by simp
theorem y_or_t : (b || true) = true := by simp
theorem u_forI : forI i it s δ = ovI δ (it δ) fun ds => forL i s ds δ := rfl
theorem ovI_ok : ovI δ (.ok ds) k = k ds := rfl
theorem ovI_ex : ovI δ (.ex C) k = .ex C (noOwn δ) := rfl
theorem u_itL : itL g δ = (g δ).bind asL := rfl
theorem u_itT : itT g δ = (g δ).bind asT := rfl
theorem u_itR1 : itR1 g δ = (g δ).bind asR1 := rfl
theorem u_itR2 : itR2 g h δ = (evs [g, h] δ).bind asR2 := rfl
theorem asL_lst : asL (.lst ds) = .ok ds := rfl
theorem asT_tup : asT (.tup ds) = .ok ds := rfl
theorem asR1_int {n : Int} (h0 : -4611686018427387904 ≤ n) (h1 : n < 4611686018427387904) : asR1 (.int n) = .ok (rngD 0 n) := by unfold asR1; simp only; rw [if_pos ⟨h0, h1⟩]
theorem asR2_int {n m : Int} (h0 : -4611686018427387904 ≤ n) (h1 : n < 4611686018427387904) (h2 : -4611686018427387904 ≤ m) (h3 : m < 4611686018427387904) : asR2 [.int n, .int m] = .ok (rngD n m) := by unfold asR2; simp only; rw [if_pos ⟨h0, h1, h2, h3⟩]
theorem u_comp : comp it ks g δ = (it δ).bind fun ds => if ds.length ≤ 100000 then (runC (stC (con (.bl true)) g ks δ) ds).bind flatR else .bad := rfl
theorem u_compIf : compIf it ks g h δ = (it δ).bind fun ds => if ds.length ≤ 100000 then (runC (stC g h ks δ) ds).bind flatR else .bad := rfl
theorem u_meth : meth cn m F g gs δ = (g δ).bind fun d => if isMeth cn m d then (evs gs δ).bind fun ds => F (d :: ds) else .bad := rfl
theorem u_mk1 : mk1 cn f [x] = .ok (.ins cn [(f, x)]) := rfl
theorem fld1 : oFld cn f (.ins cn ((f, x) :: fs)) = .ok x := by simp [oFld]
theorem im1 : isMeth cn m (.ins cn [(f, x)]) = (m != f) := by
  have : isMeth cn m (.ins cn [(f, x)]) = ((cn == cn) && (List.lookup m [(f, x)]).isNone) := rfl
  rw [this, List.lookup_cons]
  cases e : (m == f) <;> simp [e, bne]
theorem noOwn_ins : noOwn (some (.ins C fs) :: δ) = some (.ins C fs) :: noOwn δ := rfl
theorem bIsiT_tup {d : D} : bIsiT [d, .tup ds] = isiAny d ds := rfl
theorem isiAny_nil {d : D} : isiAny d [] = .ok (.bl false) := rfl
theorem isiAny_cons {d c : D} : isiAny d (c :: ds) = (bIsi [d, c]).bind fun x => truth x (.ok (.bl true)) (isiAny d ds) := rfl
theorem isi_non_ty {n : String} : bIsi [.non, .ty n] = if ["int", "bool", "str", "tuple", "list", "ValueError"].contains n then .ok (.bl false) else .bad := rfl
theorem oIsN_tup : oIsN (.tup ds) = .ok (.bl false) := rfl
theorem oNotN_tup : oNotN (.tup ds) = .ok (.bl true) := rfl
theorem oIsN_lst : oIsN (.lst ds) = .ok (.bl false) := rfl
theorem oNotN_lst : oNotN (.lst ds) = .ok (.bl true) := rfl
theorem oIsN_str {z : PySem.Str} : oIsN (.str z) = .ok (.bl false) := rfl
theorem oNotN_str {z : PySem.Str} : oNotN (.str z) = .ok (.bl true) := rfl
end
theorem ofStr_inj {x y : String} (h : (PySem.Str.ofString x) = PySem.Str.ofString y) : x = y := by
  rw [PySem.Str.ofString_eq_toList, PySem.Str.ofString_eq_toList] at h
  have h1 : (x.toList.map Char.toNat).toArray = (y.toList.map Char.toNat).toArray := congrArg PySem.Str.cps h
  have h2 : x.toList.map Char.toNat = y.toList.map Char.toNat := by simpa using h1
  have h3 : ∀ (l m : List Char), l.map Char.toNat = m.map Char.toNat → l = m := by
    intro l
    induction l with
    | nil => intro m e; cases m with | nil => rfl | cons _ _ => cases e
    | cons c r ih =>
      intro m e
      cases m with
      | nil => cases e
      | cons c' r' =>
        rw [List.map_cons, List.map_cons, List.cons.injEq] at e
        rw [Char.ext (UInt32.toNat_inj.mp e.1), ih r' e.2]
  exact String.toList_inj.mp (h3 _ _ h2)
theorem ofStr_eq {x y : String} : ((PySem.Str.ofString x) = PySem.Str.ofString y) = (x = y) := propext ⟨ofStr_inj, fun e => by rw [e]⟩
theorem oEq_tup2 {a b c d : Int} : oEq (.tup [.int a, .int b]) (.tup [.int c, .int d]) = .ok (.bl (decide (a = c ∧ b = d))) := by
  simp [oEq, D.cmp, D.sc, D.pl, D.beq, D.beqs, Bool.beq_eq_decide_eq]
theorem oNe_tup2 {a b c d : Int} : oNe (.tup [.int a, .int b]) (.tup [.int c, .int d]) = .ok (.bl (!decide (a = c ∧ b = d))) := by
  simp [oNe, D.cmp, D.sc, D.pl, D.beq, D.beqs, Bool.beq_eq_decide_eq]
theorem oEq_tup3 {a b c d e f : Int} : oEq (.tup [.int a, .int b, .int e]) (.tup [.int c, .int d, .int f]) = .ok (.bl (decide (a = c ∧ b = d ∧ e = f))) := by
  simp [oEq, D.cmp, D.sc, D.pl, D.beq, D.beqs, Bool.beq_eq_decide_eq]
theorem oNe_tup3 {a b c d e f : Int} : oNe (.tup [.int a, .int b, .int e]) (.tup [.int c, .int d, .int f]) = .ok (.bl (!decide (a = c ∧ b = d ∧ e = f))) := by
  simp [oNe, D.cmp, D.sc, D.pl, D.beq, D.beqs, Bool.beq_eq_decide_eq]
theorem not_dec {p : Prop} [Decidable p] : ((!decide p) = true) = ¬ p := by simp
theorem u_itA {g : E} {δ : Dt} : itA g δ = (g δ).bind asA := rfl
theorem asA_lst {ds : List D} : asA (.lst ds) = .ok ds := rfl
theorem asA_tup {ds : List D} : asA (.tup ds) = .ok ds := rfl
theorem u_slc {a : E} {lo hi : Option E} {δ : Dt} : slc a lo hi δ = (a δ).bind fun d => (part lo δ).bind fun l => (part hi δ).bind fun h => oSl d l h := rfl
theorem part_none {δ : Dt} : part none δ = .ok none := rfl
theorem part_con {i : Int} {δ : Dt} : part (some (con (.int i))) δ = .ok (some i) := rfl
theorem oSl_lst {ds : List D} {lo hi : Option Int} : oSl (.lst ds) lo hi = .ok (.lst (cut ds lo hi)) := rfl
theorem isi_str_str {x : PySem.Str} : bIsi [.str x, .ty "str"] = .ok (.bl true) := rfl
theorem oNe_tups {a b c x y z : Int} : oNe (.tup [.int a, .int b, .int c]) (.tup [.int x, .int y, .int z]) = .ok (.bl (decide (¬ (a = x ∧ b = y ∧ c = z)))) := by
  unfold oNe
  rw [if_pos (show D.cmp _ _ = true from rfl)]
  congr 2
  simp only [D.beq, D.beqs]
  by_cases h1 : a = x <;> by_cases h2 : b = y <;> by_cases h3 : c = z <;> simp [h1, h2, h3]
theorem oEq_tups {a b c x y z : Int} : oEq (.tup [.int a, .int b, .int c]) (.tup [.int x, .int y, .int z]) = .ok (.bl (decide (a = x ∧ b = y ∧ c = z))) := by
  unfold oEq
  rw [if_pos (show D.cmp _ _ = true from rfl)]
  congr 2
  simp only [D.beq, D.beqs]
  by_cases h1 : a = x <;> by_cases h2 : b = y <;> by_cases h3 : c = z <;> simp [h1, h2, h3]
theorem ofS_inj {a b : String} : (PySem.Str.ofString a = PySem.Str.ofString b) = (a = b) := by
  apply propext
  constructor
  · intro h
    rw [PySem.Str.ofString_eq_toList, PySem.Str.ofString_eq_toList] at h
    have h1 : a.toList.map Char.toNat = b.toList.map Char.toNat := by
      have := congrArg (fun z : PySem.Str => z.cps.toList) h
      simpa using this
    have h2 : a.toList = b.toList := by
      refine List.map_inj_right (f := Char.toNat) (fun x y e => ?_) |>.mp h1
      exact Char.toNat_inj.mp e
    exact String.toList_inj.mp h2
  · intro h; rw [h]
theorem oFld_1 {cn f : String} {d : D} : oFld cn f (.ins cn [(f, d)]) = .ok d := by simp [oFld, List.lookup]
theorem isMeth_1 {cn m f : String} {d : D} : isMeth cn m (.ins cn [(f, d)]) = !(m == f) := by
  unfold isMeth
  cases h : m == f <;> simp [List.lookup, h]
theorem mk1_ok {cn f : String} {d : D} : mk1 cn f [d] = .ok (.ins cn [(f, d)]) := rfl
theorem isMeth_b : (!false) = true := rfl
set_option maxRecDepth 100000 in
theorem u_itR3 {g h k : E} : itR3 g h k δ = (evs [g, h, k] δ).bind asR3 := rfl
theorem asR3_int {n m c : Int} (h : -1099511627776 ≤ n ∧ n < 1099511627776 ∧ -1099511627776 ≤ m ∧ m < 1099511627776) (h0 : 0 < c) (h1 : c < 1048576) : asR3 [.int n, .int m, .int c] = .ok (rngS n m c) := by unfold asR3; simp only; rw [if_pos ⟨h, h0, h1⟩]
theorem u_ownNew {i : Nat} : ownNew i δ = .nx (δ.set i (some (.own []))) := rfl
theorem u_ownApp {i : Nat} {g : E} : ownApp i g δ = onOwn i δ fun ds => appO i δ ds (g (view δ)) := rfl
theorem u_ownRev {i : Nat} : ownRev i δ = onOwn i δ fun ds => .nx (δ.set i (some (.own ds.reverse))) := rfl
theorem onOwn_0 {ds : List D} {l : Dt} {f : List D → O} : onOwn 0 (some (.own ds) :: l) f = f ds := rfl
theorem onOwn_s {i : Nat} {c : Option D} {l : Dt} {f : List D → O} : onOwn (i + 1) (c :: l) f = onOwn i l f := rfl
theorem appO_ok {i : Nat} {ds : List D} {d : D} (h : D.flat d = true) (h2 : ds.length < 100000) : appO i δ ds (.ok d) = .nx (δ.set i (some (.own (ds ++ [d])))) := by unfold appO; simp only; rw [if_pos ⟨h, h2⟩]
theorem appO_ex {i : Nat} {ds : List D} : appO i δ ds (.ex C) = .ex C (noOwn δ) := rfl
theorem u_pubS {i : Nat} {s : S} : pubS i s δ = s (pub i δ) := rfl
theorem pub_0 {ds : List D} {l : Dt} : pub 0 (some (.own ds) :: l) = some (.lst ds) :: l := rfl
theorem pub_s {i : Nat} {c : Option D} {l : Dt} : pub (i + 1) (c :: l) = c :: pub i l := by
  unfold pub
  rw [List.getElem?_cons_succ]
  split <;> rename_i q
  · rw [q]; rfl
  · rfl
theorem noOwn_own {ds : List D} : noOwn (some (.own ds) :: δ) = none :: noOwn δ := rfl
theorem view_nil : view [] = [] := rfl
theorem view_none : view (none :: δ) = none :: view δ := rfl
theorem view_own {ds : List D} : view (some (.own ds) :: δ) = some (.lst ds) :: view δ := rfl
theorem view_int {i : Int} : view (some (.int i) :: δ) = some (.int i) :: view δ := rfl
theorem view_bl {i : Bool} : view (some (.bl i) :: δ) = some (.bl i) :: view δ := rfl
theorem view_str {i : PySem.Str} : view (some (.str i) :: δ) = some (.str i) :: view δ := rfl
theorem view_non  : view (some (.non) :: δ) = some (.non) :: view δ := rfl
theorem view_tup {ds : List D} : view (some (.tup ds) :: δ) = some (.tup ds) :: view δ := rfl
theorem view_lst {ds : List D} : view (some (.lst ds) :: δ) = some (.lst ds) :: view δ := rfl
theorem view_exc  : view (some (.exc C) :: δ) = some (.exc C) :: view δ := rfl
theorem view_ins {fs : List (String × D)} : view (some (.ins C fs) :: δ) = some (.ins C fs) :: view δ := rfl
theorem u_assignV {i : Nat} {g : E} : assignV i g δ = asgF i δ (g (view δ)) := rfl
theorem asgF_int {i : Nat} {n : Int} : asgF i δ (.ok (.int n)) = .nx (δ.set i (some (.int n))) := rfl
theorem u_ifsV {c : E} {a b : S} : ifsV c a b δ = ifO δ (c (view δ)) (a δ) (b δ) := rfl
theorem u_ownComp {i : Nat} {g : E} : ownComp i g δ = takO i δ (g (view δ)) := rfl
theorem takO_lst {i : Nat} {rs : List D} : takO i δ (.ok (.lst rs)) = .nx (δ.set i (some (.own rs))) := rfl
theorem u_ownSet {i : Nat} {a b : E} : ownSet i a b δ = onOwn i δ fun ds => setO i δ ds (b (view δ)) (a (view δ)) := rfl
theorem setO_ok {i : Nat} {ds : List D} {d : D} {k : Int} (h : D.flat d = true) (h0 : 0 ≤ k) (h1 : k < ds.length) : setO i δ ds (.ok d) (.ok (.int k)) = .nx (δ.set i (some (.own (ds.set k.toNat d)))) := by unfold setO; simp only; rw [if_pos ⟨h, h0, h1⟩]
theorem u_ownTake {i : Nat} {g : E} : ownTake i g δ = takO i δ (g δ) := rfl
/-- all that «ev» rewrites by -/
theorem EvS : (type_of% @oMod_ok) ∧ (type_of% @oDiv_lit) ∧ (type_of% @oShr_ok) ∧ (type_of% @bind_ok) ∧ (type_of% @bind_ex) ∧ (type_of% @bind_bad) ∧ (type_of% @bind_ite) ∧ (type_of% @then_nx) ∧ (type_of% @then_rt) ∧ (type_of% @then_ex) ∧ (type_of% @then_mk) ∧ (type_of% @then_bk) ∧ (type_of% @then_ct) ∧ (type_of% @then_bad) ∧ (type_of% @then_ite) ∧ (type_of% @res_rt) ∧ (type_of% @res_nx) ∧ (type_of% @res_ex) ∧ (type_of% @res_mk) ∧ (type_of% @res_bad) ∧ (type_of% @res_ite) ∧ (type_of% @asg_ok) ∧ (type_of% @asg_ex) ∧ (type_of% @asg_ite) ∧ (type_of% @xpr_ok) ∧ (type_of% @xpr_ex) ∧ (type_of% @xpr_ite) ∧ (type_of% @rtn_ok) ∧ (type_of% @rtn_ex) ∧ (type_of% @rtn_ite) ∧ (type_of% @ifO_bl) ∧ (type_of% @ifO_ex) ∧ (type_of% @ifO_ite) ∧ (type_of% @truth_bl) ∧ (type_of% @ite_bl) ∧ (type_of% @ite_int) ∧ (type_of% @ite_b1) ∧ (type_of% @ite_b2) ∧ (type_of% @ite_b3) ∧ (type_of% @var_0n) ∧ (type_of% @var_int) ∧ (type_of% @var_bl) ∧ (type_of% @var_str) ∧ (type_of% @var_non) ∧ (type_of% @var_tup) ∧ (type_of% @var_lst) ∧ (type_of% @var_own) ∧ (type_of% @var_exc) ∧ (type_of% @var_cls) ∧ (type_of% @var_ins) ∧ (type_of% @var_succ) ∧ (type_of% @evs_nil) ∧ (type_of% @evs_cons) ∧ (type_of% @oAdd_int) ∧ (type_of% @oSub_int) ∧ (type_of% @oNeg_int) ∧ (type_of% @oLt_int) ∧ (type_of% @oLe_int) ∧ (type_of% @oGt_int) ∧ (type_of% @oGe_int) ∧ (type_of% @oEq_int) ∧ (type_of% @oNe_int) ∧ (type_of% @oEq_str) ∧ (type_of% @oNe_str) ∧ (type_of% @oEq_bl) ∧ (type_of% @oIsN_non) ∧ (type_of% @oNotN_non) ∧ (type_of% @oIsN_exc) ∧ (type_of% @oNotN_exc) ∧ (type_of% @oIsN_int) ∧ (type_of% @oNotN_int) ∧ (type_of% @bMax_int) ∧ (type_of% @bMin_int) ∧ (type_of% @bAbs_int) ∧ (type_of% @bLen_lst) ∧ (type_of% @bLen_tup) ∧ (type_of% @bInt_int) ∧ (type_of% @bInt_bl) ∧ (type_of% @bBitLen_int) ∧ (type_of% @bList_lst) ∧ (type_of% @bList_tup) ∧ (type_of% @isi_int_int) ∧ (type_of% @isi_int_bool) ∧ (type_of% @isi_tup_tup) ∧ (type_of% @isi_lst_lst) ∧ (type_of% @isi_exc_ve) ∧ (type_of% @isi_exc_cls) ∧ (type_of% @isi_non_cls) ∧ (type_of% @trn_nx) ∧ (type_of% @trn_ct) ∧ (type_of% @trn_bk) ∧ (type_of% @trn_rt) ∧ (type_of% @trn_ex) ∧ (type_of% @trn_mk) ∧ (type_of% @trn_ite) ∧ (type_of% @ovL_ok) ∧ (type_of% @ovT_ok) ∧ (type_of% @tryO_nx) ∧ (type_of% @tryO_ex) ∧ (type_of% @tryO_ite) ∧ (type_of% @forget_nx) ∧ (type_of% @noOwn_nil) ∧ (type_of% @noOwn_none) ∧ (type_of% @noOwn_int) ∧ (type_of% @noOwn_bl) ∧ (type_of% @noOwn_str) ∧ (type_of% @noOwn_non) ∧ (type_of% @noOwn_tup) ∧ (type_of% @noOwn_lst) ∧ (type_of% @noOwn_exc) ∧ (type_of% @exSub_mill) ∧ (type_of% @ix0) ∧ (type_of% @ix1) ∧ (type_of% @ix2) ∧ (type_of% @ix3) ∧ (type_of% @ixl0) ∧ (type_of% @ixl1) ∧ (type_of% @ixl2) ∧ (type_of% @fn_0) ∧ (type_of% @fn_1) ∧ (type_of% @fn_2) ∧ (type_of% @fn_3) ∧ (type_of% @fn_4) ∧ (type_of% @fn_5) ∧ (type_of% @fn_6) ∧ (type_of% @fn_7) ∧ (type_of% @fn_8) ∧ (type_of% @z_len_cons) ∧ (type_of% @z_len_nil) ∧ (type_of% @z_len_map) ∧ (type_of% @z_map_cons) ∧ (type_of% @z_map_nil) ∧ (type_of% @z_set_0) ∧ (type_of% @z_set_s) ∧ (type_of% @z_rep_0) ∧ (type_of% @z_rep_s) ∧ (type_of% @z_add0) ∧ (type_of% @z_if_t) ∧ (type_of% @z_if_f) ∧ (type_of% @z_ft) ∧ (type_of% @z_tt) ∧ (type_of% @z_not_t) ∧ (type_of% @z_not_f) ∧ (type_of% @z_dec) ∧ (type_of% @z_dec_t) ∧ (type_of% @z_dec_f) ∧ (type_of% @z_and_t) ∧ (type_of% @z_t_and) ∧ (type_of% @z_and_f) ∧ (type_of% @z_f_and) ∧ (type_of% @z_or_t) ∧ (type_of% @z_t_or) ∧ (type_of% @z_or_f) ∧ (type_of% @z_f_or) ∧ (type_of% @z_nt) ∧ (type_of% @z_nf) ∧ (type_of% @u_seq) ∧ (type_of% @u_assign) ∧ (type_of% @u_ret) ∧ (type_of% @u_retV) ∧ (type_of% @u_ifs) ∧ (type_of% @u_expr) ∧ (type_of% @u_raise) ∧ (type_of% @u_pass) ∧ (type_of% @u_retN) ∧ (type_of% @u_brk) ∧ (type_of% @u_cont) ∧ (type_of% @u_con) ∧ (type_of% @u_bin) ∧ (type_of% @u_un) ∧ (type_of% @u_and) ∧ (type_of% @u_or) ∧ (type_of% @u_not) ∧ (type_of% @u_ife) ∧ (type_of% @u_chain) ∧ (type_of% @u_tup) ∧ (type_of% @u_lst) ∧ (type_of% @u_call) ∧ (type_of% @u_try) ∧ (type_of% @u_forsL) ∧ (type_of% @u_forsT) ∧ (type_of% @u_forR1) ∧ (type_of% @xn_MillError) ∧ (type_of% @xn_NoSize) ∧ (type_of% @xn_NoBits) ∧ (type_of% @xn_NoParts) ∧ (type_of% @xn_NoRank) ∧ (type_of% @xn_NotFinite) ∧ (type_of% @xn_NoWay) ∧ (type_of% @xn_NoFlags) ∧ (type_of% @xn_NoFraction) ∧ (type_of% @xn_Unlike) ∧ (type_of% @xn_Empty) ∧ (type_of% @xn_NoLeft) ∧ (type_of% @xn_NoText) ∧ (type_of% @xn_NoRow) ∧ (type_of% @xn_NoName) ∧ (type_of% @xn_Stopped) ∧ (type_of% @y_and_t) ∧ (type_of% @y_t_and) ∧ (type_of% @y_f_and) ∧ (type_of% @y_and_f) ∧ (type_of% @y_or_f) ∧ (type_of% @y_f_or) ∧ (type_of% @y_t_or) ∧ (type_of% @y_or_t) ∧ (type_of% @u_forI) ∧ (type_of% @ovI_ok) ∧ (type_of% @ovI_ex) ∧ (type_of% @u_itL) ∧ (type_of% @u_itT) ∧ (type_of% @u_itR1) ∧ (type_of% @u_itR2) ∧ (type_of% @asL_lst) ∧ (type_of% @asT_tup) ∧ (type_of% @asR1_int) ∧ (type_of% @asR2_int) ∧ (type_of% @u_comp) ∧ (type_of% @u_compIf) ∧ (type_of% @u_meth) ∧ (type_of% @u_mk1) ∧ (type_of% @fld1) ∧ (type_of% @im1) ∧ (type_of% @noOwn_ins) ∧ (type_of% @bIsiT_tup) ∧ (type_of% @isiAny_nil) ∧ (type_of% @isiAny_cons) ∧ (type_of% @isi_non_ty) ∧ (type_of% @oIsN_tup) ∧ (type_of% @oNotN_tup) ∧ (type_of% @oIsN_lst) ∧ (type_of% @oNotN_lst) ∧ (type_of% @oIsN_str) ∧ (type_of% @oNotN_str) ∧ (type_of% @ofStr_eq) ∧ (type_of% @oEq_tup2) ∧ (type_of% @oNe_tup2) ∧ (type_of% @oEq_tup3) ∧ (type_of% @oNe_tup3) ∧ (type_of% @not_dec) ∧ (type_of% @u_itA) ∧ (type_of% @asA_lst) ∧ (type_of% @asA_tup) ∧ (type_of% @u_slc) ∧ (type_of% @part_none) ∧ (type_of% @part_con) ∧ (type_of% @oSl_lst) ∧ (type_of% @isi_str_str) ∧ (type_of% @oNe_tups) ∧ (type_of% @oEq_tups) ∧ (type_of% @ofS_inj) ∧ (type_of% @oFld_1) ∧ (type_of% @isMeth_1) ∧ (type_of% @mk1_ok) ∧ (type_of% @isMeth_b) ∧ (type_of% @u_itR3) ∧ (type_of% @asR3_int) ∧ (type_of% @u_ownNew) ∧ (type_of% @u_ownApp) ∧ (type_of% @u_ownRev) ∧ (type_of% @onOwn_0) ∧ (type_of% @onOwn_s) ∧ (type_of% @appO_ok) ∧ (type_of% @appO_ex) ∧ (type_of% @u_pubS) ∧ (type_of% @pub_0) ∧ (type_of% @pub_s) ∧ (type_of% @noOwn_own) ∧ (type_of% @view_nil) ∧ (type_of% @view_none) ∧ (type_of% @view_own) ∧ (type_of% @view_int) ∧ (type_of% @view_bl) ∧ (type_of% @view_str) ∧ (type_of% @view_non) ∧ (type_of% @view_tup) ∧ (type_of% @view_lst) ∧ (type_of% @view_exc) ∧ (type_of% @view_ins) ∧ (type_of% @u_assignV) ∧ (type_of% @asgF_int) ∧ (type_of% @u_ifsV) ∧ (type_of% @u_ownComp) ∧ (type_of% @takO_lst) ∧ (type_of% @u_ownSet) ∧ (type_of% @setO_ok) ∧ (type_of% @u_ownTake) :=
  ⟨@oMod_ok, @oDiv_lit, @oShr_ok, @bind_ok, @bind_ex, @bind_bad, @bind_ite, @then_nx, @then_rt, @then_ex, @then_mk, @then_bk, @then_ct, @then_bad, @then_ite, @res_rt, @res_nx, @res_ex, @res_mk, @res_bad, @res_ite, @asg_ok, @asg_ex, @asg_ite, @xpr_ok, @xpr_ex, @xpr_ite, @rtn_ok, @rtn_ex, @rtn_ite, @ifO_bl, @ifO_ex, @ifO_ite, @truth_bl, @ite_bl, @ite_int, @ite_b1, @ite_b2, @ite_b3, @var_0n, @var_int, @var_bl, @var_str, @var_non, @var_tup, @var_lst, @var_own, @var_exc, @var_cls, @var_ins, @var_succ, @evs_nil, @evs_cons, @oAdd_int, @oSub_int, @oNeg_int, @oLt_int, @oLe_int, @oGt_int, @oGe_int, @oEq_int, @oNe_int, @oEq_str, @oNe_str, @oEq_bl, @oIsN_non, @oNotN_non, @oIsN_exc, @oNotN_exc, @oIsN_int, @oNotN_int, @bMax_int, @bMin_int, @bAbs_int, @bLen_lst, @bLen_tup, @bInt_int, @bInt_bl, @bBitLen_int, @bList_lst, @bList_tup, @isi_int_int, @isi_int_bool, @isi_tup_tup, @isi_lst_lst, @isi_exc_ve, @isi_exc_cls, @isi_non_cls, @trn_nx, @trn_ct, @trn_bk, @trn_rt, @trn_ex, @trn_mk, @trn_ite, @ovL_ok, @ovT_ok, @tryO_nx, @tryO_ex, @tryO_ite, @forget_nx, @noOwn_nil, @noOwn_none, @noOwn_int, @noOwn_bl, @noOwn_str, @noOwn_non, @noOwn_tup, @noOwn_lst, @noOwn_exc, @exSub_mill, @ix0, @ix1, @ix2, @ix3, @ixl0, @ixl1, @ixl2, @fn_0, @fn_1, @fn_2, @fn_3, @fn_4, @fn_5, @fn_6, @fn_7, @fn_8, @z_len_cons, @z_len_nil, @z_len_map, @z_map_cons, @z_map_nil, @z_set_0, @z_set_s, @z_rep_0, @z_rep_s, @z_add0, @z_if_t, @z_if_f, @z_ft, @z_tt, @z_not_t, @z_not_f, @z_dec, @z_dec_t, @z_dec_f, @z_and_t, @z_t_and, @z_and_f, @z_f_and, @z_or_t, @z_t_or, @z_or_f, @z_f_or, @z_nt, @z_nf, @u_seq, @u_assign, @u_ret, @u_retV, @u_ifs, @u_expr, @u_raise, @u_pass, @u_retN, @u_brk, @u_cont, @u_con, @u_bin, @u_un, @u_and, @u_or, @u_not, @u_ife, @u_chain, @u_tup, @u_lst, @u_call, @u_try, @u_forsL, @u_forsT, @u_forR1, @xn_MillError, @xn_NoSize, @xn_NoBits, @xn_NoParts, @xn_NoRank, @xn_NotFinite, @xn_NoWay, @xn_NoFlags, @xn_NoFraction, @xn_Unlike, @xn_Empty, @xn_NoLeft, @xn_NoText, @xn_NoRow, @xn_NoName, @xn_Stopped, @y_and_t, @y_t_and, @y_f_and, @y_and_f, @y_or_f, @y_f_or, @y_t_or, @y_or_t, @u_forI, @ovI_ok, @ovI_ex, @u_itL, @u_itT, @u_itR1, @u_itR2, @asL_lst, @asT_tup, @asR1_int, @asR2_int, @u_comp, @u_compIf, @u_meth, @u_mk1, @fld1, @im1, @noOwn_ins, @bIsiT_tup, @isiAny_nil, @isiAny_cons, @isi_non_ty, @oIsN_tup, @oNotN_tup, @oIsN_lst, @oNotN_lst, @oIsN_str, @oNotN_str, @ofStr_eq, @oEq_tup2, @oNe_tup2, @oEq_tup3, @oNe_tup3, @not_dec, @u_itA, @asA_lst, @asA_tup, @u_slc, @part_none, @part_con, @oSl_lst, @isi_str_str, @oNe_tups, @oEq_tups, @ofS_inj, @oFld_1, @isMeth_1, @mk1_ok, @isMeth_b, @u_itR3, @asR3_int, @u_ownNew, @u_ownApp, @u_ownRev, @onOwn_0, @onOwn_s, @appO_ok, @appO_ex, @u_pubS, @pub_0, @pub_s, @noOwn_own, @view_nil, @view_none, @view_own, @view_int, @view_bl, @view_str, @view_non, @view_tup, @view_lst, @view_exc, @view_ins, @u_assignV, @asgF_int, @u_ifsV, @u_ownComp, @takO_lst, @u_ownSet, @setO_ok, @u_ownTake⟩

/-! ### loops -/
theorem forL_inv {i : Nat} {body : S} (I : Dt → Prop) : ∀ (ds : List D), (∀ d ∈ ds, ∀ δ, I δ → ∃ δ', (body (δ.set i (some d)) = .nx δ' ∨ body (δ.set i (some d)) = .ct δ') ∧ I δ') → ∀ δ, I δ → ∃ δ', forL i body ds δ = .nx δ' ∧ I δ'
  | [], _, δ, h => ⟨δ, rfl, h⟩
  | d :: ds, hs, δ, h => by
    obtain ⟨δ1, e1, h1⟩ := hs d (.head _) δ h
    obtain ⟨δ2, e2, h2⟩ := forL_inv I ds (fun d hd => hs d (.tail _ hd)) δ1 h1
    refine ⟨δ2, ?_, h2⟩
    rw [forL_cons]
    rcases e1 with e1 | e1 <;> rw [e1] <;> exact e2
theorem oAdd_lst {xs ys : List D} (h : xs.length + ys.length ≤ 100000) : oAdd (.lst xs) (.lst ys) = .ok (.lst (xs ++ ys)) := by unfold oAdd; simp only; rw [if_pos h]

/-! ### while -/
end EV
local macro_rules | `(tactic| walk_at "pos") => `(tactic| first | (with_reducible assumption) | decide +kernel | (with_reducible exact EV.pw_pos _) | omega)
local macro_rules | `(tactic| walk_at "nb") => `(tactic| first
  | (with_reducible assumption)
  | ((with_reducible apply EV.nb_add) <;> walk_at "nb")
  | ((with_reducible apply EV.nb_sub) <;> walk_at "nb")
  | ((with_reducible apply EV.nb_mul) <;> walk_at "nb")
  | ((with_reducible apply EV.nb_neg_le) <;> walk_at "nb")
  | ((with_reducible apply EV.nb_mod); (walk_at "pos"); (walk_at "nb"))
  | ((with_reducible apply EV.nb_div); (walk_at "pos"); (walk_at "nb"))
  | ((with_reducible apply EV.nb_max) <;> walk_at "nb")
  | ((with_reducible apply EV.nb_min) <;> walk_at "nb")
  | ((with_reducible apply EV.nb_ite) <;> walk_at "nb")
  | exact EV.nb_self)
/- nb e ≤ a number -/
local macro_rules | `(tactic| walk_at "nbk") => `(tactic| exact EV.nb_le_of (by walk_at "nb") (by decide +kernel))
local macro_rules | `(tactic| walk_at "mul") => `(tactic| exact EV.MulOk.of (by walk_at "nb") (by walk_at "nb") (by decide +kernel))


set_option Elab.async false
set_option linter.all false
/-! MATHEMATICS of sizes, parts, kinds, worths (no function of a law). -/
namespace EV
open PySem (Str)
noncomputable def Sz (E F : Int) : Prop := 2 ≤ E ∧ E ≤ 15 ∧ 1 ≤ F ∧ F ≤ 112
noncomputable def szE (c : Int) : Int := if c % 8 < 4 then [5, 8, 11, 15].getD (c % 8).toNat 0 else if c % 8 < 6 then 2 + c / 8 % 14 else 2 + c / 8 % 4
noncomputable def szF (c : Int) : Int := if c % 8 < 4 then [10, 23, 52, 112].getD (c % 8).toNat 0 else if c % 8 < 6 then 1 + c / 8 / 14 % 112 else 1 + c / 8 / 4 % 5
theorem four {r : Int} (h0 : 0 ≤ r) (h1 : r < 4) : r = 0 ∨ r = 1 ∨ r = 2 ∨ r = 3 := by omega
theorem sz_ok (c : Int) : Sz (szE c) (szF c) := by
  unfold Sz szE szF
  by_cases h : c % 8 < 4
  · rw [if_pos h, if_pos h]
    rcases four (Int.emod_nonneg c (by decide)) h with e | e | e | e <;> rw [e] <;> decide
  · rw [if_neg h, if_neg h]
    by_cases h2 : c % 8 < 6
    · rw [if_pos h2, if_pos h2]; omega
    · rw [if_neg h2, if_neg h2]; omega
noncomputable def bitsBy (E F c : Int) : Int :=
  if c % 9 < 3 then c / 9 * 73846150927364518273645509182736455091829 % (2 * pw (E + F))
  else if c % 9 = 3 then c / 9 % 2 * pw (E + F) + c / 9 / 2 % 6
  else if c % 9 = 4 then c / 9 % 2 * pw (E + F) + (pw E - 1) * pw F - 3 + c / 9 / 2 % 5
  else if c % 9 = 5 then c / 9 % 2 * pw (E + F) + pw F - 2 + c / 9 / 2 % 4
  else if c % 9 = 6 then c / 9 % 2 * pw (E + F) + (pw (E - 1) - 1) * pw F - 2 + c / 9 / 2 % 5
  else if c % 9 = 7 then c / 9 % 2 * pw (E + F) + (pw E - 1) * pw F + 1 + c / 9 / 2 % (pw F - 1)
  else c / 9 % 2 * pw (E + F) + c / 9 / 2 / 4 % pw E * pw F + [0, 1, pw F - 1, pw (F - 1)].getD (c / 9 / 2 % 4).toNat 0
theorem pw_two {F : Int} (h : 1 ≤ F) : 2 ≤ pw F := pw_mono (a := 1) h
theorem pw_four {E : Int} (h : 2 ≤ E) : 4 ≤ pw E := pw_mono (a := 2) h
theorem pw_half {F : Int} (h : 1 ≤ F) : pw F = 2 * pw (F - 1) := by
  have := pw_succ (a := F - 1) (by omega)
  rw [show F - 1 + 1 = F by omega] at this
  exact this
theorem side_le {r h : Int} (h0 : 0 ≤ h) : 0 ≤ r % 2 * h ∧ r % 2 * h ≤ h := by
  rcases (by omega : r % 2 = 0 ∨ r % 2 = 1) with e | e <;> rw [e] <;> omega
theorem prod_ge {a b c d : Int} (h1 : c ≤ a) (h2 : d ≤ b) (hc : 0 ≤ c) (hd : 0 ≤ d) : c * d ≤ a * b :=
  Int.le_trans (Int.mul_le_mul_of_nonneg_right h1 hd) (Int.mul_le_mul_of_nonneg_left h2 (by omega))
theorem bits_ok {E F : Int} (c : Int) (h : Sz E F) : 0 ≤ bitsBy E F c ∧ bitsBy E F c < pw (E + F + 1) := by
  obtain ⟨h1, h2, h3, h4⟩ := h
  have eH : pw (E + F) = pw E * pw F := pw_add (by omega) (by omega)
  have eW : pw (E + F + 1) = 2 * pw (E + F) := pw_succ (by omega)
  have hP := pw_four h1
  have hQ := pw_two h3
  have eQ := pw_half h3
  have eP := pw_half (F := E) (by omega)
  have hH : 0 ≤ pw (E + F) := Int.le_of_lt (pw_pos _)
  obtain ⟨s0, s1⟩ := side_le (r := c / 9) hH
  have eL : (pw E - 1) * pw F = pw (E + F) - pw F := by rw [eH, Int.sub_mul, Int.one_mul]
  have eM : (pw (E - 1) - 1) * pw F = pw (E - 1) * pw F - pw F := by rw [Int.sub_mul, Int.one_mul]
  have eH2 : pw (E + F) = 2 * (pw (E - 1) * pw F) := by rw [eH, eP, Int.mul_assoc]
  have big : 8 ≤ pw (E + F) := by rw [eH]; exact prod_ge hP hQ (by decide) (by decide)
  have big2 : 4 * pw F ≤ pw (E + F) := by rw [eH]; exact Int.mul_le_mul_of_nonneg_right hP (by omega)
  rw [eW]
  unfold bitsBy
  generalize pw (E + F) = H at *
  generalize pw (E - 1) * pw F = M at *
  generalize c / 9 % 2 * H = sd at *
  generalize c / 9 = r at *
  by_cases g0 : c % 9 < 3
  · rw [if_pos g0]
    exact ⟨Int.emod_nonneg _ (by omega), Int.emod_lt_of_pos _ (by omega)⟩
  rw [if_neg g0]
  by_cases g1 : c % 9 = 3
  · rw [if_pos g1]; omega
  rw [if_neg g1]
  by_cases g2 : c % 9 = 4
  · rw [if_pos g2, eL]; omega
  rw [if_neg g2]
  by_cases g3 : c % 9 = 5
  · rw [if_pos g3]; omega
  rw [if_neg g3]
  by_cases g4 : c % 9 = 6
  · rw [if_pos g4, eM]; omega
  rw [if_neg g4]
  by_cases g5 : c % 9 = 7
  · rw [if_pos g5, eL]
    have z0 := Int.emod_nonneg (r / 2) (show pw F - 1 ≠ 0 by omega)
    have z1 := Int.emod_lt_of_pos (r / 2) (show 0 < pw F - 1 by omega)
    omega
  rw [if_neg g5]
  have z0 := Int.emod_nonneg (r / 2 / 4) (show pw E ≠ 0 by omega)
  have z1 := Int.emod_lt_of_pos (r / 2 / 4) (show 0 < pw E by omega)
  have y0 : 0 ≤ r / 2 / 4 % pw E * pw F := Int.mul_nonneg z0 (by omega)
  have y1 : r / 2 / 4 % pw E * pw F ≤ (pw E - 1) * pw F := Int.mul_le_mul_of_nonneg_right (by omega) (by omega)
  rw [eL] at y1
  have x0 : 0 ≤ [0, 1, pw F - 1, pw (F - 1)].getD (r / 2 % 4).toNat 0 ∧ [0, 1, pw F - 1, pw (F - 1)].getD (r / 2 % 4).toNat 0 < pw F := by
    rcases four (Int.emod_nonneg (r / 2) (by decide)) (Int.emod_lt_of_pos (r / 2) (by decide)) with e | e | e | e <;> rw [e]
    · show 0 ≤ (0 : Int) ∧ (0 : Int) < pw F; omega
    · show 0 ≤ (1 : Int) ∧ (1 : Int) < pw F; omega
    · show 0 ≤ pw F - 1 ∧ pw F - 1 < pw F; omega
    · show 0 ≤ pw (F - 1) ∧ pw (F - 1) < pw F
      have := pw_pos (F - 1)
      omega
  omega
/-- the parts, by either way -/
theorem part0 {P Q b : Int} (hP : 0 < P) (hQ : 0 < Q) : b / (P * Q) = b / P / Q := (Int.ediv_ediv_of_nonneg (Int.le_of_lt hP)).symm
theorem part1 {P Q b : Int} (hP : 0 < P) (hQ : 0 < Q) : b % (P * Q) / Q = b / Q % P := by
  have e1 := Int.emod_def b (P * Q)
  have e2 : b - P * Q * (b / (P * Q)) = b + Q * (-(P * (b / (P * Q)))) := by
    rw [Int.mul_neg, ← Int.sub_eq_add_neg, ← Int.mul_assoc, Int.mul_comm Q P]
  rw [e1, e2, Int.add_mul_ediv_left _ _ (by omega), Int.emod_def]
  have e3 : b / (P * Q) = b / Q / P := by rw [Int.mul_comm, Int.ediv_ediv_of_nonneg (Int.le_of_lt hQ)]
  rw [e3]
  omega
theorem part2 {P Q b : Int} : b % (P * Q) % Q = b % Q := Int.emod_emod_of_dvd b (Int.dvd_mul_left P Q)
theorem parts_in {P Q b : Int} (hP : 0 < P) (hQ : 0 < Q) (h0 : 0 ≤ b) (h1 : b < 2 * (P * Q)) :
    (0 ≤ b / P / Q ∧ b / P / Q ≤ 1) ∧ (0 ≤ b / Q % P ∧ b / Q % P < P) ∧ (0 ≤ b % Q ∧ b % Q < Q) := by
  refine ⟨⟨?_, ?_⟩, ⟨Int.emod_nonneg _ (by omega), Int.emod_lt_of_pos _ hP⟩, ⟨Int.emod_nonneg _ (by omega), Int.emod_lt_of_pos _ hQ⟩⟩
  · exact Int.ediv_nonneg (Int.ediv_nonneg h0 (Int.le_of_lt hP)) (Int.le_of_lt hQ)
  · rw [← part0 hP hQ]
    have : b / (P * Q) < 2 := Int.ediv_lt_of_lt_mul (Int.mul_pos hP hQ) h1
    omega
theorem getD_end {ns : List Int} {j : Int} (h0 : 0 ≤ j) (h : ¬ j < (ns.length : Int)) : ns.getD j.toNat 0 = 0 := by
  rw [List.getD_eq_getElem?_getD, List.getElem?_eq_none (by omega)]
  rfl
theorem ixl3 {a b c d : D} {r : List D} : oIx (.lst (a :: b :: c :: d :: r)) (.int 3) = .ok d := ix_lst (k := 3) rfl
/-- sign, field, figures -/
noncomputable def sgn (E F b : Int) : Int := b / pw E / pw F
noncomputable def fld (E F b : Int) : Int := b / pw F % pw E
noncomputable def fig (F b : Int) : Int := b % pw F
noncomputable def In (E F b : Int) : Prop := 0 ≤ b ∧ b < pw (E + F + 1)
theorem In.parts {E F b : Int} (h : Sz E F) (hb : In E F b) : (0 ≤ sgn E F b ∧ sgn E F b ≤ 1) ∧ (0 ≤ fld E F b ∧ fld E F b < pw E) ∧ (0 ≤ fig F b ∧ fig F b < pw F) := by
  obtain ⟨h1, h2, h3, h4⟩ := h
  have eW : pw (E + F + 1) = 2 * (pw E * pw F) := by rw [pw_succ (by omega), pw_add (by omega) (by omega)]
  exact parts_in (P := pw E) (Q := pw F) (b := b) (pw_pos _) (pw_pos _) hb.1 (by rw [← eW]; exact hb.2)
/-- the bits of the parts -/
noncomputable def jn (E F s f g : Int) : Int := s * pw (E + F) + f * pw F + g
noncomputable def kindS (E f g : Int) : Str := if f = 0 then (if g = 0 then "nought" else "faint") else if f = pw E - 1 then (if g = 0 then "endless" else "none") else "plain"
/-- the worth's whole number, its power -/
noncomputable def wh (F f g : Int) : Int := if f = 0 then g else pw F + g
noncomputable def lo (E F : Int) : Int := 2 - pw (E - 1) - F
noncomputable def po (E F f : Int) : Int := if f = 0 then lo E F else lo E F + f - 1
noncomputable def frT (w p : Int) : Int := if 0 ≤ p then w * pw p else w
noncomputable def frB (p : Int) : Int := if 0 ≤ p then 1 else pw (-p)
theorem pwE_le {E F : Int} (h : Sz E F) : pw E ≤ 32768 := pw_mono h.2.1
theorem pwF_le {E F : Int} (h : Sz E F) : pw F ≤ 5192296858534827628530496329220096 := pw_mono h.2.2.2
theorem pwE1_le {E F : Int} (h : Sz E F) : pw (E - 1) ≤ 16384 := pw_mono (b := 14) (by have := h.2.1; omega)
theorem nb_lt {i : Int} {k : Nat} (h0 : 0 ≤ i) (h : i < 2 ^ k) : nb i ≤ k := nb_le.mpr (by
  have : ((i.natAbs : Nat) : Int) < ((2 ^ k : Nat) : Int) := by rw [Int.natAbs_of_nonneg h0]; simpa using h
  exact Int.ofNat_lt.mp this)
theorem nb_c {c k : Int} (h : nb c ≤ 2 ^ 20) (hk : 0 < k) : nb (c / k) ≤ 1048576 := nb_div hk h
theorem mul_small {s t : Int} (h0 : 0 ≤ s) (h1 : s ≤ 1) (ht : nb t ≤ 100000) : MulOk s t := by
  have : nb s ≤ 1 := nb_lt h0 (by omega)
  unfold MulOk; omega
theorem shl1 {k : Int} (h0 : 0 ≤ k) (h1 : k ≤ 1000000) : oShl (.int 1) (.int k) = .ok (.int (pw k)) := by
  have : nb (1 : Int) = 1 := by decide
  rw [oShl_ok h0 (by omega), Int.one_mul]
theorem cells_of {ns : List Int} {t : Int} {d : D} (hb : ∀ m ∈ ns, nb m ≤ 2 ^ 20) (ht : nb t ≤ 2 ^ 20) (h : d ∈ (ns.map D.int).drop 1 ++ [D.int t]) : ∃ c, d = .int c ∧ nb c ≤ 2 ^ 20 := by
  rcases List.mem_append.mp h with q | q
  · obtain ⟨c, hc, rfl⟩ := List.mem_map.mp (List.mem_of_mem_drop q)
    exact ⟨c, rfl, hb c hc⟩
  · obtain rfl := List.mem_singleton.mp q
    exact ⟨t, rfl, ht⟩
theorem cut1 {α : Type} (xs : List α) : EV.cut xs (some 1) none = xs.drop 1 := by
  unfold EV.cut
  show (xs.drop (min 1 xs.length)).take (xs.length - min 1 xs.length) = _
  cases xs with
  | nil => rfl
  | cons a l => simp
theorem wh_nb {E F b : Int} (h : Sz E F) (hb : In E F b) : nb (wh F (fld E F b) (fig F b)) ≤ 128 := by
  obtain ⟨_, _, i3⟩ := hb.parts h
  have := pwF_le h
  have := pw_pos F
  unfold wh
  split
  · exact nb_lt i3.1 (by omega)
  · exact nb_lt (by omega) (by omega)
theorem po_in {E F b : Int} (h : Sz E F) (hb : In E F b) : -100000 ≤ po E F (fld E F b) ∧ po E F (fld E F b) ≤ 100000 := by
  obtain ⟨_, i2, _⟩ := hb.parts h
  have := pwE_le h
  have := pwE1_le h
  have := pw_pos (E - 1)
  obtain ⟨h1, h2, h3, h4⟩ := h
  unfold po lo
  split <;> omega
end EV

set_option Elab.async false
set_option linter.all false
/-! MATHEMATICS of order: codes, ranks, values on the line. -/
namespace EV
noncomputable def cd (E F b : Int) : Int := b % pw (E + F)
noncomputable def rk (E F b : Int) : Int := if pw (E + F) ≤ b then -(cd E F b) else cd E F b
noncomputable def vl (F c : Int) : Int := if c / pw F = 0 then c else (pw F + c % pw F) * pw (c / pw F - 1)
noncomputable def nn (E F b : Int) : Prop := pw (E + F) - pw F < cd E F b
noncomputable instance {E F b : Int} : Decidable (nn E F b) := inferInstanceAs (Decidable (_ < _))
section
variable {E F a b c c' : Int}
theorem cd_in : 0 ≤ cd E F b ∧ cd E F b < pw (E + F) := by
  have := pw_pos (E + F)
  exact ⟨Int.emod_nonneg _ (by omega), Int.emod_lt_of_pos _ this⟩
theorem cd_div (h : Sz E F) : cd E F b / pw F = fld E F b := by
  obtain ⟨h1, h2, h3, h4⟩ := h
  unfold cd fld; rw [pw_add (by omega) (by omega), part1 (pw_pos _) (pw_pos _)]
theorem cd_mod (h : Sz E F) : cd E F b % pw F = fig F b := by
  obtain ⟨h1, h2, h3, h4⟩ := h
  unfold cd fig; rw [pw_add (by omega) (by omega), part2]
theorem cd_parts (h : Sz E F) : cd E F b = fld E F b * pw F + fig F b := by
  have := Int.mul_ediv_add_emod (cd E F b) (pw F)
  rw [cd_div h, cd_mod h, Int.mul_comm] at this
  exact this.symm
theorem wide_is (h : Sz E F) : pw (E + F + 1) = 2 * pw (E + F) := by
  obtain ⟨h1, h2, h3, h4⟩ := h
  exact pw_succ (by omega)
theorem fld_in (h : Sz E F) : 0 ≤ fld E F b ∧ fld E F b < pw E := ⟨Int.emod_nonneg _ (by have := pw_pos E; omega), Int.emod_lt_of_pos _ (pw_pos E)⟩
theorem fig_in (F b : Int) : 0 ≤ fig F b ∧ fig F b < pw F := ⟨Int.emod_nonneg _ (by have := pw_pos F; omega), Int.emod_lt_of_pos _ (pw_pos F)⟩
theorem nn_iff (h : Sz E F) : nn E F b ↔ fld E F b = pw E - 1 ∧ fig F b ≠ 0 := by
  have eH : pw (E + F) = pw E * pw F := pw_add (by have := h.1; omega) (by have := h.2.2.1; omega)
  have e := cd_parts (b := b) h
  obtain ⟨f0, f1⟩ := fld_in (b := b) h
  obtain ⟨g0, g1⟩ := fig_in F b
  unfold nn
  rw [e, eH]
  generalize fld E F b = f at *
  generalize fig F b = g at *
  generalize pw F = Q at *
  generalize pw E = P at *
  have e2 : P * Q - Q = (P - 1) * Q := by rw [Int.sub_mul, Int.one_mul]
  constructor
  · intro q
    have : f = P - 1 := by
      by_cases z : f < P - 1
      · have : (f + 1) * Q ≤ (P - 1) * Q := Int.mul_le_mul_of_nonneg_right (by omega) (by omega)
        rw [Int.add_mul, Int.one_mul] at this
        omega
      · omega
    subst this
    exact ⟨rfl, by omega⟩
  · rintro ⟨rfl, q⟩
    omega
theorem sgn_is (h : Sz E F) (hb : In E F b) : sgn E F b = if pw (E + F) ≤ b then 1 else 0 := by
  obtain ⟨h1, h2, h3, h4⟩ := id h
  have e0 : sgn E F b = b / pw (E + F) := by unfold sgn; rw [pw_add (by omega) (by omega), part0 (pw_pos _) (pw_pos _)]
  have hw := wide_is h
  have hp := pw_pos (E + F)
  obtain ⟨b0, b1⟩ := hb
  rw [e0]
  split
  · rename_i z
    have l : 1 ≤ b / pw (E + F) := Int.le_ediv_of_mul_le hp (by omega)
    have u : b / pw (E + F) < 2 := Int.ediv_lt_of_lt_mul hp (by omega)
    omega
  · rename_i z
    exact Int.ediv_eq_zero_of_lt b0 (by omega)
theorem vl_nb (h : Sz E F) (h0 : 0 ≤ c) (h1 : c < pw (E + F)) : c / pw F < pw E ∧ 0 ≤ c / pw F := by
  obtain ⟨k1, k2, k3, k4⟩ := h
  refine ⟨Int.ediv_lt_of_lt_mul (pw_pos _) ?_, Int.ediv_nonneg h0 (Int.le_of_lt (pw_pos _))⟩
  rw [← pw_add (by omega) (by omega)]; exact h1
/-- the other sign -/
noncomputable def ng (E F b : Int) : Int := if pw (E + F) ≤ b then b - pw (E + F) else b + pw (E + F)
theorem b_is (h : Sz E F) (hb : In E F b) : b = (if pw (E + F) ≤ b then 1 else 0) * pw (E + F) + cd E F b := by
  have hw := wide_is h
  obtain ⟨b0, b1⟩ := hb
  unfold cd
  split
  · have : b % pw (E + F) = b - pw (E + F) := by rw [← Int.sub_emod_right, Int.emod_eq_of_lt (by omega) (by omega)]
    omega
  · rw [Int.emod_eq_of_lt b0 (by omega)]; omega
theorem jn_ng (h : Sz E F) (hb : In E F b) : jn E F (1 - sgn E F b) (fld E F b) (fig F b) = ng E F b := by
  have e := b_is h hb
  have e2 := cd_parts (b := b) h
  unfold jn ng
  rw [sgn_is h hb]
  split
  · rename_i z
    rw [if_pos z] at e
    omega
  · rename_i z
    rw [if_neg z] at e
    omega
noncomputable def ab (E F b : Int) : Int := if rk E F b = pw (E + F) - pw F then b else if rk E F b < 0 then pw (E + F) - (rk E F b + 1) else rk E F b + 1
noncomputable def be (E F b : Int) : Int := if rk E F b = -(pw (E + F) - pw F) then b else if 0 < rk E F b then rk E F b - 1 else pw (E + F) - (rk E F b - 1)
theorem end_is (h : Sz E F) : (pw E - 1) * pw F = pw (E + F) - pw F := by
  obtain ⟨h1, h2, h3, h4⟩ := h
  rw [pw_add (by omega) (by omega), Int.sub_mul, Int.one_mul]
theorem kind_none (h : Sz E F) : (kindS E (fld E F b) (fig F b) = PySem.Str.ofString "none") ↔ nn E F b := by
  rw [nn_iff h]
  have := pw_four h.1
  unfold kindS
  by_cases z : fld E F b = 0
  · rw [if_pos z]
    refine ⟨fun q => ?_, fun q => by omega⟩
    split at q <;> exact absurd q (by decide +kernel)
  · rw [if_neg z]
    by_cases z1 : fld E F b = pw E - 1
    · rw [if_pos z1]
      by_cases z2 : fig F b = 0
      · rw [if_pos z2]
        exact ⟨fun q => absurd q (by decide +kernel), fun q => absurd z2 q.2⟩
      · rw [if_neg z2]
        exact ⟨fun _ => ⟨z1, z2⟩, fun _ => rfl⟩
    · rw [if_neg z1]
      exact ⟨fun q => absurd q (by decide +kernel), fun q => absurd q.1 z1⟩
theorem oIn_str2 {x a b : PySem.Str} : oIn (.str x) (.tup [.str a, .str b]) = .ok (.bl (decide (a = x ∨ b = x))) := by
  unfold oIn isIn
  simp only [D.sc, List.all_cons, List.all_nil, Bool.and_self, Bool.and_true, if_true, List.any_cons, List.any_nil, D.beq, Bool.or_false]
  by_cases h1 : a = x <;> by_cases h2 : b = x <;> simp [h1, h2]
end
end EV

set_option Elab.async false
set_option linter.all false
/-! MATHEMATICS of the cut. -/
namespace EV
section
variable {t n p k a b c : Int}
theorem mul_lt_iff (hc : 0 < c) : a * c < b * c ↔ a < b := ⟨fun h => Int.lt_of_mul_lt_mul_right h (Int.le_of_lt hc), fun h => Int.mul_lt_mul_of_pos_right h hc⟩
/-- t / n < 2 ** p -/
noncomputable def Lt (t n p : Int) : Prop := t * pw (-p) < n * pw p
noncomputable instance : Decidable (Lt t n p) := inferInstanceAs (Decidable (_ < _))
variable {E F : Int}
end
end EV

set_option Elab.async false
set_option linter.all false
/-! MATHEMATICS of rounding: a cut and the two neighbours of the number. -/
namespace EV
section
variable {E F t n P w l A B K D : Int}
/-- (D times B is l times K): D stands to K as l to B -/
theorem stand (hB : 0 < B) (hK : 0 < K) (l0 : 0 ≤ l) (l1 : l < B) (e : D * B = l * K) : 0 ≤ D ∧ D < K ∧ (D = 0 ↔ l = 0) ∧ (2 * D < K ↔ 2 * l < B) ∧ (2 * D = K ↔ 2 * l = B) := by
  have k0 : 0 ≤ l * K := Int.mul_nonneg l0 (Int.le_of_lt hK)
  have d0 : 0 ≤ D := by
    refine Classical.byContradiction fun q => ?_
    have := Int.mul_neg_of_neg_of_pos (show D < 0 by omega) hB
    omega
  have d1 : D < K := by
    rw [← mul_lt_iff hB, e, Int.mul_comm K]
    exact Int.mul_lt_mul_of_pos_right l1 hK
  have e2 : 2 * D * B = 2 * l * K := by rw [Int.mul_assoc, e, Int.mul_assoc]
  refine ⟨d0, d1, ⟨fun q => ?_, fun q => ?_⟩, ?_, ?_⟩
  · rw [q, Int.zero_mul] at e
    rcases Int.mul_eq_zero.mp e.symm with z | z
    · exact z
    · omega
  · rw [q, Int.zero_mul] at e
    rcases Int.mul_eq_zero.mp e with z | z
    · exact z
    · omega
  · rw [← mul_lt_iff hB, e2, Int.mul_comm K, mul_lt_iff hK]
  · constructor
    · intro q
      rw [q, Int.mul_comm] at e2
      exact (Int.eq_of_mul_eq_mul_right (by omega) e2).symm
    · intro q
      rw [q, Int.mul_comm B] at e2
      exact Int.eq_of_mul_eq_mul_right (by omega) e2
end
section
variable {E F T n c : Int}
end
section
variable {E F T n c c' r r' s t w p : Int}
end
end EV

set_option Elab.async false
set_option linter.all false
/-! MATHEMATICS of the ways. -/
namespace EV
inductive Wy where
  | even | away | nought | up | down
theorem oBand_one {i : Int} (h : 0 ≤ i) : oBand (.int i) (.int 1) = .ok (.int (i % 2)) := by
  unfold oBand
  simp only
  rw [if_pos ⟨h, by decide⟩]
  congr 2
  rw [show (1 : Int).toNat = 1 from rfl, Nat.and_one_is_mod]
  omega
section
variable {E F s T T' n k c c' r r' : Int} {w : Wy}
end
section
variable {E F s T T' n n' k c c' r r' b W P : Int} {w : Wy}
theorem last_iff (h : Sz E F) (c0 : 0 ≤ c) (c1 : c < pw (E + F)) : c / pw F = pw E - 1 ↔ pw (E + F) - pw F ≤ c := by
  have hQ := pw_pos F
  have eM := end_is h
  constructor
  · intro z
    have := Int.ediv_mul_le c (show pw F ≠ 0 by omega)
    rw [z, eM] at this
    exact this
  · intro z
    have a := Int.le_ediv_of_mul_le (a := pw E - 1) (b := c) hQ (by rw [eM]; exact z)
    have b := (vl_nb h c0 c1).1
    omega
end
section
variable {E F E2 F2 c : Int}
end
section
variable {E F s t n c T Z : Int} {w : Wy}
end
/-! roots -/
section
variable {E F P S A B G X t n r c : Int}
end
section
variable {E F s c r : Int}
end
end EV

set_option Elab.async false
set_option linter.all false
set_option maxRecDepth 100000
namespace T
open EV
theorem size_ok (c : Int) : p_law_size_by [.int c] = .ok (.tup [.int (szE c), .int (szF c)]) := by
  unfold p_law_size_by g_law_size_by
  by_cases h : c % 8 < 4
  · rcases four (Int.emod_nonneg c (by decide)) h with e | e | e | e <;> (simp only [EV.EvS, reduceIte, Nat.reduceAdd, Nat.reduceSub, Int.reduceAdd, Int.reduceSub, Int.reduceMul, Int.reduceNeg, Int.reducePow, Int.reduceLT, Int.reduceLE, Int.reduceGT, Int.reduceGE, Int.reduceEq, Int.reduceNe, Int.reduceDiv, Int.reduceMod, Int.reduceToNat, String.reduceEq, String.reduceBEq, Nat.reduceLeDiff, Int.cast_ofNat_Int, Int.natCast_one, Int.natCast_zero, List.cons_append, List.nil_append, ne_eq, e, ixl3]; unfold szE szF; rw [e]; rfl)
  · by_cases h2 : c % 8 < 6
    · simp only [EV.EvS, reduceIte, Nat.reduceAdd, Nat.reduceSub, Int.reduceAdd, Int.reduceSub, Int.reduceMul, Int.reduceNeg, Int.reducePow, Int.reduceLT, Int.reduceLE, Int.reduceGT, Int.reduceGE, Int.reduceEq, Int.reduceNe, Int.reduceDiv, Int.reduceMod, Int.reduceToNat, String.reduceEq, String.reduceBEq, Nat.reduceLeDiff, Int.cast_ofNat_Int, Int.natCast_one, Int.natCast_zero, List.cons_append, List.nil_append, ne_eq, h, h2]
      unfold szE szF
      rw [if_neg h, if_pos h2, if_neg h, if_pos h2]
    · simp only [EV.EvS, reduceIte, Nat.reduceAdd, Nat.reduceSub, Int.reduceAdd, Int.reduceSub, Int.reduceMul, Int.reduceNeg, Int.reducePow, Int.reduceLT, Int.reduceLE, Int.reduceGT, Int.reduceGE, Int.reduceEq, Int.reduceNe, Int.reduceDiv, Int.reduceMod, Int.reduceToNat, String.reduceEq, String.reduceBEq, Nat.reduceLeDiff, Int.cast_ofNat_Int, Int.natCast_one, Int.natCast_zero, List.cons_append, List.nil_append, ne_eq, h, h2]
      unfold szE szF
      rw [if_neg h, if_neg h2, if_neg h, if_neg h2]
theorem cell_ok {ns : List Int} {j : Int} (h0 : 0 ≤ j) : p_law_cell_at [.lst (ns.map .int), .int j] = .ok (.int (ns.getD j.toNat 0)) := by
  unfold p_law_cell_at g_law_cell_at
  by_cases h : j < (ns.length : Int)
  · have e : oIx (.lst (ns.map D.int)) (.int j) = .ok (.int (ns.getD j.toNat 0)) := by
      obtain ⟨k, rfl⟩ := Int.eq_ofNat_of_zero_le h0
      have hk : k < ns.length := by omega
      refine ix_lst ?_
      simp [List.getElem?_map, List.getElem?_eq_getElem hk, List.getD_eq_getElem?_getD]
    simp only [EV.EvS, reduceIte, Nat.reduceAdd, Nat.reduceSub, Int.reduceAdd, Int.reduceSub, Int.reduceMul, Int.reduceNeg, Int.reducePow, Int.reduceLT, Int.reduceLE, Int.reduceGT, Int.reduceGE, Int.reduceEq, Int.reduceNe, Int.reduceDiv, Int.reduceMod, Int.reduceToNat, String.reduceEq, String.reduceBEq, Nat.reduceLeDiff, Int.cast_ofNat_Int, Int.natCast_one, Int.natCast_zero, List.cons_append, List.nil_append, ne_eq, h, e]
  · simp only [EV.EvS, reduceIte, Nat.reduceAdd, Nat.reduceSub, Int.reduceAdd, Int.reduceSub, Int.reduceMul, Int.reduceNeg, Int.reducePow, Int.reduceLT, Int.reduceLE, Int.reduceGT, Int.reduceGE, Int.reduceEq, Int.reduceNe, Int.reduceDiv, Int.reduceMod, Int.reduceToNat, String.reduceEq, String.reduceBEq, Nat.reduceLeDiff, Int.cast_ofNat_Int, Int.natCast_one, Int.natCast_zero, List.cons_append, List.nil_append, ne_eq, h, getD_end h0 h]
theorem pick4 {a b c d r : Int} (h0 : 0 ≤ r) (h1 : r < 4) : oIx (.lst [.int a, .int b, .int c, .int d]) (.int r) = .ok (.int ([a, b, c, d].getD r.toNat 0)) := by
  rcases four h0 h1 with e | e | e | e <;> subst e <;> rfl
theorem bits_by_ok {E F c : Int} (h : Sz E F) (hc : nb c ≤ 2 ^ 20) : p_law_bits_by [.tup [.int E, .int F], .int c] = .ok (.int (bitsBy E F c)) := by
  obtain ⟨h1, h2, h3, h4⟩ := id h
  have n1 : nb (pw (E + F)) ≤ 128 := nb_pw (c := 127) (by omega)
  have n2 : nb (pw E - 1) ≤ 15 := nb_lt (by have := pw_pos E; omega) (by have := pwE_le h; omega)
  have n3 : nb (pw (E - 1) - 1) ≤ 15 := nb_lt (by have := pw_pos (E - 1); omega) (by have := pwE1_le h; omega)
  have n4 : nb (c / 9 / 2 / 4 % pw E) ≤ 15 := nb_lt (Int.emod_nonneg _ (by have := pw_pos E; omega)) (by have := pwE_le h; have := Int.emod_lt_of_pos (c / 9 / 2 / 4) (pw_pos E); omega)
  have n5 := nb_c hc (k := 9) (by decide)
  have m1 : MulOk (c / 9) 73846150927364518273645509182736455091829 := by walk_at "mul"
  have m2 : MulOk 2 (pw (E + F)) := by walk_at "mul"
  have m3 : MulOk (c / 9 % 2) (pw (E + F)) := mul_small (by omega) (by omega) (Nat.le_trans n1 (by decide))
  have q1 := pw_two h3
  have q2 := pw_pos (E + F)
  have pk := pick4 (a := 0) (b := 1) (c := pw F - 1) (d := pw (F - 1)) (r := c / 9 / 2 % 4) (by omega) (by omega)
  unfold p_law_bits_by g_law_bits_by
  simp only [EV.EvS, reduceIte, Nat.reduceAdd, Nat.reduceSub, Int.reduceAdd, Int.reduceSub, Int.reduceMul, Int.reduceNeg, Int.reducePow, Int.reduceLT, Int.reduceLE, Int.reduceGT, Int.reduceGE, Int.reduceEq, Int.reduceNe, Int.reduceDiv, Int.reduceMod, Int.reduceToNat, String.reduceEq, String.reduceBEq, Nat.reduceLeDiff, Int.cast_ofNat_Int, Int.natCast_one, Int.natCast_zero, List.cons_append, List.nil_append, ne_eq, shl1 (k := E + F) (by omega) (by omega), shl1 (k := E) (by omega) (by omega), shl1 (k := F) (by omega) (by omega), shl1 (k := E - 1) (by omega) (by omega), shl1 (k := F - 1) (by omega) (by omega),
    oShl_ok (i := pw E - 1) (j := F) (by omega) (by omega), oShl_ok (i := pw (E - 1) - 1) (j := F) (by omega) (by omega), oShl_ok (i := c / 9 / 2 / 4 % pw E) (j := F) (by omega) (by omega), oMul_ok m1, oMul_ok m2, oMul_ok m3, show 0 < 2 * pw (E + F) by omega, show 0 < pw F - 1 by omega, pw_pos, pk]
  unfold bitsBy
  by_cases g0 : c % 9 < 3
  · simp only [if_pos g0]
  by_cases g1 : c % 9 = 3
  · simp only [if_neg g0, if_pos g1]
  by_cases g2 : c % 9 = 4
  · simp only [if_neg g0, if_neg g1, if_pos g2]
  by_cases g3 : c % 9 = 5
  · simp only [if_neg g0, if_neg g1, if_neg g2, if_pos g3]
  by_cases g4 : c % 9 = 6
  · simp only [if_neg g0, if_neg g1, if_neg g2, if_neg g3, if_pos g4]
  by_cases g5 : c % 9 = 7
  · simp only [if_neg g0, if_neg g1, if_neg g2, if_neg g3, if_neg g4, if_pos g5]
  simp only [if_neg g0, if_neg g1, if_neg g2, if_neg g3, if_neg g4, if_neg g5]
theorem last_field_ok {E F : Int} (h : Sz E F) : p_last_field [.tup [.int E, .int F]] = .ok (.int (pw E - 1)) := by
  obtain ⟨h1, h2, h3, h4⟩ := h
  unfold p_last_field g_last_field
  simp only [EV.EvS, reduceIte, Nat.reduceAdd, Nat.reduceSub, Int.reduceAdd, Int.reduceSub, Int.reduceMul, Int.reduceNeg, Int.reducePow, Int.reduceLT, Int.reduceLE, Int.reduceGT, Int.reduceGE, Int.reduceEq, Int.reduceNe, Int.reduceDiv, Int.reduceMod, Int.reduceToNat, String.reduceEq, String.reduceBEq, Nat.reduceLeDiff, Int.cast_ofNat_Int, Int.natCast_one, Int.natCast_zero, List.cons_append, List.nil_append, ne_eq, shl1 (k := E) (by omega) (by omega)]
theorem sign_bit_ok {E F : Int} (h : Sz E F) : p_sign_bit [.tup [.int E, .int F]] = .ok (.int (pw (E + F))) := by
  obtain ⟨h1, h2, h3, h4⟩ := h
  unfold p_sign_bit g_sign_bit
  simp only [EV.EvS, reduceIte, Nat.reduceAdd, Nat.reduceSub, Int.reduceAdd, Int.reduceSub, Int.reduceMul, Int.reduceNeg, Int.reducePow, Int.reduceLT, Int.reduceLE, Int.reduceGT, Int.reduceGE, Int.reduceEq, Int.reduceNe, Int.reduceDiv, Int.reduceMod, Int.reduceToNat, String.reduceEq, String.reduceBEq, Nat.reduceLeDiff, Int.cast_ofNat_Int, Int.natCast_one, Int.natCast_zero, List.cons_append, List.nil_append, ne_eq, shl1 (k := E + F) (by omega) (by omega)]
theorem joined_ok {E F s f g : Int} (h : Sz E F) (hs : 0 ≤ s ∧ s ≤ 1) (hf : 0 ≤ f ∧ f < pw E) (hg : 0 ≤ g ∧ g < pw F) : p_joined [.tup [.int E, .int F], .int s, .int f, .int g] = .ok (.int (jn E F s f g)) := by
  obtain ⟨h1, h2, h3, h4⟩ := id h
  have n1 : nb (pw (E + F)) ≤ 128 := nb_pw (c := 127) (by omega)
  have n2 : nb f ≤ 15 := nb_lt hf.1 (by have := pwE_le h; omega)
  unfold p_joined g_joined
  simp only [EV.EvS, reduceIte, Nat.reduceAdd, Nat.reduceSub, Int.reduceAdd, Int.reduceSub, Int.reduceMul, Int.reduceNeg, Int.reducePow, Int.reduceLT, Int.reduceLE, Int.reduceGT, Int.reduceGE, Int.reduceEq, Int.reduceNe, Int.reduceDiv, Int.reduceMod, Int.reduceToNat, String.reduceEq, String.reduceBEq, Nat.reduceLeDiff, Int.cast_ofNat_Int, Int.natCast_one, Int.natCast_zero, List.cons_append, List.nil_append, ne_eq, last_field_ok h, sign_bit_ok h, shl1 (k := F) (by omega) (by omega), show ¬ s < 0 by omega, show ¬ 1 < s by omega, show ¬ f < 0 by omega, show ¬ pw E - 1 < f by omega, show ¬ g < 0 by omega, show ¬ pw F ≤ g by omega,
    oMul_ok (mul_small hs.1 hs.2 (Nat.le_trans n1 (by decide))), oShl_ok (i := f) (j := F) (by omega) (by omega), jn]
theorem width_ok {E F : Int} : p_width [.tup [.int E, .int F]] = .ok (.int (E + F + 1)) := by
  unfold p_width g_width
  simp only [EV.EvS, reduceIte, Nat.reduceAdd, Nat.reduceSub, Int.reduceAdd, Int.reduceSub, Int.reduceMul, Int.reduceNeg, Int.reducePow, Int.reduceLT, Int.reduceLE, Int.reduceGT, Int.reduceGE, Int.reduceEq, Int.reduceNe, Int.reduceDiv, Int.reduceMod, Int.reduceToNat, String.reduceEq, String.reduceBEq, Nat.reduceLeDiff, Int.cast_ofNat_Int, Int.natCast_one, Int.natCast_zero, List.cons_append, List.nil_append, ne_eq]
theorem parted_ok {E F b : Int} (h : Sz E F) (hb : In E F b) : p_parted [.tup [.int E, .int F], .int b] = .ok (.tup [.int (sgn E F b), .int (fld E F b), .int (fig F b)]) := by
  obtain ⟨h1, h2, h3, h4⟩ := id h
  obtain ⟨hb0, hb1⟩ := hb
  have d1 : DivOk b (pw (E + F)) := ⟨pw_pos _, .inl (Nat.le_trans (nb_pw (c := 127) (by omega)) (by decide))⟩
  have d2 : DivOk (b % pw (E + F)) (pw F) := ⟨pw_pos _, .inl (Nat.le_trans (nb_pw (c := 127) (by omega)) (by decide))⟩
  have e0 : b / pw (E + F) = sgn E F b := by unfold sgn; rw [pw_add (by omega) (by omega), part0 (pw_pos _) (pw_pos _)]
  have e1 : b % pw (E + F) / pw F = fld E F b := by unfold fld; rw [pw_add (by omega) (by omega), part1 (pw_pos _) (pw_pos _)]
  have e2 : b % pw (E + F) % pw F = fig F b := by unfold fig; rw [pw_add (by omega) (by omega), part2]
  unfold p_parted g_parted
  simp only [EV.EvS, reduceIte, Nat.reduceAdd, Nat.reduceSub, Int.reduceAdd, Int.reduceSub, Int.reduceMul, Int.reduceNeg, Int.reducePow, Int.reduceLT, Int.reduceLE, Int.reduceGT, Int.reduceGE, Int.reduceEq, Int.reduceNe, Int.reduceDiv, Int.reduceMod, Int.reduceToNat, String.reduceEq, String.reduceBEq, Nat.reduceLeDiff, Int.cast_ofNat_Int, Int.natCast_one, Int.natCast_zero, List.cons_append, List.nil_append, ne_eq, width_ok, sign_bit_ok h, shl1 (k := E + F + 1) (by omega) (by omega), shl1 (k := F) (by omega) (by omega), show ¬ b < 0 by omega, show ¬ pw (E + F + 1) ≤ b by omega, oDiv_ok d1, oDiv_ok d2, pw_pos, e0, e1, e2]
theorem kind_ok {E F b : Int} (h : Sz E F) (hb : In E F b) : p_kind [.tup [.int E, .int F], .int b] = .ok (.str (kindS E (fld E F b) (fig F b))) := by
  unfold p_kind g_kind
  simp only [EV.EvS, reduceIte, Nat.reduceAdd, Nat.reduceSub, Int.reduceAdd, Int.reduceSub, Int.reduceMul, Int.reduceNeg, Int.reducePow, Int.reduceLT, Int.reduceLE, Int.reduceGT, Int.reduceGE, Int.reduceEq, Int.reduceNe, Int.reduceDiv, Int.reduceMod, Int.reduceToNat, String.reduceEq, String.reduceBEq, Nat.reduceLeDiff, Int.cast_ofNat_Int, Int.natCast_one, Int.natCast_zero, List.cons_append, List.nil_append, ne_eq, parted_ok h hb, last_field_ok h]
  unfold kindS
  (repeat' split) <;> first | rfl | contradiction
theorem rank_ok {E F b : Int} (h : Sz E F) (hb : In E F b) (hn : ¬ nn E F b) : p_rank [.tup [.int E, .int F], .int b] = .ok (.int (rk E F b)) := by
  unfold p_rank g_rank
  simp only [EV.EvS, reduceIte, Nat.reduceAdd, Nat.reduceSub, Int.reduceAdd, Int.reduceSub, Int.reduceMul, Int.reduceNeg, Int.reducePow, Int.reduceLT, Int.reduceLE, Int.reduceGT, Int.reduceGE, Int.reduceEq, Int.reduceNe, Int.reduceDiv, Int.reduceMod, Int.reduceToNat, String.reduceEq, String.reduceBEq, Nat.reduceLeDiff, Int.cast_ofNat_Int, Int.natCast_one, Int.natCast_zero, List.cons_append, List.nil_append, ne_eq, kind_ok h hb, kind_none h, hn, sign_bit_ok h, pw_pos, parted_ok h hb, sgn_is h hb]
  unfold rk cd
  by_cases g : pw (E + F) ≤ b
  · simp only [EV.EvS, reduceIte, Nat.reduceAdd, Nat.reduceSub, Int.reduceAdd, Int.reduceSub, Int.reduceMul, Int.reduceNeg, Int.reducePow, Int.reduceLT, Int.reduceLE, Int.reduceGT, Int.reduceGE, Int.reduceEq, Int.reduceNe, Int.reduceDiv, Int.reduceMod, Int.reduceToNat, String.reduceEq, String.reduceBEq, Nat.reduceLeDiff, Int.cast_ofNat_Int, Int.natCast_one, Int.natCast_zero, List.cons_append, List.nil_append, ne_eq, g]
  · simp only [EV.EvS, reduceIte, Nat.reduceAdd, Nat.reduceSub, Int.reduceAdd, Int.reduceSub, Int.reduceMul, Int.reduceNeg, Int.reducePow, Int.reduceLT, Int.reduceLE, Int.reduceGT, Int.reduceGE, Int.reduceEq, Int.reduceNe, Int.reduceDiv, Int.reduceMod, Int.reduceToNat, String.reduceEq, String.reduceBEq, Nat.reduceLeDiff, Int.cast_ofNat_Int, Int.natCast_one, Int.natCast_zero, List.cons_append, List.nil_append, ne_eq, g]
theorem endless_ok {E F : Int} (h : Sz E F) : p_endless [.tup [.int E, .int F]] = .ok (.int ((pw E - 1) * pw F)) := by
  obtain ⟨h1, h2, h3, h4⟩ := id h
  have hb : nb (pw E) ≤ 16 := nb_pw (c := 15) (by omega)
  have hb2 : nb (pw E - 1) ≤ 17 := by walk_at "nbk"
  unfold p_endless g_endless
  simp only [EV.EvS, reduceIte, Nat.reduceAdd, Nat.reduceSub, Int.reduceAdd, Int.reduceSub, Int.reduceMul, Int.reduceNeg, Int.reducePow, Int.reduceLT, Int.reduceLE, Int.reduceGT, Int.reduceGE, Int.reduceEq, Int.reduceNe, Int.reduceDiv, Int.reduceMod, Int.reduceToNat, String.reduceEq, String.reduceBEq, Nat.reduceLeDiff, Int.cast_ofNat_Int, Int.natCast_one, Int.natCast_zero, List.cons_append, List.nil_append, ne_eq, last_field_ok h, oShl_ok (i := pw E - 1) (j := F) (by omega) (by omega)]
theorem below_ok {E F b : Int} (h : Sz E F) (hb : In E F b) (hn : ¬ nn E F b) : p_below [.tup [.int E, .int F], .int b] = .ok (.int (be E F b)) := by
  unfold p_below g_below be
  by_cases g : rk E F b = -(pw (E + F) - pw F)
  · simp only [EV.EvS, reduceIte, Nat.reduceAdd, Nat.reduceSub, Int.reduceAdd, Int.reduceSub, Int.reduceMul, Int.reduceNeg, Int.reducePow, Int.reduceLT, Int.reduceLE, Int.reduceGT, Int.reduceGE, Int.reduceEq, Int.reduceNe, Int.reduceDiv, Int.reduceMod, Int.reduceToNat, String.reduceEq, String.reduceBEq, Nat.reduceLeDiff, Int.cast_ofNat_Int, Int.natCast_one, Int.natCast_zero, List.cons_append, List.nil_append, ne_eq, rank_ok h hb hn, endless_ok h, end_is h, eq_true g]
  · by_cases g2 : 0 < rk E F b
    · simp only [EV.EvS, reduceIte, Nat.reduceAdd, Nat.reduceSub, Int.reduceAdd, Int.reduceSub, Int.reduceMul, Int.reduceNeg, Int.reducePow, Int.reduceLT, Int.reduceLE, Int.reduceGT, Int.reduceGE, Int.reduceEq, Int.reduceNe, Int.reduceDiv, Int.reduceMod, Int.reduceToNat, String.reduceEq, String.reduceBEq, Nat.reduceLeDiff, Int.cast_ofNat_Int, Int.natCast_one, Int.natCast_zero, List.cons_append, List.nil_append, ne_eq, rank_ok h hb hn, endless_ok h, end_is h, g, g2, sign_bit_ok h]
    · simp only [EV.EvS, reduceIte, Nat.reduceAdd, Nat.reduceSub, Int.reduceAdd, Int.reduceSub, Int.reduceMul, Int.reduceNeg, Int.reducePow, Int.reduceLT, Int.reduceLE, Int.reduceGT, Int.reduceGE, Int.reduceEq, Int.reduceNe, Int.reduceDiv, Int.reduceMod, Int.reduceToNat, String.reduceEq, String.reduceBEq, Nat.reduceLeDiff, Int.cast_ofNat_Int, Int.natCast_one, Int.natCast_zero, List.cons_append, List.nil_append, ne_eq, rank_ok h hb hn, endless_ok h, end_is h, g, g2, sign_bit_ok h]
theorem bias_ok {E F : Int} (h : Sz E F) : p_bias [.tup [.int E, .int F]] = .ok (.int (pw (E - 1) - 1)) := by
  obtain ⟨h1, h2, h3, h4⟩ := h
  unfold p_bias g_bias
  simp only [EV.EvS, reduceIte, Nat.reduceAdd, Nat.reduceSub, Int.reduceAdd, Int.reduceSub, Int.reduceMul, Int.reduceNeg, Int.reducePow, Int.reduceLT, Int.reduceLE, Int.reduceGT, Int.reduceGE, Int.reduceEq, Int.reduceNe, Int.reduceDiv, Int.reduceMod, Int.reduceToNat, String.reduceEq, String.reduceBEq, Nat.reduceLeDiff, Int.cast_ofNat_Int, Int.natCast_one, Int.natCast_zero, List.cons_append, List.nil_append, ne_eq, shl1 (k := E - 1) (by omega) (by omega)]
theorem low_ok {E F : Int} (h : Sz E F) : p_low [.tup [.int E, .int F]] = .ok (.int (lo E F)) := by
  have e : 1 - (pw (E - 1) - 1) - F = lo E F := by unfold lo; omega
  unfold p_low g_low
  simp only [EV.EvS, reduceIte, Nat.reduceAdd, Nat.reduceSub, Int.reduceAdd, Int.reduceSub, Int.reduceMul, Int.reduceNeg, Int.reducePow, Int.reduceLT, Int.reduceLE, Int.reduceGT, Int.reduceGE, Int.reduceEq, Int.reduceNe, Int.reduceDiv, Int.reduceMod, Int.reduceToNat, String.reduceEq, String.reduceBEq, Nat.reduceLeDiff, Int.cast_ofNat_Int, Int.natCast_one, Int.natCast_zero, List.cons_append, List.nil_append, ne_eq, bias_ok h, e]
theorem worth_ok {E F b : Int} (h : Sz E F) (hb : In E F b) (hf : ¬ fld E F b = pw E - 1) : p_worth [.tup [.int E, .int F], .int b] = .ok (.tup [.int (sgn E F b), .int (wh F (fld E F b) (fig F b)), .int (po E F (fld E F b))]) := by
  obtain ⟨h1, h2, h3, h4⟩ := id h
  unfold p_worth g_worth
  simp only [EV.EvS, reduceIte, Nat.reduceAdd, Nat.reduceSub, Int.reduceAdd, Int.reduceSub, Int.reduceMul, Int.reduceNeg, Int.reducePow, Int.reduceLT, Int.reduceLE, Int.reduceGT, Int.reduceGE, Int.reduceEq, Int.reduceNe, Int.reduceDiv, Int.reduceMod, Int.reduceToNat, String.reduceEq, String.reduceBEq, Nat.reduceLeDiff, Int.cast_ofNat_Int, Int.natCast_one, Int.natCast_zero, List.cons_append, List.nil_append, ne_eq, parted_ok h hb, last_field_ok h, low_ok h, hf, shl1 (k := F) (by omega) (by omega)]
  unfold wh po
  by_cases g : fld E F b = 0
  · simp only [if_pos g]
  · simp only [if_neg g]
theorem worth_fraction_ok {s w p : Int} (hw : nb w ≤ 1000000) (hp : -1000000 ≤ p ∧ p ≤ 1000000) : p_worth_fraction [.tup [.int s, .int w, .int p]] = .ok (.tup [.int s, .int (frT w p), .int (frB p)]) := by
  unfold p_worth_fraction g_worth_fraction
  by_cases g : 0 ≤ p
  · simp only [EV.EvS, reduceIte, Nat.reduceAdd, Nat.reduceSub, Int.reduceAdd, Int.reduceSub, Int.reduceMul, Int.reduceNeg, Int.reducePow, Int.reduceLT, Int.reduceLE, Int.reduceGT, Int.reduceGE, Int.reduceEq, Int.reduceNe, Int.reduceDiv, Int.reduceMod, Int.reduceToNat, String.reduceEq, String.reduceBEq, Nat.reduceLeDiff, Int.cast_ofNat_Int, Int.natCast_one, Int.natCast_zero, List.cons_append, List.nil_append, ne_eq, g, oShl_ok (i := w) (j := p) g (by omega), frT, frB]
  · simp only [EV.EvS, reduceIte, Nat.reduceAdd, Nat.reduceSub, Int.reduceAdd, Int.reduceSub, Int.reduceMul, Int.reduceNeg, Int.reducePow, Int.reduceLT, Int.reduceLE, Int.reduceGT, Int.reduceGE, Int.reduceEq, Int.reduceNe, Int.reduceDiv, Int.reduceMod, Int.reduceToNat, String.reduceEq, String.reduceBEq, Nat.reduceLeDiff, Int.cast_ofNat_Int, Int.natCast_one, Int.natCast_zero, List.cons_append, List.nil_append, ne_eq, g, shl1 (k := -p) (by omega) (by omega), frT, frB]
theorem fraction_ok {E F b : Int} (h : Sz E F) (hb : In E F b) (hf : ¬ fld E F b = pw E - 1) : p_fraction [.tup [.int E, .int F], .int b] = .ok (.tup [.int (sgn E F b), .int (frT (wh F (fld E F b) (fig F b)) (po E F (fld E F b))), .int (frB (po E F (fld E F b)))]) := by
  have h1 := wh_nb h hb
  have h2 := po_in h hb
  unfold p_fraction g_fraction
  simp only [EV.EvS, reduceIte, Nat.reduceAdd, Nat.reduceSub, Int.reduceAdd, Int.reduceSub, Int.reduceMul, Int.reduceNeg, Int.reducePow, Int.reduceLT, Int.reduceLE, Int.reduceGT, Int.reduceGE, Int.reduceEq, Int.reduceNe, Int.reduceDiv, Int.reduceMod, Int.reduceToNat, String.reduceEq, String.reduceBEq, Nat.reduceLeDiff, Int.cast_ofNat_Int, Int.natCast_one, Int.natCast_zero, List.cons_append, List.nil_append, ne_eq, worth_ok h hb hf, worth_fraction_ok (s := sgn E F b) (w := wh F (fld E F b) (fig F b)) (p := po E F (fld E F b)) (by omega) (by omega)]
theorem negated_ok {E F b : Int} (h : Sz E F) (hb : In E F b) : p_negated [.tup [.int E, .int F], .int b] = .ok (.int (ng E F b)) := by
  obtain ⟨i1, i2, i3⟩ := hb.parts h
  unfold p_negated g_negated
  simp only [EV.EvS, reduceIte, Nat.reduceAdd, Nat.reduceSub, Int.reduceAdd, Int.reduceSub, Int.reduceMul, Int.reduceNeg, Int.reducePow, Int.reduceLT, Int.reduceLE, Int.reduceGT, Int.reduceGE, Int.reduceEq, Int.reduceNe, Int.reduceDiv, Int.reduceMod, Int.reduceToNat, String.reduceEq, String.reduceBEq, Nat.reduceLeDiff, Int.cast_ofNat_Int, Int.natCast_one, Int.natCast_zero, List.cons_append, List.nil_append, ne_eq, parted_ok h hb, joined_ok (s := 1 - sgn E F b) h (by omega) i2 i3, jn_ng h hb]
noncomputable def cmpS (x y : Int) : PySem.Str := if x < y then "less" else if x = y then "same" else "more"
noncomputable def cmpB (E F a b : Int) : PySem.Str := if nn E F a ∨ nn E F b then "apart" else cmpS (rk E F a) (rk E F b)
theorem compared_ok {E F a b : Int} (h : Sz E F) (ha : In E F a) (hb : In E F b) : p_compared [.tup [.int E, .int F], .int a, .int b] = .ok (.str (cmpB E F a b)) := by
  unfold p_compared g_compared cmpB
  by_cases g : nn E F a ∨ nn E F b
  · simp only [EV.EvS, reduceIte, Nat.reduceAdd, Nat.reduceSub, Int.reduceAdd, Int.reduceSub, Int.reduceMul, Int.reduceNeg, Int.reducePow, Int.reduceLT, Int.reduceLE, Int.reduceGT, Int.reduceGE, Int.reduceEq, Int.reduceNe, Int.reduceDiv, Int.reduceMod, Int.reduceToNat, String.reduceEq, String.reduceBEq, Nat.reduceLeDiff, Int.cast_ofNat_Int, Int.natCast_one, Int.natCast_zero, List.cons_append, List.nil_append, ne_eq, kind_ok h ha, kind_ok h hb, oIn_str2, kind_none h, g]
  · have ga : ¬ nn E F a := fun z => g (.inl z)
    have gb : ¬ nn E F b := fun z => g (.inr z)
    simp only [EV.EvS, reduceIte, Nat.reduceAdd, Nat.reduceSub, Int.reduceAdd, Int.reduceSub, Int.reduceMul, Int.reduceNeg, Int.reducePow, Int.reduceLT, Int.reduceLE, Int.reduceGT, Int.reduceGE, Int.reduceEq, Int.reduceNe, Int.reduceDiv, Int.reduceMod, Int.reduceToNat, String.reduceEq, String.reduceBEq, Nat.reduceLeDiff, Int.cast_ofNat_Int, Int.natCast_one, Int.natCast_zero, List.cons_append, List.nil_append, ne_eq, kind_ok h ha, kind_ok h hb, oIn_str2, kind_none h, ga, gb, rank_ok h ha ga, rank_ok h hb gb]
    unfold cmpS
    by_cases g1 : rk E F a < rk E F b
    · simp only [EV.EvS, reduceIte, Nat.reduceAdd, Nat.reduceSub, Int.reduceAdd, Int.reduceSub, Int.reduceMul, Int.reduceNeg, Int.reducePow, Int.reduceLT, Int.reduceLE, Int.reduceGT, Int.reduceGE, Int.reduceEq, Int.reduceNe, Int.reduceDiv, Int.reduceMod, Int.reduceToNat, String.reduceEq, String.reduceBEq, Nat.reduceLeDiff, Int.cast_ofNat_Int, Int.natCast_one, Int.natCast_zero, List.cons_append, List.nil_append, ne_eq, g1]
    · by_cases g2 : rk E F a = rk E F b
      · simp only [EV.EvS, reduceIte, Nat.reduceAdd, Nat.reduceSub, Int.reduceAdd, Int.reduceSub, Int.reduceMul, Int.reduceNeg, Int.reducePow, Int.reduceLT, Int.reduceLE, Int.reduceGT, Int.reduceGE, Int.reduceEq, Int.reduceNe, Int.reduceDiv, Int.reduceMod, Int.reduceToNat, String.reduceEq, String.reduceBEq, Nat.reduceLeDiff, Int.cast_ofNat_Int, Int.natCast_one, Int.natCast_zero, List.cons_append, List.nil_append, ne_eq, g1, eq_true g2]
      · simp only [EV.EvS, reduceIte, Nat.reduceAdd, Nat.reduceSub, Int.reduceAdd, Int.reduceSub, Int.reduceMul, Int.reduceNeg, Int.reducePow, Int.reduceLT, Int.reduceLE, Int.reduceGT, Int.reduceGE, Int.reduceEq, Int.reduceNe, Int.reduceDiv, Int.reduceMod, Int.reduceToNat, String.reduceEq, String.reduceBEq, Nat.reduceLeDiff, Int.cast_ofNat_Int, Int.natCast_one, Int.natCast_zero, List.cons_append, List.nil_append, ne_eq, g1, g2]
theorem above_ok {E F b : Int} (h : Sz E F) (hb : In E F b) (hn : ¬ nn E F b) : p_above [.tup [.int E, .int F], .int b] = .ok (.int (ab E F b)) := by
  unfold p_above g_above ab
  by_cases g : rk E F b = pw (E + F) - pw F
  · simp only [EV.EvS, reduceIte, Nat.reduceAdd, Nat.reduceSub, Int.reduceAdd, Int.reduceSub, Int.reduceMul, Int.reduceNeg, Int.reducePow, Int.reduceLT, Int.reduceLE, Int.reduceGT, Int.reduceGE, Int.reduceEq, Int.reduceNe, Int.reduceDiv, Int.reduceMod, Int.reduceToNat, String.reduceEq, String.reduceBEq, Nat.reduceLeDiff, Int.cast_ofNat_Int, Int.natCast_one, Int.natCast_zero, List.cons_append, List.nil_append, ne_eq, rank_ok h hb hn, endless_ok h, end_is h, eq_true g]
  · by_cases g2 : rk E F b < 0
    · simp only [EV.EvS, reduceIte, Nat.reduceAdd, Nat.reduceSub, Int.reduceAdd, Int.reduceSub, Int.reduceMul, Int.reduceNeg, Int.reducePow, Int.reduceLT, Int.reduceLE, Int.reduceGT, Int.reduceGE, Int.reduceEq, Int.reduceNe, Int.reduceDiv, Int.reduceMod, Int.reduceToNat, String.reduceEq, String.reduceBEq, Nat.reduceLeDiff, Int.cast_ofNat_Int, Int.natCast_one, Int.natCast_zero, List.cons_append, List.nil_append, ne_eq, rank_ok h hb hn, endless_ok h, end_is h, g, g2, sign_bit_ok h]
    · simp only [EV.EvS, reduceIte, Nat.reduceAdd, Nat.reduceSub, Int.reduceAdd, Int.reduceSub, Int.reduceMul, Int.reduceNeg, Int.reducePow, Int.reduceLT, Int.reduceLE, Int.reduceGT, Int.reduceGE, Int.reduceEq, Int.reduceNe, Int.reduceDiv, Int.reduceMod, Int.reduceToNat, String.reduceEq, String.reduceBEq, Nat.reduceLeDiff, Int.cast_ofNat_Int, Int.natCast_one, Int.natCast_zero, List.cons_append, List.nil_append, ne_eq, rank_ok h hb hn, endless_ok h, end_is h, g, g2, sign_bit_ok h]
theorem parted_out {E F b : Int} (h : Sz E F) (hb : b < 0 ∨ pw (E + F + 1) ≤ b) : p_parted [.tup [.int E, .int F], .int b] = .ex "NoBits" := by
  obtain ⟨k1, k2, k3, k4⟩ := id h
  have o : or_ (bin oLt (var 1) (con (.int 0))) (bin oGe (var 1) (bin oShl (con (.int 1)) (call p_width [var 0]))) [some (.tup [.int E, .int F]), some (.int b), none, none] = .ok (.bl true) := by
    by_cases g : b < 0
    · simp only [EV.EvS, reduceIte, Nat.reduceAdd, Nat.reduceSub, Int.reduceAdd, Int.reduceSub, Int.reduceMul, Int.reduceNeg, Int.reducePow, Int.reduceLT, Int.reduceLE, Int.reduceGT, Int.reduceGE, Int.reduceEq, Int.reduceNe, Int.reduceDiv, Int.reduceMod, Int.reduceToNat, String.reduceEq, String.reduceBEq, Nat.reduceLeDiff, Int.cast_ofNat_Int, Int.natCast_one, Int.natCast_zero, List.cons_append, List.nil_append, ne_eq, g]
    · have : pw (E + F + 1) ≤ b := hb.resolve_left g
      simp only [EV.EvS, reduceIte, Nat.reduceAdd, Nat.reduceSub, Int.reduceAdd, Int.reduceSub, Int.reduceMul, Int.reduceNeg, Int.reducePow, Int.reduceLT, Int.reduceLE, Int.reduceGT, Int.reduceGE, Int.reduceEq, Int.reduceNe, Int.reduceDiv, Int.reduceMod, Int.reduceToNat, String.reduceEq, String.reduceBEq, Nat.reduceLeDiff, Int.cast_ofNat_Int, Int.natCast_one, Int.natCast_zero, List.cons_append, List.nil_append, ne_eq, g, width_ok, shl1 (k := E + F + 1) (by omega) (by omega), this]
  unfold p_parted g_parted
  generalize or_ (bin oLt (var 1) (con (.int 0))) (bin oGe (var 1) (bin oShl (con (.int 1)) (call p_width [var 0]))) = A at *
  simp only [EV.EvS, reduceIte, Nat.reduceAdd, Nat.reduceSub, Int.reduceAdd, Int.reduceSub, Int.reduceMul, Int.reduceNeg, Int.reducePow, Int.reduceLT, Int.reduceLE, Int.reduceGT, Int.reduceGE, Int.reduceEq, Int.reduceNe, Int.reduceDiv, Int.reduceMod, Int.reduceToNat, String.reduceEq, String.reduceBEq, Nat.reduceLeDiff, Int.cast_ofNat_Int, Int.natCast_one, Int.natCast_zero, List.cons_append, List.nil_append, ne_eq, o]
theorem joined_out {E F s f g : Int} (h : Sz E F) (hh : (s < 0 ∨ 1 < s) ∨ (f < 0 ∨ pw E ≤ f) ∨ (g < 0 ∨ pw F ≤ g)) : p_joined [.tup [.int E, .int F], .int s, .int f, .int g] = .ex "NoParts" := by
  obtain ⟨k1, k2, k3, k4⟩ := id h
  have e := last_field_ok h
  have s4 := shl1 (k := F) (by omega) (by omega)
  unfold p_joined g_joined
  by_cases g1 : s < 0 ∨ 1 < s
  · simp only [EV.EvS, reduceIte, Nat.reduceAdd, Nat.reduceSub, Int.reduceAdd, Int.reduceSub, Int.reduceMul, Int.reduceNeg, Int.reducePow, Int.reduceLT, Int.reduceLE, Int.reduceGT, Int.reduceGE, Int.reduceEq, Int.reduceNe, Int.reduceDiv, Int.reduceMod, Int.reduceToNat, String.reduceEq, String.reduceBEq, Nat.reduceLeDiff, Int.cast_ofNat_Int, Int.natCast_one, Int.natCast_zero, List.cons_append, List.nil_append, ne_eq, eq_true g1]
  by_cases g2 : f < 0 ∨ pw E - 1 < f
  · simp only [EV.EvS, reduceIte, Nat.reduceAdd, Nat.reduceSub, Int.reduceAdd, Int.reduceSub, Int.reduceMul, Int.reduceNeg, Int.reducePow, Int.reduceLT, Int.reduceLE, Int.reduceGT, Int.reduceGE, Int.reduceEq, Int.reduceNe, Int.reduceDiv, Int.reduceMod, Int.reduceToNat, String.reduceEq, String.reduceBEq, Nat.reduceLeDiff, Int.cast_ofNat_Int, Int.natCast_one, Int.natCast_zero, List.cons_append, List.nil_append, ne_eq, g1, e, eq_true g2]
  have g3 : g < 0 ∨ pw F ≤ g := by omega
  simp only [EV.EvS, reduceIte, Nat.reduceAdd, Nat.reduceSub, Int.reduceAdd, Int.reduceSub, Int.reduceMul, Int.reduceNeg, Int.reducePow, Int.reduceLT, Int.reduceLE, Int.reduceGT, Int.reduceGE, Int.reduceEq, Int.reduceNe, Int.reduceDiv, Int.reduceMod, Int.reduceToNat, String.reduceEq, String.reduceBEq, Nat.reduceLeDiff, Int.cast_ofNat_Int, Int.natCast_one, Int.natCast_zero, List.cons_append, List.nil_append, ne_eq, g1, e, g2, s4, eq_true g3]
theorem asked_out {E F j b o : Int} (h : Sz E F) (j1 : j ≠ 6 ∧ j ≠ 7 ∨ In E F o) (hb : b < 0 ∨ pw (E + F + 1) ≤ b) : p_law_asked [.int j, .tup [.int E, .int F], .int b, .int o] = .ex "NoBits" := by
  have pa := parted_out h hb
  have ki : p_kind [.tup [.int E, .int F], .int b] = .ex "NoBits" := by
    unfold p_kind g_kind
    simp only [EV.EvS, reduceIte, Nat.reduceAdd, Nat.reduceSub, Int.reduceAdd, Int.reduceSub, Int.reduceMul, Int.reduceNeg, Int.reducePow, Int.reduceLT, Int.reduceLE, Int.reduceGT, Int.reduceGE, Int.reduceEq, Int.reduceNe, Int.reduceDiv, Int.reduceMod, Int.reduceToNat, String.reduceEq, String.reduceBEq, Nat.reduceLeDiff, Int.cast_ofNat_Int, Int.natCast_one, Int.natCast_zero, List.cons_append, List.nil_append, ne_eq, pa]
  have wo : p_worth [.tup [.int E, .int F], .int b] = .ex "NoBits" := by
    unfold p_worth g_worth
    simp only [EV.EvS, reduceIte, Nat.reduceAdd, Nat.reduceSub, Int.reduceAdd, Int.reduceSub, Int.reduceMul, Int.reduceNeg, Int.reducePow, Int.reduceLT, Int.reduceLE, Int.reduceGT, Int.reduceGE, Int.reduceEq, Int.reduceNe, Int.reduceDiv, Int.reduceMod, Int.reduceToNat, String.reduceEq, String.reduceBEq, Nat.reduceLeDiff, Int.cast_ofNat_Int, Int.natCast_one, Int.natCast_zero, List.cons_append, List.nil_append, ne_eq, pa]
  have fr : p_fraction [.tup [.int E, .int F], .int b] = .ex "NoBits" := by
    unfold p_fraction g_fraction
    simp only [EV.EvS, reduceIte, Nat.reduceAdd, Nat.reduceSub, Int.reduceAdd, Int.reduceSub, Int.reduceMul, Int.reduceNeg, Int.reducePow, Int.reduceLT, Int.reduceLE, Int.reduceGT, Int.reduceGE, Int.reduceEq, Int.reduceNe, Int.reduceDiv, Int.reduceMod, Int.reduceToNat, String.reduceEq, String.reduceBEq, Nat.reduceLeDiff, Int.cast_ofNat_Int, Int.natCast_one, Int.natCast_zero, List.cons_append, List.nil_append, ne_eq, wo]
  have ne : p_negated [.tup [.int E, .int F], .int b] = .ex "NoBits" := by
    unfold p_negated g_negated
    simp only [EV.EvS, reduceIte, Nat.reduceAdd, Nat.reduceSub, Int.reduceAdd, Int.reduceSub, Int.reduceMul, Int.reduceNeg, Int.reducePow, Int.reduceLT, Int.reduceLE, Int.reduceGT, Int.reduceGE, Int.reduceEq, Int.reduceNe, Int.reduceDiv, Int.reduceMod, Int.reduceToNat, String.reduceEq, String.reduceBEq, Nat.reduceLeDiff, Int.cast_ofNat_Int, Int.natCast_one, Int.natCast_zero, List.cons_append, List.nil_append, ne_eq, pa]
  have ra : p_rank [.tup [.int E, .int F], .int b] = .ex "NoBits" := by
    unfold p_rank g_rank
    simp only [EV.EvS, reduceIte, Nat.reduceAdd, Nat.reduceSub, Int.reduceAdd, Int.reduceSub, Int.reduceMul, Int.reduceNeg, Int.reducePow, Int.reduceLT, Int.reduceLE, Int.reduceGT, Int.reduceGE, Int.reduceEq, Int.reduceNe, Int.reduceDiv, Int.reduceMod, Int.reduceToNat, String.reduceEq, String.reduceBEq, Nat.reduceLeDiff, Int.cast_ofNat_Int, Int.natCast_one, Int.natCast_zero, List.cons_append, List.nil_append, ne_eq, ki]
  have up : p_above [.tup [.int E, .int F], .int b] = .ex "NoBits" := by
    unfold p_above g_above
    simp only [EV.EvS, reduceIte, Nat.reduceAdd, Nat.reduceSub, Int.reduceAdd, Int.reduceSub, Int.reduceMul, Int.reduceNeg, Int.reducePow, Int.reduceLT, Int.reduceLE, Int.reduceGT, Int.reduceGE, Int.reduceEq, Int.reduceNe, Int.reduceDiv, Int.reduceMod, Int.reduceToNat, String.reduceEq, String.reduceBEq, Nat.reduceLeDiff, Int.cast_ofNat_Int, Int.natCast_one, Int.natCast_zero, List.cons_append, List.nil_append, ne_eq, ra]
  have dn : p_below [.tup [.int E, .int F], .int b] = .ex "NoBits" := by
    unfold p_below g_below
    simp only [EV.EvS, reduceIte, Nat.reduceAdd, Nat.reduceSub, Int.reduceAdd, Int.reduceSub, Int.reduceMul, Int.reduceNeg, Int.reducePow, Int.reduceLT, Int.reduceLE, Int.reduceGT, Int.reduceGE, Int.reduceEq, Int.reduceNe, Int.reduceDiv, Int.reduceMod, Int.reduceToNat, String.reduceEq, String.reduceBEq, Nat.reduceLeDiff, Int.cast_ofNat_Int, Int.natCast_one, Int.natCast_zero, List.cons_append, List.nil_append, ne_eq, ra]
  have c1 : p_compared [.tup [.int E, .int F], .int b, .int o] = .ex "NoBits" := by
    unfold p_compared g_compared
    simp only [EV.EvS, reduceIte, Nat.reduceAdd, Nat.reduceSub, Int.reduceAdd, Int.reduceSub, Int.reduceMul, Int.reduceNeg, Int.reducePow, Int.reduceLT, Int.reduceLE, Int.reduceGT, Int.reduceGE, Int.reduceEq, Int.reduceNe, Int.reduceDiv, Int.reduceMod, Int.reduceToNat, String.reduceEq, String.reduceBEq, Nat.reduceLeDiff, Int.cast_ofNat_Int, Int.natCast_one, Int.natCast_zero, List.cons_append, List.nil_append, ne_eq, ki]
  have c2 : In E F o → p_compared [.tup [.int E, .int F], .int o, .int b] = .ex "NoBits" := fun ho => by
    unfold p_compared g_compared
    simp only [EV.EvS, reduceIte, Nat.reduceAdd, Nat.reduceSub, Int.reduceAdd, Int.reduceSub, Int.reduceMul, Int.reduceNeg, Int.reducePow, Int.reduceLT, Int.reduceLE, Int.reduceGT, Int.reduceGE, Int.reduceEq, Int.reduceNe, Int.reduceDiv, Int.reduceMod, Int.reduceToNat, String.reduceEq, String.reduceBEq, Nat.reduceLeDiff, Int.cast_ofNat_Int, Int.natCast_one, Int.natCast_zero, List.cons_append, List.nil_append, ne_eq, ki, kind_ok h ho]
  unfold p_law_asked g_law_asked
  by_cases g0 : j = 0
  · simp only [EV.EvS, reduceIte, Nat.reduceAdd, Nat.reduceSub, Int.reduceAdd, Int.reduceSub, Int.reduceMul, Int.reduceNeg, Int.reducePow, Int.reduceLT, Int.reduceLE, Int.reduceGT, Int.reduceGE, Int.reduceEq, Int.reduceNe, Int.reduceDiv, Int.reduceMod, Int.reduceToNat, String.reduceEq, String.reduceBEq, Nat.reduceLeDiff, Int.cast_ofNat_Int, Int.natCast_one, Int.natCast_zero, List.cons_append, List.nil_append, ne_eq, eq_true g0, pa]
  by_cases g1 : j = 1
  · simp only [EV.EvS, reduceIte, Nat.reduceAdd, Nat.reduceSub, Int.reduceAdd, Int.reduceSub, Int.reduceMul, Int.reduceNeg, Int.reducePow, Int.reduceLT, Int.reduceLE, Int.reduceGT, Int.reduceGE, Int.reduceEq, Int.reduceNe, Int.reduceDiv, Int.reduceMod, Int.reduceToNat, String.reduceEq, String.reduceBEq, Nat.reduceLeDiff, Int.cast_ofNat_Int, Int.natCast_one, Int.natCast_zero, List.cons_append, List.nil_append, ne_eq, g0, eq_true g1, ki]
  by_cases g2 : j = 2
  · simp only [EV.EvS, reduceIte, Nat.reduceAdd, Nat.reduceSub, Int.reduceAdd, Int.reduceSub, Int.reduceMul, Int.reduceNeg, Int.reducePow, Int.reduceLT, Int.reduceLE, Int.reduceGT, Int.reduceGE, Int.reduceEq, Int.reduceNe, Int.reduceDiv, Int.reduceMod, Int.reduceToNat, String.reduceEq, String.reduceBEq, Nat.reduceLeDiff, Int.cast_ofNat_Int, Int.natCast_one, Int.natCast_zero, List.cons_append, List.nil_append, ne_eq, g0, g1, eq_true g2, wo]
  by_cases g3 : j = 3
  · simp only [EV.EvS, reduceIte, Nat.reduceAdd, Nat.reduceSub, Int.reduceAdd, Int.reduceSub, Int.reduceMul, Int.reduceNeg, Int.reducePow, Int.reduceLT, Int.reduceLE, Int.reduceGT, Int.reduceGE, Int.reduceEq, Int.reduceNe, Int.reduceDiv, Int.reduceMod, Int.reduceToNat, String.reduceEq, String.reduceBEq, Nat.reduceLeDiff, Int.cast_ofNat_Int, Int.natCast_one, Int.natCast_zero, List.cons_append, List.nil_append, ne_eq, g0, g1, g2, eq_true g3, fr]
  by_cases g4 : j = 4
  · simp only [EV.EvS, reduceIte, Nat.reduceAdd, Nat.reduceSub, Int.reduceAdd, Int.reduceSub, Int.reduceMul, Int.reduceNeg, Int.reducePow, Int.reduceLT, Int.reduceLE, Int.reduceGT, Int.reduceGE, Int.reduceEq, Int.reduceNe, Int.reduceDiv, Int.reduceMod, Int.reduceToNat, String.reduceEq, String.reduceBEq, Nat.reduceLeDiff, Int.cast_ofNat_Int, Int.natCast_one, Int.natCast_zero, List.cons_append, List.nil_append, ne_eq, g0, g1, g2, g3, eq_true g4, ne]
  by_cases g5 : j = 5
  · simp only [EV.EvS, reduceIte, Nat.reduceAdd, Nat.reduceSub, Int.reduceAdd, Int.reduceSub, Int.reduceMul, Int.reduceNeg, Int.reducePow, Int.reduceLT, Int.reduceLE, Int.reduceGT, Int.reduceGE, Int.reduceEq, Int.reduceNe, Int.reduceDiv, Int.reduceMod, Int.reduceToNat, String.reduceEq, String.reduceBEq, Nat.reduceLeDiff, Int.cast_ofNat_Int, Int.natCast_one, Int.natCast_zero, List.cons_append, List.nil_append, ne_eq, g0, g1, g2, g3, g4, eq_true g5, ra]
  by_cases g6 : j = 6
  · simp only [EV.EvS, reduceIte, Nat.reduceAdd, Nat.reduceSub, Int.reduceAdd, Int.reduceSub, Int.reduceMul, Int.reduceNeg, Int.reducePow, Int.reduceLT, Int.reduceLE, Int.reduceGT, Int.reduceGE, Int.reduceEq, Int.reduceNe, Int.reduceDiv, Int.reduceMod, Int.reduceToNat, String.reduceEq, String.reduceBEq, Nat.reduceLeDiff, Int.cast_ofNat_Int, Int.natCast_one, Int.natCast_zero, List.cons_append, List.nil_append, ne_eq, g0, g1, g2, g3, g4, g5, eq_true g6, c1]
  by_cases g7 : j = 7
  · have := c2 (j1.resolve_left fun z => z.2 g7)
    simp only [EV.EvS, reduceIte, Nat.reduceAdd, Nat.reduceSub, Int.reduceAdd, Int.reduceSub, Int.reduceMul, Int.reduceNeg, Int.reducePow, Int.reduceLT, Int.reduceLE, Int.reduceGT, Int.reduceGE, Int.reduceEq, Int.reduceNe, Int.reduceDiv, Int.reduceMod, Int.reduceToNat, String.reduceEq, String.reduceBEq, Nat.reduceLeDiff, Int.cast_ofNat_Int, Int.natCast_one, Int.natCast_zero, List.cons_append, List.nil_append, ne_eq, g0, g1, g2, g3, g4, g5, g6, eq_true g7, this]
  by_cases g8 : j = 8
  · simp only [EV.EvS, reduceIte, Nat.reduceAdd, Nat.reduceSub, Int.reduceAdd, Int.reduceSub, Int.reduceMul, Int.reduceNeg, Int.reducePow, Int.reduceLT, Int.reduceLE, Int.reduceGT, Int.reduceGE, Int.reduceEq, Int.reduceNe, Int.reduceDiv, Int.reduceMod, Int.reduceToNat, String.reduceEq, String.reduceBEq, Nat.reduceLeDiff, Int.cast_ofNat_Int, Int.natCast_one, Int.natCast_zero, List.cons_append, List.nil_append, ne_eq, g0, g1, g2, g3, g4, g5, g6, g7, eq_true g8, up]
  · simp only [EV.EvS, reduceIte, Nat.reduceAdd, Nat.reduceSub, Int.reduceAdd, Int.reduceSub, Int.reduceMul, Int.reduceNeg, Int.reducePow, Int.reduceLT, Int.reduceLE, Int.reduceGT, Int.reduceGE, Int.reduceEq, Int.reduceNe, Int.reduceDiv, Int.reduceMod, Int.reduceToNat, String.reduceEq, String.reduceBEq, Nat.reduceLeDiff, Int.cast_ofNat_Int, Int.natCast_one, Int.natCast_zero, List.cons_append, List.nil_append, ne_eq, g0, g1, g2, g3, g4, g5, g6, g7, g8, dn]
theorem asked_fin {E F j b o : Int} (h : Sz E F) (hb : In E F b) (hj : j = 2 ∨ j = 3) (hf : fld E F b = pw E - 1) : p_law_asked [.int j, .tup [.int E, .int F], .int b, .int o] = .ex "NotFinite" := by
  have wo : p_worth [.tup [.int E, .int F], .int b] = .ex "NotFinite" := by
    unfold p_worth g_worth
    simp only [EV.EvS, reduceIte, Nat.reduceAdd, Nat.reduceSub, Int.reduceAdd, Int.reduceSub, Int.reduceMul, Int.reduceNeg, Int.reducePow, Int.reduceLT, Int.reduceLE, Int.reduceGT, Int.reduceGE, Int.reduceEq, Int.reduceNe, Int.reduceDiv, Int.reduceMod, Int.reduceToNat, String.reduceEq, String.reduceBEq, Nat.reduceLeDiff, Int.cast_ofNat_Int, Int.natCast_one, Int.natCast_zero, List.cons_append, List.nil_append, ne_eq, parted_ok h hb, last_field_ok h, eq_true hf]
  have fr : p_fraction [.tup [.int E, .int F], .int b] = .ex "NotFinite" := by
    unfold p_fraction g_fraction
    simp only [EV.EvS, reduceIte, Nat.reduceAdd, Nat.reduceSub, Int.reduceAdd, Int.reduceSub, Int.reduceMul, Int.reduceNeg, Int.reducePow, Int.reduceLT, Int.reduceLE, Int.reduceGT, Int.reduceGE, Int.reduceEq, Int.reduceNe, Int.reduceDiv, Int.reduceMod, Int.reduceToNat, String.reduceEq, String.reduceBEq, Nat.reduceLeDiff, Int.cast_ofNat_Int, Int.natCast_one, Int.natCast_zero, List.cons_append, List.nil_append, ne_eq, wo]
  unfold p_law_asked g_law_asked
  rcases hj with g | g <;> subst g
  · simp only [EV.EvS, reduceIte, Nat.reduceAdd, Nat.reduceSub, Int.reduceAdd, Int.reduceSub, Int.reduceMul, Int.reduceNeg, Int.reducePow, Int.reduceLT, Int.reduceLE, Int.reduceGT, Int.reduceGE, Int.reduceEq, Int.reduceNe, Int.reduceDiv, Int.reduceMod, Int.reduceToNat, String.reduceEq, String.reduceBEq, Nat.reduceLeDiff, Int.cast_ofNat_Int, Int.natCast_one, Int.natCast_zero, List.cons_append, List.nil_append, ne_eq, wo]
  · simp only [EV.EvS, reduceIte, Nat.reduceAdd, Nat.reduceSub, Int.reduceAdd, Int.reduceSub, Int.reduceMul, Int.reduceNeg, Int.reducePow, Int.reduceLT, Int.reduceLE, Int.reduceGT, Int.reduceGE, Int.reduceEq, Int.reduceNe, Int.reduceDiv, Int.reduceMod, Int.reduceToNat, String.reduceEq, String.reduceBEq, Nat.reduceLeDiff, Int.cast_ofNat_Int, Int.natCast_one, Int.natCast_zero, List.cons_append, List.nil_append, ne_eq, fr]
theorem asked_rank {E F j b o : Int} (h : Sz E F) (hb : In E F b) (hj : j = 5 ∨ j = 8 ∨ j = 9) (hn : nn E F b) : p_law_asked [.int j, .tup [.int E, .int F], .int b, .int o] = .ex "NoRank" := by
  have ra : p_rank [.tup [.int E, .int F], .int b] = .ex "NoRank" := by
    unfold p_rank g_rank
    simp only [EV.EvS, reduceIte, Nat.reduceAdd, Nat.reduceSub, Int.reduceAdd, Int.reduceSub, Int.reduceMul, Int.reduceNeg, Int.reducePow, Int.reduceLT, Int.reduceLE, Int.reduceGT, Int.reduceGE, Int.reduceEq, Int.reduceNe, Int.reduceDiv, Int.reduceMod, Int.reduceToNat, String.reduceEq, String.reduceBEq, Nat.reduceLeDiff, Int.cast_ofNat_Int, Int.natCast_one, Int.natCast_zero, List.cons_append, List.nil_append, ne_eq, kind_ok h hb, eq_true ((kind_none h).mpr hn)]
  have up : p_above [.tup [.int E, .int F], .int b] = .ex "NoRank" := by
    unfold p_above g_above
    simp only [EV.EvS, reduceIte, Nat.reduceAdd, Nat.reduceSub, Int.reduceAdd, Int.reduceSub, Int.reduceMul, Int.reduceNeg, Int.reducePow, Int.reduceLT, Int.reduceLE, Int.reduceGT, Int.reduceGE, Int.reduceEq, Int.reduceNe, Int.reduceDiv, Int.reduceMod, Int.reduceToNat, String.reduceEq, String.reduceBEq, Nat.reduceLeDiff, Int.cast_ofNat_Int, Int.natCast_one, Int.natCast_zero, List.cons_append, List.nil_append, ne_eq, ra]
  have dn : p_below [.tup [.int E, .int F], .int b] = .ex "NoRank" := by
    unfold p_below g_below
    simp only [EV.EvS, reduceIte, Nat.reduceAdd, Nat.reduceSub, Int.reduceAdd, Int.reduceSub, Int.reduceMul, Int.reduceNeg, Int.reducePow, Int.reduceLT, Int.reduceLE, Int.reduceGT, Int.reduceGE, Int.reduceEq, Int.reduceNe, Int.reduceDiv, Int.reduceMod, Int.reduceToNat, String.reduceEq, String.reduceBEq, Nat.reduceLeDiff, Int.cast_ofNat_Int, Int.natCast_one, Int.natCast_zero, List.cons_append, List.nil_append, ne_eq, ra]
  unfold p_law_asked g_law_asked
  rcases hj with g | g | g <;> subst g
  · simp only [EV.EvS, reduceIte, Nat.reduceAdd, Nat.reduceSub, Int.reduceAdd, Int.reduceSub, Int.reduceMul, Int.reduceNeg, Int.reducePow, Int.reduceLT, Int.reduceLE, Int.reduceGT, Int.reduceGE, Int.reduceEq, Int.reduceNe, Int.reduceDiv, Int.reduceMod, Int.reduceToNat, String.reduceEq, String.reduceBEq, Nat.reduceLeDiff, Int.cast_ofNat_Int, Int.natCast_one, Int.natCast_zero, List.cons_append, List.nil_append, ne_eq, ra]
  · simp only [EV.EvS, reduceIte, Nat.reduceAdd, Nat.reduceSub, Int.reduceAdd, Int.reduceSub, Int.reduceMul, Int.reduceNeg, Int.reducePow, Int.reduceLT, Int.reduceLE, Int.reduceGT, Int.reduceGE, Int.reduceEq, Int.reduceNe, Int.reduceDiv, Int.reduceMod, Int.reduceToNat, String.reduceEq, String.reduceBEq, Nat.reduceLeDiff, Int.cast_ofNat_Int, Int.natCast_one, Int.natCast_zero, List.cons_append, List.nil_append, ne_eq, up]
  · simp only [EV.EvS, reduceIte, Nat.reduceAdd, Nat.reduceSub, Int.reduceAdd, Int.reduceSub, Int.reduceMul, Int.reduceNeg, Int.reducePow, Int.reduceLT, Int.reduceLE, Int.reduceGT, Int.reduceGE, Int.reduceEq, Int.reduceNe, Int.reduceDiv, Int.reduceMod, Int.reduceToNat, String.reduceEq, String.reduceBEq, Nat.reduceLeDiff, Int.cast_ofNat_Int, Int.natCast_one, Int.natCast_zero, List.cons_append, List.nil_append, ne_eq, dn]
theorem asked_fine {E F j b o : Int} (h : Sz E F) (hb : In E F b) (ho : In E F o) (hj : 0 ≤ j ∧ j < 10) (h1 : j = 2 ∨ j = 3 → ¬ fld E F b = pw E - 1) (h2 : j = 5 ∨ j = 8 ∨ j = 9 → ¬ nn E F b) : ∃ d, p_law_asked [.int j, .tup [.int E, .int F], .int b, .int o] = .ok d := by
  unfold p_law_asked g_law_asked
  rcases (by omega : j = 0 ∨ j = 1 ∨ j = 2 ∨ j = 3 ∨ j = 4 ∨ j = 5 ∨ j = 6 ∨ j = 7 ∨ j = 8 ∨ j = 9) with g | g | g | g | g | g | g | g | g | g <;> subst g
  · exact ⟨.tup [.int (sgn E F b), .int (fld E F b), .int (fig F b)], by simp only [EV.EvS, reduceIte, Nat.reduceAdd, Nat.reduceSub, Int.reduceAdd, Int.reduceSub, Int.reduceMul, Int.reduceNeg, Int.reducePow, Int.reduceLT, Int.reduceLE, Int.reduceGT, Int.reduceGE, Int.reduceEq, Int.reduceNe, Int.reduceDiv, Int.reduceMod, Int.reduceToNat, String.reduceEq, String.reduceBEq, Nat.reduceLeDiff, Int.cast_ofNat_Int, Int.natCast_one, Int.natCast_zero, List.cons_append, List.nil_append, ne_eq, parted_ok h hb]⟩
  · exact ⟨.str (kindS E (fld E F b) (fig F b)), by simp only [EV.EvS, reduceIte, Nat.reduceAdd, Nat.reduceSub, Int.reduceAdd, Int.reduceSub, Int.reduceMul, Int.reduceNeg, Int.reducePow, Int.reduceLT, Int.reduceLE, Int.reduceGT, Int.reduceGE, Int.reduceEq, Int.reduceNe, Int.reduceDiv, Int.reduceMod, Int.reduceToNat, String.reduceEq, String.reduceBEq, Nat.reduceLeDiff, Int.cast_ofNat_Int, Int.natCast_one, Int.natCast_zero, List.cons_append, List.nil_append, ne_eq, kind_ok h hb]⟩
  · exact ⟨.tup [.int (sgn E F b), .int (wh F (fld E F b) (fig F b)), .int (po E F (fld E F b))], by simp only [EV.EvS, reduceIte, Nat.reduceAdd, Nat.reduceSub, Int.reduceAdd, Int.reduceSub, Int.reduceMul, Int.reduceNeg, Int.reducePow, Int.reduceLT, Int.reduceLE, Int.reduceGT, Int.reduceGE, Int.reduceEq, Int.reduceNe, Int.reduceDiv, Int.reduceMod, Int.reduceToNat, String.reduceEq, String.reduceBEq, Nat.reduceLeDiff, Int.cast_ofNat_Int, Int.natCast_one, Int.natCast_zero, List.cons_append, List.nil_append, ne_eq, worth_ok h hb (h1 (.inl rfl))]⟩
  · exact ⟨.tup [.int (sgn E F b), .int (frT (wh F (fld E F b) (fig F b)) (po E F (fld E F b))), .int (frB (po E F (fld E F b)))], by simp only [EV.EvS, reduceIte, Nat.reduceAdd, Nat.reduceSub, Int.reduceAdd, Int.reduceSub, Int.reduceMul, Int.reduceNeg, Int.reducePow, Int.reduceLT, Int.reduceLE, Int.reduceGT, Int.reduceGE, Int.reduceEq, Int.reduceNe, Int.reduceDiv, Int.reduceMod, Int.reduceToNat, String.reduceEq, String.reduceBEq, Nat.reduceLeDiff, Int.cast_ofNat_Int, Int.natCast_one, Int.natCast_zero, List.cons_append, List.nil_append, ne_eq, fraction_ok h hb (h1 (.inr rfl))]⟩
  · exact ⟨.int (ng E F b), by simp only [EV.EvS, reduceIte, Nat.reduceAdd, Nat.reduceSub, Int.reduceAdd, Int.reduceSub, Int.reduceMul, Int.reduceNeg, Int.reducePow, Int.reduceLT, Int.reduceLE, Int.reduceGT, Int.reduceGE, Int.reduceEq, Int.reduceNe, Int.reduceDiv, Int.reduceMod, Int.reduceToNat, String.reduceEq, String.reduceBEq, Nat.reduceLeDiff, Int.cast_ofNat_Int, Int.natCast_one, Int.natCast_zero, List.cons_append, List.nil_append, ne_eq, negated_ok h hb]⟩
  · exact ⟨.int (rk E F b), by simp only [EV.EvS, reduceIte, Nat.reduceAdd, Nat.reduceSub, Int.reduceAdd, Int.reduceSub, Int.reduceMul, Int.reduceNeg, Int.reducePow, Int.reduceLT, Int.reduceLE, Int.reduceGT, Int.reduceGE, Int.reduceEq, Int.reduceNe, Int.reduceDiv, Int.reduceMod, Int.reduceToNat, String.reduceEq, String.reduceBEq, Nat.reduceLeDiff, Int.cast_ofNat_Int, Int.natCast_one, Int.natCast_zero, List.cons_append, List.nil_append, ne_eq, rank_ok h hb (h2 (.inl rfl))]⟩
  · exact ⟨.str (cmpB E F b o), by simp only [EV.EvS, reduceIte, Nat.reduceAdd, Nat.reduceSub, Int.reduceAdd, Int.reduceSub, Int.reduceMul, Int.reduceNeg, Int.reducePow, Int.reduceLT, Int.reduceLE, Int.reduceGT, Int.reduceGE, Int.reduceEq, Int.reduceNe, Int.reduceDiv, Int.reduceMod, Int.reduceToNat, String.reduceEq, String.reduceBEq, Nat.reduceLeDiff, Int.cast_ofNat_Int, Int.natCast_one, Int.natCast_zero, List.cons_append, List.nil_append, ne_eq, compared_ok h hb ho]⟩
  · exact ⟨.str (cmpB E F o b), by simp only [EV.EvS, reduceIte, Nat.reduceAdd, Nat.reduceSub, Int.reduceAdd, Int.reduceSub, Int.reduceMul, Int.reduceNeg, Int.reducePow, Int.reduceLT, Int.reduceLE, Int.reduceGT, Int.reduceGE, Int.reduceEq, Int.reduceNe, Int.reduceDiv, Int.reduceMod, Int.reduceToNat, String.reduceEq, String.reduceBEq, Nat.reduceLeDiff, Int.cast_ofNat_Int, Int.natCast_one, Int.natCast_zero, List.cons_append, List.nil_append, ne_eq, compared_ok h ho hb]⟩
  · exact ⟨.int (ab E F b), by simp only [EV.EvS, reduceIte, Nat.reduceAdd, Nat.reduceSub, Int.reduceAdd, Int.reduceSub, Int.reduceMul, Int.reduceNeg, Int.reducePow, Int.reduceLT, Int.reduceLE, Int.reduceGT, Int.reduceGE, Int.reduceEq, Int.reduceNe, Int.reduceDiv, Int.reduceMod, Int.reduceToNat, String.reduceEq, String.reduceBEq, Nat.reduceLeDiff, Int.cast_ofNat_Int, Int.natCast_one, Int.natCast_zero, List.cons_append, List.nil_append, ne_eq, above_ok h hb (h2 (.inr (.inl rfl)))]⟩
  · exact ⟨.int (be E F b), by simp only [EV.EvS, reduceIte, Nat.reduceAdd, Nat.reduceSub, Int.reduceAdd, Int.reduceSub, Int.reduceMul, Int.reduceNeg, Int.reducePow, Int.reduceLT, Int.reduceLE, Int.reduceGT, Int.reduceGE, Int.reduceEq, Int.reduceNe, Int.reduceDiv, Int.reduceMod, Int.reduceToNat, String.reduceEq, String.reduceBEq, Nat.reduceLeDiff, Int.cast_ofNat_Int, Int.natCast_one, Int.natCast_zero, List.cons_append, List.nil_append, ne_eq, below_ok h hb (h2 (.inr (.inr rfl)))]⟩
theorem due_ok {E F j b : Int} (h : Sz E F) : p_law_due [.int j, .tup [.int E, .int F], .int b] = .ok (.str (if b < 0 ∨ pw (E + F + 1) ≤ b then PySem.Str.ofString "bits" else if (j = 2 ∨ j = 3) ∧ pw (E + F) - pw F ≤ b % pw (E + F) then PySem.Str.ofString "finite" else if (j = 5 ∨ 8 ≤ j) ∧ pw (E + F) - pw F < b % pw (E + F) then PySem.Str.ofString "rank" else PySem.Str.ofString "")) := by
  obtain ⟨k1, k2, k3, k4⟩ := id h
  have eW := wide_is h
  have s1 := shl1 (k := E + F) (by omega) (by omega)
  have s4 := shl1 (k := F) (by omega) (by omega)
  have n1 : nb (pw (E + F)) ≤ 128 := nb_pw (c := 127) (by omega)
  have m2 : MulOk 2 (pw (E + F)) := by walk_at "mul"
  unfold p_law_due g_law_due
  by_cases g1 : b < 0 ∨ 2 * pw (E + F) ≤ b
  · rw [if_pos (by rw [eW]; exact g1)]
    simp only [EV.EvS, reduceIte, Nat.reduceAdd, Nat.reduceSub, Int.reduceAdd, Int.reduceSub, Int.reduceMul, Int.reduceNeg, Int.reducePow, Int.reduceLT, Int.reduceLE, Int.reduceGT, Int.reduceGE, Int.reduceEq, Int.reduceNe, Int.reduceDiv, Int.reduceMod, Int.reduceToNat, String.reduceEq, String.reduceBEq, Nat.reduceLeDiff, Int.cast_ofNat_Int, Int.natCast_one, Int.natCast_zero, List.cons_append, List.nil_append, ne_eq, s1, oMul_ok m2, eq_true g1]
  rw [if_neg (by rw [eW]; exact g1)]
  by_cases g2 : (j = 2 ∨ j = 3) ∧ pw (E + F) - pw F ≤ b % pw (E + F)
  · rw [if_pos g2]
    simp only [EV.EvS, reduceIte, Nat.reduceAdd, Nat.reduceSub, Int.reduceAdd, Int.reduceSub, Int.reduceMul, Int.reduceNeg, Int.reducePow, Int.reduceLT, Int.reduceLE, Int.reduceGT, Int.reduceGE, Int.reduceEq, Int.reduceNe, Int.reduceDiv, Int.reduceMod, Int.reduceToNat, String.reduceEq, String.reduceBEq, Nat.reduceLeDiff, Int.cast_ofNat_Int, Int.natCast_one, Int.natCast_zero, List.cons_append, List.nil_append, ne_eq, s1, s4, oMul_ok m2, g1, pw_pos, eq_true g2, eq_true g2.1, eq_true g2.2]
  rw [if_neg g2]
  by_cases g3 : (j = 5 ∨ 8 ≤ j) ∧ pw (E + F) - pw F < b % pw (E + F)
  · rw [if_pos g3]
    simp only [EV.EvS, reduceIte, Nat.reduceAdd, Nat.reduceSub, Int.reduceAdd, Int.reduceSub, Int.reduceMul, Int.reduceNeg, Int.reducePow, Int.reduceLT, Int.reduceLE, Int.reduceGT, Int.reduceGE, Int.reduceEq, Int.reduceNe, Int.reduceDiv, Int.reduceMod, Int.reduceToNat, String.reduceEq, String.reduceBEq, Nat.reduceLeDiff, Int.cast_ofNat_Int, Int.natCast_one, Int.natCast_zero, List.cons_append, List.nil_append, ne_eq, s1, s4, oMul_ok m2, g1, pw_pos, g2, eq_true g3, eq_true g3.1, eq_true g3.2]
  rw [if_neg g3]
  simp only [EV.EvS, reduceIte, Nat.reduceAdd, Nat.reduceSub, Int.reduceAdd, Int.reduceSub, Int.reduceMul, Int.reduceNeg, Int.reducePow, Int.reduceLT, Int.reduceLE, Int.reduceGT, Int.reduceGE, Int.reduceEq, Int.reduceNe, Int.reduceDiv, Int.reduceMod, Int.reduceToNat, String.reduceEq, String.reduceBEq, Nat.reduceLeDiff, Int.cast_ofNat_Int, Int.natCast_one, Int.natCast_zero, List.cons_append, List.nil_append, ne_eq, s1, s4, oMul_ok m2, g1, pw_pos, g2, g3]
theorem word_non : p_law_word [.non] = .ok (.str (PySem.Str.ofString "")) := by
  unfold p_law_word g_law_word
  simp only [EV.EvS, reduceIte, Nat.reduceAdd, Nat.reduceSub, Int.reduceAdd, Int.reduceSub, Int.reduceMul, Int.reduceNeg, Int.reducePow, Int.reduceLT, Int.reduceLE, Int.reduceGT, Int.reduceGE, Int.reduceEq, Int.reduceNe, Int.reduceDiv, Int.reduceMod, Int.reduceToNat, String.reduceEq, String.reduceBEq, Nat.reduceLeDiff, Int.cast_ofNat_Int, Int.natCast_one, Int.natCast_zero, List.cons_append, List.nil_append, ne_eq]
theorem out_ok {m c : Int} (hm : 0 ≤ m) : ∃ x, p_law_out [.int m, .int c] = .ok (.int x) ∧ (x < 0 ∨ m ≤ x) := by
  have s60 : oPow (.int 10) (.int 60) = .ok (.int 1000000000000000000000000000000000000000000000000000000000000) := by rw [oPow_ok (by decide) (by decide)]; rfl
  obtain ⟨x, ex, hx⟩ : ∃ x, oIx (.lst [.int (-1), .int m, .int (-1 - c / 4 % 1000000000000000000000000000000000000000000000000000000000000), .int (m + c / 4 % 1000000000000000000000000000000000000000000000000000000000000)]) (.int (c % 4)) = .ok (.int x) ∧ (x < 0 ∨ m ≤ x) := by
    rcases (by omega : c % 4 = 0 ∨ c % 4 = 1 ∨ c % 4 = 2 ∨ c % 4 = 3) with e | e | e | e <;> rw [e] <;> exact ⟨_, rfl, by omega⟩
  unfold p_law_out g_law_out
  exact ⟨x, by simp only [EV.EvS, reduceIte, Nat.reduceAdd, Nat.reduceSub, Int.reduceAdd, Int.reduceSub, Int.reduceMul, Int.reduceNeg, Int.reducePow, Int.reduceLT, Int.reduceLE, Int.reduceGT, Int.reduceGE, Int.reduceEq, Int.reduceNe, Int.reduceDiv, Int.reduceMod, Int.reduceToNat, String.reduceEq, String.reduceBEq, Nat.reduceLeDiff, Int.cast_ofNat_Int, Int.natCast_one, Int.natCast_zero, List.cons_append, List.nil_append, ne_eq, s60, ex], hx⟩
theorem word_exc {C : String} {a : String} (hC : (C = "NoBits" ∧ a = "bits") ∨ (C = "NotFinite" ∧ a = "finite") ∨ (C = "NoRank" ∧ a = "rank") ∨ (C = "NoParts" ∧ a = "parts")) : p_law_word [.exc C] = .ok (.str (PySem.Str.ofString a)) := by
  have al : p_law_alone [.exc C] = .ok (.bl true) := by
    unfold p_law_alone g_law_alone
    rcases hC with ⟨g, _⟩ | ⟨g, _⟩ | ⟨g, _⟩ | ⟨g, _⟩ <;> subst g <;> rfl
  unfold p_law_word g_law_word
  rcases hC with ⟨g, g'⟩ | ⟨g, g'⟩ | ⟨g, g'⟩ | ⟨g, g'⟩ <;> subst g g' <;> simp only [EV.EvS, reduceIte, Nat.reduceAdd, Nat.reduceSub, Int.reduceAdd, Int.reduceSub, Int.reduceMul, Int.reduceNeg, Int.reducePow, Int.reduceLT, Int.reduceLE, Int.reduceGT, Int.reduceGE, Int.reduceEq, Int.reduceNe, Int.reduceDiv, Int.reduceMod, Int.reduceToNat, String.reduceEq, String.reduceBEq, Nat.reduceLeDiff, Int.cast_ofNat_Int, Int.natCast_one, Int.natCast_zero, List.cons_append, List.nil_append, ne_eq, al]
theorem holds_j {E F c : Int} (h : Sz E F) (hc : nb c ≤ 2 ^ 20) (hj : c % 11 ≠ 10) : p_law_holds [.tup [.int E, .int F], .int c] = .ok (.bl true) := by
  obtain ⟨k1, k2, k3, k4⟩ := id h
  have c11 : nb (c / 11) ≤ 2 ^ 20 := nb_div (by decide) hc
  have c22 : nb (c / 11 / 2) ≤ 2 ^ 20 := nb_div (by decide) c11
  have c77 : nb (c / 11 / 7) ≤ 2 ^ 20 := nb_div (by decide) c11
  have nb2 : nb (2 : Int) = 2 := by decide
  have s6 : oShl (.int 2) (.int (E + F)) = .ok (.int (2 * pw (E + F))) := oShl_ok (by omega) (by omega)
  have hp := pw_pos (E + F)
  have ob := bits_by_ok h c77
  have ho : In E F (bitsBy E F (c / 11 / 7)) := bits_ok _ h
  generalize bitsBy E F (c / 11 / 7) = o at *
  have key : ∀ b, ∃ x y, (x = .non ∨ ∃ C, x = .exc C) ∧ try_ (expr (call p_law_asked [bin oMod (var 1) (con (.int 11)), var 0, var 3, call p_law_bits_by [var 0, bin oDiv (var 2) (con (.int 7))]])) "MillError" 5 (assign 4 (var 5)) [some (.tup [.int E, .int F]), some (.int c), some (.int (c / 11)), some (.int b), some .non, none] = .nx [some (.tup [.int E, .int F]), some (.int c), some (.int (c / 11)), some (.int b), some x, y] ∧ ∃ a, p_law_word [x] = .ok (.str a) ∧ p_law_due [.int (c % 11), .tup [.int E, .int F], .int b] = .ok (.str a) := fun b => by
    have du := due_ok (j := c % 11) (b := b) h
    by_cases g1 : b < 0 ∨ pw (E + F + 1) ≤ b
    · rw [if_pos g1] at du
      exact ⟨.exc "NoBits", none, .inr ⟨_, rfl⟩, by simp only [EV.EvS, reduceIte, Nat.reduceAdd, Nat.reduceSub, Int.reduceAdd, Int.reduceSub, Int.reduceMul, Int.reduceNeg, Int.reducePow, Int.reduceLT, Int.reduceLE, Int.reduceGT, Int.reduceGE, Int.reduceEq, Int.reduceNe, Int.reduceDiv, Int.reduceMod, Int.reduceToNat, String.reduceEq, String.reduceBEq, Nat.reduceLeDiff, Int.cast_ofNat_Int, Int.natCast_one, Int.natCast_zero, List.cons_append, List.nil_append, ne_eq, ob, asked_out h (.inr ho) g1], _, word_exc (.inl ⟨rfl, rfl⟩), du⟩
    rw [if_neg g1] at du
    have hb : In E F b := by unfold In; omega
    have ff : fld E F b = pw E - 1 ↔ pw (E + F) - pw F ≤ b % pw (E + F) := by
      rw [← cd_div h]
      exact last_iff h cd_in.1 cd_in.2
    by_cases g2 : (c % 11 = 2 ∨ c % 11 = 3) ∧ pw (E + F) - pw F ≤ b % pw (E + F)
    · rw [if_pos g2] at du
      exact ⟨.exc "NotFinite", none, .inr ⟨_, rfl⟩, by simp only [EV.EvS, reduceIte, Nat.reduceAdd, Nat.reduceSub, Int.reduceAdd, Int.reduceSub, Int.reduceMul, Int.reduceNeg, Int.reducePow, Int.reduceLT, Int.reduceLE, Int.reduceGT, Int.reduceGE, Int.reduceEq, Int.reduceNe, Int.reduceDiv, Int.reduceMod, Int.reduceToNat, String.reduceEq, String.reduceBEq, Nat.reduceLeDiff, Int.cast_ofNat_Int, Int.natCast_one, Int.natCast_zero, List.cons_append, List.nil_append, ne_eq, ob, asked_fin h hb g2.1 (ff.mpr g2.2)], _, word_exc (.inr (.inl ⟨rfl, rfl⟩)), du⟩
    rw [if_neg g2] at du
    by_cases g3 : (c % 11 = 5 ∨ 8 ≤ c % 11) ∧ pw (E + F) - pw F < b % pw (E + F)
    · rw [if_pos g3] at du
      have g3' : c % 11 = 5 ∨ c % 11 = 8 ∨ c % 11 = 9 := by have := g3.1; omega
      exact ⟨.exc "NoRank", none, .inr ⟨_, rfl⟩, by simp only [EV.EvS, reduceIte, Nat.reduceAdd, Nat.reduceSub, Int.reduceAdd, Int.reduceSub, Int.reduceMul, Int.reduceNeg, Int.reducePow, Int.reduceLT, Int.reduceLE, Int.reduceGT, Int.reduceGE, Int.reduceEq, Int.reduceNe, Int.reduceDiv, Int.reduceMod, Int.reduceToNat, String.reduceEq, String.reduceBEq, Nat.reduceLeDiff, Int.cast_ofNat_Int, Int.natCast_one, Int.natCast_zero, List.cons_append, List.nil_append, ne_eq, ob, asked_rank h hb g3' (show nn E F b from g3.2)], _, word_exc (.inr (.inr (.inl ⟨rfl, rfl⟩))), du⟩
    rw [if_neg g3] at du
    obtain ⟨d, ed⟩ := asked_fine (j := c % 11) h hb ho (by omega) (fun z y => g2 ⟨z, ff.mp y⟩) (fun z y => g3 ⟨by omega, y⟩)
    exact ⟨.non, none, .inl rfl, by simp only [EV.EvS, reduceIte, Nat.reduceAdd, Nat.reduceSub, Int.reduceAdd, Int.reduceSub, Int.reduceMul, Int.reduceNeg, Int.reducePow, Int.reduceLT, Int.reduceLE, Int.reduceGT, Int.reduceGE, Int.reduceEq, Int.reduceNe, Int.reduceDiv, Int.reduceMod, Int.reduceToNat, String.reduceEq, String.reduceBEq, Nat.reduceLeDiff, Int.cast_ofNat_Int, Int.natCast_one, Int.natCast_zero, List.cons_append, List.nil_append, ne_eq, ob, ed], _, word_non, du⟩
  have fin : ∀ a : PySem.Str, oEq (.str a) (.str a) = .ok (.bl true) := fun a => by simp only [EV.EvS, reduceIte, Nat.reduceAdd, Nat.reduceSub, Int.reduceAdd, Int.reduceSub, Int.reduceMul, Int.reduceNeg, Int.reducePow, Int.reduceLT, Int.reduceLE, Int.reduceGT, Int.reduceGE, Int.reduceEq, Int.reduceNe, Int.reduceDiv, Int.reduceMod, Int.reduceToNat, String.reduceEq, String.reduceBEq, Nat.reduceLeDiff, Int.cast_ofNat_Int, Int.natCast_one, Int.natCast_zero, List.cons_append, List.nil_append, ne_eq]
  unfold p_law_holds g_law_holds
  generalize hT : try_ _ _ _ _ = TT at *
  have bb := bits_by_ok h c22
  generalize bitsBy E F (c / 11 / 2) = b at *
  by_cases g : c / 11 % 2 = 1
  · obtain ⟨x, ex, _⟩ := out_ok (m := 2 * pw (E + F)) (c := c / 11 / 2) (by omega)
    obtain ⟨u, y, hu, z1, a, z2, z3⟩ := key x
    rcases hu with hu | ⟨C, hu⟩ <;> subst hu <;> simp only [EV.EvS, reduceIte, Nat.reduceAdd, Nat.reduceSub, Int.reduceAdd, Int.reduceSub, Int.reduceMul, Int.reduceNeg, Int.reducePow, Int.reduceLT, Int.reduceLE, Int.reduceGT, Int.reduceGE, Int.reduceEq, Int.reduceNe, Int.reduceDiv, Int.reduceMod, Int.reduceToNat, String.reduceEq, String.reduceBEq, Nat.reduceLeDiff, Int.cast_ofNat_Int, Int.natCast_one, Int.natCast_zero, List.cons_append, List.nil_append, ne_eq, hj, bb, g, s6, ex, z1, z2, z3]
  · obtain ⟨u, y, hu, z1, a, z2, z3⟩ := key b
    rcases hu with hu | ⟨C, hu⟩ <;> subst hu <;> simp only [EV.EvS, reduceIte, Nat.reduceAdd, Nat.reduceSub, Int.reduceAdd, Int.reduceSub, Int.reduceMul, Int.reduceNeg, Int.reducePow, Int.reduceLT, Int.reduceLE, Int.reduceGT, Int.reduceGE, Int.reduceEq, Int.reduceNe, Int.reduceDiv, Int.reduceMod, Int.reduceToNat, String.reduceEq, String.reduceBEq, Nat.reduceLeDiff, Int.cast_ofNat_Int, Int.natCast_one, Int.natCast_zero, List.cons_append, List.nil_append, ne_eq, hj, bb, g, z1, z2, z3]
theorem parts_ok {E F c : Int} (h : Sz E F) : p_law_parts [.tup [.int E, .int F], .int c] = .ok (.bl true) := by
  obtain ⟨k1, k2, k3, k4⟩ := id h
  have hQ := pw_pos F
  have hP := pw_pos E
  have s3 := shl1 (k := E) (by omega) (by omega)
  have s4 := shl1 (k := F) (by omega) (by omega)
  have a0 := Int.emod_nonneg (c / 8 / 2) (show pw E ≠ 0 by omega)
  have a1 := Int.emod_lt_of_pos (c / 8 / 2) hP
  have b0 := Int.emod_nonneg (c / 8 / 64) (show pw F ≠ 0 by omega)
  have b1 := Int.emod_lt_of_pos (c / 8 / 64) hQ
  obtain ⟨x, ex, hx⟩ := out_ok (m := 2) (c := c / 8 / 1) (by omega)
  obtain ⟨y, ey, hy⟩ := out_ok (m := pw E) (c := c / 8 / 5) (by omega)
  obtain ⟨z, ez, hz⟩ := out_ok (m := pw F) (c := c / 8 / 25) (by omega)
  have r3 : rngD 0 3 = [.int 0, .int 1, .int 2] := rfl
  have fl : ∀ i j k : Int, flatR [.int i, .int j, .int k] = .ok (.lst [.int i, .int j, .int k]) := fun _ _ _ => rfl
  have t0 : ∀ (a b c : D) (x : Int) (δ : Dt), setO 4 δ [a, b, c] (.ok (.int x)) (.ok (.int 0)) = .nx (δ.set 4 (some (.own [.int x, b, c]))) := fun a b c x δ => by unfold setO; simp only; rw [if_pos ⟨rfl, by decide, by simp⟩]; rfl
  have t1 : ∀ (a b c : D) (x : Int) (δ : Dt), setO 4 δ [a, b, c] (.ok (.int x)) (.ok (.int 1)) = .nx (δ.set 4 (some (.own [a, .int x, c]))) := fun a b c x δ => by unfold setO; simp only; rw [if_pos ⟨rfl, by decide, by simp⟩]; rfl
  have t2 : ∀ (a b c : D) (x : Int) (δ : Dt), setO 4 δ [a, b, c] (.ok (.int x)) (.ok (.int 2)) = .nx (δ.set 4 (some (.own [a, b, .int x]))) := fun a b c x δ => by unfold setO; simp only; rw [if_pos ⟨rfl, by decide, by simp⟩]; rfl
  have bad : ∀ s f g : Int, (s < 0 ∨ 1 < s) ∨ (f < 0 ∨ pw E ≤ f) ∨ (g < 0 ∨ pw F ≤ g) → _ := fun s f g hh => joined_out (s := s) (f := f) (g := g) h hh
  have w := word_exc (C := "NoParts") (a := "parts") (.inr (.inr (.inr ⟨rfl, rfl⟩)))
  have wn := word_non
  have p0 : pw 0 = 1 := rfl
  have p1 : pw 1 = 2 := rfl
  have p2 : pw 2 = 4 := rfl
  have q0 := oBand_one (i := c % 8 / pw 0) (by rw [p0]; omega)
  have q1 := oBand_one (i := c % 8 / pw 1) (by rw [p1]; omega)
  have q2 := oBand_one (i := c % 8 / pw 2) (by rw [p2]; omega)
  have hall : c % 8 = 0 ↔ (¬ c % 8 / pw 0 % 2 = 1 ∧ ¬ c % 8 / pw 1 % 2 = 1 ∧ ¬ c % 8 / pw 2 % 2 = 1) := by rw [p0, p1, p2]; omega
  have ea : oEq (.str (PySem.Str.ofString "parts")) (.str (PySem.Str.ofString "parts")) = .ok (.bl true) := rfl
  have eb : oEq (.str (PySem.Str.ofString "")) (.str (PySem.Str.ofString "")) = .ok (.bl true) := rfl
  unfold p_law_parts g_law_parts
  generalize c % 8 / pw 0 % 2 = d0 at *
  generalize c % 8 / pw 1 % 2 = d1 at *
  generalize c % 8 / pw 2 % 2 = d2 at *
  by_cases g0 : d0 = 1 <;> by_cases g1 : d1 = 1 <;> by_cases g2 : d2 = 1
  · simp only [EV.EvS, reduceIte, Nat.reduceAdd, Nat.reduceSub, Int.reduceAdd, Int.reduceSub, Int.reduceMul, Int.reduceNeg, Int.reducePow, Int.reduceLT, Int.reduceLE, Int.reduceGT, Int.reduceGE, Int.reduceEq, Int.reduceNe, Int.reduceDiv, Int.reduceMod, Int.reduceToNat, String.reduceEq, String.reduceBEq, Nat.reduceLeDiff, Int.cast_ofNat_Int, Int.natCast_one, Int.natCast_zero, List.cons_append, List.nil_append, ne_eq, s3, s4, hP, hQ, u_lstF, fl, r3, forL_cons, forL_nil, q0, q1, q2, t0, t1, t2, eq_true g0, eq_true g1, eq_true g2, ex, ey, ez, joined_out (s := x) (f := y) (g := z) h (by omega), w, show ¬ c % 8 = 0 by rw [hall]; omega, ea]
  · simp only [EV.EvS, reduceIte, Nat.reduceAdd, Nat.reduceSub, Int.reduceAdd, Int.reduceSub, Int.reduceMul, Int.reduceNeg, Int.reducePow, Int.reduceLT, Int.reduceLE, Int.reduceGT, Int.reduceGE, Int.reduceEq, Int.reduceNe, Int.reduceDiv, Int.reduceMod, Int.reduceToNat, String.reduceEq, String.reduceBEq, Nat.reduceLeDiff, Int.cast_ofNat_Int, Int.natCast_one, Int.natCast_zero, List.cons_append, List.nil_append, ne_eq, s3, s4, hP, hQ, u_lstF, fl, r3, forL_cons, forL_nil, q0, q1, q2, t0, t1, t2, eq_true g0, eq_true g1, g2, ex, ey, ez, joined_out (s := x) (f := y) (g := c / 8 / 64 % pw F) h (by omega), w, show ¬ c % 8 = 0 by rw [hall]; omega, ea]
  · simp only [EV.EvS, reduceIte, Nat.reduceAdd, Nat.reduceSub, Int.reduceAdd, Int.reduceSub, Int.reduceMul, Int.reduceNeg, Int.reducePow, Int.reduceLT, Int.reduceLE, Int.reduceGT, Int.reduceGE, Int.reduceEq, Int.reduceNe, Int.reduceDiv, Int.reduceMod, Int.reduceToNat, String.reduceEq, String.reduceBEq, Nat.reduceLeDiff, Int.cast_ofNat_Int, Int.natCast_one, Int.natCast_zero, List.cons_append, List.nil_append, ne_eq, s3, s4, hP, hQ, u_lstF, fl, r3, forL_cons, forL_nil, q0, q1, q2, t0, t1, t2, eq_true g0, g1, eq_true g2, ex, ey, ez, joined_out (s := x) (f := c / 8 / 2 % pw E) (g := z) h (by omega), w, show ¬ c % 8 = 0 by rw [hall]; omega, ea]
  · simp only [EV.EvS, reduceIte, Nat.reduceAdd, Nat.reduceSub, Int.reduceAdd, Int.reduceSub, Int.reduceMul, Int.reduceNeg, Int.reducePow, Int.reduceLT, Int.reduceLE, Int.reduceGT, Int.reduceGE, Int.reduceEq, Int.reduceNe, Int.reduceDiv, Int.reduceMod, Int.reduceToNat, String.reduceEq, String.reduceBEq, Nat.reduceLeDiff, Int.cast_ofNat_Int, Int.natCast_one, Int.natCast_zero, List.cons_append, List.nil_append, ne_eq, s3, s4, hP, hQ, u_lstF, fl, r3, forL_cons, forL_nil, q0, q1, q2, t0, t1, t2, eq_true g0, g1, g2, ex, ey, ez, joined_out (s := x) (f := c / 8 / 2 % pw E) (g := c / 8 / 64 % pw F) h (by omega), w, show ¬ c % 8 = 0 by rw [hall]; omega, ea]
  · simp only [EV.EvS, reduceIte, Nat.reduceAdd, Nat.reduceSub, Int.reduceAdd, Int.reduceSub, Int.reduceMul, Int.reduceNeg, Int.reducePow, Int.reduceLT, Int.reduceLE, Int.reduceGT, Int.reduceGE, Int.reduceEq, Int.reduceNe, Int.reduceDiv, Int.reduceMod, Int.reduceToNat, String.reduceEq, String.reduceBEq, Nat.reduceLeDiff, Int.cast_ofNat_Int, Int.natCast_one, Int.natCast_zero, List.cons_append, List.nil_append, ne_eq, s3, s4, hP, hQ, u_lstF, fl, r3, forL_cons, forL_nil, q0, q1, q2, t0, t1, t2, g0, eq_true g1, eq_true g2, ex, ey, ez, joined_out (s := c / 8 % 2) (f := y) (g := z) h (by omega), w, show ¬ c % 8 = 0 by rw [hall]; omega, ea]
  · simp only [EV.EvS, reduceIte, Nat.reduceAdd, Nat.reduceSub, Int.reduceAdd, Int.reduceSub, Int.reduceMul, Int.reduceNeg, Int.reducePow, Int.reduceLT, Int.reduceLE, Int.reduceGT, Int.reduceGE, Int.reduceEq, Int.reduceNe, Int.reduceDiv, Int.reduceMod, Int.reduceToNat, String.reduceEq, String.reduceBEq, Nat.reduceLeDiff, Int.cast_ofNat_Int, Int.natCast_one, Int.natCast_zero, List.cons_append, List.nil_append, ne_eq, s3, s4, hP, hQ, u_lstF, fl, r3, forL_cons, forL_nil, q0, q1, q2, t0, t1, t2, g0, eq_true g1, g2, ex, ey, ez, joined_out (s := c / 8 % 2) (f := y) (g := c / 8 / 64 % pw F) h (by omega), w, show ¬ c % 8 = 0 by rw [hall]; omega, ea]
  · simp only [EV.EvS, reduceIte, Nat.reduceAdd, Nat.reduceSub, Int.reduceAdd, Int.reduceSub, Int.reduceMul, Int.reduceNeg, Int.reducePow, Int.reduceLT, Int.reduceLE, Int.reduceGT, Int.reduceGE, Int.reduceEq, Int.reduceNe, Int.reduceDiv, Int.reduceMod, Int.reduceToNat, String.reduceEq, String.reduceBEq, Nat.reduceLeDiff, Int.cast_ofNat_Int, Int.natCast_one, Int.natCast_zero, List.cons_append, List.nil_append, ne_eq, s3, s4, hP, hQ, u_lstF, fl, r3, forL_cons, forL_nil, q0, q1, q2, t0, t1, t2, g0, g1, eq_true g2, ex, ey, ez, joined_out (s := c / 8 % 2) (f := c / 8 / 2 % pw E) (g := z) h (by omega), w, show ¬ c % 8 = 0 by rw [hall]; omega, ea]
  · simp only [EV.EvS, reduceIte, Nat.reduceAdd, Nat.reduceSub, Int.reduceAdd, Int.reduceSub, Int.reduceMul, Int.reduceNeg, Int.reducePow, Int.reduceLT, Int.reduceLE, Int.reduceGT, Int.reduceGE, Int.reduceEq, Int.reduceNe, Int.reduceDiv, Int.reduceMod, Int.reduceToNat, String.reduceEq, String.reduceBEq, Nat.reduceLeDiff, Int.cast_ofNat_Int, Int.natCast_one, Int.natCast_zero, List.cons_append, List.nil_append, ne_eq, s3, s4, hP, hQ, u_lstF, fl, r3, forL_cons, forL_nil, q0, q1, q2, t0, t1, t2, g0, g1, g2, ex, ey, ez, joined_ok (s := c / 8 % 2) (f := c / 8 / 2 % pw E) (g := c / 8 / 64 % pw F) h (by omega) ⟨a0, a1⟩ ⟨b0, b1⟩, wn, eq_true (hall.mpr ⟨g0, g1, g2⟩), eb]
theorem holds_all {E F c : Int} (h : Sz E F) (hc : nb c ≤ 2 ^ 20) : p_law_holds [.tup [.int E, .int F], .int c] = .ok (.bl true) := by
  by_cases g : c % 11 = 10
  · unfold p_law_holds g_law_holds
    simp only [EV.EvS, reduceIte, Nat.reduceAdd, Nat.reduceSub, Int.reduceAdd, Int.reduceSub, Int.reduceMul, Int.reduceNeg, Int.reducePow, Int.reduceLT, Int.reduceLE, Int.reduceGT, Int.reduceGE, Int.reduceEq, Int.reduceNe, Int.reduceDiv, Int.reduceMod, Int.reduceToNat, String.reduceEq, String.reduceBEq, Nat.reduceLeDiff, Int.cast_ofNat_Int, Int.natCast_one, Int.natCast_zero, List.cons_append, List.nil_append, ne_eq, eq_true g, parts_ok h]
  · exact holds_j h hc g
theorem law_good : Good p_law := by
  intro ns hl hb
  have hlen : ((ns.map D.int).drop 1).length + [D.int 13].length ≤ 100000 := by
    rw [List.length_drop, List.length_map]
    simp only [List.length_cons, List.length_nil]
    omega
  generalize hc : ns.getD 0 0 = c
  unfold p_law g_law
  simp only [EV.EvS, reduceIte, Nat.reduceAdd, Nat.reduceSub, Int.reduceAdd, Int.reduceSub, Int.reduceMul, Int.reduceNeg, Int.reducePow, Int.reduceLT, Int.reduceLE, Int.reduceGT, Int.reduceGE, Int.reduceEq, Int.reduceNe, Int.reduceDiv, Int.reduceMod, Int.reduceToNat, String.reduceEq, String.reduceBEq, Nat.reduceLeDiff, Int.cast_ofNat_Int, Int.natCast_one, Int.natCast_zero, List.cons_append, List.nil_append, ne_eq, cell_ok (ns := ns) (j := 0) (by decide), hc, size_ok, cut1, oAdd_lst hlen]
  obtain ⟨δ', e, ⟨z, e'⟩⟩ := forL_inv (i := 2) (body := ifs (not_ (call p_law_holds [var 1, var 2])) (ret (con (.bl false))) pass_) (fun δ => ∃ z, δ = [some (.lst (ns.map .int)), some (.tup [.int (szE c), .int (szF c)]), z]) ((ns.map .int).drop 1 ++ [.int 13]) (fun d hd δ ⟨z, e⟩ => by
    subst e
    obtain ⟨i, rfl, hi⟩ := cells_of hb (by decide) hd
    refine ⟨_, .inl ?_, some (.int i), rfl⟩
    simp only [EV.EvS, reduceIte, Nat.reduceAdd, Nat.reduceSub, Int.reduceAdd, Int.reduceSub, Int.reduceMul, Int.reduceNeg, Int.reducePow, Int.reduceLT, Int.reduceLE, Int.reduceGT, Int.reduceGE, Int.reduceEq, Int.reduceNe, Int.reduceDiv, Int.reduceMod, Int.reduceToNat, String.reduceEq, String.reduceBEq, Nat.reduceLeDiff, Int.cast_ofNat_Int, Int.natCast_one, Int.natCast_zero, List.cons_append, List.nil_append, ne_eq, holds_all (sz_ok c) hi]) _ ⟨none, rfl⟩
  rw [e]
  simp only [EV.EvS, reduceIte, Nat.reduceAdd, Nat.reduceSub, Int.reduceAdd, Int.reduceSub, Int.reduceMul, Int.reduceNeg, Int.reducePow, Int.reduceLT, Int.reduceLE, Int.reduceGT, Int.reduceGE, Int.reduceEq, Int.reduceNe, Int.reduceDiv, Int.reduceMod, Int.reduceToNat, String.reduceEq, String.reduceBEq, Nat.reduceLeDiff, Int.cast_ofNat_Int, Int.natCast_one, Int.natCast_zero, List.cons_append, List.nil_append, ne_eq]
end T

set_option Elab.async false
set_option linter.all false
set_option maxRecDepth 100000
open PySem PySem.W PyProof.Rows
set_option maxRecDepth 100000 in
set_option maxHeartbeats 0 in
theorem PySem.Challenge.cw_roundmill_k03_refusals_holds : PySem.Challenge.rw_roundmill_k03_refusals.Holds := by
  w_on; o_law
  refine holds_open (q := H.q) (loose := []) (Xt := H.Xt) (XP := XL H.q []) (Yf := (kHook H.K H.as H.he).obs) (Ya := (kHook H.K H.as H.he).val) (YP := (kHook H.K H.as H.he).says) (N := 8794) H.left (kHook H.K H.as H.he).of (kHook H.K H.as H.he).keeps (fun s e => xl_of s (Bool.and_eq_true_iff.mp e).1) XL.keeps (by rfl) (by rfl) (by rfl) (fun s e => recFacts_of (Bool.and_eq_true_iff.mp e).2) (by rfl) (by first | assumption | decide +kernel) (by decide +kernel) ⟨rfl, rfl, rfl, rfl, rfl, by decide +kernel⟩ ?hw ?hc
  (case hw => w_witness2)
  k_fill
  refine ES.walk_law (l := PySem.Challenge.rw_roundmill_k03_refusals) (k := 8) (x := "_law_script") (f := T.p_law) T.law_good rfl rfl ⟨rfl, by decide, by decide⟩ (fun w h Y => PySem.W.kIn_of Y) ?F
  case F =>
    intro w mg fa h KX GG hmg
    refine' T.all_mk KX GG hmg ?a1 ?l1 ?e1 ?k1 ?a2 ?l2 ?e2 ?k2 ?a3 ?l3 ?e3 ?k3 ?a4 ?l4 ?e4 ?k4 ?a5 ?l5 ?e5 ?k5 ?a6 ?l6 ?e6 ?k6 ?a7 ?l7 ?e7 ?k7 ?a8 ?l8 ?e8 ?k8 ?a9 ?l9 ?e9 ?k9 ?a10 ?l10 ?e10 ?k10 ?a11 ?l11 ?e11 ?k11 ?a12 ?l12 ?e12 ?k12 ?a13 ?l13 ?e13 ?k13 ?a14 ?l14 ?e14 ?k14 ?a15 ?l15 ?e15 ?k15 ?a16 ?l16 ?e16 ?k16 ?a17 ?l17 ?e17 ?k17 ?a18 ?l18 ?e18 ?k18 ?a19 ?l19 ?e19 ?k19 ?a20 ?l20 ?e20 ?k20 ?a21 ?l21 ?e21 ?k21 ?a22 ?l22 ?e22 ?k22 ?a23 ?l23 ?e23 ?k23 ?a24 ?l24 ?e24 ?k24 ?a25 ?l25 ?e25 ?k25 ?a26 ?l26 ?e26 ?k26 ?a27 ?l27 ?e27 ?k27 ?a28 ?l28 ?e28 ?k28 ?z_len ?z_isinstance ?z_ValueError ?z_int ?z_sum ?z_range ?n_MillError ?n_NoSize ?n_NoBits ?n_NoParts ?n_NoRank ?n_NotFinite ?n_NoWay ?n_NoFlags ?n_NoFraction ?n_Unlike ?n_Empty ?n_NoLeft ?n_NoText ?n_NoRow ?n_NoName ?n_Stopped ?xi_NoParts ?xi_NoBits ?xi_NoRank ?xi_NotFinite ?v_MillError ?v_NoSize ?v_NoBits ?v_NoParts ?v_NoRank ?v_NotFinite ?v_NoWay ?v_NoFlags ?v_NoFraction ?v_Unlike ?v_Empty ?v_NoLeft ?v_NoText ?v_NoRow ?v_NoName ?v_Stopped ?cb_MillError ?r_MillError_MillError ?r_MillError_NoSize ?r_MillError_NoBits ?r_MillError_NoParts ?r_MillError_NoRank ?r_MillError_NotFinite ?r_MillError_NoWay ?r_MillError_NoFlags ?r_MillError_NoFraction ?r_MillError_Unlike ?r_MillError_Empty ?r_MillError_NoLeft ?r_MillError_NoText ?r_MillError_NoRow ?r_MillError_NoName ?r_MillError_Stopped ?i0_NoSize ?i_NoSize_MillError ?i_NoSize_NoSize ?i_NoSize_NoBits ?i_NoSize_NoParts ?i_NoSize_NoRank ?i_NoSize_NotFinite ?i_NoSize_NoWay ?i_NoSize_NoFlags ?i_NoSize_NoFraction ?i_NoSize_Unlike ?i_NoSize_Empty ?i_NoSize_NoLeft ?i_NoSize_NoText ?i_NoSize_NoRow ?i_NoSize_NoName ?i_NoSize_Stopped ?i0_NoBits ?i_NoBits_MillError ?i_NoBits_NoSize ?i_NoBits_NoBits ?i_NoBits_NoParts ?i_NoBits_NoRank ?i_NoBits_NotFinite ?i_NoBits_NoWay ?i_NoBits_NoFlags ?i_NoBits_NoFraction ?i_NoBits_Unlike ?i_NoBits_Empty ?i_NoBits_NoLeft ?i_NoBits_NoText ?i_NoBits_NoRow ?i_NoBits_NoName ?i_NoBits_Stopped ?i0_NoParts ?i_NoParts_MillError ?i_NoParts_NoSize ?i_NoParts_NoBits ?i_NoParts_NoParts ?i_NoParts_NoRank ?i_NoParts_NotFinite ?i_NoParts_NoWay ?i_NoParts_NoFlags ?i_NoParts_NoFraction ?i_NoParts_Unlike ?i_NoParts_Empty ?i_NoParts_NoLeft ?i_NoParts_NoText ?i_NoParts_NoRow ?i_NoParts_NoName ?i_NoParts_Stopped ?i0_NoRank ?i_NoRank_MillError ?i_NoRank_NoSize ?i_NoRank_NoBits ?i_NoRank_NoParts ?i_NoRank_NoRank ?i_NoRank_NotFinite ?i_NoRank_NoWay ?i_NoRank_NoFlags ?i_NoRank_NoFraction ?i_NoRank_Unlike ?i_NoRank_Empty ?i_NoRank_NoLeft ?i_NoRank_NoText ?i_NoRank_NoRow ?i_NoRank_NoName ?i_NoRank_Stopped ?i0_NotFinite ?i_NotFinite_MillError ?i_NotFinite_NoSize ?i_NotFinite_NoBits ?i_NotFinite_NoParts ?i_NotFinite_NoRank ?i_NotFinite_NotFinite ?i_NotFinite_NoWay ?i_NotFinite_NoFlags ?i_NotFinite_NoFraction ?i_NotFinite_Unlike ?i_NotFinite_Empty ?i_NotFinite_NoLeft ?i_NotFinite_NoText ?i_NotFinite_NoRow ?i_NotFinite_NoName ?i_NotFinite_Stopped ?i0_NoWay ?i_NoWay_MillError ?i_NoWay_NoSize ?i_NoWay_NoBits ?i_NoWay_NoParts ?i_NoWay_NoRank ?i_NoWay_NotFinite ?i_NoWay_NoWay ?i_NoWay_NoFlags ?i_NoWay_NoFraction ?i_NoWay_Unlike ?i_NoWay_Empty ?i_NoWay_NoLeft ?i_NoWay_NoText ?i_NoWay_NoRow ?i_NoWay_NoName ?i_NoWay_Stopped ?i0_NoFlags ?i_NoFlags_MillError ?i_NoFlags_NoSize ?i_NoFlags_NoBits ?i_NoFlags_NoParts ?i_NoFlags_NoRank ?i_NoFlags_NotFinite ?i_NoFlags_NoWay ?i_NoFlags_NoFlags ?i_NoFlags_NoFraction ?i_NoFlags_Unlike ?i_NoFlags_Empty ?i_NoFlags_NoLeft ?i_NoFlags_NoText ?i_NoFlags_NoRow ?i_NoFlags_NoName ?i_NoFlags_Stopped ?i0_NoFraction ?i_NoFraction_MillError ?i_NoFraction_NoSize ?i_NoFraction_NoBits ?i_NoFraction_NoParts ?i_NoFraction_NoRank ?i_NoFraction_NotFinite ?i_NoFraction_NoWay ?i_NoFraction_NoFlags ?i_NoFraction_NoFraction ?i_NoFraction_Unlike ?i_NoFraction_Empty ?i_NoFraction_NoLeft ?i_NoFraction_NoText ?i_NoFraction_NoRow ?i_NoFraction_NoName ?i_NoFraction_Stopped ?i0_Unlike ?i_Unlike_MillError ?i_Unlike_NoSize ?i_Unlike_NoBits ?i_Unlike_NoParts ?i_Unlike_NoRank ?i_Unlike_NotFinite ?i_Unlike_NoWay ?i_Unlike_NoFlags ?i_Unlike_NoFraction ?i_Unlike_Unlike ?i_Unlike_Empty ?i_Unlike_NoLeft ?i_Unlike_NoText ?i_Unlike_NoRow ?i_Unlike_NoName ?i_Unlike_Stopped ?i0_Empty ?i_Empty_MillError ?i_Empty_NoSize ?i_Empty_NoBits ?i_Empty_NoParts ?i_Empty_NoRank ?i_Empty_NotFinite ?i_Empty_NoWay ?i_Empty_NoFlags ?i_Empty_NoFraction ?i_Empty_Unlike ?i_Empty_Empty ?i_Empty_NoLeft ?i_Empty_NoText ?i_Empty_NoRow ?i_Empty_NoName ?i_Empty_Stopped ?i0_NoLeft ?i_NoLeft_MillError ?i_NoLeft_NoSize ?i_NoLeft_NoBits ?i_NoLeft_NoParts ?i_NoLeft_NoRank ?i_NoLeft_NotFinite ?i_NoLeft_NoWay ?i_NoLeft_NoFlags ?i_NoLeft_NoFraction ?i_NoLeft_Unlike ?i_NoLeft_Empty ?i_NoLeft_NoLeft ?i_NoLeft_NoText ?i_NoLeft_NoRow ?i_NoLeft_NoName ?i_NoLeft_Stopped ?i0_NoText ?i_NoText_MillError ?i_NoText_NoSize ?i_NoText_NoBits ?i_NoText_NoParts ?i_NoText_NoRank ?i_NoText_NotFinite ?i_NoText_NoWay ?i_NoText_NoFlags ?i_NoText_NoFraction ?i_NoText_Unlike ?i_NoText_Empty ?i_NoText_NoLeft ?i_NoText_NoText ?i_NoText_NoRow ?i_NoText_NoName ?i_NoText_Stopped ?i0_NoRow ?i_NoRow_MillError ?i_NoRow_NoSize ?i_NoRow_NoBits ?i_NoRow_NoParts ?i_NoRow_NoRank ?i_NoRow_NotFinite ?i_NoRow_NoWay ?i_NoRow_NoFlags ?i_NoRow_NoFraction ?i_NoRow_Unlike ?i_NoRow_Empty ?i_NoRow_NoLeft ?i_NoRow_NoText ?i_NoRow_NoRow ?i_NoRow_NoName ?i_NoRow_Stopped ?i0_NoName ?i_NoName_MillError ?i_NoName_NoSize ?i_NoName_NoBits ?i_NoName_NoParts ?i_NoName_NoRank ?i_NoName_NotFinite ?i_NoName_NoWay ?i_NoName_NoFlags ?i_NoName_NoFraction ?i_NoName_Unlike ?i_NoName_Empty ?i_NoName_NoLeft ?i_NoName_NoText ?i_NoName_NoRow ?i_NoName_NoName ?i_NoName_Stopped ?i0_Stopped ?i_Stopped_MillError ?i_Stopped_NoSize ?i_Stopped_NoBits ?i_Stopped_NoParts ?i_Stopped_NoRank ?i_Stopped_NotFinite ?i_Stopped_NoWay ?i_Stopped_NoFlags ?i_Stopped_NoFraction ?i_Stopped_Unlike ?i_Stopped_Empty ?i_Stopped_NoLeft ?i_Stopped_NoText ?i_Stopped_NoRow ?i_Stopped_NoName ?i_Stopped_Stopped ?i_VE_NoneType ?i_VE_bool ?i_VE_int ?i_VE_str ?i_VE_tuple ?i_VE_list ?i_ValueError_MillError ?i_ValueError_NoSize ?i_ValueError_NoBits ?i_ValueError_NoParts ?i_ValueError_NoRank ?i_ValueError_NotFinite ?i_ValueError_NoWay ?i_ValueError_NoFlags ?i_ValueError_NoFraction ?i_ValueError_Unlike ?i_ValueError_Empty ?i_ValueError_NoLeft ?i_ValueError_NoText ?i_ValueError_NoRow ?i_ValueError_NoName ?i_ValueError_Stopped
    (case a1 => k_is)
    (case l1 => k_is)
    (case e1 => k_is)
    (case k1 => k_is)
    (case a2 => k_is)
    (case l2 => k_is)
    (case e2 => k_is)
    (case k2 => k_is)
    (case a3 => k_is)
    (case l3 => k_is)
    (case e3 => k_is)
    (case k3 => k_is)
    (case a4 => k_is)
    (case l4 => k_is)
    (case e4 => k_is)
    (case k4 => k_is)
    (case a5 => k_is)
    (case l5 => k_is)
    (case e5 => k_is)
    (case k5 => k_is)
    (case a6 => k_is)
    (case l6 => k_is)
    (case e6 => k_is)
    (case k6 => k_is)
    (case a7 => k_is)
    (case l7 => k_is)
    (case e7 => k_is)
    (case k7 => k_is)
    (case a8 => k_is)
    (case l8 => k_is)
    (case e8 => k_is)
    (case k8 => k_is)
    (case a9 => k_is)
    (case l9 => k_is)
    (case e9 => k_is)
    (case k9 => k_is)
    (case a10 => k_is)
    (case l10 => k_is)
    (case e10 => k_is)
    (case k10 => k_is)
    (case a11 => k_is)
    (case l11 => k_is)
    (case e11 => k_is)
    (case k11 => k_is)
    (case a12 => k_is)
    (case l12 => k_is)
    (case e12 => k_is)
    (case k12 => k_is)
    (case a13 => k_is)
    (case l13 => k_is)
    (case e13 => k_is)
    (case k13 => k_is)
    (case a14 => k_is)
    (case l14 => k_is)
    (case e14 => k_is)
    (case k14 => k_is)
    (case a15 => k_is)
    (case l15 => k_is)
    (case e15 => k_is)
    (case k15 => k_is)
    (case a16 => k_is)
    (case l16 => k_is)
    (case e16 => k_is)
    (case k16 => k_is)
    (case a17 => k_is)
    (case l17 => k_is)
    (case e17 => k_is)
    (case k17 => k_is)
    (case a18 => k_is)
    (case l18 => k_is)
    (case e18 => k_is)
    (case k18 => k_is)
    (case a19 => k_is)
    (case l19 => k_is)
    (case e19 => k_is)
    (case k19 => k_is)
    (case a20 => k_is)
    (case l20 => k_is)
    (case e20 => k_is)
    (case k20 => k_is)
    (case a21 => k_is)
    (case l21 => k_is)
    (case e21 => k_is)
    (case k21 => k_is)
    (case a22 => k_is)
    (case l22 => k_is)
    (case e22 => k_is)
    (case k22 => k_is)
    (case a23 => k_is)
    (case l23 => k_is)
    (case e23 => k_is)
    (case k23 => k_is)
    (case a24 => k_is)
    (case l24 => k_is)
    (case e24 => k_is)
    (case k24 => k_is)
    (case a25 => k_is)
    (case l25 => k_is)
    (case e25 => k_is)
    (case k25 => k_is)
    (case a26 => k_is)
    (case l26 => k_is)
    (case e26 => k_is)
    (case k26 => k_is)
    (case a27 => k_is)
    (case l27 => k_is)
    (case e27 => k_is)
    (case k27 => k_is)
    (case a28 => k_is)
    (case l28 => k_is)
    (case e28 => k_is)
    (case k28 => k_is)
    (case z_len => k_is)
    (case z_isinstance => k_is)
    (case z_ValueError => k_is)
    (case z_int => k_is)
    (case z_sum => k_is)
    (case z_range => k_is)
    (case n_MillError => k_is)
    (case n_NoSize => k_is)
    (case n_NoBits => k_is)
    (case n_NoParts => k_is)
    (case n_NoRank => k_is)
    (case n_NotFinite => k_is)
    (case n_NoWay => k_is)
    (case n_NoFlags => k_is)
    (case n_NoFraction => k_is)
    (case n_Unlike => k_is)
    (case n_Empty => k_is)
    (case n_NoLeft => k_is)
    (case n_NoText => k_is)
    (case n_NoRow => k_is)
    (case n_NoName => k_is)
    (case n_Stopped => k_is)
    (case xi_NoParts => k_exc)
    (case xi_NoBits => k_exc)
    (case xi_NoRank => k_exc)
    (case xi_NotFinite => k_exc)
    (case v_MillError => exact ⟨by k_is, by k_is, by k_is, by k_is, by k_is, ⟨_, by k_is⟩⟩)
    (case v_NoSize => exact ⟨by k_is, by k_is, by k_is, by k_is, by k_is, ⟨_, by k_is⟩⟩)
    (case v_NoBits => exact ⟨by k_is, by k_is, by k_is, by k_is, by k_is, ⟨_, by k_is⟩⟩)
    (case v_NoParts => exact ⟨by k_is, by k_is, by k_is, by k_is, by k_is, ⟨_, by k_is⟩⟩)
    (case v_NoRank => exact ⟨by k_is, by k_is, by k_is, by k_is, by k_is, ⟨_, by k_is⟩⟩)
    (case v_NotFinite => exact ⟨by k_is, by k_is, by k_is, by k_is, by k_is, ⟨_, by k_is⟩⟩)
    (case v_NoWay => exact ⟨by k_is, by k_is, by k_is, by k_is, by k_is, ⟨_, by k_is⟩⟩)
    (case v_NoFlags => exact ⟨by k_is, by k_is, by k_is, by k_is, by k_is, ⟨_, by k_is⟩⟩)
    (case v_NoFraction => exact ⟨by k_is, by k_is, by k_is, by k_is, by k_is, ⟨_, by k_is⟩⟩)
    (case v_Unlike => exact ⟨by k_is, by k_is, by k_is, by k_is, by k_is, ⟨_, by k_is⟩⟩)
    (case v_Empty => exact ⟨by k_is, by k_is, by k_is, by k_is, by k_is, ⟨_, by k_is⟩⟩)
    (case v_NoLeft => exact ⟨by k_is, by k_is, by k_is, by k_is, by k_is, ⟨_, by k_is⟩⟩)
    (case v_NoText => exact ⟨by k_is, by k_is, by k_is, by k_is, by k_is, ⟨_, by k_is⟩⟩)
    (case v_NoRow => exact ⟨by k_is, by k_is, by k_is, by k_is, by k_is, ⟨_, by k_is⟩⟩)
    (case v_NoName => exact ⟨by k_is, by k_is, by k_is, by k_is, by k_is, ⟨_, by k_is⟩⟩)
    (case v_Stopped => exact ⟨by k_is, by k_is, by k_is, by k_is, by k_is, ⟨_, by k_is⟩⟩)
    (case cb_MillError => exact ⟨⟨_, by k_is⟩, by k_is, by k_is, by k_is⟩)
    (case r_MillError_MillError => k_is)
    (case r_MillError_NoSize => k_is)
    (case r_MillError_NoBits => k_is)
    (case r_MillError_NoParts => k_is)
    (case r_MillError_NoRank => k_is)
    (case r_MillError_NotFinite => k_is)
    (case r_MillError_NoWay => k_is)
    (case r_MillError_NoFlags => k_is)
    (case r_MillError_NoFraction => k_is)
    (case r_MillError_Unlike => k_is)
    (case r_MillError_Empty => k_is)
    (case r_MillError_NoLeft => k_is)
    (case r_MillError_NoText => k_is)
    (case r_MillError_NoRow => k_is)
    (case r_MillError_NoName => k_is)
    (case r_MillError_Stopped => k_is)
    (case i0_NoSize => kit_is)
    (case i_NoSize_MillError => kit_is)
    (case i_NoSize_NoSize => kit_is)
    (case i_NoSize_NoBits => kit_is)
    (case i_NoSize_NoParts => kit_is)
    (case i_NoSize_NoRank => kit_is)
    (case i_NoSize_NotFinite => kit_is)
    (case i_NoSize_NoWay => kit_is)
    (case i_NoSize_NoFlags => kit_is)
    (case i_NoSize_NoFraction => kit_is)
    (case i_NoSize_Unlike => kit_is)
    (case i_NoSize_Empty => kit_is)
    (case i_NoSize_NoLeft => kit_is)
    (case i_NoSize_NoText => kit_is)
    (case i_NoSize_NoRow => kit_is)
    (case i_NoSize_NoName => kit_is)
    (case i_NoSize_Stopped => kit_is)
    (case i0_NoBits => kit_is)
    (case i_NoBits_MillError => kit_is)
    (case i_NoBits_NoSize => kit_is)
    (case i_NoBits_NoBits => kit_is)
    (case i_NoBits_NoParts => kit_is)
    (case i_NoBits_NoRank => kit_is)
    (case i_NoBits_NotFinite => kit_is)
    (case i_NoBits_NoWay => kit_is)
    (case i_NoBits_NoFlags => kit_is)
    (case i_NoBits_NoFraction => kit_is)
    (case i_NoBits_Unlike => kit_is)
    (case i_NoBits_Empty => kit_is)
    (case i_NoBits_NoLeft => kit_is)
    (case i_NoBits_NoText => kit_is)
    (case i_NoBits_NoRow => kit_is)
    (case i_NoBits_NoName => kit_is)
    (case i_NoBits_Stopped => kit_is)
    (case i0_NoParts => kit_is)
    (case i_NoParts_MillError => kit_is)
    (case i_NoParts_NoSize => kit_is)
    (case i_NoParts_NoBits => kit_is)
    (case i_NoParts_NoParts => kit_is)
    (case i_NoParts_NoRank => kit_is)
    (case i_NoParts_NotFinite => kit_is)
    (case i_NoParts_NoWay => kit_is)
    (case i_NoParts_NoFlags => kit_is)
    (case i_NoParts_NoFraction => kit_is)
    (case i_NoParts_Unlike => kit_is)
    (case i_NoParts_Empty => kit_is)
    (case i_NoParts_NoLeft => kit_is)
    (case i_NoParts_NoText => kit_is)
    (case i_NoParts_NoRow => kit_is)
    (case i_NoParts_NoName => kit_is)
    (case i_NoParts_Stopped => kit_is)
    (case i0_NoRank => kit_is)
    (case i_NoRank_MillError => kit_is)
    (case i_NoRank_NoSize => kit_is)
    (case i_NoRank_NoBits => kit_is)
    (case i_NoRank_NoParts => kit_is)
    (case i_NoRank_NoRank => kit_is)
    (case i_NoRank_NotFinite => kit_is)
    (case i_NoRank_NoWay => kit_is)
    (case i_NoRank_NoFlags => kit_is)
    (case i_NoRank_NoFraction => kit_is)
    (case i_NoRank_Unlike => kit_is)
    (case i_NoRank_Empty => kit_is)
    (case i_NoRank_NoLeft => kit_is)
    (case i_NoRank_NoText => kit_is)
    (case i_NoRank_NoRow => kit_is)
    (case i_NoRank_NoName => kit_is)
    (case i_NoRank_Stopped => kit_is)
    (case i0_NotFinite => kit_is)
    (case i_NotFinite_MillError => kit_is)
    (case i_NotFinite_NoSize => kit_is)
    (case i_NotFinite_NoBits => kit_is)
    (case i_NotFinite_NoParts => kit_is)
    (case i_NotFinite_NoRank => kit_is)
    (case i_NotFinite_NotFinite => kit_is)
    (case i_NotFinite_NoWay => kit_is)
    (case i_NotFinite_NoFlags => kit_is)
    (case i_NotFinite_NoFraction => kit_is)
    (case i_NotFinite_Unlike => kit_is)
    (case i_NotFinite_Empty => kit_is)
    (case i_NotFinite_NoLeft => kit_is)
    (case i_NotFinite_NoText => kit_is)
    (case i_NotFinite_NoRow => kit_is)
    (case i_NotFinite_NoName => kit_is)
    (case i_NotFinite_Stopped => kit_is)
    (case i0_NoWay => kit_is)
    (case i_NoWay_MillError => kit_is)
    (case i_NoWay_NoSize => kit_is)
    (case i_NoWay_NoBits => kit_is)
    (case i_NoWay_NoParts => kit_is)
    (case i_NoWay_NoRank => kit_is)
    (case i_NoWay_NotFinite => kit_is)
    (case i_NoWay_NoWay => kit_is)
    (case i_NoWay_NoFlags => kit_is)
    (case i_NoWay_NoFraction => kit_is)
    (case i_NoWay_Unlike => kit_is)
    (case i_NoWay_Empty => kit_is)
    (case i_NoWay_NoLeft => kit_is)
    (case i_NoWay_NoText => kit_is)
    (case i_NoWay_NoRow => kit_is)
    (case i_NoWay_NoName => kit_is)
    (case i_NoWay_Stopped => kit_is)
    (case i0_NoFlags => kit_is)
    (case i_NoFlags_MillError => kit_is)
    (case i_NoFlags_NoSize => kit_is)
    (case i_NoFlags_NoBits => kit_is)
    (case i_NoFlags_NoParts => kit_is)
    (case i_NoFlags_NoRank => kit_is)
    (case i_NoFlags_NotFinite => kit_is)
    (case i_NoFlags_NoWay => kit_is)
    (case i_NoFlags_NoFlags => kit_is)
    (case i_NoFlags_NoFraction => kit_is)
    (case i_NoFlags_Unlike => kit_is)
    (case i_NoFlags_Empty => kit_is)
    (case i_NoFlags_NoLeft => kit_is)
    (case i_NoFlags_NoText => kit_is)
    (case i_NoFlags_NoRow => kit_is)
    (case i_NoFlags_NoName => kit_is)
    (case i_NoFlags_Stopped => kit_is)
    (case i0_NoFraction => kit_is)
    (case i_NoFraction_MillError => kit_is)
    (case i_NoFraction_NoSize => kit_is)
    (case i_NoFraction_NoBits => kit_is)
    (case i_NoFraction_NoParts => kit_is)
    (case i_NoFraction_NoRank => kit_is)
    (case i_NoFraction_NotFinite => kit_is)
    (case i_NoFraction_NoWay => kit_is)
    (case i_NoFraction_NoFlags => kit_is)
    (case i_NoFraction_NoFraction => kit_is)
    (case i_NoFraction_Unlike => kit_is)
    (case i_NoFraction_Empty => kit_is)
    (case i_NoFraction_NoLeft => kit_is)
    (case i_NoFraction_NoText => kit_is)
    (case i_NoFraction_NoRow => kit_is)
    (case i_NoFraction_NoName => kit_is)
    (case i_NoFraction_Stopped => kit_is)
    (case i0_Unlike => kit_is)
    (case i_Unlike_MillError => kit_is)
    (case i_Unlike_NoSize => kit_is)
    (case i_Unlike_NoBits => kit_is)
    (case i_Unlike_NoParts => kit_is)
    (case i_Unlike_NoRank => kit_is)
    (case i_Unlike_NotFinite => kit_is)
    (case i_Unlike_NoWay => kit_is)
    (case i_Unlike_NoFlags => kit_is)
    (case i_Unlike_NoFraction => kit_is)
    (case i_Unlike_Unlike => kit_is)
    (case i_Unlike_Empty => kit_is)
    (case i_Unlike_NoLeft => kit_is)
    (case i_Unlike_NoText => kit_is)
    (case i_Unlike_NoRow => kit_is)
    (case i_Unlike_NoName => kit_is)
    (case i_Unlike_Stopped => kit_is)
    (case i0_Empty => kit_is)
    (case i_Empty_MillError => kit_is)
    (case i_Empty_NoSize => kit_is)
    (case i_Empty_NoBits => kit_is)
    (case i_Empty_NoParts => kit_is)
    (case i_Empty_NoRank => kit_is)
    (case i_Empty_NotFinite => kit_is)
    (case i_Empty_NoWay => kit_is)
    (case i_Empty_NoFlags => kit_is)
    (case i_Empty_NoFraction => kit_is)
    (case i_Empty_Unlike => kit_is)
    (case i_Empty_Empty => kit_is)
    (case i_Empty_NoLeft => kit_is)
    (case i_Empty_NoText => kit_is)
    (case i_Empty_NoRow => kit_is)
    (case i_Empty_NoName => kit_is)
    (case i_Empty_Stopped => kit_is)
    (case i0_NoLeft => kit_is)
    (case i_NoLeft_MillError => kit_is)
    (case i_NoLeft_NoSize => kit_is)
    (case i_NoLeft_NoBits => kit_is)
    (case i_NoLeft_NoParts => kit_is)
    (case i_NoLeft_NoRank => kit_is)
    (case i_NoLeft_NotFinite => kit_is)
    (case i_NoLeft_NoWay => kit_is)
    (case i_NoLeft_NoFlags => kit_is)
    (case i_NoLeft_NoFraction => kit_is)
    (case i_NoLeft_Unlike => kit_is)
    (case i_NoLeft_Empty => kit_is)
    (case i_NoLeft_NoLeft => kit_is)
    (case i_NoLeft_NoText => kit_is)
    (case i_NoLeft_NoRow => kit_is)
    (case i_NoLeft_NoName => kit_is)
    (case i_NoLeft_Stopped => kit_is)
    (case i0_NoText => kit_is)
    (case i_NoText_MillError => kit_is)
    (case i_NoText_NoSize => kit_is)
    (case i_NoText_NoBits => kit_is)
    (case i_NoText_NoParts => kit_is)
    (case i_NoText_NoRank => kit_is)
    (case i_NoText_NotFinite => kit_is)
    (case i_NoText_NoWay => kit_is)
    (case i_NoText_NoFlags => kit_is)
    (case i_NoText_NoFraction => kit_is)
    (case i_NoText_Unlike => kit_is)
    (case i_NoText_Empty => kit_is)
    (case i_NoText_NoLeft => kit_is)
    (case i_NoText_NoText => kit_is)
    (case i_NoText_NoRow => kit_is)
    (case i_NoText_NoName => kit_is)
    (case i_NoText_Stopped => kit_is)
    (case i0_NoRow => kit_is)
    (case i_NoRow_MillError => kit_is)
    (case i_NoRow_NoSize => kit_is)
    (case i_NoRow_NoBits => kit_is)
    (case i_NoRow_NoParts => kit_is)
    (case i_NoRow_NoRank => kit_is)
    (case i_NoRow_NotFinite => kit_is)
    (case i_NoRow_NoWay => kit_is)
    (case i_NoRow_NoFlags => kit_is)
    (case i_NoRow_NoFraction => kit_is)
    (case i_NoRow_Unlike => kit_is)
    (case i_NoRow_Empty => kit_is)
    (case i_NoRow_NoLeft => kit_is)
    (case i_NoRow_NoText => kit_is)
    (case i_NoRow_NoRow => kit_is)
    (case i_NoRow_NoName => kit_is)
    (case i_NoRow_Stopped => kit_is)
    (case i0_NoName => kit_is)
    (case i_NoName_MillError => kit_is)
    (case i_NoName_NoSize => kit_is)
    (case i_NoName_NoBits => kit_is)
    (case i_NoName_NoParts => kit_is)
    (case i_NoName_NoRank => kit_is)
    (case i_NoName_NotFinite => kit_is)
    (case i_NoName_NoWay => kit_is)
    (case i_NoName_NoFlags => kit_is)
    (case i_NoName_NoFraction => kit_is)
    (case i_NoName_Unlike => kit_is)
    (case i_NoName_Empty => kit_is)
    (case i_NoName_NoLeft => kit_is)
    (case i_NoName_NoText => kit_is)
    (case i_NoName_NoRow => kit_is)
    (case i_NoName_NoName => kit_is)
    (case i_NoName_Stopped => kit_is)
    (case i0_Stopped => kit_is)
    (case i_Stopped_MillError => kit_is)
    (case i_Stopped_NoSize => kit_is)
    (case i_Stopped_NoBits => kit_is)
    (case i_Stopped_NoParts => kit_is)
    (case i_Stopped_NoRank => kit_is)
    (case i_Stopped_NotFinite => kit_is)
    (case i_Stopped_NoWay => kit_is)
    (case i_Stopped_NoFlags => kit_is)
    (case i_Stopped_NoFraction => kit_is)
    (case i_Stopped_Unlike => kit_is)
    (case i_Stopped_Empty => kit_is)
    (case i_Stopped_NoLeft => kit_is)
    (case i_Stopped_NoText => kit_is)
    (case i_Stopped_NoRow => kit_is)
    (case i_Stopped_NoName => kit_is)
    (case i_Stopped_Stopped => kit_is)
    (case i_VE_NoneType => kit_is)
    (case i_VE_bool => kit_is)
    (case i_VE_int => kit_is)
    (case i_VE_str => kit_is)
    (case i_VE_tuple => kit_is)
    (case i_VE_list => kit_is)
    (case i_ValueError_MillError => kit_is)
    (case i_ValueError_NoSize => kit_is)
    (case i_ValueError_NoBits => kit_is)
    (case i_ValueError_NoParts => kit_is)
    (case i_ValueError_NoRank => kit_is)
    (case i_ValueError_NotFinite => kit_is)
    (case i_ValueError_NoWay => kit_is)
    (case i_ValueError_NoFlags => kit_is)
    (case i_ValueError_NoFraction => kit_is)
    (case i_ValueError_Unlike => kit_is)
    (case i_ValueError_Empty => kit_is)
    (case i_ValueError_NoLeft => kit_is)
    (case i_ValueError_NoText => kit_is)
    (case i_ValueError_NoRow => kit_is)
    (case i_ValueError_NoName => kit_is)
    (case i_ValueError_Stopped => kit_is)
#print axioms PySem.Challenge.cw_roundmill_k03_refusals_holds

