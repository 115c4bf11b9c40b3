import PyProof.Rows.All
import Wide.All
import OpenK.AllK
import Wide.FinOn
import Lean
import PyProof.EqAt
import PyProof.EqKinds
import PyProof.TupleCall
import PySem.Challenge.RW_roundmill_k56_shown
set_option Elab.async false
set_option linter.all false
set_option maxRecDepth 100000
namespace L2
open PySem PySem.Spec PyProof.Rows
noncomputable abbrev Key := Sum Int Str
noncomputable def keyIs : Key → Value → Bool
  | .inl k, v => Value.isInt k v
  | .inr x, v => Value.isStrOf x v
noncomputable def keyH (w : World) : Key → Int
  | .inl k => hashInt k
  | .inr x => hashStr w x
theorem keyIs_shape : ∀ {k : Key} {v : Value}, keyIs k v = true → (∃ i t, k = Sum.inl i ∧ v = Value.int i t) ∨ (∃ x t, k = Sum.inr x ∧ v = Value.str x t)
  | .inl i, v, h => by
    obtain ⟨t, e⟩ := Value.isInt_shape (k := i) (v := v) h
    exact .inl ⟨i, t, rfl, e⟩
  | .inr x, v, h => by
    obtain ⟨t, e⟩ := Value.isStrOf_shape (x := x) (v := v) h
    exact .inr ⟨x, t, rfl, e⟩
theorem key_ll (a b : Int) : decide ((Sum.inl a : Key) = Sum.inl b) = (a == b) := by
  by_cases e : a = b
  · subst e; simp
  · have h : ¬ (Sum.inl a : Key) = Sum.inl b := fun q => e (Sum.inl.inj q)
    rw [decide_eq_false h]
    exact (beq_eq_false_iff_ne.mpr e).symm
theorem key_rr (a b : Str) : decide ((Sum.inr a : Key) = Sum.inr b) = decide (a = b) := by
  by_cases e : a = b
  · subst e; simp
  · have h : ¬ (Sum.inr a : Key) = Sum.inr b := fun q => e (Sum.inr.inj q)
    rw [decide_eq_false h, decide_eq_false e]
theorem key_lr (a : Int) (b : Str) : decide ((Sum.inl a : Key) = Sum.inr b) = false := decide_eq_false (fun q => nomatch q)
theorem key_rl (a : Str) (b : Int) : decide ((Sum.inr a : Key) = Sum.inl b) = false := decide_eq_false (fun q => nomatch q)
noncomputable def mixKind (prog : Program) (w : World) : PySem.KeyKind prog w Key where
  is := keyIs
  hash := keyH w
  inj := fun v a b ha hb => by
    rcases keyIs_shape ha with ⟨i, t, rfl, rfl⟩ | ⟨x, t, rfl, rfl⟩
    · rcases keyIs_shape hb with ⟨j, u, rfl, e⟩ | ⟨y, u, rfl, e⟩
      · injection e with e1 _; rw [e1]
      · exact nomatch e
    · rcases keyIs_shape hb with ⟨j, u, rfl, e⟩ | ⟨y, u, rfl, e⟩
      · exact nomatch e
      · injection e with e1 _; rw [e1]
  byValue := fun k v h => by
    rcases keyIs_shape h with ⟨i, t, rfl, rfl⟩ | ⟨x, t, rfl, rfl⟩ <;> rfl
  pyHash := fun hv h => by
    rcases keyIs_shape hv with ⟨i, t, rfl, rfl⟩ | ⟨x, t, rfl, rfl⟩
    · exact wpAny_pyHash_int h
    · exact wpAny_pyHash_str h
  eqBool := fun hu hv h => by
    rcases keyIs_shape hu with ⟨i, t, rfl, rfl⟩ | ⟨x, t, rfl, rfl⟩
    · rcases keyIs_shape hv with ⟨j, u, rfl, rfl⟩ | ⟨y, u, rfl, rfl⟩
      · rw [key_ll] at h; exact wpAny_eqBool_int h
      · rw [key_lr] at h; exact SeqAt.EqAt.int_str i t y u _ _ _ _ h
    · rcases keyIs_shape hv with ⟨j, u, rfl, rfl⟩ | ⟨y, u, rfl, rfl⟩
      · rw [key_rl] at h; exact SeqAt.EqAt.str_int x t j u _ _ _ _ h
      · rw [key_rr] at h; exact wpAny_eqBool_str h
  «strs» := fun k x t v h => by
    rcases keyIs_shape h with ⟨i, u, rfl, e⟩ | ⟨y, u, rfl, e⟩
    · exact nomatch e
    · injection e with e1 _
      subst e1
      cases v <;> rfl
end L2
namespace L2
open PySem PySem.Spec PyProof.Rows
inductive V where
  | non | bl (b : Bool) | int (i : Int) | str (x : Str) | byt (b : Array UInt8) | flt (b : UInt64) | ref (a : Addr) | ty (n : String)
  deriving DecidableEq
noncomputable def RelV : V → Value → Prop
  | .non, u => u = Value.none
  | .bl b, u => u = Value.bool b
  | .int i, u => ∃ t, u = Value.int i t
  | .str x, u => ∃ t, u = Value.str x t
  | .byt b, u => ∃ t, u = Value.bytes b t
  | .flt b, u => ∃ t, u = Value.float b t
  | .ref a, u => u = Value.ref a
  | .ty n, u => u = Value.type n
noncomputable abbrev Vals : List V → List Value → Prop := Paired RelV
theorem Vals.length {xs : List V} {us : List Value} (r : Vals xs us) : xs.length = us.length := Paired.length r
theorem Vals.get : ∀ {xs : List V} {us : List Value} {i : Nat} {x : V}, Vals xs us → xs[i]? = some x → ∃ u, us[i]? = some u ∧ RelV x u
  | _, _, _, _, .nil, e => by simp at e
  | _, _, 0, _, .cons r _, e => by simp at e; subst e; exact ⟨_, rfl, r⟩
  | _, _, i + 1, x, .cons _ t, e => by
    obtain ⟨u, h1, h2⟩ := Vals.get (i := i) (x := x) t (by simpa using e)
    exact ⟨u, by simpa using h1, h2⟩
theorem Vals.append : ∀ {xs ys : List V} {us ws : List Value}, Vals xs us → Vals ys ws → Vals (xs ++ ys) (us ++ ws)
  | _, _, _, _, .nil, s => s
  | _, _, _, _, .cons r t, s => .cons r (Vals.append t s)
noncomputable def RelO : Option V → Option Value → Prop
  | some v, some u => RelV v u
  | none, none => True
  | _, _ => False
noncomputable def KV {κ : Type} : List (κ × V) → List (κ × Value) → Prop := Paired fun (p : κ × V) (q : κ × Value) => p.1 = q.1 ∧ RelV p.2 q.2
noncomputable def kV : Key → V
  | .inl i => .int i
  | .inr x => .str x
inductive HO where
  /-- a list -/
  | lst (xs : List V)
  /-- a tuple (never changes) -/
  | tup (xs : List V)
  /-- a dict whose keys are ints and texts; one whose keys are tuples of ints and texts (the empty one is both) -/
  | dK (kvs : List (Key × V)) | dT (kvs : List (List Key × V))
  /-- a set of ints: its members, its size -/
  | set (S : Int → Bool) (n : Nat)
  /-- an instance of the class at C, its dict at dx, its attributes -/
  | ins (C dx : Addr) (fs : List (Str × V))
  /-- the dict of the instance at x -/
  | own (x : Addr)
  /-- the dict of an exception -/
  | xd (fs : List (Str × V))
  /-- a bound method, f of x -/
  | met (f x : Addr)
  /-- a range object lo, lo + 1, .. below hi -/
  | rng (lo hi : Int)
  /-- a thing that is known to the object (the script; a dict while a loop walks it): read, never written while it is so -/
  | frz (o : Obj) (u : HO)
  /-- a code object's table -/
  | tbl (ps : Array Value)
  /-- any other thing, by what is true of its one object (a def of one's own: SetO a S n := HO.ext fun h => ..) -/
  | ext (φ : Heap → Prop)
noncomputable abbrev Hp := Addr → Option HO
noncomputable def upd (H : Hp) (a : Addr) (o : HO) : Hp := fun b => if b = a then some o else H b
theorem upd_same {H : Hp} {a : Addr} {o : HO} : upd H a o a = some o := by unfold upd; rw [if_pos rfl]
theorem upd_ne {H : Hp} {a b : Addr} {o : HO} (h : b ≠ a) : upd H a o b = H b := by unfold upd; rw [if_neg h]
theorem ne_of_none {H : Hp} {a b : Addr} {o : HO} (h : H a = some o) (h' : H b = none) : a ≠ b := by
  intro e; subst e; rw [h] at h'; cases h'
section
variable (P : Program) (w : World)
noncomputable def ObjOk (H : Hp) (h : Heap) (a : Addr) : HO → Prop
  | .lst xs => xs.length ≤ sizeLine ∧ ∃ (its : List Value) (n : Nat), Vals xs its ∧ h.get? a = some { cls := .type "list", data := .seq its.toArray n }
  | .tup xs => xs.length ≤ sizeLine ∧ ∃ its : List Value, Vals xs its ∧ IsTup h a its.toArray
  | .dK kvs => kvs.length ≤ sizeLine ∧ (a == sysModules) = false ∧ ∃ vs, KV kvs vs ∧ h.DictOf (mixKind P w) a vs
  | .dT kvs => kvs.length ≤ sizeLine ∧ (a == sysModules) = false ∧ ∃ xs : List (List Key × Addr × Value),
      Paired (fun (p : List Key × V) (q : List Key × Addr × Value) => p.1 = q.1 ∧ H q.2.1 = some (.tup (p.1.map kV)) ∧ RelV p.2 q.2.2) kvs xs ∧
      ∃ o es ep, h.get? a = some o ∧ o.ExactDict ∧ o.data = .dict es ep ∧ es.toList = xs.map (entryOfKey (tupleKind (mixKind P w))) ∧ (xs.map (·.1)).Nodup
  | .set S n => h.SetOf (intKind P w) a S n
  | .ins C dx fs => H dx = some (.own a) ∧ fs.length ≤ 1000 ∧ dx ≠ a ∧ h.get? a = some (PySem.W.instObj C dx) ∧
      ∃ mA, h.Ns1 dx mA ∧ (∀ f, RelO (fs.lookup f) (mA f)) ∧ PySem.Within mA (fs.map (·.1))
  | .own _ => ∃ o, h.get? a = some o
  | .xd fs => ∃ mA, h.Ns1 a mA ∧ ∀ f, RelO (fs.lookup f) (mA f)
  | .rng lo hi => ∃ t u v, h.get? a = some { cls := .type "range", data := .fields #[.int lo t, .int hi u, .int 1 v] }
  | .frz o u => h.get? a = some o ∧ ObjOk H h a u
  | .tbl ps => h.get? a = some { cls := .none, data := .fields ps }
  | .met f x => h.get? a = some (PySem.W.methodObj (.ref f) (.ref x))
  | .ext φ => φ h ∧ (∃ o, h.get? a = some o) ∧ ∀ h1 h2 : Heap, φ h1 → (∀ o, h1.get? a = some o → h2.get? a = some o) → φ h2
noncomputable def HOk (H : Hp) (h : Heap) : Prop := ∀ a o, H a = some o → ObjOk P w H h a o
end
section
variable {P : Program} {w : World} {H H' : Hp} {h h' : Heap} {a : Addr} {o : HO}
theorem ObjOk.lt (x : ObjOk P w H h a o) : a < h.objs.size := by
  cases o with
  | lst xs => obtain ⟨_, _, _, _, e⟩ := x; exact Heap.lt_size e
  | tup xs => obtain ⟨_, _, _, p⟩ := x; exact p.lt
  | dK kvs => obtain ⟨_, _, _, _, o, _, _, e, _⟩ := x; exact Heap.lt_size e
  | dT kvs => obtain ⟨_, _, _, _, o, _, _, e, _⟩ := x; exact Heap.lt_size e
  | set S n => obtain ⟨o, _, _, _, e, _⟩ := x; exact Heap.lt_size e
  | ins C dx fs => obtain ⟨_, _, _, e, _⟩ := x; exact Heap.lt_size e
  | own y => obtain ⟨_, e⟩ := x; exact Heap.lt_size e
  | xd fs => obtain ⟨_, ⟨_, _, _, e, _⟩, _⟩ := x; exact Heap.lt_size e
  | rng lo hi => obtain ⟨_, _, _, e⟩ := x; exact Heap.lt_size e
  | frz ob u => obtain ⟨e, _⟩ := x; exact Heap.lt_size e
  | tbl ps => exact Heap.lt_size (show h.get? a = some _ from x)
  | met f y => exact Heap.lt_size (show h.get? a = some _ from x)
  | ext φ => obtain ⟨_, ⟨_, e⟩, _⟩ := x; exact Heap.lt_size e
theorem Paired.mapP {α β : Type} {F G : α → β → Prop} : ∀ {l₁ : List α} {l₂ : List β}, Paired F l₁ l₂ → (∀ a b, F a b → G a b) → Paired G l₁ l₂
  | _, _, .nil, _ => .nil
  | _, _, .cons r t, f => .cons (f _ _ r) (Paired.mapP t f)
theorem ObjOk.stay (x : ObjOk P w H h a o) (k : ∀ b u, (b = a ∨ H b = some (.own a)) → h.get? b = some u → h'.get? b = some u)
    (ho : ∀ b, H b = some (.own a) → H' b = some (.own a)) (ht : ∀ b xs, H b = some (.tup xs) → H' b = some (.tup xs)) : ObjOk P w H' h' a o := by
  induction o with
  | lst xs => obtain ⟨z, its, n, r, e⟩ := x; exact ⟨z, its, n, r, k _ _ (.inl rfl) e⟩
  | tup xs => obtain ⟨z, its, r, ob, e, c⟩ := x; exact ⟨z, its, r, ob, k _ _ (.inl rfl) e, c⟩
  | dK kvs => obtain ⟨z, y, vs, r, ob, es, ep, e, c⟩ := x; exact ⟨z, y, vs, r, ob, es, ep, k _ _ (.inl rfl) e, c⟩
  | dT kvs =>
    obtain ⟨z, y, xs, r, ob, es, ep, e, c⟩ := x
    exact ⟨z, y, xs, Paired.mapP r fun p q z => ⟨z.1, ht _ _ z.2.1, z.2.2⟩, ob, es, ep, k _ _ (.inl rfl) e, c⟩
  | set S n => obtain ⟨ob, es, ep, t, e, c⟩ := x; exact ⟨ob, es, ep, t, k _ _ (.inl rfl) e, c⟩
  | ins C dx fs =>
    obtain ⟨d, z, ne, e, mA, ⟨od, es, ep, e2, c⟩, r⟩ := x
    exact ⟨ho _ d, z, ne, k _ _ (.inl rfl) e, mA, ⟨od, es, ep, k _ _ (.inr d) e2, c⟩, r⟩
  | own y => obtain ⟨ob, e⟩ := x; exact ⟨ob, k _ _ (.inl rfl) e⟩
  | xd fs => obtain ⟨mA, ⟨od, es, ep, e, c⟩, r⟩ := x; exact ⟨mA, ⟨od, es, ep, k _ _ (.inl rfl) e, c⟩, r⟩
  | rng lo hi => obtain ⟨t, u, v, e⟩ := x; exact ⟨t, u, v, k _ _ (.inl rfl) e⟩
  | frz ob u ih => obtain ⟨e, q⟩ := x; exact ⟨k _ _ (.inl rfl) e, ih q⟩
  | tbl ps =>
    have e : h.get? a = some { cls := .none, data := .fields ps } := x
    show h'.get? a = some { cls := .none, data := .fields ps }
    exact k a _ (.inl rfl) e
  | met f y =>
    have e : h.get? a = some (PySem.W.methodObj (.ref f) (.ref y)) := x
    show h'.get? a = some (PySem.W.methodObj (.ref f) (.ref y))
    exact k a _ (.inl rfl) e
  | ext φ => obtain ⟨p, ⟨o, e⟩, st⟩ := x; exact ⟨st _ _ p fun o q => k _ _ (.inl rfl) q, ⟨o, k _ _ (.inl rfl) e⟩, st⟩
theorem HOk.lt (x : HOk P w H h) (e : H a = some o) : a < h.objs.size := (x a o e).lt
theorem HOk.fresh (x : HOk P w H h) (e : h.objs.size ≤ a) : H a = none := by
  cases q : H a with
  | none => rfl
  | some u => exact absurd (Nat.lt_of_lt_of_le (x.lt q) e) (Nat.lt_irrefl _)
theorem HOk.kept (x : HOk P w H h) (k : ∀ b u, h.get? b = some u → h'.get? b = some u) : HOk P w H h' := fun a o e =>
  (x a o e).stay (fun b u _ q => k b u q) (fun _ q => q) fun _ _ q => q
theorem HOk.laid (x : HOk P w H h) (k : ∀ b u, h.get? b = some u → h'.get? b = some u) (hp : h.objs.size ≤ a) (new : ObjOk P w (upd H a o) h' a o) : HOk P w (upd H a o) h' := fun b u e => by
  have hn := x.fresh hp
  by_cases hb : b = a
  · subst hb; rw [upd_same] at e; cases e; exact new
  · rw [upd_ne hb] at e
    exact (x b u e).stay (fun c v _ q => k c v q) (fun c q => by rw [upd_ne (ne_of_none q hn)]; exact q) fun c xs q => by rw [upd_ne (ne_of_none q hn)]; exact q
end
noncomputable def Rd (H : Hp) (a : Addr) (u : HO) : Prop := H a = some u ∨ ∃ o, H a = some (.frz o u)
theorem Rd.ok {P : Program} {w : World} {H : Hp} {h : Heap} {a : Addr} {u : HO} (r : Rd H a u) (x : HOk P w H h) : ObjOk P w H h a u := by
  rcases r with r | ⟨o, r⟩
  · exact x a u r
  · obtain ⟨_, q⟩ := x a _ r
    exact q
noncomputable def Mut : Option HO → Prop
  | some (.lst _) => True
  | some (.dK _) => True
  | some (.dT _) => True
  | some (.set _ _) => True
  | some (.ins _ _ _) => True
  | some (.ext _) => True
  | _ => False
section
variable {P : Program} {w : World} {H : Hp} {h h' : Heap} {x e : Addr} {o' : HO}
theorem HOk.write (ok : HOk P w H h) (mu : Mut (H x)) (he : e = x ∨ H e = some (.own x)) (k : ∀ b u, b ≠ e → h.get? b = some u → h'.get? b = some u) (heo : ∃ u, h'.get? e = some u)
    (new : ObjOk P w (upd H x o') h' x o') : HOk P w (upd H x o') h' := fun b u q => by
  have nown : ∀ c y, H c = some (.own y) → c ≠ x := fun c y r z => by subst z; rw [r] at mu; exact mu
  have ntup : ∀ c xs, H c = some (.tup xs) → c ≠ x := fun c xs r z => by subst z; rw [r] at mu; exact mu
  by_cases hb : b = x
  · subst hb; rw [upd_same] at q; cases q; exact new
  · rw [upd_ne hb] at q
    by_cases hbe : b = e
    · have q' : H b = some (.own x) := by
        rcases he with z | z
        · exact absurd (hbe.trans z) hb
        · rw [hbe]; exact z
      rw [q] at q'; cases q'
      obtain ⟨v, hv⟩ := heo
      exact ⟨v, by rw [hbe]; exact hv⟩
    · refine (ok b u q).stay (fun c v hc r => k c v ?_ r) (fun c r => by rw [upd_ne (nown c b r)]; exact r) fun c xs r => by rw [upd_ne (ntup c xs r)]; exact r
      rcases hc with rfl | hc
      · exact hbe
      · rintro rfl
        rcases he with z | z
        · exact nown c b hc z
        · rw [hc] at z; cases z; exact hb rfl
end
structure Un (fs ex : List Addr) (H H' : Hp) (h h' : Heap) : Prop where
  keep : ∀ b o, h.get? b = some o → H b = none → b ∉ fs → b ∉ ex → h'.get? b = some o
  slot : ∀ b o, h.get? b = some o → H b = none → b ∈ fs → b ∉ ex → ∃ sl, h'.get? b = some { o with slots := sl }
  free : ∀ b o, h.get? b = some o → H b = none → b ∉ ex → H' b = none
  there : ∀ b o, h.get? b = some o → b ∉ ex → ∃ o', h'.get? b = some o'
  tups : ∀ b xs, H b = some (.tup xs) → H' b = some (.tup xs)
  frzs : ∀ b o u, H b = some (.frz o u) → H' b = some (.frz o u)
  tbls : ∀ b ps, H b = some (.tbl ps) → ∃ more, H' b = some (.tbl (ps ++ more))
section
variable {fs fs' ex ex' : List Addr} {H H1 H2 : Hp} {h h1 h2 h' : Heap} {a x e : Addr} {o : HO}
theorem Un.any (u : Un fs ex H H1 h h1) {b : Addr} {ob : Obj} (q : h.get? b = some ob) (n : H b = none) (hx : b ∉ ex) : ∃ sl, h1.get? b = some { ob with slots := sl } := by
  by_cases hb : b ∈ fs
  · exact u.slot b ob q n hb hx
  · exact ⟨ob.slots, u.keep b ob q n hb hx⟩
theorem Un.kept (k : ∀ b u, h.get? b = some u → h'.get? b = some u) : Un fs ex H H h h' :=
  ⟨fun b ob q _ _ _ => k b ob q, fun b ob q _ _ _ => ⟨ob.slots, k b ob q⟩, fun _ _ _ n _ => n, fun b ob q _ => ⟨ob, k b ob q⟩, fun _ _ q => q, fun _ _ _ q => q, fun _ ps q => ⟨#[], by rw [q]; simp⟩⟩
theorem Un.refl : Un fs ex H H h h := Un.kept fun _ _ q => q
theorem Un.laid (k : ∀ b u, h.get? b = some u → h'.get? b = some u) (hp : h.objs.size ≤ a) (hn : H a = none) : Un fs ex H (upd H a o) h h' where
  keep := fun b u q _ _ _ => k b u q
  slot := fun b u q _ _ _ => ⟨u.slots, k b u q⟩
  free := fun b u q n _ => by rw [upd_ne (Nat.ne_of_lt (Nat.lt_of_lt_of_le (Heap.lt_size q) hp))]; exact n
  there := fun b u q _ => ⟨u, k b u q⟩
  tups := fun b xs q => by rw [upd_ne (ne_of_none q hn)]; exact q
  frzs := fun b u xs q => by rw [upd_ne (ne_of_none q hn)]; exact q
  tbls := fun b ps q => ⟨#[], by rw [upd_ne (ne_of_none q hn), q]; simp⟩
theorem Un.write (mu : Mut (H x)) (he : e = x ∨ H e = some (.own x)) (k : ∀ b u, b ≠ e → h.get? b = some u → h'.get? b = some u) (heo : ∃ u, h'.get? e = some u) : Un fs ex H (upd H x o) h h' := by
  have hx : ∀ b, H b = none → b ≠ x := fun b n z => by subst z; rw [n] at mu; exact mu
  have hb : ∀ b, H b = none → b ≠ e := fun b n z => by
    subst z
    rcases he with r | r
    · exact hx b n r
    · rw [n] at r; cases r
  have hm : ∀ b u, H b = some u → ¬ Mut (some u) → b ≠ x := fun b u q nm z => by subst z; rw [q] at mu; exact nm mu
  refine ⟨fun b u q n _ _ => k b u (hb b n) q, fun b u q n _ _ => ⟨u.slots, k b u (hb b n) q⟩, fun b u q n _ => by rw [upd_ne (hx b n)]; exact n, fun b u q _ => ?_,
    fun b xs q => by rw [upd_ne (hm b _ q fun z => z)]; exact q, fun b u xs q => by rw [upd_ne (hm b _ q fun z => z)]; exact q, fun b ps q => ⟨#[], by rw [upd_ne (hm b _ q fun z => z), q]; simp⟩⟩
  by_cases hbe : b = e
  · subst hbe; exact heo
  · exact ⟨u, k b u hbe q⟩
end
noncomputable def trk (h : Heap) (H : Hp) : List Addr := (List.range h.objs.size).filter fun a => (H a).isSome
noncomputable def hidT (h : Heap) (H : Hp) : Heap := PySem.W.hideAll h (trk h H)
theorem hidT_size (h : Heap) (H : Hp) : (hidT h H).objs.size = h.objs.size := PySem.W.hideAll_size _ _
theorem hidT_get {h : Heap} {H : Hp} {b : Addr} {o : Obj} (e : h.get? b = some o) (n : H b = none) : (hidT h H).get? b = some o :=
  PySem.W.hideAll_get _ e fun hm => by
    have q : (H b).isSome = true := (List.mem_filter.mp hm).2
    rw [n] at q; simp at q
theorem of_hidT {h : Heap} {H : Hp} {b : Addr} {o : Obj} (e : (hidT h H).get? b = some o) : h.get? b = some o ∧ H b = none := by
  have e' : h.get? b = some o := PySem.W.of_hideAll (trk h H) e
  refine ⟨e', ?_⟩
  cases q : H b with
  | none => rfl
  | some x =>
    have hm : b ∈ trk h H := List.mem_filter.mpr ⟨List.mem_range.mpr (Heap.lt_size e'), by simp [q]⟩
    have z : (hidT h H).get? b = none := PySem.W.hideAll_none (trk h H) hm
    rw [z] at e; cases e
noncomputable def allNews (g h : Heap) (L : Addr) : List (Addr × Obj) := (List.range h.objs.size).filterMap fun a => if a = L ∨ (g.get? a).isSome = true then none else (h.get? a).map fun o => (a, o)
noncomputable def rest (g h : Heap) (L d : Addr) : List (Addr × Obj) := (allNews g h L).filter fun p => decide (p.1 ≠ d)
end L2
namespace L2
open PySem PySem.Spec PyProof.Rows
structure Mod (K : PySem.W.Frag) (mg : Str → Option Value) (base : Heap) : Prop where
  kin : K.In base
  glob : base.Ns mainGlobals mg
  blt : ∃ mb, base.Ns builtinsNs mb ∧ ∀ x : Str, x ≠ "__name__" → mb x = bootBuiltins x
  nolimit : base.NoLimit
structure Cx where
  prog : Program
  w : World
  K : PySem.W.Frag
  mg : Str → Option Value
  base : Heap
  A : Around
  N : List Str
  s₀ : Shared
  H₀ : Hp
  env : Env
  outer : List Env
  stack : List Env
  ex : List Addr
  fn : Str → Bool
  calm : Bool
  pn : List (Addr × Obj)
  xe : Value → Shared → Prop
noncomputable def frs (l : List Env) : List Addr := l.filterMap (·.frame)
noncomputable abbrev Cx.fs (X : Cx) : List Addr := frs X.outer
noncomputable def Vis (sc : Scope) (x : Str) : Prop := sc.names.lookup x = some .local ∨ sc.names.lookup x = some .cell ∨ sc.names.lookup x = some .free
noncomputable def Loc (sc : Scope) (x : Str) : Prop := sc.names.lookup x = some .local ∨ sc.names.lookup x = some .cell
noncomputable def Look (env : Env) (h : Heap) (m : Str → Option Value) (x : Str) (u : Value) : Prop :=
  (env.kindOf x = some .local ∧ m x = some u) ∨ ((env.kindOf x = some .cell ∨ env.kindOf x = some .free) ∧ ∃ c, env.cells.lookup x = some c ∧ h.IsCell c (some u))
structure Cx.Ok (X : Cx) : Prop where
  mod : Mod X.K X.mg X.base
  kind : X.env.scope.kind = .function
  glob : X.env.globals = mainGlobals
  blt : X.env.builtins = builtinsNs
  above : X.s₀.heap.objs.size ≤ X.env.locals
  inj : ∀ x y c, X.env.cells.lookup x = some c → X.env.cells.lookup y = some c → x = y
  has : ∀ x, (X.env.kindOf x = some .cell ∨ X.env.kindOf x = some .free) → ∃ c, X.env.cells.lookup x = some c
  cab : ∀ x c, X.fn x = true → X.env.cells.lookup x = some c → X.s₀.heap.objs.size ≤ c
  hd : X.calm = true → X.A.handled = none
  frames : X.A.frames = some X.stack
  stk : X.stack = X.outer ∨ (X.stack = X.env :: X.outer ∧ X.env.frame = some X.env.locals)
  exf : ∀ b ∈ X.ex, b ≠ X.env.locals ∧ ∀ x c, X.env.cells.lookup x = some c → c ≠ b
  bs : ∀ b o, X.base.get? b = some o → X.s₀.heap.get? b = some o ∧ X.H₀ b = none
  bsz : X.base.objs.size ≤ X.s₀.heap.objs.size
  noex : ∀ b o, X.base.get? b = some o → b ∉ X.ex
  exfs : ∀ b ∈ X.ex, b ∉ X.fs
  funs : X.s₀.heap.FunFrames X.base X.outer
  frf : ∀ b ∈ X.fs, X.H₀ b = none
structure Inv (X : Cx) (pins : List (Addr × Obj)) (σ : List (Option V)) (H : Hp) (s : Shared) : Prop where
  ok : X.Ok
  os : s.os = X.s₀.os
  bare : AllBare s.gens
  base : Un X.fs X.ex X.H₀ H X.s₀.heap s.heap
  loc : ∃ m, s.heap.Ns X.env.locals m ∧ ∀ (i : Nat) (x : Str) (v : V), X.N[i]? = some x → σ[i]? = some (some v) → Vis X.env.scope x → ∃ u, RelV v u ∧ Look X.env s.heap m x u
  cell : ∀ x c, X.env.cells.lookup x = some c → ∃ v, s.heap.IsCell c v
  free : H X.env.locals = none
  freeC : ∀ x c, X.env.cells.lookup x = some c → H c = none
  pin : ∀ p ∈ X.pn ++ pins, s.heap.get? p.1 = some p.2 ∧ H p.1 = none ∧ p.1 ≠ X.env.locals ∧ p.1 ∉ X.fs ∧ ∀ v, p.2.data ≠ .cell v
  hok : HOk X.prog X.w H s.heap
  len : σ.length = X.N.length
section
variable {X : Cx} {pins : List (Addr × Obj)} {σ : List (Option V)} {H H' : Hp} {s : Shared} {h' : Heap}
theorem Cx.Ok.nofr (ok : X.Ok) {b : Addr} {o : Obj} (e : X.base.get? b = some o) : b ∉ X.fs := fun hb => by
  have := (ok.funs.mem hb).1
  rw [e] at this; cases this
theorem Inv.bs (I : Inv X pins σ H s) : ∀ b o, X.base.get? b = some o → s.heap.get? b = some o ∧ H b = none := fun b o e =>
  ⟨I.base.keep b o (I.ok.bs b o e).1 (I.ok.bs b o e).2 (I.ok.nofr e) (I.ok.noex b o e), I.base.free b o (I.ok.bs b o e).1 (I.ok.bs b o e).2 (I.ok.noex b o e)⟩
theorem Inv.bk (I : Inv X pins σ H s) : ∀ b o, X.base.get? b = some o → s.heap.get? b = some o := fun b o e => (I.bs b o e).1
theorem Inv.mod (I : Inv X pins σ H s) : Mod X.K X.mg X.base := I.ok.mod
theorem Inv.kIn (I : Inv X pins σ H s) : X.K.In s.heap := I.ok.mod.kin.keeps I.bk
theorem Inv.lt (I : Inv X pins σ H s) : X.env.locals < s.heap.objs.size := let ⟨_, hn, _⟩ := I.loc; hn.lt
theorem Inv.sz (I : Inv X pins σ H s) : X.s₀.heap.objs.size ≤ s.heap.objs.size := Nat.le_trans I.ok.above (Nat.le_of_lt I.lt)
theorem Inv.nofs (I : Inv X pins σ H s) {a : Addr} (h : s.heap.objs.size ≤ a) : a ∉ X.fs := fun hb => by
  obtain ⟨_, o, ho, _⟩ := I.ok.funs.mem hb
  exact absurd (Nat.lt_of_lt_of_le (Heap.lt_size ho) (Nat.le_trans I.sz h)) (Nat.lt_irrefl _)
theorem Inv.cne (I : Inv X pins σ H s) : ∀ x c, X.env.cells.lookup x = some c → c ≠ X.env.locals := fun x c e z => by
  obtain ⟨v, o, ho, hd⟩ := I.cell x c e
  obtain ⟨m, ⟨o', es, ep, ho', hd', _⟩, _⟩ := I.loc
  rw [z, ho'] at ho; cases ho; rw [hd'] at hd; cases hd
theorem Inv.funs (I : Inv X pins σ H s) : s.heap.FunFrames X.base X.outer := by
  have all : ∀ (l : List Env), (∀ b ∈ frs l, b ∈ X.fs) → X.s₀.heap.FunFrames X.base l → s.heap.FunFrames X.base l := by
    intro l
    induction l with
    | nil => intro _ _; trivial
    | cons env r ih =>
      intro hs hl
      obtain ⟨hk, ⟨L, o, hf, hn, ho, hd⟩, hr⟩ := hl
      have hL : L ∈ X.fs := hs L (by unfold frs; rw [List.filterMap_cons, hf]; exact List.mem_cons_self)
      obtain ⟨sl, e⟩ := I.base.slot L o ho (I.ok.frf L hL) hL fun z => I.ok.exfs L z hL
      exact ⟨hk, ⟨L, _, hf, hn, e, hd⟩, ih (fun b hb => hs b (by unfold frs; rw [List.filterMap_cons, hf]; exact List.mem_cons_of_mem _ hb)) hr⟩
  exact all X.outer (fun _ hb => hb) I.ok.funs
theorem Inv.stack (I : Inv X pins σ H s) : s.heap.FunFrames X.base X.stack := by
  rcases I.ok.stk with e | ⟨e, hf⟩
  · rw [e]; exact I.funs
  · rw [e]
    obtain ⟨m, hn, _⟩ := I.loc
    refine .cons (by rw [I.ok.kind]; decide) hf hn ?_ I.funs
    exact Heap.get?_none_of_le (Nat.le_trans I.ok.bsz I.ok.above)
theorem Inv.stkSub (I : Inv X pins σ H s) : ∀ b ∈ frs X.stack, b ∈ X.env.locals :: X.fs := fun b hb => by
  rcases I.ok.stk with e | ⟨e, hf⟩
  · rw [e] at hb; exact List.mem_cons_of_mem _ hb
  · rw [e] at hb
    unfold frs at hb
    rw [List.filterMap_cons, hf] at hb
    exact hb
theorem Inv.stkFree (I : Inv X pins σ H s) : ∀ b ∈ frs X.stack, H b = none := fun b hb => by
  rcases List.mem_cons.mp (I.stkSub b hb) with e | hb
  · rw [e]; exact I.free
  · obtain ⟨_, o, ho, _⟩ := I.ok.funs.mem hb
    exact I.base.free b o ho (I.ok.frf b hb) fun z => I.ok.exfs b z hb
theorem Inv.step {g' : Array GenState} {t' : Nat} {d' : Drawn} {ch : List Addr} (I : Inv X pins σ H s)
    (hch : ∀ b ∈ ch, (b ∈ X.ex ∨ X.s₀.heap.objs.size ≤ b) ∧ b ≠ X.env.locals ∧ (∀ x c, X.env.cells.lookup x = some c → c ≠ b) ∧ ∀ p ∈ X.pn ++ pins, p.1 ≠ b)
    (keep : ∀ b o, b ≠ X.env.locals → b ∉ X.fs → b ∉ ch → s.heap.get? b = some o → H b = none → h'.get? b = some o)
    (slot : ∀ b o, b ≠ X.env.locals → b ∈ X.fs → b ∉ ch → s.heap.get? b = some o → H b = none → ∃ sl, h'.get? b = some { o with slots := sl }) (free : ∀ b o, b ∉ ch → s.heap.get? b = some o → H b = none → H' b = none)
    (there : ∀ b o, b ∉ ch → s.heap.get? b = some o → ∃ o', h'.get? b = some o')
    (tups : ∀ b xs, H b = some (.tup xs) → H' b = some (.tup xs)) (frzs : ∀ b o u, H b = some (.frz o u) → H' b = some (.frz o u)) (tbls : ∀ b ps, H b = some (.tbl ps) → ∃ more, H' b = some (.tbl (ps ++ more)))
    (ns : ∀ m, s.heap.Ns X.env.locals m → h'.Ns X.env.locals m) (hok : HOk X.prog X.w H' h') (hg : AllBare g') :
    Inv X pins σ H' { s with heap := h', gens := g', drawn := d', toks := t' } := by
  have neL : ∀ b o, X.s₀.heap.get? b = some o → b ≠ X.env.locals := fun b o e => Nat.ne_of_lt (Nat.lt_of_lt_of_le (Heap.lt_size e) I.ok.above)
  have neC : ∀ b o, X.s₀.heap.get? b = some o → b ∉ X.ex → b ∉ ch := fun b o e hx hb => by
    rcases (hch b hb).1 with z | z
    · exact hx z
    · exact absurd (Nat.lt_of_lt_of_le (Heap.lt_size e) z) (Nat.lt_irrefl _)
  have cellK : ∀ x c, X.env.cells.lookup x = some c → ∀ v, s.heap.IsCell c v → h'.IsCell c v := fun x c e v ⟨o, ho, hd⟩ => by
    have nch : c ∉ ch := fun z => (hch c z).2.2.1 x c e rfl
    by_cases hc : c ∈ X.fs
    · obtain ⟨sl, q⟩ := slot c o (I.cne x c e) hc nch ho (I.freeC x c e)
      exact ⟨_, q, hd⟩
    · exact ⟨o, keep c o (I.cne x c e) hc nch ho (I.freeC x c e), hd⟩
  refine ⟨I.ok, I.os, hg, ⟨fun b o e n hb hx => ?_, fun b o e n hb hx => ?_, fun b o e n hx => ?_, fun b o e hx => ?_, fun b xs e => tups b xs (I.base.tups b xs e), fun b o xs e => frzs b o xs (I.base.frzs b o xs e), fun b ps e => ?_⟩, ?_, fun x c e => ?_, ?_, fun x c e => ?_, fun p hp => ?_, hok, I.len⟩
  · exact keep b o (neL b o e) hb (neC b o e hx) (I.base.keep b o e n hb hx) (I.base.free b o e n hx)
  · obtain ⟨sl, e1⟩ := I.base.slot b o e n hb hx
    obtain ⟨sl', e2⟩ := slot b _ (neL b o e) hb (neC b o e hx) e1 (I.base.free b o e n hx)
    exact ⟨sl', e2⟩
  · obtain ⟨o', e1⟩ := I.base.there b o e hx
    exact free b o' (neC b o e hx) e1 (I.base.free b o e n hx)
  · obtain ⟨o', e1⟩ := I.base.there b o e hx
    exact there b o' (neC b o e hx) e1
  · obtain ⟨m1, e1⟩ := I.base.tbls b ps e
    obtain ⟨m2, e2⟩ := tbls b _ e1
    exact ⟨m1 ++ m2, by rw [e2, Array.append_assoc]⟩
  · obtain ⟨m, hn, hl⟩ := I.loc
    refine ⟨m, ns m hn, fun i x v e1 e2 e3 => ?_⟩
    obtain ⟨u, r, l⟩ := hl i x v e1 e2 e3
    refine ⟨u, r, ?_⟩
    rcases l with l | ⟨k, c, e, z⟩
    · exact .inl l
    · exact .inr ⟨k, c, e, cellK x c e _ z⟩
  · obtain ⟨v, z⟩ := I.cell x c e
    exact ⟨v, cellK x c e v z⟩
  · obtain ⟨m, ⟨o, _, _, ho, _⟩, _⟩ := I.loc
    exact free _ o (fun z => (hch _ z).2.1 rfl) ho I.free
  · obtain ⟨v, o, ho, hd⟩ := I.cell x c e
    exact free c o (fun z => (hch c z).2.2.1 x c e rfl) ho (I.freeC x c e)
  · obtain ⟨e, n, ne, nf, d⟩ := I.pin p hp
    have nch : p.1 ∉ ch := fun z => (hch p.1 z).2.2.2 p hp rfl
    exact ⟨keep p.1 p.2 ne nf nch e n, free p.1 p.2 nch e n, ne, nf, d⟩
theorem Inv.un {t' : Nat} (I : Inv X pins σ H s) (u : Un X.fs [] H H' s.heap h') (hok : HOk X.prog X.w H' h') : Inv X pins σ H' { s with heap := h', toks := t' } := by
  obtain ⟨m, ⟨o, es, ep, ho, r⟩, _⟩ := id I.loc
  obtain ⟨sl, hL⟩ := u.any ho I.free (by simp)
  exact I.step (g' := s.gens) (d' := s.drawn) (ch := []) (fun _ z => nomatch z) (fun b o _ hb _ e n => u.keep b o e n hb (by simp)) (fun b o _ hb _ e n => u.slot b o e n hb (by simp)) (fun b o _ e n => u.free b o e n (by simp)) (fun b o _ e => u.there b o e (by simp)) u.tups u.frzs u.tbls (fun m' hm => by
    obtain ⟨o', es', ep', ho', r'⟩ := hm
    rw [ho] at ho'; cases ho'
    exact ⟨_, es', ep', hL, r'⟩) hok I.bare
theorem Inv.call {g' : Array GenState} {t' : Nat} {d' : Drawn} {ch : List Addr} (I : Inv X pins σ H s) (u : Un (frs X.stack) ch H H' s.heap h') (hok : HOk X.prog X.w H' h') (hg : AllBare g')
    (hch : ∀ b ∈ ch, (b ∈ X.ex ∨ X.s₀.heap.objs.size ≤ b) ∧ b ≠ X.env.locals ∧ (∀ x c, X.env.cells.lookup x = some c → c ≠ b) ∧ ∀ p ∈ X.pn ++ pins, p.1 ≠ b) :
    Inv X pins σ H' { s with heap := h', gens := g', drawn := d', toks := t' } := by
  obtain ⟨m, ⟨o, es, ep, ho, r⟩, _⟩ := id I.loc
  obtain ⟨sl, hL⟩ := u.any ho I.free fun z => (hch _ z).2.1 rfl
  exact I.step (ch := ch) hch (fun b o hL hb hc e n => u.keep b o e n (fun z => (List.mem_cons.mp (I.stkSub b z)).elim hL hb) hc) (fun b o _ _ hc e n => u.any e n hc) (fun b o hc e n => u.free b o e n hc) (fun b o hc e => u.there b o e hc) u.tups u.frzs u.tbls (fun m' hm => by
    obtain ⟨o', es', ep', ho', r'⟩ := hm
    rw [ho] at ho'; cases ho'
    exact ⟨_, es', ep', hL, r'⟩) hok hg
theorem Inv.turned {t' : Nat} {it : Addr} (I : Inv X pins σ H s) (k : ∀ b o, b ≠ it → s.heap.get? b = some o → h'.get? b = some o) (hn : H it = none) (hL : it ≠ X.env.locals)
    (h1 : it ∈ X.ex ∨ X.s₀.heap.objs.size ≤ it) (h2 : ∀ x c, X.env.cells.lookup x = some c → c ≠ it) (h3 : ∀ p ∈ X.pn ++ pins, p.1 ≠ it) : Inv X pins σ H { s with heap := h', toks := t' } := by
  have nit : ∀ b u, H b = some u → b ≠ it := fun b u e z => by rw [z, hn] at e; cases e
  refine I.step (g' := s.gens) (d' := s.drawn) (ch := [it]) (fun b hb => ?_) (fun b o _ _ hc e _ => k b o (fun z => hc (by simp [z])) e) (fun b o _ _ hc e _ => ⟨o.slots, k b o (fun z => hc (by simp [z])) e⟩) (fun _ _ _ _ n => n)
    (fun b o hc e => ⟨o, k b o (fun z => hc (by simp [z])) e⟩) (fun _ _ e => e) (fun _ _ _ e => e) (fun b ps e => ⟨#[], by rw [e]; simp⟩) (fun m hm => ?_) (fun b u e => ?_) I.bare
  · have e : b = it := by simpa using hb
    subst e
    exact ⟨h1, hL, h2, h3⟩
  · obtain ⟨o, es, ep, ho, r⟩ := hm
    exact ⟨o, es, ep, k _ o (Ne.symm hL) ho, r⟩
  · refine (I.hok b u e).stay (fun c v hc q => k c v ?_ q) (fun _ q => q) fun _ _ q => q
    rcases hc with z | z
    · rw [z]; exact nit b u e
    · exact nit c _ z
theorem Inv.tok (I : Inv X pins σ H s) (t : Nat) : Inv X pins σ H { s with toks := t } := I.un (h' := s.heap) (t' := t) Un.refl I.hok
theorem Inv.kept {t' : Nat} (I : Inv X pins σ H s) (k : ∀ b u, s.heap.get? b = some u → h'.get? b = some u) : Inv X pins σ H { s with heap := h', toks := t' } := I.un (Un.kept k) (I.hok.kept k)
theorem Inv.laid {a : Addr} {o : HO} {t' : Nat} (I : Inv X pins σ H s) (k : ∀ b u, s.heap.get? b = some u → h'.get? b = some u) (hp : s.heap.objs.size ≤ a) (new : ObjOk X.prog X.w (upd H a o) h' a o) :
    Inv X pins σ (upd H a o) { s with heap := h', toks := t' } := I.un (Un.laid k hp (I.hok.fresh hp)) (I.hok.laid k hp new)
theorem Inv.write {x e : Addr} {o : HO} {t' : Nat} (I : Inv X pins σ H s) (mu : Mut (H x)) (he : e = x ∨ H e = some (.own x)) (k : ∀ b u, b ≠ e → s.heap.get? b = some u → h'.get? b = some u) (heo : ∃ u, h'.get? e = some u)
    (new : ObjOk X.prog X.w (upd H x o) h' x o) : Inv X pins σ (upd H x o) { s with heap := h', toks := t' } := I.un (Un.write mu he k heo) (I.hok.write mu he k heo new)
theorem Inv.pins_of {pins' : List (Addr × Obj)} (I : Inv X pins σ H s) (h : ∀ p ∈ pins', s.heap.get? p.1 = some p.2 ∧ H p.1 = none ∧ p.1 ≠ X.env.locals ∧ p.1 ∉ X.fs ∧ ∀ v, p.2.data ≠ .cell v) : Inv X pins' σ H s :=
  ⟨I.ok, I.os, I.bare, I.base, I.loc, I.cell, I.free, I.freeC, fun p hp => (List.mem_append.mp hp).elim (fun z => I.pin p (List.mem_append_left _ z)) (h p), I.hok, I.len⟩
theorem nodup_ix {N : List Str} (hN : N.Nodup) {i j : Nat} {x : Str} (a : N[i]? = some x) (b : N[j]? = some x) : i = j := by
  obtain ⟨h1, e1⟩ := List.getElem?_eq_some_iff.mp a
  obtain ⟨h2, e2⟩ := List.getElem?_eq_some_iff.mp b
  exact (List.getElem_inj hN).mp (e1.trans e2.symm)
theorem store_ok2 {M : Model} {A : Around} {E : Value → Shared → Prop} {i : Nat} {x : Str} {v : V} {u : Value} {Q : Unit → Shared → Prop} (I : Inv X pins σ H s) (hN : X.N.Nodup) (hi : X.N[i]? = some x) (hx : Loc X.env.scope x) (r : RelV v u)
    (h : ∀ s', Inv X pins (σ.set i (some v)) H s' → (∃ a, Heap.SameBut a s.heap s'.heap ∧ (a = X.env.locals ∨ X.env.cells.lookup x = some a)) → Q () s') (hf : X.fn x = true ∨ X.env.scope.names.lookup x = some .local := by first | exact .inl rfl | exact .inr rfl | assumption) : wpAny M A (storeName X.env x u) Q E s := by
  obtain ⟨m, hn, hl⟩ := id I.loc
  have hcls : (X.env.scope.kind == .class || (X.env.scope.kind == .module && X.env.locals != X.env.globals)) = false := by rw [I.ok.kind]; rfl
  have hiσ : i < σ.length := by rw [I.len]; exact (List.getElem?_eq_some_iff.mp hi).1
  have cne := I.cne
  have tracked : ∀ {a : Addr} {h' : Heap}, (∃ o, s.heap.get? a = some o ∧ H a = none) → Heap.SameBut a s.heap h' → HOk X.prog X.w H h' := fun {a h'} ha hs b ob e => by
    obtain ⟨_, _, hfree⟩ := ha
    refine (I.hok b ob e).stay (fun c w' hc q => (hs.2 c ?_).trans q) (fun _ q => q) fun _ _ q => q
    rintro rfl
    rcases hc with rfl | hc
    · rw [hfree] at e; cases e
    · rw [hfree] at hc; cases hc
  rcases hx with hk | hk
  · refine wpAny_storeName_local hk hn (fun h' hn' hs => ?_) hcls
    obtain ⟨oL, _, _, hoL, _⟩ := id hn
    refine h _ ⟨I.ok, I.os, I.bare, ⟨fun b o e n hb hx => ?_, fun b o e n hb hx => ?_, I.base.free, fun b o e hx => ?_, I.base.tups, I.base.frzs, I.base.tbls⟩, ⟨_, hn', fun j y v' e1 e2 e3 => ?_⟩, fun y c e => ?_, I.free, I.freeC, fun p hp => ?_, tracked ⟨oL, hoL, I.free⟩ hs, by simpa using I.len⟩ ⟨_, hs, .inl rfl⟩
    · exact (hs.2 b (Nat.ne_of_lt (Nat.lt_of_lt_of_le (Heap.lt_size e) I.ok.above))).trans (I.base.keep b o e n hb hx)
    · obtain ⟨sl, e1⟩ := I.base.slot b o e n hb hx
      exact ⟨sl, (hs.2 b (Nat.ne_of_lt (Nat.lt_of_lt_of_le (Heap.lt_size e) I.ok.above))).trans e1⟩
    · obtain ⟨o', e1⟩ := I.base.there b o e hx
      exact ⟨o', (hs.2 b (Nat.ne_of_lt (Nat.lt_of_lt_of_le (Heap.lt_size e) I.ok.above))).trans e1⟩
    · by_cases hj : j = i
      · subst hj
        rw [hi] at e1; cases e1
        rw [List.getElem?_set_self hiσ] at e2
        cases e2
        exact ⟨u, r, .inl ⟨hk, by simp⟩⟩
      · rw [List.getElem?_set_ne (Ne.symm hj)] at e2
        obtain ⟨u', r', q⟩ := hl j y v' e1 e2 e3
        refine ⟨u', r', ?_⟩
        rcases q with ⟨k, e⟩ | ⟨k, c, e, z⟩
        · refine .inl ⟨k, ?_⟩
          have : y ≠ x := fun e => hj (nodup_ix hN e1 (e ▸ hi))
          simp [this, e]
        · exact .inr ⟨k, c, e, z.sameBut hs (cne y c e)⟩
    · obtain ⟨w', z⟩ := I.cell y c e
      exact ⟨w', z.sameBut hs (cne y c e)⟩
    · obtain ⟨e, n, ne, nf, d⟩ := I.pin p hp
      exact ⟨(hs.2 p.1 ne).trans e, n, ne, nf, d⟩
  · have hfn : X.fn x = true := by
      rcases hf with z | z
      · exact z
      · rw [z] at hk; cases hk
    obtain ⟨c, hc⟩ := I.ok.has x (.inl hk)
    obtain ⟨w', z⟩ := I.cell x c hc
    refine wpAny_storeName_cell I.ok.kind hk hc z (fun h' hc' hs => ?_)
    obtain ⟨oc, hoc, hocd⟩ := id z
    refine h { s with heap := h' } ⟨I.ok, I.os, I.bare, ⟨fun b o e n hb hx => ?_, fun b o e n hb hx => ?_, I.base.free, fun b o e hx => ?_, I.base.tups, I.base.frzs, I.base.tbls⟩, ⟨m, hn.sameBut hs (Ne.symm (cne x c hc)), fun j y v' e1 e2 e3 => ?_⟩, fun y c' e => ?_, I.free, I.freeC, fun p hp => ?_, tracked ⟨oc, hoc, I.freeC x c hc⟩ hs, by simpa using I.len⟩ ⟨c, hs, .inr hc⟩
    · exact (hs.2 b (Nat.ne_of_lt (Nat.lt_of_lt_of_le (Heap.lt_size e) (I.ok.cab x c hfn hc)))).trans (I.base.keep b o e n hb hx)
    · obtain ⟨sl, e1⟩ := I.base.slot b o e n hb hx
      exact ⟨sl, (hs.2 b (Nat.ne_of_lt (Nat.lt_of_lt_of_le (Heap.lt_size e) (I.ok.cab x c hfn hc)))).trans e1⟩
    · obtain ⟨o', e1⟩ := I.base.there b o e hx
      exact ⟨o', (hs.2 b (Nat.ne_of_lt (Nat.lt_of_lt_of_le (Heap.lt_size e) (I.ok.cab x c hfn hc)))).trans e1⟩
    · by_cases hj : j = i
      · subst hj
        rw [hi] at e1; cases e1
        rw [List.getElem?_set_self hiσ] at e2
        cases e2
        exact ⟨u, r, .inr ⟨.inl hk, c, hc, hc'⟩⟩
      · rw [List.getElem?_set_ne (Ne.symm hj)] at e2
        obtain ⟨u', r', q⟩ := hl j y v' e1 e2 e3
        refine ⟨u', r', ?_⟩
        rcases q with q | ⟨k, c', e, z'⟩
        · exact .inl q
        · refine .inr ⟨k, c', e, z'.sameBut hs ?_⟩
          rintro rfl
          exact hj (nodup_ix hN e1 (I.ok.inj _ _ _ e hc ▸ hi))
    · by_cases hcc : c' = c
      · subst hcc; exact ⟨_, hc'⟩
      · obtain ⟨w2, z2⟩ := I.cell y c' e
        exact ⟨w2, z2.sameBut hs hcc⟩
    · obtain ⟨e, n, ne, nf, d⟩ := I.pin p hp
      refine ⟨(hs.2 p.1 ?_).trans e, n, ne, nf, d⟩
      intro q
      rw [q, hoc] at e
      have q' : oc = p.2 := Option.some.inj e
      exact d w' (by rw [← q']; exact hocd)
theorem store_ok {M : Model} {A : Around} {E : Value → Shared → Prop} {i : Nat} {x : Str} {v : V} {u : Value} {Q : Unit → Shared → Prop} (I : Inv X pins σ H s) (hN : X.N.Nodup) (hi : X.N[i]? = some x) (hx : Loc X.env.scope x) (r : RelV v u)
    (h : ∀ s', Inv X pins (σ.set i (some v)) H s' → Q () s') (hf : X.fn x = true ∨ X.env.scope.names.lookup x = some .local := by first | exact .inl rfl | exact .inr rfl | assumption) : wpAny M A (storeName X.env x u) Q E s :=
  store_ok2 I hN hi hx r (fun s' I' _ => h s' I') hf
theorem Inv.call' {s' : Shared} {ch : List Addr} (I : Inv X pins σ H s) (ho : s'.os = s.os) (u : Un (frs X.stack) ch H H' s.heap s'.heap) (hok : HOk X.prog X.w H' s'.heap) (hg : AllBare s'.gens)
    (hch : ∀ b ∈ ch, (b ∈ X.ex ∨ X.s₀.heap.objs.size ≤ b) ∧ b ≠ X.env.locals ∧ (∀ x c, X.env.cells.lookup x = some c → c ≠ b) ∧ ∀ p ∈ X.pn ++ pins, p.1 ≠ b) : Inv X pins σ H' s' := by
  obtain ⟨h', g', d', t', o'⟩ := s'
  have e : o' = s.os := ho
  subst e
  exact I.call (g' := g') (t' := t') (d' := d') u hok hg hch
end
noncomputable abbrev XK := Value → Option Addr → Hp → Prop
noncomputable abbrev St := List (Option V)
noncomputable abbrev VK := V → Hp → Prop
noncomputable abbrev TE := St → Hp → VK → Prop
noncomputable abbrev TT := St → Hp → (Bool → Hp → Prop) → Prop
noncomputable abbrev TA := St → Hp → (List V → Hp → Prop) → Prop
structure Ends where
  nx : St → Hp → Prop
  rt : VK
  bk : St → Hp → Prop := fun _ _ => False
  ct : St → Hp → Prop := fun _ _ => False
noncomputable abbrev TS := Ends → St → Hp → Prop
noncomputable def EP (X : Cx) (pins : List (Addr × Obj)) (σ : St) (Q : VK) (u : Value) (s' : Shared) : Prop := ∃ v H', Inv X pins σ H' s' ∧ RelV v u ∧ Q v H'
noncomputable def TP (X : Cx) (pins : List (Addr × Obj)) (σ : St) (Q : Bool → Hp → Prop) (b : Bool) (s' : Shared) : Prop := ∃ H', Inv X pins σ H' s' ∧ Q b H'
noncomputable def AP (X : Cx) (pins : List (Addr × Obj)) (σ : St) (Q : List V → Hp → Prop) (us : List Value) (s' : Shared) : Prop := ∃ vs H', Inv X pins σ H' s' ∧ Vals vs us ∧ Q vs H'
noncomputable def SP (X : Cx) (pins : List (Addr × Obj)) (D : Ends) (f : Flow) (s' : Shared) : Prop :=
  match f with
  | .next => ∃ σ' H', Inv X pins σ' H' s' ∧ D.nx σ' H'
  | .brk => ∃ σ' H', Inv X pins σ' H' s' ∧ D.bk σ' H'
  | .cont => ∃ σ' H', Inv X pins σ' H' s' ∧ D.ct σ' H'
  | .ret u => ∃ v σ' H', Inv X pins σ' H' s' ∧ RelV v u ∧ D.rt v H'
noncomputable def PE (X : Cx) (e : Expr) (t : TE) : Prop :=
  ∀ (pins : List (Addr × Obj)) (s : Shared) (σ : St) (H : Hp) (Q : VK), Inv X pins σ H s → t σ H Q → wpAny (model X.prog X.w) X.A (eval e X.env) (EP X pins σ Q) X.xe s
noncomputable def PT (X : Cx) (e : Expr) (t : TT) : Prop :=
  ∀ (pins : List (Addr × Obj)) (s : Shared) (σ : St) (H : Hp) (Q : Bool → Hp → Prop), Inv X pins σ H s → t σ H Q → wpAny (model X.prog X.w) X.A (isTrue e X.env (eval e X.env)) (TP X pins σ Q) X.xe s
noncomputable def PW (X : Cx) (e : Expr) (t : TT) : Prop :=
  ∀ (whole : Sem Value) (pins : List (Addr × Obj)) (s : Shared) (σ : St) (H : Hp) (Q : Bool → Hp → Prop), Inv X pins σ H s → t σ H Q → wpAny (model X.prog X.w) X.A (isTrue e X.env whole) (TP X pins σ Q) X.xe s
theorem PW.pt {X : Cx} {e : Expr} {t : TT} (h : PW X e t) : PT X e t := h _
noncomputable def PA (X : Cx) (es : List Expr) (t : TA) : Prop :=
  ∀ (pos : Pos) (pins : List (Addr × Obj)) (s : Shared) (σ : St) (H : Hp) (Q : List V → Hp → Prop), Inv X pins σ H s → t σ H Q → wpAny (model X.prog X.w) X.A (spliced (backTo pos (starEach es X.env))) (AP X pins σ Q) X.xe s
noncomputable def PS (X : Cx) (st : Stmt) (t : TS) : Prop :=
  ∀ (pins : List (Addr × Obj)) (s : Shared) (σ : St) (H : Hp) (D : Ends), Inv X pins σ H s → t D σ H → wpAny (model X.prog X.w) X.A (exec st X.env) (SP X pins D) X.xe s
noncomputable def PSs (X : Cx) (st : List Stmt) (t : TS) : Prop :=
  ∀ (pins : List (Addr × Obj)) (s : Shared) (σ : St) (H : Hp) (D : Ends), Inv X pins σ H s → t D σ H → wpAny (model X.prog X.w) X.A (execs st X.env) (SP X pins D) X.xe s
theorem thn {α : Type} {t : Sem α} {Q Q' : α → Shared → Prop} {M : Model} {A : Around} {E : Value → Shared → Prop} {s : Shared} (h : wpAny M A t Q E s) (hQ : ∀ a s, Q a s → Q' a s) : wpAny M A t Q' E s := wpAny_mono h hQ fun _ _ x => x
end L2
namespace L2
open PySem PySem.Spec PyProof.Rows
section
variable {X : Cx}
theorem bin {a b : Expr} {ta tb : TE} (ha : PE X a ta) (hb : PE X b tb) {pins : List (Addr × Obj)} {s : Shared} {σ : St} {H : Hp} {R : V → V → Hp → Prop} (I : Inv X pins σ H s) (h : ta σ H fun x H1 => tb σ H1 fun y H2 => R x y H2)
    {α : Type} {Q : α → Shared → Prop} {f : Value → Value → Sem α}
    (hf : ∀ v u s2 x y H2, Inv X pins σ H2 s2 → RelV x v → RelV y u → R x y H2 → wpAny (model X.prog X.w) X.A (f v u) Q X.xe s2) :
    wpAny (model X.prog X.w) X.A (eval a X.env) (fun v s₁ => wpAny (model X.prog X.w) X.A (eval b X.env) (fun u s₂ => wpAny (model X.prog X.w) X.A (f v u) Q X.xe s₂) X.xe s₁) X.xe s := by
  refine thn (ha pins s σ H _ I h) fun v s1 ⟨x, H1, I1, r1, q1⟩ => ?_
  refine thn (hb pins s1 σ H1 _ I1 q1) fun u s2 ⟨y, H2, I2, r2, q2⟩ => ?_
  exact hf v u s2 x y H2 I2 r1 r2 q2
noncomputable def tVar (i : Nat) : TE := fun σ H Q => ∃ v, σ[i]? = some (some v) ∧ Q v H
noncomputable def tC (v : V) : TE := fun _ H Q => Q v H
theorem pe_var {i : Nat} {x : Str} {pos : Pos} (hN : X.N[i]? = some x) (hv : Vis X.env.scope x) (hd : (x == ("__debug__" : Str)) = false := by decide) (hcd : (x == ("__classdict__" : Str)) = false := by decide) : PE X (.Name x pos) (tVar i) := by
  intro pins s σ H Q I h
  obtain ⟨v, e, h⟩ := h
  obtain ⟨m, hn, hl⟩ := I.loc
  obtain ⟨u, r, l⟩ := hl i x v hN e hv
  have fin : EP X pins σ Q u s := ⟨v, H, I, r, h⟩
  rcases l with ⟨hk, hm⟩ | ⟨hk, c, hc, hcell⟩
  · exact wpAny_Name (wpAny_loadName_local I.ok.kind hk hn hm fin) hd
  · rcases hk with hk | hk
    · exact wpAny_Name (wpAny_loadName_cell I.ok.kind hk hc hcell fin) hd
    · exact wpAny_Name (wpAny_loadName_free I.ok.kind hk hc hcell fin hcd) hd
theorem pe_int {i j pos} : PE X (.Constant (.int i) j pos) (tC (.int i)) := fun _ _ _ H _ I h => wpAny_Constant_int ⟨.int i, H, I.tok _, ⟨_, rfl⟩, h⟩
theorem pe_bl {b j pos} : PE X (.Constant (.bool b) j pos) (tC (.bl b)) := fun _ _ _ H _ I h => Constant_bool ⟨.bl b, H, I, rfl, h⟩
theorem pe_non {j pos} : PE X (.Constant .none j pos) (tC .non) := fun _ _ _ H _ I h => Constant_none ⟨.non, H, I, rfl, h⟩
theorem pe_str {x j pos} : PE X (.Constant (.str x) j pos) (tC (.str x)) := fun _ _ _ H _ I h => Calls.Constant_str ⟨.str x, H, I.tok _, ⟨_, rfl⟩, h⟩
noncomputable def Gl (X : Cx) (x : Str) : Prop := X.env.kindOf x = some .globalImplicit
theorem ld_glob {E : Value → Shared → Prop} {pins : List (Addr × Obj)} {s : Shared} {σ : St} {H : Hp} {x : Str} {u : Value} {pos : Pos} {Q : Value → Shared → Prop} (I : Inv X pins σ H s) (hg : Gl X x) (hm : X.mg x = some u) (h : Q u s)
    (hd : (x == ("__debug__" : Str)) = false := by decide) : wpAny (model X.prog X.w) X.A (eval (.Name x pos) X.env) Q E s :=
  Calls.Name_function_global I.ok.kind hg (Calls.loadGlobal_global (by rw [I.ok.glob]; exact I.mod.glob.keeps I.bk) hm h) hd
theorem ld_blt {E : Value → Shared → Prop} {pins : List (Addr × Obj)} {s : Shared} {σ : St} {H : Hp} {x : Str} {u : Value} {pos : Pos} {Q : Value → Shared → Prop} (I : Inv X pins σ H s) (hg : Gl X x) (hm : X.mg x = none) (hv : bootBuiltins x = some u) (h : Q u s)
    (hn : x ≠ "__name__" := by decide) (hd : (x == ("__debug__" : Str)) = false := by decide) : wpAny (model X.prog X.w) X.A (eval (.Name x pos) X.env) Q E s := by
  obtain ⟨mb, h1, h2⟩ := I.mod.blt
  exact Calls.Name_function_global I.ok.kind hg (Calls.loadGlobal_builtin (by rw [I.ok.glob]; exact I.mod.glob.keeps I.bk) hm (by rw [I.ok.blt]; exact h1.keeps I.bk) ((h2 x hn).trans hv) h) hd
theorem pe_glob {x : Str} {v : V} {u : Value} {pos : Pos} (hg : Gl X x) (hm : X.mg x = some u) (r : RelV v u) (hd : (x == ("__debug__" : Str)) = false := by decide) : PE X (.Name x pos) (tC v) :=
  fun _ _ _ H _ I h => ld_glob I hg hm ⟨v, H, I, r, h⟩ hd
theorem pe_bltn {x : Str} {v : V} {u : Value} {pos : Pos} (hg : Gl X x) (hm : X.mg x = none) (hv : bootBuiltins x = some u) (r : RelV v u) (hn : x ≠ "__name__" := by decide) (hd : (x == ("__debug__" : Str)) = false := by decide) : PE X (.Name x pos) (tC v) :=
  fun _ _ _ H _ I h => ld_blt I hg hm hv ⟨v, H, I, r, h⟩ hn hd
variable {a b : Expr} {ta tb : TE} {pos : Pos}
noncomputable def tB (t : TE) : TT := fun σ H Q => t σ H fun x H1 => ∃ c, x = .bl c ∧ Q c H1
theorem pt_val {e : Expr} {t : TE} (h : PE X e t) (he : ∀ whole, isTrue e X.env whole = (do let v ← whole; standAt e.pos; holding [v] (truthy v)) := by intro _; rfl) : PT X e (tB t) := by
  intro pins s σ H Q I hw
  refine isTrue_plain (thn (h pins s σ H _ I hw) fun v s1 ⟨x, H1, I1, r1, q1⟩ => ?_) (he _)
  obtain ⟨d, rfl, q⟩ := q1
  cases r1
  exact wpAny_truthy_bool ⟨H1, I1, q⟩
variable {tA tB' : TT} {rest : List Expr}
noncomputable def tOr (t u : TT) : TT := fun σ H Q => t σ H fun c H1 => if c = true then Q true H1 else u σ H1 Q
noncomputable def tNot (t : TT) : TT := fun σ H Q => t σ H fun c H1 => Q (!c) H1
theorem pw_or1 (ha : PT X a tA) : PW X (.BoolOp .Or [a] pos) tA := by
  intro wh pins s σ H Q I h
  refine isTrue_or (thn (ha pins s σ H Q I h) fun c s1 e => ?_)
  cases c with
  | false => exact isTrue_or_nil e
  | true => exact e
theorem pw_or (ha : PT X a tA) (hb : PW X (.BoolOp .Or (b :: rest) pos) tB') : PW X (.BoolOp .Or (a :: b :: rest) pos) (tOr tA tB') := by
  intro wh pins s σ H Q I h
  refine isTrue_or (thn (ha pins s σ H _ I h) fun c s1 ⟨H1, I1, q1⟩ => ?_)
  cases c with
  | true => exact ⟨H1, I1, q1⟩
  | false => exact hb wh pins s1 σ H1 Q I1 q1
theorem pt_not (ha : PT X a tA) : PT X (.UnaryOp .Not a pos) (tNot tA) := by
  intro pins s σ H Q I h
  exact isTrue_not (ha pins s σ H (fun c H1 => Q (!c) H1) I h)
noncomputable def tAndV (ta tb : TE) : TE := fun σ H Q => ta σ H fun x H1 => ∃ c, x = .bl c ∧ if c = true then tb σ H1 Q else Q (.bl false) H1
noncomputable def tOrV (ta tb : TE) : TE := fun σ H Q => ta σ H fun x H1 => ∃ c, x = .bl c ∧ if c = true then Q (.bl true) H1 else tb σ H1 Q
noncomputable def tNotV (ta : TE) : TE := fun σ H Q => ta σ H fun x H1 => ∃ c, x = .bl c ∧ Q (.bl (!c)) H1
theorem pe_one {op} {t : TE} (h : PE X a t) : PE X (.BoolOp op [a] pos) t := fun pins s σ H Q I hw => BoolOp_one (h pins s σ H Q I hw)
theorem pe_and (ha : PE X a ta) (hb : PE X (.BoolOp .And (b :: rest) pos) tb) : PE X (.BoolOp .And (a :: b :: rest) pos) (tAndV ta tb) := by
  intro pins s σ H Q I h
  refine BoolOp_and (thn (ha pins s σ H _ I h) fun v s1 ⟨x, H1, I1, r1, q1⟩ => ?_)
  obtain ⟨c, rfl, q1⟩ := q1
  cases r1
  refine wpAny_truthy_bool ?_
  cases c with
  | true => exact hb pins s1 σ H1 Q I1 q1
  | false => exact ⟨.bl false, H1, I1, rfl, q1⟩
theorem pe_or (ha : PE X a ta) (hb : PE X (.BoolOp .Or (b :: rest) pos) tb) : PE X (.BoolOp .Or (a :: b :: rest) pos) (tOrV ta tb) := by
  intro pins s σ H Q I h
  refine BoolOp_or (thn (ha pins s σ H _ I h) fun v s1 ⟨x, H1, I1, r1, q1⟩ => ?_)
  obtain ⟨c, rfl, q1⟩ := q1
  cases r1
  refine wpAny_truthy_bool ?_
  cases c with
  | false => exact hb pins s1 σ H1 Q I1 q1
  | true => exact ⟨.bl true, H1, I1, rfl, q1⟩
theorem pe_not (ha : PE X a ta) : PE X (.UnaryOp .Not a pos) (tNotV ta) := by
  intro pins s σ H Q I h
  refine UnaryOp_ (thn (ha pins s σ H _ I h) fun v s1 ⟨x, H1, I1, r1, q1⟩ => ?_)
  obtain ⟨c, rfl, q1⟩ := q1
  cases r1
  exact not_of (wpAny_truthy_bool ⟨.bl (!c), H1, I1, rfl, q1⟩)
noncomputable def tIf (t : TT) (ta tb : TE) : TE := fun σ H Q => t σ H fun c H1 => if c = true then ta σ H1 Q else tb σ H1 Q
theorem pe_ifExp {c : Expr} (hc : PT X c tA) (ha : PE X a ta) (hb : PE X b tb) : PE X (.IfExp c a b pos) (tIf tA ta tb) := by
  intro pins s σ H Q I h
  refine wpAny_IfExp (thn (hc pins s σ H _ I h) fun d s1 ⟨H1, I1, q1⟩ => ?_)
  cases d with
  | true => exact ha pins s1 σ H1 Q I1 q1
  | false => exact hb pins s1 σ H1 Q I1 q1
end
end L2
namespace L2
open PySem PySem.Spec PyProof.Rows
noncomputable def SqL (K : PySem.W.Frag) (H : Hp) (a : Addr) (xs : List V) : Prop :=
  Rd H a (.lst xs) ∨
    ∃ (o : Obj) (its : Array Value) (n : Nat), K.lookup a = some o ∧ o.cls = .type "list" ∧ o.dict = none ∧ o.data = .seq its n ∧ its.size ≤ sizeLine ∧ Vals xs its.toList
noncomputable def SqT (K : PySem.W.Frag) (H : Hp) (a : Addr) (xs : List V) : Prop :=
  Rd H a (.tup xs) ∨
    ∃ (o : Obj) (its : Array Value) (n : Nat), K.lookup a = some o ∧ o.cls = .type "tuple" ∧ o.data = .seq its n ∧ its.size ≤ sizeLine ∧ Vals xs its.toList
noncomputable def absV : Value → Option V
  | .none => some .non
  | .bool b => some (.bl b)
  | .int i _ => some (.int i)
  | .str x _ => some (.str x)
  | .bytes b _ => some (.byt b)
  | .float b _ => some (.flt b)
  | .ref a => some (.ref a)
  | .type n => some (.ty n)
  | _ => none
theorem RelV.abs {x : V} {u : Value} (r : RelV x u) : absV u = some x := by
  cases x with
  | non => cases r; rfl
  | bl _ => cases r; rfl
  | int _ => obtain ⟨t, rfl⟩ := r; rfl
  | str _ => obtain ⟨t, rfl⟩ := r; rfl
  | byt _ => obtain ⟨t, rfl⟩ := r; rfl
  | flt _ => obtain ⟨t, rfl⟩ := r; rfl
  | ref _ => cases r; rfl
  | ty _ => cases r; rfl
theorem RelV.inj {x y : V} {u : Value} (r : RelV x u) (q : RelV y u) : x = y := Option.some.inj (r.abs.symm.trans q.abs)
theorem Vals.inj : ∀ {xs ys : List V} {us : List Value}, Vals xs us → Vals ys us → xs = ys
  | _, _, _, .nil, .nil => rfl
  | _, _, _, .cons r t, .cons r' t' => by rw [r.inj r', Vals.inj t t']
section
variable {X : Cx} {pins : List (Addr × Obj)} {σ : St} {H : Hp} {s : Shared} {a : Addr} {xs ys : List V}
theorem SqL.of {K : PySem.W.Frag} (h : H a = some (.lst xs)) : SqL K H a xs := .inl (.inl h)
theorem SqT.of {K : PySem.W.Frag} (h : H a = some (.tup xs)) : SqT K H a xs := .inl (.inl h)
theorem Inv.list (I : Inv X pins σ H s) (h : SqL X.K H a xs) : ∃ its : List Value, Vals xs its ∧ PlainL s.heap a its.toArray ∧ xs.length ≤ sizeLine := by
  rcases h with h | ⟨o, its, n, hk, hc, hd, hs, hz, r⟩
  · obtain ⟨z, its, n, r, e⟩ := h.ok I.hok
    exact ⟨its, r, ⟨_, n, e, rfl, rfl, rfl⟩, z⟩
  · refine ⟨its.toList, r, ⟨o, n, I.kIn a o hk, hc, hd, by simpa using hs⟩, ?_⟩
    have e := r.length
    simp only [Array.length_toList] at e
    omega
theorem Inv.tuple (I : Inv X pins σ H s) (h : SqT X.K H a xs) : ∃ its : List Value, Vals xs its ∧ IsTup s.heap a its.toArray ∧ xs.length ≤ sizeLine := by
  rcases h with h | ⟨o, its, n, hk, hc, hs, hz, r⟩
  · obtain ⟨z, its, r, p⟩ := h.ok I.hok
    exact ⟨its, r, p, z⟩
  · refine ⟨its.toList, r, ⟨o, I.kIn a o hk, hc, n, by simpa using hs⟩, ?_⟩
    have e := r.length
    simp only [Array.length_toList] at e
    omega
theorem Inv.list_inj (I : Inv X pins σ H s) (h : SqL X.K H a xs) (h' : SqL X.K H a ys) : xs = ys := by
  obtain ⟨its, r, ⟨o, n, e, _, _, d⟩, _⟩ := I.list h
  obtain ⟨its', r', ⟨o', n', e', _, _, d'⟩, _⟩ := I.list h'
  rw [e] at e'; cases e'
  rw [d] at d'
  injection d' with d1 _
  have : its = its' := by simpa using congrArg Array.toList d1
  subst this
  exact r.inj r'
theorem Inv.tuple_inj (I : Inv X pins σ H s) (h : SqT X.K H a xs) (h' : SqT X.K H a ys) : xs = ys := by
  obtain ⟨its, r, ⟨o, e, _, n, d⟩, _⟩ := I.tuple h
  obtain ⟨its', r', ⟨o', e', _, n', d'⟩, _⟩ := I.tuple h'
  rw [e] at e'; cases e'
  rw [d] at d'
  injection d' with d1 _
  have : its = its' := by simpa using congrArg Array.toList d1
  subst this
  exact r.inj r'
end
noncomputable abbrev Cx.wish (X : Cx) (E : Value → Shared → Prop) : Cx := { X with xe := E }
noncomputable abbrev Cx.nox (X : Cx) : Cx := X.wish fun _ _ => False
theorem Cx.Ok.wish {X : Cx} (ok : X.Ok) (E : Value → Shared → Prop) : (X.wish E).Ok :=
  ⟨ok.mod, ok.kind, ok.glob, ok.blt, ok.above, ok.inj, ok.has, ok.cab, ok.hd, ok.frames, ok.stk, ok.exf, ok.bs, ok.bsz, ok.noex, ok.exfs, ok.funs, ok.frf⟩
theorem Cx.Ok.unwish {X : Cx} {E : Value → Shared → Prop} (ok : (X.wish E).Ok) : X.Ok :=
  ⟨ok.mod, ok.kind, ok.glob, ok.blt, ok.above, ok.inj, ok.has, ok.cab, ok.hd, ok.frames, ok.stk, ok.exf, ok.bs, ok.bsz, ok.noex, ok.exfs, ok.funs, ok.frf⟩
section
variable {X : Cx} {pins : List (Addr × Obj)} {σ : St} {H : Hp} {s : Shared} {E : Value → Shared → Prop}
theorem Inv.wish (I : Inv X pins σ H s) (E : Value → Shared → Prop) : Inv (X.wish E) pins σ H s := ⟨I.ok.wish E, I.os, I.bare, I.base, I.loc, I.cell, I.free, I.freeC, I.pin, I.hok, I.len⟩
theorem Inv.unwish (I : Inv (X.wish E) pins σ H s) : Inv X pins σ H s := ⟨I.ok.unwish, I.os, I.bare, I.base, I.loc, I.cell, I.free, I.freeC, I.pin, I.hok, I.len⟩
theorem SP.unwish {D : Ends} {f : Flow} {s' : Shared} (h : SP (X.wish E) pins D f s') : SP X pins D f s' := by
  cases f with
  | next => obtain ⟨σ', H', I, q⟩ := h; exact ⟨σ', H', I.unwish, q⟩
  | brk => obtain ⟨σ', H', I, q⟩ := h; exact ⟨σ', H', I.unwish, q⟩
  | cont => obtain ⟨σ', H', I, q⟩ := h; exact ⟨σ', H', I.unwish, q⟩
  | ret u => obtain ⟨v, σ', H', I, r, q⟩ := h; exact ⟨v, σ', H', I.unwish, r, q⟩
theorem PSs.nox {st : List Stmt} {t : TS} (h : PSs X.nox st t) : PSs X st t := fun pins s σ H D I hw =>
  wpAny_mono (h pins s σ H D (I.wish _) hw) (fun _ _ q => q.unwish) fun _ _ z => False.elim z
end
section
variable {X : Cx} {st : Stmt} {rest : List Stmt} {t u : TS} {e : Expr} {te : TE} {pos : Pos}
noncomputable def tNext : TS := fun D σ H => D.nx σ H
noncomputable def tSeq (t u : TS) : TS := fun D σ H => t { D with nx := u D } σ H
theorem pss_nil : PSs X [] tNext := fun _ _ σ H _ I h => wpAny_execs_nil ⟨σ, H, I, h⟩
theorem pss_cons (h1 : PS X st t) (h2 : PSs X rest u) : PSs X (st :: rest) (tSeq t u) := by
  intro pins s σ H D I h
  refine wpAny_execs_cons (thn (h1 pins s σ H { D with nx := u D } I h) fun f s1 q => ?_)
  cases f with
  | next =>
    obtain ⟨σ', H', I', q⟩ := q
    exact h2 pins s1 σ' H' D I' q
  | ret v => exact q
  | brk => exact q
  | cont => exact q
theorem pss_one (h1 : PS X st t) : PSs X [st] t := by
  intro pins s σ H D I h
  refine wpAny_execs_cons (thn (h1 pins s σ H D I h) fun f s1 q => ?_)
  cases f with
  | next => exact wpAny_execs_nil q
  | ret v => exact q
  | brk => exact q
  | cont => exact q
theorem Inv.quiet {pins : List (Addr × Obj)} {σ : St} {H : Hp} {s : Shared} (I : Inv X pins σ H s) : interactive X.env = false := by simp [interactive, I.ok.kind]
noncomputable def tDrop (te : TE) : TS := fun D σ H => te σ H fun _ H1 => D.nx σ H1
theorem ps_expr (he : PE X e te) (hs : swapsWith e none pos.line X.env = pure false := by rfl) : PS X (.Expr e pos) (tDrop te) := by
  intro pins s σ H D I h
  exact wpAny_Expr_any (thn (he pins s σ H _ I h) fun v s1 ⟨x, H1, I1, r1, q1⟩ => ⟨σ, H1, I1, q1⟩) I.quiet hs
noncomputable def tRet (te : TE) : TS := fun D σ H => te σ H D.rt
theorem ps_ret (he : PE X e te) : PS X (.Return (some e) pos) (tRet te) := by
  intro pins s σ H D I h
  exact wpAny_Return_some (thn (he pins s σ H _ I h) fun v s1 ⟨x, H1, I1, r1, q1⟩ => ⟨x, σ, H1, I1, r1, q1⟩)
noncomputable def tIfS (c : TT) (t u : TS) : TS := fun D σ H => c σ H fun b H1 => if b = true then t D σ H1 else u D σ H1
theorem ps_if {c : Expr} {a b : List Stmt} {tc : TT} (hc : PT X c tc) (ha : PSs X a t) (hb : PSs X b u) : PS X (.If c a b pos) (tIfS tc t u) := by
  intro pins s σ H D I h
  refine wpAny_If (thn (hc pins s σ H _ I h) fun d s1 ⟨H1, I1, q1⟩ => ?_)
  cases d with
  | true => exact ha pins s1 σ H1 D I1 q1
  | false => exact hb pins s1 σ H1 D I1 q1
end
noncomputable abbrev TG := V → St → Hp → (St → Hp → Prop) → Prop
noncomputable abbrev TGs := List V → St → Hp → (St → Hp → Prop) → Prop
noncomputable def PG (X : Cx) (target : Expr) (t : TG) : Prop :=
  ∀ (pins : List (Addr × Obj)) (s : Shared) (σ : St) (H : Hp) (v : V) (u : Value) (Q : St → Hp → Prop), Inv X pins σ H s → RelV v u → t v σ H Q →
    wpAny (model X.prog X.w) X.A (assign target X.env u) (fun _ s' => ∃ σ' H', Inv X pins σ' H' s' ∧ Q σ' H') X.xe s
section
variable {X : Cx} {pos : Pos}
noncomputable def gName (i : Nat) : TG := fun v σ H Q => Q (σ.set i (some v)) H
theorem pg_name {i : Nat} {x : Str} (hN : X.N.Nodup) (hi : X.N[i]? = some x) (hx : Loc X.env.scope x) (hf : X.fn x = true ∨ X.env.scope.names.lookup x = some .local := by first | exact .inl rfl | exact .inr rfl | assumption) : PG X (.Name x pos) (gName i) := by
  intro pins s σ H v u Q I r h
  exact wpAny_assign_Name (store_ok I hN hi hx r (fun s' I' => ⟨_, H, I', h⟩) hf)
noncomputable def gNil : TGs := fun vs σ H Q => vs = [] ∧ Q σ H
noncomputable def gCons (t : TG) (u : TGs) : TGs := fun vs σ H Q => ∃ v r, vs = v :: r ∧ t v σ H fun σ' H' => u r σ' H' Q
noncomputable def tAsg (te : TE) (g : TG) : TS := fun D σ H => te σ H fun x H1 => g x σ H1 D.nx
theorem ps_set {i : Nat} {x : Str} {e : Expr} {te : TE} {pos' : Pos} (hN : X.N.Nodup) (hi : X.N[i]? = some x) (hx : Loc X.env.scope x) (he : PE X e te) (hs : swapsWith e (some (.Name x pos')) pos.line X.env = pure false := by rfl) (hf : X.fn x = true ∨ X.env.scope.names.lookup x = some .local := by first | exact .inl rfl | exact .inr rfl | assumption) :
    PS X (.Assign [.Name x pos'] e pos) (tAsg te (gName i)) := by
  intro pins s σ H D I h
  refine wpAny_Assign_Name (thn (he pins s σ H _ I h) fun v s1 ⟨y, H1, I1, r1, q1⟩ => ?_) hs
  exact store_ok I1 hN hi hx r1 (fun s2 I2 => ⟨_, H1, I2, q1⟩) hf
end
section
variable {X : Cx} {pos : Pos}
noncomputable def tWhile (c : TT) (tb : TS) : TS := fun D σ H => ∃ W : Nat → St → Hp → Prop, (∃ m, W m σ H) ∧ ∀ m σ H, W m σ H →
  c σ H fun b H1 => if b = true then ∃ N : St → Hp → Prop, (∀ σ' H', N σ' H' → ∃ m', m' < m ∧ W m' σ' H') ∧ tb { D with nx := N, ct := N, bk := D.nx } σ H1 else D.nx σ H1
theorem ps_while {c : Expr} {body : List Stmt} {tc : TT} {tb : TS} (hp : PassesOwn (model X.prog X.w) X.A X.env X.xe) (hc : PT X c tc) (hb : PSs X body tb) : PS X (.While c body [] pos) (tWhile tc tb) := by
  intro pins s σ H D I h
  obtain ⟨W, ⟨m0, w0⟩, turn⟩ := h
  refine wpAny_While (codeAny_whileLoop (fun n s' => ∃ σ' H', Inv X pins σ' H' s' ∧ W n σ' H') ?_ m0 ⟨σ, H, I, w0⟩)
  rintro n s1 ⟨σ1, H1, I1, w1⟩
  refine wpAny_passesOwn hp (thn (hc pins s1 σ1 H1 _ I1 (turn n σ1 H1 w1)) fun b s2 ⟨H2, I2, q2⟩ => ?_)
  cases b with
  | true =>
    obtain ⟨N, hN, q2⟩ := q2
    rw [if_pos rfl]
    refine wpAny_passesOwn hp (thn (hb pins s2 σ1 H2 _ I2 q2) fun f s3 q3 => ?_)
    cases f with
    | next =>
      obtain ⟨σ3, H3, I3, n3⟩ := q3
      obtain ⟨m', hm, w3⟩ := hN σ3 H3 n3
      exact ⟨m', hm, σ3, H3, I3, w3⟩
    | cont =>
      obtain ⟨σ3, H3, I3, n3⟩ := q3
      obtain ⟨m', hm, w3⟩ := hN σ3 H3 n3
      exact ⟨m', hm, σ3, H3, I3, w3⟩
    | brk => exact q3
    | ret v => exact q3
  | false =>
    rw [if_neg Bool.false_ne_true]
    exact wpAny_execs_nil ⟨σ1, H2, I2, q2⟩
end
structure It where
  go : Nat → Hp → Prop
  yld : Nat → Hp → V → Hp → Prop
  stop : Nat → Hp → Prop
noncomputable def FpOk (X : Cx) (pins : List (Addr × Obj)) (H : Hp) (b : Addr) : Prop :=
  H b = none ∧ b ≠ X.env.locals ∧ b ∉ X.fs ∧ (b ∈ X.ex ∨ X.s₀.heap.objs.size ≤ b) ∧ (∀ x c, X.env.cells.lookup x = some c → c ≠ b) ∧ ∀ p ∈ X.pn ++ pins, p.1 ≠ b
theorem Inv.fpOk {X : Cx} {pins : List (Addr × Obj)} {σ : St} {H H' : Hp} {s : Shared} {b : Addr} (I : Inv X pins σ H s) (hb : s.heap.objs.size ≤ b) (hn : H' b = none) : FpOk X pins H' b := by
  refine ⟨hn, Nat.ne_of_gt (Nat.lt_of_lt_of_le I.lt hb), I.nofs hb, .inr (Nat.le_trans I.sz hb), fun x c e z => ?_, fun p hp z => ?_⟩
  · obtain ⟨v, q⟩ := I.cell x c e
    exact absurd (Nat.lt_of_lt_of_le q.lt (by rw [z]; exact hb)) (Nat.lt_irrefl _)
  · exact absurd (Nat.lt_of_lt_of_le (Heap.lt_size (I.pin p hp).1) (by rw [z]; exact hb)) (Nat.lt_irrefl _)
structure Turn (P : Program) (w : World) (K : PySem.W.Frag) (tg : Expr) (J : It) (fp : List Addr) (it : Addr) (tn : Nat → Heap → Prop) : Prop where
  mem : it ∈ fp
  obj : ∀ i h, tn i h → ∀ b ∈ fp, ∃ o, h.get? b = some o ∧ ∀ v, o.data ≠ .cell v
  keep : ∀ i h h', tn i h → (∀ b ∈ fp, ∀ o, h.get? b = some o → h'.get? b = some o) → tn i h'
  item : ∀ (X : Cx), X.prog = P → X.w = w → X.K = K → X.calm = true → ∀ (i : Nat) (pins : List (Addr × Obj)) (s : Shared) (σ : St) (H : Hp) (E : Value → Shared → Prop), Inv X pins σ H s → (∀ b ∈ fp, FpOk X pins H b) → tn i s.heap → J.go i H →
    wpAny (model P w) X.A (pyNext (.ref it)) (fun r s1 => ∃ u, r = some u ∧
      wpAny (model P w) X.A (letOwnedTupleGo tg (.ref it) u) (fun _ s2 => ∃ x H', Inv X pins σ H' s2 ∧ RelV x u ∧ J.yld i H x H' ∧ tn (i + 1) s2.heap ∧ ∀ b ∈ fp, H' b = none) E s1) E s
  done : ∀ (X : Cx), X.prog = P → X.w = w → X.K = K → X.calm = true → ∀ (i : Nat) (pins : List (Addr × Obj)) (s : Shared) (σ : St) (H : Hp) (E : Value → Shared → Prop), Inv X pins σ H s → (∀ b ∈ fp, FpOk X pins H b) → tn i s.heap → J.stop i H →
    wpAny (model P w) X.A (pyNext (.ref it)) (fun r s1 => r = none ∧ Inv X pins σ H s1) E s
  self : ∀ (A : Around) (i : Nat) (s : Shared) (Q : Value → Shared → Prop) (E : Value → Shared → Prop), tn i s.heap → Q (.ref it) s → wpAny (model P w) A (pyIter (.ref it)) Q E s
noncomputable abbrev TI := St → Hp → (It → Hp → Prop) → Prop
noncomputable def PIE (X : Cx) (pins : List (Addr × Obj)) (σ : St) (tg : Expr) (R : It → Hp → Prop) (itv : Value) (s2 : Shared) : Prop :=
  ∃ (it : Addr) (fp : List Addr) (tn : Nat → Heap → Prop) (J : It) (H' : Hp), itv = .ref it ∧ Inv X pins σ H' s2 ∧ Turn X.prog X.w X.K tg J fp it tn ∧ tn 0 s2.heap ∧ (∀ b ∈ fp, FpOk X pins H' b) ∧ R J H'
noncomputable def PI (X : Cx) (tg iter : Expr) (wi : TI) : Prop :=
  ∀ (pins : List (Addr × Obj)) (s : Shared) (σ : St) (H : Hp) (R : It → Hp → Prop), Inv X pins σ H s → wi σ H R →
    wpAny (model X.prog X.w) X.A (eval iter X.env) (fun v s1 => wpAny (model X.prog X.w) X.A (pyIter v) (PIE X pins σ tg R) X.xe s1) X.xe s
theorem go_of {M : Model} {A : Around} {E : Value → Shared → Prop} {s : Shared} {tg : Expr} {it : Addr} {u : Value} {o : Obj} {n : String} {vs : Array Value} {Q : Unit → Shared → Prop} (ho : s.heap.get? it = some o) (hc : o.cls = .type n) (hd : o.data = .fields vs)
    (hn : ["enumerate", "zip", "dict_itemiterator", "dict_reverseitemiterator", "odict_iterator", "itertools.zip_longest", "itertools.pairwise"].contains n = false) (hQ : Q () s) : wpAny M A (letOwnedTupleGo tg (.ref it) u) Q E s := by
  unfold letOwnedTupleGo
  cases tg <;> first
    | exact wpAny_pure hQ
    | (cases u <;> first
        | exact wpAny_pure hQ
        | (refine wpAny_bind (wpAny_load ho ?_)
           rw [hc, hd]
           show wpAny M A (if (["enumerate", "zip", "dict_itemiterator", "dict_reverseitemiterator", "odict_iterator", "itertools.zip_longest", "itertools.pairwise"].contains n && vs[0]? == some (rawInt _)) = true then _ else _) Q E s
           rw [if_neg (by intro h; rw [hn, Bool.false_and] at h; cases h)]
           exact wpAny_pure hQ))
noncomputable def Itl (K : PySem.W.Frag) (a : Addr) : It :=
  ⟨fun i H => ∃ xs x, SqL K H a xs ∧ xs[i]? = some x, fun i H x H' => H' = H ∧ ∀ xs, SqL K H a xs → xs[i]? = some x, fun i H => ∃ xs, SqL K H a xs ∧ xs.length ≤ i⟩
noncomputable def Itt (K : PySem.W.Frag) (a : Addr) : It :=
  ⟨fun i H => ∃ xs x, SqT K H a xs ∧ xs[i]? = some x, fun i H x H' => H' = H ∧ ∀ xs, SqT K H a xs → xs[i]? = some x, fun i H => ∃ xs, SqT K H a xs ∧ xs.length ≤ i⟩
theorem turn_list {P : Program} {w : World} {K : PySem.W.Frag} {tg : Expr} (a it : Addr) : Turn P w K tg (Itl K a) [it] it (fun i h => h.IsListIter it a i) where
  mem := by simp
  obj := fun i h st b hb => by
    have e : b = it := by simpa using hb
    subst e
    obtain ⟨o, e, c, d⟩ := st
    exact ⟨o, e, fun v z => by rw [d] at z; cases z⟩
  keep := fun i h h' st k => st.at fun o e => k it (by simp) o e
  item := by
    intro X hP hw hK hc i pins s σ H E I hf st hg
    subst hP hw hK
    obtain ⟨xs, x, hq, hx⟩ := hg
    obtain ⟨its, rv, p, hz⟩ := I.list hq
    obtain ⟨u, hu, ru⟩ := rv.get hx
    obtain ⟨f0, f1, f2, f3, f4, f5⟩ := hf it (by simp)
    refine wpAny_pyNext_list_item st p.isList (x := u) (by simpa using hu) fun h' st' sb => ?_
    have I1 : Inv X pins σ H { s with heap := h' } := I.turned (t' := s.toks) (fun b o hb e => (sb.2 b hb).trans e) f0 f1 f3 f4 f5
    obtain ⟨o, e, c, d⟩ := id st'
    exact ⟨u, rfl, go_of (s := { s with heap := h' }) e c d (by decide) ⟨x, H, I1, ru, ⟨rfl, fun ys hy => by rw [I.list_inj hy hq]; exact hx⟩, st', fun b hb => (hf b hb).1⟩⟩
  done := by
    intro X hP hw hK hc i pins s σ H E I hf st hg
    subst hP hw hK
    obtain ⟨xs, hq, hx⟩ := hg
    obtain ⟨its, rv, p, hz⟩ := I.list hq
    obtain ⟨f0, f1, f2, f3, f4, f5⟩ := hf it (by simp)
    have hl := rv.length
    exact wpAny_pyNext_list_end (I.ok.hd hc) st p.isList (by simp; omega) fun h' eb => ⟨rfl, I.turned (t' := s.toks) (fun b o hb e => eb b o hb e) f0 f1 f3 f4 f5⟩
  self := fun _ _ _ _ _ st h => wpAny_pyIter_listiter st h
theorem turn_tuple {P : Program} {w : World} {K : PySem.W.Frag} {tg : Expr} (a it : Addr) : Turn P w K tg (Itt K a) [it] it (fun i h => h.IsTupleIter it a i) where
  mem := by simp
  obj := fun i h st b hb => by
    have e : b = it := by simpa using hb
    subst e
    obtain ⟨o, e, c, d⟩ := st
    exact ⟨o, e, fun v z => by rw [d] at z; cases z⟩
  keep := fun i h h' st k => st.at fun o e => k it (by simp) o e
  item := by
    intro X hP hw hK hc i pins s σ H E I hf st hg
    subst hP hw hK
    obtain ⟨xs, x, hq, hx⟩ := hg
    obtain ⟨its, rv, p, hz⟩ := I.tuple hq
    obtain ⟨u, hu, ru⟩ := rv.get hx
    obtain ⟨f0, f1, f2, f3, f4, f5⟩ := hf it (by simp)
    refine wpAny_pyNext_tuple_item st (show s.heap.IsTuple a its.toArray from p) (x := u) (by simpa using hu) fun h' st' sb => ?_
    have I1 : Inv X pins σ H { s with heap := h' } := I.turned (t' := s.toks) (fun b o hb e => (sb.2 b hb).trans e) f0 f1 f3 f4 f5
    obtain ⟨o, e, c, d⟩ := id st'
    exact ⟨u, rfl, go_of (s := { s with heap := h' }) e c d (by decide) ⟨x, H, I1, ru, ⟨rfl, fun ys hy => by rw [I.tuple_inj hy hq]; exact hx⟩, st', fun b hb => (hf b hb).1⟩⟩
  done := by
    intro X hP hw hK hc i pins s σ H E I hf st hg
    subst hP hw hK
    obtain ⟨xs, hq, hx⟩ := hg
    obtain ⟨its, rv, p, hz⟩ := I.tuple hq
    obtain ⟨f0, f1, f2, f3, f4, f5⟩ := hf it (by simp)
    have hl := rv.length
    exact wpAny_pyNext_tuple_end (I.ok.hd hc) st (show s.heap.IsTuple a its.toArray from p) (by simp; omega) fun h' eb => ⟨rfl, I.turned (t' := s.toks) (fun b o hb e => eb b o hb e) f0 f1 f3 f4 f5⟩
  self := fun _ _ _ _ _ st h => wpAny_pyIter_tupleiter st h
end L2
namespace L2
open PySem PySem.Spec PyProof.Rows
section
variable {X : Cx} {tg : Expr}
noncomputable def iList (K : PySem.W.Frag) (tl : TE) : TI := fun σ H R => tl σ H fun x H1 => ∃ a, x = .ref a ∧ (∃ xs, SqL K H1 a xs) ∧ R (Itl K a) H1
noncomputable def iTup (K : PySem.W.Frag) (tl : TE) : TI := fun σ H R => tl σ H fun x H1 => ∃ a, x = .ref a ∧ (∃ xs, SqT K H1 a xs) ∧ R (Itt K a) H1
theorem pi_list {l : Expr} {tl : TE} (hl : PE X l tl) : PI X tg l (iList X.K tl) := by
  intro pins s σ H R I h
  refine thn (hl pins s σ H _ I h) fun v s1 ⟨x, H1, I1, r1, q1⟩ => ?_
  obtain ⟨a, e, ⟨xs, hq⟩, q⟩ := q1
  subst e
  cases r1
  obtain ⟨its, rv, p, hz⟩ := I1.list hq
  refine wpAny_pyIter_list p.isList ?_
  refine ⟨s1.heap.objs.size, [s1.heap.objs.size], _, _, H1, rfl, I1.kept (t' := s1.toks) fun b o e => Heap.get?_push_of_some _ e, turn_list a _, ⟨_, Heap.get?_push_size _ rfl, rfl, rfl⟩, fun b hb => ?_, q⟩
  have e : b = s1.heap.objs.size := by simpa using hb
  subst e
  exact I1.fpOk (Nat.le_refl _) (I1.hok.fresh (Nat.le_refl _))
theorem pi_tup {l : Expr} {tl : TE} (hl : PE X l tl) : PI X tg l (iTup X.K tl) := by
  intro pins s σ H R I h
  refine thn (hl pins s σ H _ I h) fun v s1 ⟨x, H1, I1, r1, q1⟩ => ?_
  obtain ⟨a, e, ⟨xs, hq⟩, q⟩ := q1
  subst e
  cases r1
  obtain ⟨its, rv, p, hz⟩ := I1.tuple hq
  refine wpAny_pyIter_tuple (show s1.heap.IsTuple a its.toArray from p) ?_
  refine ⟨s1.heap.objs.size, [s1.heap.objs.size], _, _, H1, rfl, I1.kept (t' := s1.toks) fun b o e => Heap.get?_push_of_some _ e, turn_tuple a _, ⟨_, Heap.get?_push_size _ rfl, rfl, rfl⟩, fun b hb => ?_, q⟩
  have e : b = s1.heap.objs.size := by simpa using hb
  subst e
  exact I1.fpOk (Nat.le_refl _) (I1.hok.fresh (Nat.le_refl _))
noncomputable def tFor (wi : TI) (g : TG) (tb : TS) : TS := fun D σ H => wi σ H fun J H1 => ∃ W : Nat → Nat → St → Hp → Prop, (∃ m, W 0 m σ H1) ∧ ∀ i m σ H, W i m σ H →
  (J.stop i H ∧ D.nx σ H) ∨ (J.go i H ∧ ∃ N : St → Hp → Prop, (∀ σ' H', N σ' H' → ∃ m', m' < m ∧ W (i + 1) m' σ' H') ∧ ∀ x H', J.yld i H x H' → g x σ H' fun σ2 H2 => tb { D with nx := N, ct := N, bk := D.nx } σ2 H2)
noncomputable def pinsAt (fp : List Addr) (h : Heap) : List (Addr × Obj) := fp.filterMap fun b => (h.get? b).map fun o => (b, o)
theorem mem_pinsAt {fp : List Addr} {h : Heap} {b : Addr} {o : Obj} (hb : b ∈ fp) (e : h.get? b = some o) : (b, o) ∈ pinsAt fp h := List.mem_filterMap.mpr ⟨b, hb, by rw [e]; rfl⟩
theorem of_pinsAt {fp : List Addr} {h : Heap} {p : Addr × Obj} (hp : p ∈ pinsAt fp h) : p.1 ∈ fp ∧ h.get? p.1 = some p.2 := by
  obtain ⟨b, hb, e⟩ := List.mem_filterMap.mp hp
  cases q : h.get? b with
  | none => rw [q] at e; cases e
  | some o =>
    rw [q] at e
    have e' : (b, o) = p := Option.some.inj e
    subst e'
    exact ⟨hb, q⟩
theorem Inv.pinned {pins : List (Addr × Obj)} {σ : St} {H : Hp} {s : Shared} {fp : List Addr} (I : Inv X pins σ H s) (hf : ∀ b ∈ fp, FpOk X pins H b) (ho : ∀ b ∈ fp, ∃ o, s.heap.get? b = some o ∧ ∀ v, o.data ≠ .cell v) : Inv X (pins ++ pinsAt fp s.heap) σ H s :=
  I.pins_of fun p hp => (List.mem_append.mp hp).elim (fun z => I.pin p (List.mem_append_right _ z)) fun z => by
    obtain ⟨hb, e⟩ := of_pinsAt z
    obtain ⟨f0, f1, f2, _⟩ := hf p.1 hb
    obtain ⟨o, e', d⟩ := ho p.1 hb
    rw [e] at e'; cases e'
    exact ⟨e, f0, f1, f2, d⟩
theorem Inv.unpinned {pins pl : List (Addr × Obj)} {σ : St} {H : Hp} {s : Shared} (I : Inv X (pins ++ pl) σ H s) : Inv X pins σ H s := I.pins_of fun p hp => I.pin p (List.mem_append_right _ (List.mem_append_left _ hp))
theorem ps_for {iter : Expr} {body : List Stmt} {wi : TI} {g : TG} {tb : TS} {pos : Pos} (hp : PassesOwn (model X.prog X.w) X.A X.env X.xe) (hc : X.calm = true) (hi : PI X tg iter wi) (hg : PG X tg g) (hb : PSs X body tb)
    (hs : ∀ x, foldedSetIterable iter X.env x = pure x := by intro _; rfl) : PS X (.For tg iter body [] pos) (tFor wi g tb) := by
  intro pins s σ H D I h
  refine wpAny_For (thn (hi pins s σ H _ I h) fun v s1 h1 => thn h1 fun itv s2 h2 => ?_) hs
  obtain ⟨it, fp, tn, J, H2, e, I2, T, st2, f2, W, ⟨m0, w0⟩, turn⟩ := h2
  subst e
  have stat : ∀ {H' : Hp}, (∀ b ∈ fp, H' b = none) → ∀ b ∈ fp, FpOk X pins H' b := fun hn b hb => ⟨hn b hb, (f2 b hb).2⟩
  refine codeAny_forLoop_any (fun n s' => ∃ i σ' H', Inv X pins σ' H' s' ∧ tn i s'.heap ∧ (∀ b ∈ fp, H' b = none) ∧ W i n σ' H') ?_ m0 ⟨0, σ, H2, I2, st2, fun b hb => (f2 b hb).1, w0⟩
  rintro n s3 ⟨i, σ3, H3, I3, st3, fr3, w3⟩
  rcases turn i n σ3 H3 w3 with ⟨stop, qn⟩ | ⟨go, N, hN, step⟩
  · refine wpAny_passesOwn hp (thn (T.done X rfl rfl rfl hc i pins s3 σ3 H3 X.xe I3 (stat fr3) st3 stop) fun r s4 ⟨hr, I4⟩ => ?_)
    subst hr
    exact wpAny_execs_nil ⟨σ3, H3, I4, qn⟩
  · refine wpAny_passesOwn hp (thn (T.item X rfl rfl rfl hc i pins s3 σ3 H3 X.xe I3 (stat fr3) st3 go) fun r s4 ⟨u, hr, h4⟩ => ?_)
    subst hr
    refine wpAny_passesOwn hp (thn h4 fun _ s5 ⟨x, H5, I5, r5, y5, st5, fr5⟩ => ?_)
    have I5' := I5.pinned (stat fr5) (T.obj _ _ st5)
    refine wpAny_passesOwn hp (thn (hg _ s5 σ3 H5 x u _ I5' r5 (step x H5 y5)) fun _ s6 ⟨σ6, H6, I6, q6⟩ => ?_)
    refine wpAny_passesOwn hp (thn (hb _ s6 σ6 H6 _ I6 q6) fun f s7 q7 => ?_)
    have again : ∀ {σ7 : St} {H7 : Hp}, Inv X (pins ++ pinsAt fp s5.heap) σ7 H7 s7 → N σ7 H7 → ∃ m, m < n ∧ ∃ i σ' H', Inv X pins σ' H' s7 ∧ tn i s7.heap ∧ (∀ b ∈ fp, H' b = none) ∧ W i m σ' H' := fun {σ7 H7} I7 n7 => by
      obtain ⟨m', hm, w7⟩ := hN σ7 H7 n7
      refine ⟨m', hm, i + 1, σ7, H7, I7.unpinned, T.keep _ _ _ st5 fun b hb o e => (I7.pin (b, o) (List.mem_append_right _ (List.mem_append_right _ (mem_pinsAt hb e)))).1, fun b hb => ?_, w7⟩
      obtain ⟨o, e, d⟩ := T.obj _ _ st5 b hb
      exact (I7.pin (b, o) (List.mem_append_right _ (List.mem_append_right _ (mem_pinsAt hb e)))).2.1
    cases f with
    | next => obtain ⟨σ7, H7, I7, n7⟩ := q7; exact again I7 n7
    | cont => obtain ⟨σ7, H7, I7, n7⟩ := q7; exact again I7 n7
    | brk => obtain ⟨σ7, H7, I7, q7⟩ := q7; exact ⟨σ7, H7, I7.unpinned, q7⟩
    | ret v => obtain ⟨x7, σ7, H7, I7, r7, q7⟩ := q7; exact ⟨x7, σ7, H7, I7.unpinned, r7, q7⟩
end
theorem while_by {c : TT} {tb : TS} {D : Ends} {σ : St} {H : Hp} (Pv : St → Hp → Prop) (μ : St → Hp → Nat) (h0 : Pv σ H)
    (hs : ∀ σ H, Pv σ H → c σ H fun b H1 => if b = true then tb { D with nx := fun σ' H' => Pv σ' H' ∧ μ σ' H' < μ σ H, ct := fun σ' H' => Pv σ' H' ∧ μ σ' H' < μ σ H, bk := D.nx } σ H1 else D.nx σ H1)
    (mono : ∀ σ H Q Q', (∀ b H1, Q b H1 → Q' b H1) → c σ H Q → c σ H Q') : tWhile c tb D σ H := by
  refine ⟨fun m σ H => m = μ σ H ∧ Pv σ H, ⟨_, rfl, h0⟩, ?_⟩
  rintro m σ H ⟨rfl, p⟩
  refine mono σ H _ _ (fun b H1 q => ?_) (hs σ H p)
  cases b with
  | true => exact ⟨_, fun σ' H' ⟨p', l⟩ => ⟨_, l, rfl, p'⟩, q⟩
  | false => exact q
end L2
namespace L2
open PySem PySem.Spec PyProof.Rows
noncomputable abbrev R2 := V → V → Hp → VK → Prop
noncomputable def OpR (X : Cx) (f : Value → Value → Sem Value) (r : R2) : Prop :=
  ∀ (pins : List (Addr × Obj)) (s : Shared) (σ : St) (H : Hp) (x y : V) (v u : Value) (Q : VK), Inv X pins σ H s → RelV x v → RelV y u → r x y H Q →
    wpAny (model X.prog X.w) X.A (f v u) (EP X pins σ Q) X.xe s
noncomputable def UnR (X : Cx) (f : Value → Sem Value) (r : V → Hp → VK → Prop) : Prop :=
  ∀ (pins : List (Addr × Obj)) (s : Shared) (σ : St) (H : Hp) (x : V) (v : Value) (Q : VK), Inv X pins σ H s → RelV x v → r x H Q →
    wpAny (model X.prog X.w) X.A (f v) (EP X pins σ Q) X.xe s
noncomputable def CallR (X : Cx) (f : Value) (r : List V → Hp → VK → Prop) : Prop :=
  ∀ (pins : List (Addr × Obj)) (s : Shared) (σ : St) (H : Hp) (xs : List V) (us : List Value) (Q : VK), Inv X pins σ H s → Vals xs us → r xs H Q →
    wpAny (model X.prog X.w) X.A (call f us) (EP X pins σ Q) X.xe s
noncomputable def tOp (r : R2) (ta tb : TE) : TE := fun σ H Q => ta σ H fun x H1 => tb σ H1 fun y H2 => r x y H2 Q
noncomputable def tUn (r : V → Hp → VK → Prop) (ta : TE) : TE := fun σ H Q => ta σ H fun x H1 => r x H1 Q
noncomputable def rI (C : Int → Int → Prop) (g : Int → Int → V) : R2 := fun x y H Q => ∃ i j, x = .int i ∧ y = .int j ∧ C i j ∧ Q (g i j) H
noncomputable def rI0 (g : Int → Int → V) : R2 := fun x y H Q => ∃ i j, x = .int i ∧ y = .int j ∧ Q (g i j) H
noncomputable def rU (g : Int → V) : V → Hp → VK → Prop := fun x H Q => ∃ i, x = .int i ∧ Q (g i) H
section
variable {X : Cx} {a b c : Expr} {ta tb tc : TE} {pos : Pos}
theorem binT (ha : PE X a ta) (hb : PE X b tb) {pins : List (Addr × Obj)} {s : Shared} {σ : St} {H : Hp} {R : V → V → Hp → Prop} (I : Inv X pins σ H s)
    (h : ta σ H fun x H1 => tb σ H1 fun y H2 => R x y H2) {Q : Value → Shared → Prop} {f : Value → Value → Sem Value}
    (hf : ∀ v u s2 x y H2, Inv X pins σ H2 s2 → RelV x v → RelV y u → R x y H2 → wpAny (model X.prog X.w) X.A (f v u) Q X.xe s2) :
    wpAny (model X.prog X.w) X.A (eval a X.env) (fun v s₁ => wpAny (model X.prog X.w) X.A (eval b X.env) (fun u s₂ => wpAny (model X.prog X.w) X.A (f v u) Q X.xe s₂) X.xe s₁) X.xe s := by
  refine thn (ha pins s σ H _ I h) fun v s1 ⟨x, H1, I1, r1, q1⟩ => ?_
  refine thn (hb pins s1 σ H1 _ I1 q1) fun u s2 ⟨y, H2, I2, r2, q2⟩ => ?_
  exact hf v u s2 x y H2 I2 r1 r2 q2
theorem pe_op {op : Operator} {r : R2} (ho : OpR X (binaryOp op) r) (ha : PE X a ta) (hb : PE X b tb) : PE X (.BinOp a op b pos) (tOp r ta tb) := by
  intro pins s σ H Q I h
  exact wpAny_BinOp (binT ha hb I h fun v u s2 x y H2 I2 rx ry q => ho pins s2 σ H2 x y v u Q I2 rx ry q)
theorem pe_un {op : UnaryOp} {r : V → Hp → VK → Prop} (ho : UnR X (unaryOp op) r) (ha : PE X a ta) : PE X (.UnaryOp op a pos) (tUn r ta) := by
  intro pins s σ H Q I h
  exact UnaryOp_ (thn (ha pins s σ H _ I h) fun v s1 ⟨x, H1, I1, r1, q1⟩ => ho pins s1 σ H1 x v Q I1 r1 q1)
theorem opI {f : Value → Value → Sem Value} {C : Int → Int → Prop} {g : Int → Int → Int}
    (rule : ∀ (i j : Int) (t u : Tok) (s : Shared) (Q : Value → Shared → Prop) (E : Value → Shared → Prop), C i j → Q (.int (g i j) s.toks) { s with toks := s.toks + 1 } → wpAny (model X.prog X.w) X.A (f (.int i t) (.int j u)) Q E s) :
    OpR X f (rI C fun i j => .int (g i j)) := by
  intro pins s σ H x y v u Q I rx ry h
  obtain ⟨i, j, rfl, rfl, hc, q⟩ := h
  obtain ⟨t, rfl⟩ := rx
  obtain ⟨t', rfl⟩ := ry
  exact rule i j t t' s _ _ hc ⟨.int (g i j), H, I.tok _, ⟨_, rfl⟩, q⟩
theorem opI0 {f : Value → Value → Sem Value} {g : Int → Int → Int}
    (rule : ∀ (i j : Int) (t u : Tok) (s : Shared) (Q : Value → Shared → Prop) (E : Value → Shared → Prop), Q (.int (g i j) s.toks) { s with toks := s.toks + 1 } → wpAny (model X.prog X.w) X.A (f (.int i t) (.int j u)) Q E s) :
    OpR X f (rI0 fun i j => .int (g i j)) := by
  intro pins s σ H x y v u Q I rx ry h
  obtain ⟨i, j, rfl, rfl, q⟩ := h
  obtain ⟨t, rfl⟩ := rx
  obtain ⟨t', rfl⟩ := ry
  exact rule i j t t' s _ _ ⟨.int (g i j), H, I.tok _, ⟨_, rfl⟩, q⟩
theorem opB0 {f : Value → Value → Sem Value} {g : Int → Int → Bool}
    (rule : ∀ (i j : Int) (t u : Tok) (s : Shared) (Q : Value → Shared → Prop) (E : Value → Shared → Prop), Q (.bool (g i j)) s → wpAny (model X.prog X.w) X.A (f (.int i t) (.int j u)) Q E s) :
    OpR X f (rI0 fun i j => .bl (g i j)) := by
  intro pins s σ H x y v u Q I rx ry h
  obtain ⟨i, j, rfl, rfl, q⟩ := h
  obtain ⟨t, rfl⟩ := rx
  obtain ⟨t', rfl⟩ := ry
  exact rule i j t t' s _ _ ⟨.bl (g i j), H, I, rfl, q⟩
theorem two_pow_nn (k : Nat) : (0 : Int) ≤ 2 ^ k := by
  rw [two_pow_cast]
  exact Int.natCast_nonneg _
theorem op_add : OpR X (binaryOp .Add) (rI0 fun i j => .int (i + j)) := opI0 fun _ _ _ _ _ _ _ q => add_int q
theorem op_sub : OpR X (binaryOp .Sub) (rI0 fun i j => .int (i - j)) := opI0 fun _ _ _ _ _ _ _ q => sub_int q
theorem op_mod : OpR X (binaryOp .Mod) (rI (fun _ j => 0 < j) fun i j => .int (i % j)) := opI fun i j _ _ _ _ _ hc q => by
  have h1 : (0 : Int) < j := hc
  exact mod_int' (by omega) (by rw [Int.fmod_eq_emod_of_nonneg i (by omega)]; exact q)
theorem op_shr : OpR X (binaryOp .RShift) (rI (fun _ j => 0 ≤ j) fun i j => .int (i / 2 ^ j.toNat)) := opI fun i j _ _ _ _ _ hc q =>
  rshift_int hc (by rw [Int.fdiv_eq_ediv_of_nonneg i (two_pow_nn _)]; exact q)
theorem op_and : OpR X (binaryOp .BitAnd) (rI0 fun i j => .int (Builtin.bitAnd i j)) := opI0 fun _ _ _ _ _ _ _ q => and_int q
theorem unI {f : Value → Sem Value} {g : Int → Int}
    (rule : ∀ (i : Int) (t : Tok) (s : Shared) (Q : Value → Shared → Prop) (E : Value → Shared → Prop), Q (.int (g i) s.toks) { s with toks := s.toks + 1 } → wpAny (model X.prog X.w) X.A (f (.int i t)) Q E s) :
    UnR X f (rU fun i => .int (g i)) := by
  intro pins s σ H x v Q I rx h
  obtain ⟨i, rfl, q⟩ := h
  obtain ⟨t, rfl⟩ := rx
  exact rule i t s _ _ ⟨.int (g i), H, I.tok _, ⟨_, rfl⟩, q⟩
theorem un_neg : UnR X (unaryOp .USub) (rU fun i => .int (-i)) := unI fun _ _ _ _ _ q => neg_int q
end
noncomputable def scal : V → V → Bool
  | .non, .non => true | .non, .int _ => true | .int _, .non => true | .non, .bl _ => true | .bl _, .non => true | .non, .str _ => true | .str _, .non => true
  | .int _, .int _ => true | .bl _, .bl _ => true | .str _, .str _ => true | .byt _, .byt _ => true
  | .int _, .str _ => true | .str _, .int _ => true | .bl _, .str _ => true | .str _, .bl _ => true
  | _, _ => false
noncomputable def rEq : R2 := fun x y H Q => scal x y = true ∧ Q (.bl (decide (x = y))) H
noncomputable def rNe : R2 := fun x y H Q => scal x y = true ∧ Q (.bl (!decide (x = y))) H
theorem dec_int {i j : Int} : decide (V.int i = V.int j) = (i == j) := by
  rw [Bool.eq_iff_iff]
  simp
theorem dec_bl {i j : Bool} : decide (V.bl i = V.bl j) = (i == j) := by
  rw [Bool.eq_iff_iff]
  simp
theorem dec_str {i j : Str} : decide (V.str i = V.str j) = (i == j) := by
  rw [Bool.eq_iff_iff]
  simp
theorem dec_byt {i j : Array UInt8} : decide (V.byt i = V.byt j) = (i.toList == j.toList) := by
  rw [Bool.eq_iff_iff]
  cases i
  cases j
  simp
section
variable {X : Cx} {a b c : Expr} {ta tb tc : TE} {pos : Pos}
theorem fin_bl {pins : List (Addr × Obj)} {σ : St} {H : Hp} {s : Shared} {Q : VK} {k k' : Bool} (I : Inv X pins σ H s) (q : Q (.bl k) H) (e : k = k') : EP X pins σ Q (.bool k') s := by
  subst e
  exact ⟨.bl k, H, I, rfl, q⟩
theorem op_eq : OpR X (compareOp .Eq) rEq := by
  intro pins s σ H x y v u Q I rx ry h
  obtain ⟨hs, q⟩ := h
  cases x with
  | non =>
    cases rx
    cases y with
    | non => cases ry; exact PySem.EqNone.eq_none_none (fin_bl I q (by simp))
    | bl j => cases ry; exact PySem.EqNone.eq_none_bool (fin_bl I q (by simp))
    | int j => obtain ⟨t', rfl⟩ := ry; exact PySem.EqNone.eq_none_int (fin_bl I q (by simp))
    | str j => obtain ⟨t', rfl⟩ := ry; exact PySem.EqNone.eq_none_str (fin_bl I q (by simp))
    | _ => exact absurd (show false = true from hs) Bool.false_ne_true
  | bl i =>
    cases rx
    cases y with
    | non => cases ry; exact PySem.EqNone.eq_bool_none (fin_bl I q (by simp))
    | bl j => cases ry; exact eq_bool (fin_bl I q dec_bl)
    | str j => obtain ⟨t', rfl⟩ := ry; exact PySem.EqMixed.eq_bool_str (fin_bl I q (by simp))
    | _ => exact absurd (show false = true from hs) Bool.false_ne_true
  | int i =>
    obtain ⟨t, rfl⟩ := rx
    cases y with
    | non => cases ry; exact PySem.EqNone.eq_int_none (fin_bl I q (by simp))
    | int j => obtain ⟨t', rfl⟩ := ry; exact eq_int (fin_bl I q dec_int)
    | str j => obtain ⟨t', rfl⟩ := ry; exact PySem.EqMixed.eq_int_str (fin_bl I q (by simp))
    | _ => exact absurd (show false = true from hs) Bool.false_ne_true
  | str i =>
    obtain ⟨t, rfl⟩ := rx
    cases y with
    | non => cases ry; exact PySem.EqNone.eq_str_none (fin_bl I q (by simp))
    | bl j => cases ry; exact PySem.EqMixed.eq_str_bool (fin_bl I q (by simp))
    | int j => obtain ⟨t', rfl⟩ := ry; exact PySem.EqMixed.eq_str_int (fin_bl I q (by simp))
    | str j => obtain ⟨t', rfl⟩ := ry; exact eq_str (fin_bl I q dec_str)
    | _ => exact absurd (show false = true from hs) Bool.false_ne_true
  | byt i =>
    obtain ⟨t, rfl⟩ := rx
    cases y with
    | byt j => obtain ⟨t', rfl⟩ := ry; exact PySem.W.eq_bytes (fin_bl I q dec_byt)
    | _ => exact absurd (show false = true from hs) Bool.false_ne_true
  | _ => cases y <;> exact absurd (show false = true from hs) Bool.false_ne_true
theorem op_ne : OpR X (compareOp .NotEq) rNe := by
  intro pins s σ H x y v u Q I rx ry h
  obtain ⟨hs, q⟩ := h
  cases x with
  | non =>
    cases rx
    cases y with
    | non => cases ry; exact PySem.EqNone.ne_none_none (fin_bl I q (by simp))
    | bl j => cases ry; exact PySem.EqNone.ne_none_bool (fin_bl I q (by simp))
    | int j => obtain ⟨t', rfl⟩ := ry; exact PySem.EqNone.ne_none_int (fin_bl I q (by simp))
    | str j => obtain ⟨t', rfl⟩ := ry; exact PySem.EqNone.ne_none_str (fin_bl I q (by simp))
    | _ => exact absurd (show false = true from hs) Bool.false_ne_true
  | bl i =>
    cases rx
    cases y with
    | non => cases ry; exact PySem.EqNone.ne_bool_none (fin_bl I q (by simp))
    | bl j => cases ry; exact ne_bool (fin_bl I q (congrArg not dec_bl))
    | str j => obtain ⟨t', rfl⟩ := ry; exact PySem.EqMixed.ne_bool_str (fin_bl I q (by simp))
    | _ => exact absurd (show false = true from hs) Bool.false_ne_true
  | int i =>
    obtain ⟨t, rfl⟩ := rx
    cases y with
    | non => cases ry; exact PySem.EqNone.ne_int_none (fin_bl I q (by simp))
    | int j => obtain ⟨t', rfl⟩ := ry; exact ne_int (fin_bl I q (congrArg not dec_int))
    | str j => obtain ⟨t', rfl⟩ := ry; exact PySem.EqMixed.ne_int_str (fin_bl I q (by simp))
    | _ => exact absurd (show false = true from hs) Bool.false_ne_true
  | str i =>
    obtain ⟨t, rfl⟩ := rx
    cases y with
    | non => cases ry; exact PySem.EqNone.ne_str_none (fin_bl I q (by simp))
    | bl j => cases ry; exact PySem.EqMixed.ne_str_bool (fin_bl I q (by simp))
    | int j => obtain ⟨t', rfl⟩ := ry; exact PySem.EqMixed.ne_str_int (fin_bl I q (by simp))
    | str j => obtain ⟨t', rfl⟩ := ry; exact ne_str (fin_bl I q (congrArg not dec_str))
    | _ => exact absurd (show false = true from hs) Bool.false_ne_true
  | byt i =>
    obtain ⟨t, rfl⟩ := rx
    cases y with
    | byt j => obtain ⟨t', rfl⟩ := ry; exact PySem.W.ne_bytes (fin_bl I q (congrArg not dec_byt))
    | _ => exact absurd (show false = true from hs) Bool.false_ne_true
  | _ => cases y <;> exact absurd (show false = true from hs) Bool.false_ne_true
theorem op_lt : OpR X (compareOp .Lt) (rI0 fun i j => .bl (decide (i < j))) := opB0 fun _ _ _ _ _ _ _ q => lt_int q
theorem op_le : OpR X (compareOp .LtE) (rI0 fun i j => .bl (decide (i ≤ j))) := opB0 fun _ _ _ _ _ _ _ q => le_int q
theorem op_gt : OpR X (compareOp .Gt) (rI0 fun i j => .bl (decide (j < i))) := opB0 fun _ _ _ _ _ _ _ q => gt_int q
theorem op_ge : OpR X (compareOp .GtE) (rI0 fun i j => .bl (decide (j ≤ i))) := opB0 fun _ _ _ _ _ _ _ q => ge_int q
theorem op_in_str : OpR X (compareOp .In) (fun x y H Q => ∃ i j, x = .str i ∧ y = .str j ∧ Q (.bl (!(Builtin.Str.occurrences j i 0 j.length 1).isEmpty)) H) := by
  intro pins s σ H x y v u Q I rx ry h
  obtain ⟨i, j, rfl, rfl, q⟩ := h
  obtain ⟨t, rfl⟩ := rx
  obtain ⟨t', rfl⟩ := ry
  exact in_str (fin_bl I q rfl)
theorem op_isN : OpR X (compareOp .Is) (fun x y H Q => y = .non ∧ Q (.bl (decide (x = .non))) H) := by
  intro pins s σ H x y v u Q I rx ry h
  obtain ⟨rfl, q⟩ := h
  cases ry
  refine is_none_gen (fin_bl I q ?_)
  cases x <;> first
    | (cases rx; rfl)
    | (obtain ⟨t, rfl⟩ := rx; rfl)
noncomputable def isObj : HO → Bool
  | .lst _ => true
  | .ins _ _ _ => true
  | _ => false
theorem obj_there {pins : List (Addr × Obj)} {s : Shared} {σ : St} {H : Hp} {a : Addr} {o : HO} (I : Inv X pins σ H s) (h : H a = some o) (p : isObj o = true) : ∃ ob, s.heap.get? a = some ob ∧ ob.cls ≠ .type "tuple" := by
  cases o with
  | lst xs =>
    obtain ⟨_, its, n, _, e⟩ : xs.length ≤ sizeLine ∧ ∃ (its : List Value) (n : Nat), Vals xs its ∧ s.heap.get? a = some { cls := .type "list", data := .seq its.toArray n } := I.hok a _ h
    exact ⟨_, e, (by show Value.type "list" ≠ .type "tuple"; decide +kernel)⟩
  | ins C dx fs =>
    have x := I.hok a _ h
    obtain ⟨_, _, _, e, _⟩ := x
    exact ⟨_, e, (by show Value.ref C ≠ .type "tuple"; exact fun z => by cases z)⟩
  | _ => exact absurd (show false = true from p) Bool.false_ne_true
theorem nomark (b : Expr) {op : CmpOp} (h : op ≠ .In := by decide) (h2 : op ≠ .NotIn := by decide) : behindInMarks op b = false := by
  have e1 : (op == CmpOp.In) = false := by cases op <;> first | rfl | exact absurd rfl h
  have e2 : (op == CmpOp.NotIn) = false := by cases op <;> first | rfl | exact absurd rfl h2
  cases b <;> simp [behindInMarks, e1, e2]
theorem pe_cmpR {op : CmpOp} {r : R2} (ho : OpR X (compareOp op) r) (ha : PE X a ta) (hb : PE X b tb) (hm : behindInMarks op b = false) : PE X (.Compare a [op] [b] pos) (tOp r ta tb) := by
  intro pins s σ H Q I h
  exact wpAny_Compare1 (binT ha hb I h fun v u s2 x y H2 I2 rx ry q => ho pins s2 σ H2 x y v u Q I2 rx ry q) hm
noncomputable def tTest (t : TE) : TT := fun σ H Q => t σ H fun x H' => ∃ k, x = .bl k ∧ Q k H'
theorem pt_cmpR {op : CmpOp} {r : R2} (ho : OpR X (compareOp op) r) (ha : PE X a ta) (hb : PE X b tb) (hm : behindInMarks op b = false) : PT X (.Compare a [op] [b] pos) (tTest (tOp r ta tb)) := by
  intro pins s σ H Q I h
  refine wpAny_isTrue_Compare1 (thn (ha pins s σ H _ I h) fun v s1 ⟨x, H1, I1, r1, q1⟩ => thn (hb pins s1 σ H1 _ I1 q1) fun u s2 ⟨y, H2, I2, r2, q2⟩ =>
    thn (ho pins s2 σ H2 x y v u _ I2 r1 r2 q2) fun c s3 ⟨z, H3, I3, r3, k, e, q3⟩ => ?_) hm
  subst e
  cases r3
  exact wpAny_truthy_bool ⟨H3, I3, q3⟩
noncomputable def tChain (r r' : R2) (ta tb tc : TE) : TE := fun σ H Q => ta σ H fun x H1 => tb σ H1 fun y H2 => r x y H2 fun z H3 => ∃ k, z = .bl k ∧
  (if k = true then tc σ H3 fun w' H4 => r' y w' H4 Q else Q (.bl false) H3)
theorem pt_chain {op op' : CmpOp} {r r' : R2} (ho : OpR X (compareOp op) r) (ho' : OpR X (compareOp op') r') (ha : PE X a ta) (hb : PE X b tb) (hc : PE X c tc)
    (hm : lastMarks [op, op'] [b, c] = false := by with_unfolding_all rfl) : PT X (.Compare a [op, op'] [b, c] pos) (tTest (tChain r r' ta tb tc)) := by
  intro pins s σ H Q I h
  refine isTrue_chain (thn (ha pins s σ H _ I h) fun v s1 ⟨x, H1, I1, r1, q1⟩ => test_link (thn (hb pins s1 σ H1 _ I1 q1) fun u s2 ⟨y, H2, I2, r2, q2⟩ =>
    thn (ho pins s2 σ H2 x y v u _ I2 r1 r2 q2) fun d s3 ⟨z, H3, I3, r3, k, e, q3⟩ => ?_)) hm
  subst e
  cases r3
  refine wpAny_truthy_bool ?_
  cases k with
  | false =>
    obtain ⟨k', e', q'⟩ := q3
    cases e'
    exact ite_ff ⟨H3, I3, q'⟩
  | true =>
    refine ite_tt (test_last (thn (hc pins s3 σ H3 _ I3 q3) fun w' s4 ⟨z', H4, I4, r4, q4⟩ => thn (ho' pins s4 σ H4 y z' u w' _ I4 r2 r4 q4) fun d' s5 ⟨z2, H5, I5, r5, k2, e2, q5⟩ => ?_))
    subst e2
    cases r5
    exact wpAny_truthy_bool ⟨H5, I5, q5⟩
theorem line63 : (sizeLine : Nat) < 2 ^ 63 := by rw [sizeLine_eq]; decide
theorem op_add_str : OpR X (binaryOp .Add) (fun x y H Q => ∃ i j, x = .str i ∧ y = .str j ∧ i.length + j.length ≤ sizeLine ∧ Q (.str (i ++ j)) H) := by
  intro pins s σ H x y v u Q I rx ry h
  obtain ⟨i, j, rfl, rfl, hz, q⟩ := h
  obtain ⟨t, rfl⟩ := rx
  obtain ⟨t', rfl⟩ := ry
  exact add_str (fun t' tk => ⟨.str (i ++ j), H, I.tok _, ⟨_, rfl⟩, q⟩) hz
theorem vals1 {x : V} {us : List Value} (r : Vals [x] us) : ∃ u, us = [u] ∧ RelV x u := by
  cases r with
  | cons r1 r2 => cases r2; exact ⟨_, rfl, r1⟩
theorem vals2 {x y : V} {us : List Value} (r : Vals [x, y] us) : ∃ u w', us = [u, w'] ∧ RelV x u ∧ RelV y w' := by
  cases r with
  | cons r1 r2 =>
    cases r2 with
    | cons r3 r4 => cases r4; exact ⟨_, _, rfl, r1, r3⟩
theorem call_max2 (hc : X.calm = true) : CallR X (.builtin "max") (fun xs H Q => ∃ i j, xs = [.int i, .int j] ∧ Q (.int (if j > i then j else i)) H) := by
  intro pins s σ H xs us Q I r h
  obtain ⟨i, j, rfl, q⟩ := h
  obtain ⟨u, w', rfl, ⟨t, rfl⟩, ⟨t', rfl⟩⟩ := vals2 r
  refine max_two_ints (I.ok.hd hc) fun h' tk k => ⟨_, H, I.kept k, ?_, q⟩
  by_cases hj : j > i
  · rw [if_pos hj, if_pos hj]; exact ⟨_, rfl⟩
  · rw [if_neg hj, if_neg hj]; exact ⟨_, rfl⟩
theorem call_min2 (hc : X.calm = true) : CallR X (.builtin "min") (fun xs H Q => ∃ i j, xs = [.int i, .int j] ∧ Q (.int (if j < i then j else i)) H) := by
  intro pins s σ H xs us Q I r h
  obtain ⟨i, j, rfl, q⟩ := h
  obtain ⟨u, w', rfl, ⟨t, rfl⟩, ⟨t', rfl⟩⟩ := vals2 r
  refine min_two_ints (I.ok.hd hc) fun h' tk k => ⟨_, H, I.kept k, ?_, q⟩
  by_cases hj : j < i
  · rw [if_pos hj, if_pos hj]; exact ⟨_, rfl⟩
  · rw [if_neg hj, if_neg hj]; exact ⟨_, rfl⟩
theorem call_str_int : CallR X (.type "str") (fun xs H Q => ∃ i, xs = [.int i] ∧ i.natAbs.log2 < 1920 ∧ Q (.str (toString i)) H) := by
  intro pins s σ H xs us Q I r h
  obtain ⟨i, rfl, hz, q⟩ := h
  obtain ⟨u, rfl, t, rfl⟩ := vals1 r
  exact PySem.P.str_of_int hz ⟨.str _, H, I.tok _, ⟨_, rfl⟩, q⟩
end
end L2
namespace L2
open PySem PySem.Spec PyProof.Rows
structure ObjM (h : Heap) (x dx C : Addr) (mA : Str → Option Value) : Prop where
  obj : h.get? x = some (PySem.W.instObj C dx)
  ns : h.Ns1 dx mA
  ne : dx ≠ x
theorem lookIn_ns {h : Heap} {dx : Addr} {mA : Str → Option Value} (n : h.Ns1 dx mA) : ∃ od, h.get? dx = some od ∧ ∀ name, PySem.W.lookIn name od = some (mA name) := by
  obtain ⟨o, es, ep, ho, hd, hk, _, hm⟩ := n
  refine ⟨o, ho, fun name => ?_⟩
  have e := hm name
  unfold nsFind findBy at e
  rw [← Array.find?_toList] at e
  unfold PySem.W.lookIn
  rw [hd]
  dsimp only
  split
  · rename_i y q
    rw [q] at e
    exact congrArg some e
  · rename_i q
    rw [q] at e
    have a : es.toList.any (·.refKey) = false := by
      rw [List.any_eq_false]
      intro y hy
      obtain ⟨z, t, hkey⟩ := hk y (Array.mem_toList_iff.mp hy)
      simp [DictEntry.refKey, hkey]
    have a' : ¬ es.toList.any (·.refKey) = true := by rw [a]; exact Bool.false_ne_true
    rw [if_neg a']
    exact congrArg some e
theorem ObjM.look {h : Heap} {x dx C : Addr} {mA : Str → Option Value} (I : ObjM h x dx C mA) : ∃ od, PySem.W.InstAt h x (PySem.W.instObj C dx) C (some od) ∧ ∀ name, PySem.W.lookIn name od = some (mA name) :=
  let ⟨od, ho, hl⟩ := lookIn_ns I.ns
  ⟨od, ⟨I.obj, rfl, rfl, ho⟩, hl⟩
section
variable {prog : Program} {w : World} {A : Around} {E : Value → Shared → Prop} {s : Shared} {K : PySem.W.Frag} {x dx C f : Addr} {mA : Str → Option Value} {name : Str} {v : Value}
theorem get_map {expr : Bool} {Q : Value → Shared → Prop} (X : K.In s.heap) (I : ObjM s.heap x dx C mA) (hg : PySem.W.plainGet K C name = true) (hh : PySem.W.hasDictIn K C = true)
    (ha : PySem.W.findIn K (.ref C) name = some none) (hv : mA name = some v) (hv' : PySem.W.handedIn v = true) (h : Q v { s with toks := s.toks + 1 }) :
    wpAny (model prog w) A (getAttr (.ref x) name expr) Q E s := by
  obtain ⟨od, J, hl⟩ := I.look
  exact PySem.W.get_value X J (PySem.W.plainGet_of hg).1 (PySem.W.findObj_own hh ha rfl (by rw [hl, hv])) hv' h
theorem get_meth {pl : Sem Bool} {Q : Value × List Value → Shared → Prop} (X : K.In s.heap) (I : ObjM s.heap x dx C mA) (hg : PySem.W.plainGet K C name = true)
    (hf : PySem.W.findIn K (.ref C) name = some (some (.ref f))) (ht : PySem.W.isFn K (.ref f) = true) (hv : mA name = none) (h : Q (.ref f, [.ref x]) s) :
    wpAny (model prog w) A (getMethod (.ref x) name pl) Q E s := by
  obtain ⟨od, J, hl⟩ := I.look
  exact PySem.W.method_fn X J (PySem.W.plainGet_of hg).1 (PySem.W.plainGet_of hg).2 hf (beq_iff_eq.mp ht) (by show (PySem.W.lookIn name od).map (·.isSome) = some false; rw [hl, hv]; rfl) h
theorem set_map {ns : List Str} {Q : Unit → Shared → Prop} (X : K.In s.heap) (I : ObjM s.heap x dx C mA)
    (hs : PySem.W.findIn K (.ref C) "__setattr__" = some (some (.builtin "object.__setattr__"))) (hp : PySem.W.plainOver K C = true) (ht : PySem.W.takerIn K C name = some none) (hh : PySem.W.hasDictIn K C = true)
    (hw : PySem.Within mA ns) (hsz : ns.length ≤ sizeLine)
    (h : ∀ h', ObjM h' x dx C (fun y => if y = name then some v else mA y) → Heap.SameBut dx s.heap h' → Q () { s with heap := h', toks := s.toks + 2 }) :
    wpAny (model prog w) A (setAttr (.ref x) name v) Q E s := by
  obtain ⟨od, J, hl⟩ := I.look
  refine PySem.W.set_plain X J hs (PySem.W.osa_open (s := { s with toks := s.toks + 1 }) (r := none) X J hp ht fun b => ?_)
  obtain ⟨cd, hc, hd'⟩ := PySem.W.any_some hh
  have hx : s.heap.get? x = some ⟨.ref C, some dx, .plain, #[]⟩ := I.obj
  refine wpAny_bind (wpAny_pure (wpAny_bind (wpAny_bind (wpAny_loadPart hx (wpAny_bind (PySem.W.Looks.here (s := { s with toks := s.toks + 1 }) (PySem.W.looks_clsIn X hc) ?_))))))
  rw [hd']
  refine wpAny_pure (a := some dx) (wpAny_bind (wpAny_pure (wpAny_bind ?_)))
  refine wpAny_nsSet1 (s := { s with toks := s.toks + 1 }) I.ns fun h' hn2 hs2 => ?_
  obtain ⟨oD, esD, epD, hoD, hdD, hcD⟩ := hn2.count (PySem.Within.cons name v hw)
  refine wpAny_bind (wpAny_lookBehind hoD (by rw [hdD]; exact pastItsLine_dict (Nat.le_trans hcD (by rw [List.length_cons]; omega))) ?_)
  exact wpAny_pure (h _ ⟨(hs2.2 _ (Ne.symm I.ne)).trans I.obj, hn2, I.ne⟩ hs2)
theorem make_map {R : Result → Shared → Prop} {vs : List Value} {kw : List (Str × Value)} (X : K.In s.heap) (hm : PySem.W.makesIn K C = true)
    (hi : PySem.W.findIn K (.ref C) "__init__" = some (some (.ref f))) (hf : PySem.W.typeIn K (.ref f) = some (.type "function"))
    (h : codeAny (model prog w) (A.under (.builtin "type.__call__" ⟨.ref C :: vs, kw⟩)) (.call (.ref f) ⟨.ref (s.heap.objs.size + 1) :: vs, kw⟩) (PySem.W.InitBack (s.heap.objs.size + 1) R)
      { s with heap := (s.heap.push PySem.W.emptyDict).push (PySem.W.instObj C s.heap.objs.size) }) :
    codeAny (model prog w) A (.call (.ref C) ⟨vs, kw⟩) R s := by
  obtain ⟨hh, g, d, t, os⟩ := s
  exact PySem.W.make_core (PySem.W.makes_of X hm) (PySem.W.looks_findIn X hi) (fun self => PySem.W.bind_fn X self hf) (.inl rfl) h
end
noncomputable def putF (f : Str) (v : V) : List (Str × V) → List (Str × V)
  | [] => [(f, v)]
  | (g, x) :: r => if g = f then (g, v) :: r else (g, x) :: putF f v r
theorem lookup_putF (f g : Str) (v : V) : ∀ fs : List (Str × V), (putF f v fs).lookup g = if g = f then some v else fs.lookup g
  | [] => by
    show List.lookup g [(f, v)] = _
    by_cases h : g = f
    · have hb : (g == f) = true := beq_iff_eq.mpr h
      simp only [List.lookup, hb, if_pos h]
    · have hb : (g == f) = false := beq_eq_false_iff_ne.mpr h
      simp only [List.lookup, hb, if_neg h]
  | (k, x) :: r => by
    have ih := lookup_putF f g v r
    rw [show putF f v ((k, x) :: r) = (if k = f then (k, v) :: r else (k, x) :: putF f v r) from rfl]
    by_cases hk : k = f
    · rw [if_pos hk]
      by_cases h : g = k
      · have hb : (g == k) = true := beq_iff_eq.mpr h
        simp only [List.lookup, hb, if_pos (h.trans hk)]
      · have hb : (g == k) = false := beq_eq_false_iff_ne.mpr h
        simp only [List.lookup, hb, if_neg (fun e : g = f => h (e.trans hk.symm))]
    · rw [if_neg hk]
      by_cases h : g = k
      · have hb : (g == k) = true := beq_iff_eq.mpr h
        simp only [List.lookup, hb, if_neg (fun e : g = f => hk (h.symm.trans e))]
      · have hb : (g == k) = false := beq_eq_false_iff_ne.mpr h
        simp only [List.lookup, hb]
        exact ih
theorem keys_putF (f : Str) (v : V) : ∀ fs : List (Str × V), f ∈ (putF f v fs).map (·.1) ∧ ∀ g, g ∈ fs.map (·.1) → g ∈ (putF f v fs).map (·.1)
  | [] => ⟨by simp [putF], fun g h => by simp at h⟩
  | (k, x) :: r => by
    obtain ⟨i1, i2⟩ := keys_putF f v r
    rw [show putF f v ((k, x) :: r) = (if k = f then (k, v) :: r else (k, x) :: putF f v r) from rfl]
    by_cases hk : k = f
    · rw [if_pos hk]
      subst hk
      exact ⟨by simp, fun g h => by simpa using h⟩
    · rw [if_neg hk]
      refine ⟨?_, fun g h => ?_⟩
      · rw [List.map_cons]
        exact List.mem_cons_of_mem _ i1
      · rw [List.map_cons] at h ⊢
        rcases List.mem_cons.mp h with e | e
        · exact List.mem_cons.mpr (.inl e)
        · exact List.mem_cons_of_mem _ (i2 g e)
theorem length_putF (f : Str) (v : V) : ∀ fs : List (Str × V), (putF f v fs).length ≤ fs.length + 1
  | [] => by simp [putF]
  | (k, x) :: r => by
    have ih := length_putF f v r
    rw [show putF f v ((k, x) :: r) = (if k = f then (k, v) :: r else (k, x) :: putF f v r) from rfl]
    by_cases hk : k = f
    · rw [if_pos hk, List.length_cons, List.length_cons]; omega
    · rw [if_neg hk, List.length_cons, List.length_cons]; omega
theorem RelO.some_of {v : V} {o : Option Value} (r : RelO (some v) o) : ∃ u, o = some u ∧ RelV v u := by
  cases o with
  | none => exact (show False from r).elim
  | some u => exact ⟨u, rfl, r⟩
theorem RelO.none_of {o : Option Value} (r : RelO none o) : o = none := by
  cases o with
  | none => rfl
  | some u => exact (show False from r).elim
theorem handed_of {v : V} {u : Value} (r : RelV v u) : PySem.W.handedIn u = true := by
  cases v with
  | non => cases (show u = Value.none from r); rfl
  | bl b => cases (show u = Value.bool b from r); rfl
  | int i => obtain ⟨t, e⟩ := (show ∃ t, u = Value.int i t from r); cases e; rfl
  | str x => obtain ⟨t, e⟩ := (show ∃ t, u = Value.str x t from r); cases e; rfl
  | byt b => obtain ⟨t, e⟩ := (show ∃ t, u = Value.bytes b t from r); cases e; rfl
  | flt b => obtain ⟨t, e⟩ := (show ∃ t, u = Value.float b t from r); cases e; rfl
  | ref a => cases (show u = Value.ref a from r); rfl
  | ty n => cases (show u = Value.type n from r); rfl
section
variable {P : Program} {w : World} {H H' : Hp} {h h' : Heap} {a C dx : Addr} {fs fs' : List (Str × V)}
theorem ins_get (hok : HOk P w H h) (e : H a = some (.ins C dx fs)) : ∃ mA, ObjM h a dx C mA ∧ (∀ f, RelO (fs.lookup f) (mA f)) ∧ PySem.Within mA (fs.map (·.1)) ∧ fs.length ≤ 1000 ∧ H dx = some (.own a) := by
  obtain ⟨d, z, ne, ob, mA, n, r, q⟩ := (show ObjOk P w H h a (.ins C dx fs) from hok a _ e)
  exact ⟨mA, ⟨ob, n, ne⟩, r, q, z, d⟩
end
structure Cls (K : PySem.W.Frag) (C : Addr) : Prop where
  pg : PySem.W.plainGet K C Str.empty = true
  hd : PySem.W.hasDictIn K C = true
  po : PySem.W.plainOver K C = true
  sa : PySem.W.findIn K (.ref C) "__setattr__" = some (some (.builtin "object.__setattr__"))
theorem Cls.get {K : PySem.W.Frag} {C : Addr} (c : Cls K C) (f : Str) : PySem.W.plainGet K C f = true := c.pg
noncomputable def NoAttr (K : PySem.W.Frag) (C : Addr) (f : Str) : Prop := PySem.W.findIn K (.ref C) f = some none
theorem NoAttr.taker {K : PySem.W.Frag} {C : Addr} {f : Str} (n : NoAttr K C f) : PySem.W.takerIn K C f = some none := by
  unfold PySem.W.takerIn
  rw [show PySem.W.findIn K (.ref C) f = some none from n]
  rfl
structure Con (K : PySem.W.Frag) (C : Addr) (f : Str) (v : V) (u : Value) : Prop where
  at_ : PySem.W.findIn K (.ref C) f = some (some u)
  rel : RelV v u
  get : PySem.W.specialIn K u "__get__" = some none
  cp : PySem.W.copiedNames.contains f = false
structure Meth (K : PySem.W.Frag) (C : Addr) (m : Str) (f : Addr) : Prop where
  at_ : PySem.W.findIn K (.ref C) m = some (some (.ref f))
  fn : PySem.W.isFn K (.ref f) = true
  kp : PySem.W.keepIn K (.ref f) = true
section
variable {X : Cx} {pins : List (Addr × Obj)} {σ : St} {H : Hp} {s : Shared} {a C dx : Addr} {fs : List (Str × V)} {f : Str} {v : V} {A : Around} {E : Value → Shared → Prop}
theorem getattr_ok {b : Bool} {Q : Value → Shared → Prop} (I : Inv X pins σ H s) (e : H a = some (.ins C dx fs)) (c : Cls X.K C) (n : NoAttr X.K C f) (l : fs.lookup f = some v)
    (h : ∀ u s', Inv X pins σ H s' → RelV v u → Q u s') : wpAny (model X.prog X.w) A (getAttr (.ref a) f b) Q E s := by
  obtain ⟨mA, O, r, _, _, _⟩ := ins_get I.hok e
  obtain ⟨u, hu, ru⟩ := RelO.some_of (v := v) (o := mA f) (by rw [← l]; exact r f)
  exact get_map I.kIn O (c.get f) c.hd n hu (handed_of ru) (h u _ (I.tok _) ru)
theorem getmeth_ok {m : Str} {g : Addr} {pl : Sem Bool} {Q : Value × List Value → Shared → Prop} (I : Inv X pins σ H s) (e : H a = some (.ins C dx fs)) (c : Cls X.K C) (k : Meth X.K C m g) (l : fs.lookup m = none)
    (h : Q (.ref g, [.ref a]) s) : wpAny (model X.prog X.w) A (getMethod (.ref a) m pl) Q E s := by
  obtain ⟨mA, O, r, _, _, _⟩ := ins_get I.hok e
  have hn : mA m = none := RelO.none_of (by rw [← l]; exact r m)
  exact get_meth I.kIn O (c.get m) k.at_ k.fn hn h
theorem setattr_ok {y : V} {u : Value} {Q : Unit → Shared → Prop} (I : Inv X pins σ H s) (e : H a = some (.ins C dx fs)) (c : Cls X.K C) (n : NoAttr X.K C f) (hl : fs.length < 1000) (ry : RelV y u)
    (h : ∀ s', Inv X pins σ (upd H a (.ins C dx (putF f y fs))) s' → Q () s') : wpAny (model X.prog X.w) A (setAttr (.ref a) f u) Q E s := by
  obtain ⟨mA, O, r, wi, _, ho⟩ := ins_get I.hok e
  have hz : (fs.map (·.1)).length ≤ sizeLine := by rw [List.length_map, sizeLine_eq]; omega
  refine set_map I.kIn O c.sa c.po n.taker c.hd wi hz fun h' O' sb => h _ ?_
  have hd : ∃ o, h'.get? dx = some o := let ⟨o, _, _, e', _⟩ := O'.ns; ⟨o, e'⟩
  refine I.write (x := a) (e := dx) (by rw [e]; exact True.intro) (.inr ho) (fun b q hb z => (sb.2 b hb).trans z) hd ?_
  refine ⟨by rw [upd_ne O.ne]; exact ho, ?_, O.ne, O'.obj, _, O'.ns, fun g => ?_, fun g hg => ?_⟩
  · have := length_putF f y fs; omega
  · show RelO ((putF f y fs).lookup g) (if g = f then some u else mA g)
    rw [lookup_putF]
    by_cases q : g = f
    · rw [if_pos q, if_pos q]; exact ry
    · rw [if_neg q, if_neg q]; exact r g
  · by_cases q : g = f
    · rw [q]; exact (keys_putF f y fs).1
    · refine (keys_putF f y fs).2 g (wi g fun z => hg ?_)
      show (if g = f then some u else mA g) = none
      rw [if_neg q]; exact z
theorem Inv.made (I : Inv X pins σ H s) : Inv X pins σ (upd (upd H s.heap.objs.size (.own (s.heap.objs.size + 1))) (s.heap.objs.size + 1) (.ins C s.heap.objs.size []))
    { s with heap := (s.heap.push PySem.W.emptyDict).push (PySem.W.instObj C s.heap.objs.size) } := by
  have e1 : (s.heap.push PySem.W.emptyDict).get? s.heap.objs.size = some PySem.W.emptyDict := Heap.get?_push_size s.heap rfl
  have e2 : ((s.heap.push PySem.W.emptyDict).push (PySem.W.instObj C s.heap.objs.size)).get? (s.heap.objs.size + 1) = some (PySem.W.instObj C s.heap.objs.size) := by
    have := Heap.get?_push_size (s.heap.push PySem.W.emptyDict) (o := PySem.W.instObj C s.heap.objs.size) rfl
    rwa [Heap.size_push] at this
  have e3 : (s.heap.push PySem.W.emptyDict).Ns s.heap.objs.size (fun _ => none) := ⟨PySem.W.emptyDict, #[], _, e1, rfl, (fun e he => absurd he (by simp)), fun _ => rfl⟩
  have I1 := I.laid (a := s.heap.objs.size) (o := .own (s.heap.objs.size + 1)) (h' := s.heap.push PySem.W.emptyDict) (t' := s.toks) (fun b u q => Heap.get?_push_of_some _ q) (Nat.le_refl _) ⟨_, e1⟩
  refine I1.laid (a := s.heap.objs.size + 1) (o := .ins C s.heap.objs.size []) (t' := s.toks) (fun b u q => Heap.get?_push_of_some _ q) (Nat.le_of_eq (Heap.size_push _ _)) ?_
  have ne : s.heap.objs.size ≠ s.heap.objs.size + 1 := Nat.ne_of_lt (Nat.lt_succ_self _)
  refine ⟨by rw [upd_ne ne, upd_same], Nat.zero_le _, ne, e2, fun _ => none, (Heap.Ns1.of_empty e3).at fun o q => Heap.get?_push_of_some _ q, fun _ => True.intro, fun y hy => absurd rfl hy⟩
theorem attr_of {prog : Program} {w : World} {env : Env} {e : Expr} {f : Str} {pos : Pos} {s : Shared} {Q : Value → Shared → Prop} (hb : attributeBase e f env (eval e env) = eval e env)
    (h : wpAny (model prog w) A (eval e env) (fun o s₁ => wpAny (model prog w) A (getAttr o f true) Q E s₁) E s) : wpAny (model prog w) A (eval (.Attribute e f pos) env) Q E s :=
  Attribute_any_ h (by rw [arm_eval_Attribute, hb])
end
noncomputable def tFld (K : PySem.W.Frag) (ta : TE) (f : Str) : TE := fun σ H Q => ta σ H fun x H1 => ∃ a C dx fs v, x = .ref a ∧ H1 a = some (.ins C dx fs) ∧ Cls K C ∧ NoAttr K C f ∧ fs.lookup f = some v ∧ Q v H1
noncomputable def sFld (K : PySem.W.Frag) (ta tv : TE) (f : Str) : TS := fun D σ H => tv σ H fun y H1 => ta σ H1 fun x H2 => ∃ a C dx fs, x = .ref a ∧ H2 a = some (.ins C dx fs) ∧ Cls K C ∧ NoAttr K C f ∧ fs.length < 1000 ∧
  D.nx σ (upd H2 a (.ins C dx (putF f y fs)))
section
variable {X : Cx} {o e value : Expr} {f : Str} {pos pos' tpos : Pos} {ta tv : TE}
theorem pe_fld (he : PE X e ta) (hb : attributeBase e f X.env (eval e X.env) = eval e X.env) : PE X (.Attribute e f pos) (tFld X.K ta f) := by
  intro pins s σ H Q I h
  refine attr_of hb (thn (he pins s σ H _ I h) fun u s1 ⟨x, H1, I1, rx, a, C, dx, fs, v, ex, ea, c, n, l, q⟩ => ?_)
  subst ex
  obtain rfl : u = Value.ref a := rx
  exact getattr_ok I1 ea c n l fun u' s2 I2 ru => ⟨v, H1, I2, ru, q⟩
theorem ps_fld (ha : PE X o ta) (hv : PE X value tv) (hs : swapsWith value (some (.Attribute o f pos')) pos.line X.env = pure false) : PS X (.Assign [.Attribute o f pos'] value pos) (sFld X.K ta tv f) := by
  intro pins s σ H D I h
  refine plainObj_wpAny_Assign_Attribute (thn (hv pins s σ H _ I h) fun u s1 ⟨y, H1, I1, ry, q⟩ => thn (ha pins s1 σ H1 _ I1 q) fun ov s2 ⟨x, H2, I2, rx, a, C, dx, fs, ex, ea, c, n, l, q2⟩ => ?_) hs
  subst ex
  obtain rfl : ov = Value.ref a := rx
  exact setattr_ok I2 ea c n l ry fun s3 I3 => ⟨σ, _, I3, q2⟩
end
section
variable {X : Cx} {pins : List (Addr × Obj)} {σ : St} {H : Hp} {s : Shared} {A : Around} {E : Value → Shared → Prop} {Q : Value → Shared → Prop} {c : Value} {b : Bool}
inductive TyOf (K : PySem.W.Frag) (H : Hp) : V → Value → Prop where
  | non : TyOf K H .non (.type "NoneType")
  | bl (x : Bool) : TyOf K H (.bl x) (.type "bool")
  | int (i : Int) : TyOf K H (.int i) (.type "int")
  | str (x : Str) : TyOf K H (.str x) (.type "str")
  | flt (x : UInt64) : TyOf K H (.flt x) (.type "float")
  | lst {a : Addr} {xs : List V} (e : H a = some (.lst xs)) : TyOf K H (.ref a) (.type "list")
  | frz {a : Addr} {o : Obj} {xs : List V} (e : H a = some (.frz o (.lst xs))) : TyOf K H (.ref a) (.type "list")
  | tup {a : Addr} {xs : List V} (e : H a = some (.tup xs)) : TyOf K H (.ref a) (.type "tuple")
  | dK {a : Addr} {kvs : List (Key × V)} (e : H a = some (.dK kvs)) : TyOf K H (.ref a) (.type "dict")
  | dT {a : Addr} {kvs : List (List Key × V)} (e : H a = some (.dT kvs)) : TyOf K H (.ref a) (.type "dict")
  | ins {a C dx : Addr} {fs : List (Str × V)} (e : H a = some (.ins C dx fs)) (cl : Cls K C) (ha : PySem.W.findIn K (.ref C) "__class__" = some (some (.builtin "object.__class__")))
      (hn : PySem.W.specialIn K (.builtin "object.__class__") "__get__" = some (some (.builtin "getset_descriptor.__get__"))) (htk : PySem.W.takesIn K (.builtin "object.__class__") = some true)
      (hm : PySem.W.mroIn K C (.type "object") = some true) : TyOf K H (.ref a) (.ref C)
end
end L2
namespace L2
open PySem PySem.Spec PyProof.Rows
structure Room (k : Nat) (A : Around) : Prop where
  hd : A.handled = none
  dp : A.depth + 3 * k + 5 < recursionLimit
  un : A.units + 16 * k + 200 < cLine
theorem Room.mono {j k : Nat} {A : Around} (r : Room k A) (h : j ≤ k) : Room j A := ⟨r.hd, by have := r.dp; omega, by have := r.un; omega⟩
theorem Room.deeper {k : Nat} {A : Around} (r : Room (k + 1) A) (env : Env) : Room k (A.deeper env) :=
  ⟨r.hd, by have := r.dp; show A.depth + 1 + 3 * k + 5 < _; omega, by have := r.un; show A.units + 3 + 16 * k + 200 < _; omega⟩
theorem make_depth {A : Around} {C : Addr} {us : List Value} {kw : List (Str × Value)} : (A.under (.builtin "type.__call__" ⟨.ref C :: us, kw⟩)).depth = A.depth + 1 := by
  first | rfl | simp [Around.under, Code.weight, Code.isCreation, Code.isGuard, Code.isCaller, Code.frames, Code.isFrame, guardIds]
theorem make_units {A : Around} {C : Addr} {us : List Value} {kw : List (Str × Value)} : (A.under (.builtin "type.__call__" ⟨.ref C :: us, kw⟩)).units = A.units + 1 := by
  first | rfl | simp [Around.under, Code.cUnits, Code.frames, Code.isFrame]
theorem Room.make {k : Nat} {A : Around} (r : Room (k + 1) A) (C : Addr) (us : List Value) (kw : List (Str × Value)) : Room k (A.under (.builtin "type.__call__" ⟨.ref C :: us, kw⟩)) :=
  ⟨r.hd, by have := r.dp; rw [make_depth]; omega, by have := r.un; rw [make_units]; omega⟩
theorem Room.depth {k : Nat} {A : Around} (r : Room k A) : A.depth < recursionLimit := by have := r.dp; omega
theorem Room.units {k : Nat} {A : Around} (r : Room k A) : A.units + 64 < cLine := by have := r.un; omega
noncomputable def tNil : TA := fun _ H Q => Q [] H
noncomputable def tCons (ta : TE) (tr : TA) : TA := fun σ H Q => ta σ H fun x H1 => tr σ H1 fun xs H2 => Q (x :: xs) H2
section
variable {X : Cx} {e : Expr} {es : List Expr} {te : TE} {t : TA} {pos : Pos}
theorem pa_nil : PA X [] tNil := fun _ _ _ _ H Q I h => Calls.spliced_nil ⟨[], H, I, .nil, h⟩
theorem pa_cons (ha : PE X e te) (hr : PA X es t) (hs : starEach (e :: es) X.env = (false, eval e X.env) :: starEach es X.env := by rfl) : PA X (e :: es) (tCons te t) := by
  intro pos pins s σ H Q I h
  rw [hs]
  show wpAny _ _ (spliced ((false, eval e X.env) :: backTo pos (starEach es X.env))) _ _ s
  refine Calls.spliced_cons (thn (ha pins s σ H _ I h) fun u s1 ⟨x, H1, I1, r1, q1⟩ => ?_)
  exact thn (hr pos pins s1 σ H1 _ I1 q1) fun us s2 ⟨xs, H2, I2, r2, q2⟩ => ⟨x :: xs, H2, I2, .cons r1 r2, q2⟩
noncomputable def tTup (t : TA) : TE := fun σ H Q => t σ H fun xs H1 => xs.length ≤ sizeLine ∧ ∀ p, H1 p = none → Q (.ref p) (upd H1 p (.tup xs))
noncomputable def tLst (t : TA) : TE := fun σ H Q => t σ H fun xs H1 => xs.length ≤ sizeLine ∧ ∀ p, H1 p = none → Q (.ref p) (upd H1 p (.lst xs))
theorem pe_tup {x1} (h : PA X es t) : PE X (.Tuple es x1 pos) (tTup t) := by
  intro pins s σ H Q I hq
  refine wpAny_Tuple_spliced (thn (h pos pins s σ H _ I hq) fun us s1 ⟨xs, H1, I1, r, z, q⟩ => ⟨by rw [← r.length]; exact z, ?_⟩)
  have hf : H1 s1.heap.objs.size = none := I1.hok.fresh (Nat.le_refl _)
  refine ⟨.ref s1.heap.objs.size, upd H1 s1.heap.objs.size (.tup xs), I1.laid (t' := s1.toks) (fun b u e => Heap.get?_push_of_some _ e) (Nat.le_refl _) ?_, rfl, q _ hf⟩
  exact ⟨z, us, r, ⟨_, Heap.get?_push_size _ rfl, rfl, _, rfl⟩⟩
theorem pe_lst (h : PA X es t) : PE X (.List es pos) (tLst t) := by
  intro pins s σ H Q I hq
  refine wpAny_List_spliced (thn (h pos pins s σ H _ I hq) fun us s1 ⟨xs, H1, I1, r, z, q⟩ => ⟨by rw [← r.length]; exact z, ?_⟩)
  have hf : H1 s1.heap.objs.size = none := I1.hok.fresh (Nat.le_refl _)
  refine ⟨.ref s1.heap.objs.size, upd H1 s1.heap.objs.size (.lst xs), I1.laid (t' := s1.toks) (fun b u e => Heap.get?_push_of_some _ e) (Nat.le_refl _) ?_, rfl, q _ hf⟩
  exact ⟨z, us, 0, r, Heap.get?_push_size _ rfl⟩
end
noncomputable abbrev Sp := List V → Hp → VK → XK → Prop
noncomputable abbrev CXT := List Env → Hp → Shared → XK → Value → Shared → Prop
structure Env0 (P : Program) (w : World) (K : PySem.W.Frag) (mg : Str → Option Value) (base : Heap) (A : Around) (outer : List Env) (s : Shared) (H : Hp) : Prop where
  frames : A.frames = some outer
  mod : Mod K mg base
  bs : ∀ b o, base.get? b = some o → s.heap.get? b = some o ∧ H b = none
  bsz : base.objs.size ≤ s.heap.objs.size
  funs : s.heap.FunFrames base outer
  frf : ∀ b ∈ frs outer, H b = none
  hok : HOk P w H s.heap
  bare : AllBare s.gens
noncomputable def CE (outer : List Env) (P : Program) (w : World) (H : Hp) (s : Shared) (Q : VK) (u : Value) (s' : Shared) : Prop :=
  ∃ v H', s'.os = s.os ∧ AllBare s'.gens ∧ Un (frs outer) [] H H' s.heap s'.heap ∧ HOk P w H' s'.heap ∧ RelV v u ∧ Q v H'
noncomputable def CR (CX : CXT) (outer : List Env) (P : Program) (w : World) (H : Hp) (s : Shared) (Q : VK) (E : XK) (r : Result) (s' : Shared) : Prop :=
  match r with
  | .ok (.ret u) => CE outer P w H s Q u s'
  | .ok _ => False
  | .error e => CX outer H s E e s'
structure FnOk (P : Program) (w : World) (K : PySem.W.Frag) (mg : Str → Option Value) (base : Heap) (CX : CXT) (k : Nat) (f : Addr) (fd : FuncData) (ps : List Str) (sp : Sp) : Prop where
  len : ∀ vs H Q E, sp vs H Q E → vs.length = ps.length
  run : ∀ (A : Around) (outer : List Env) (s : Shared) (H : Hp) (args : Args) (us : List Value) (vs : List V) (Q : VK) (E : XK), Room k A → Env0 P w K mg base A outer s H → BindsTo s fd args (ps.zip us) → Vals vs us → sp vs H Q E →
    codeAny (model P w) A (.call (.ref f) args) (CR CX outer P w H s Q E) s
theorem FnOk.mono {P : Program} {w : World} {K : PySem.W.Frag} {mg : Str → Option Value} {base : Heap} {CX : CXT} {j k : Nat} {f : Addr} {fd : FuncData} {ps : List Str} {sp : Sp} (F : FnOk P w K mg base CX j f fd ps sp) (h : j ≤ k) :
    FnOk P w K mg base CX k f fd ps sp := ⟨F.len, fun A outer s H args us vs Q E hr => F.run A outer s H args us vs Q E (hr.mono h)⟩
theorem Env0.make {P : Program} {w : World} {K : PySem.W.Frag} {mg : Str → Option Value} {base : Heap} {A : Around} {outer : List Env} {s : Shared} {H : Hp} (e : Env0 P w K mg base A outer s H) (C : Addr) (us : List Value) (kw : List (Str × Value)) :
    Env0 P w K mg base (A.under (.builtin "type.__call__" ⟨.ref C :: us, kw⟩)) outer s H := ⟨by first | exact e.frames | (simpa [Around.under, Code.envs, Code.isFrame, pushEnvs] using e.frames), e.mod, e.bs, e.bsz, e.funs, e.frf, e.hok, e.bare⟩
section
variable {X : Cx} {pins : List (Addr × Obj)} {σ : St} {H : Hp} {s s' : Shared}
theorem Inv.env0 (I : Inv X pins σ H s) : Env0 X.prog X.w X.K X.mg X.base X.A X.stack s H :=
  ⟨I.ok.frames, I.ok.mod, I.bs, Nat.le_trans I.ok.bsz I.sz, I.stack, I.stkFree, I.hok, I.bare⟩
theorem Inv.after {Q : VK} {u : Value} (I : Inv X pins σ H s) (h : CE X.stack X.prog X.w H s Q u s') : EP X pins σ Q u s' := by
  obtain ⟨v, H', os, bare, un, hok, r, q⟩ := h
  obtain ⟨hh, g, d, t, os'⟩ := s'
  obtain rfl : os' = s.os := os
  exact ⟨v, H', I.call (h' := hh) (g' := g) (d' := d) (t' := t) (ch := []) un hok bare (fun b z => absurd z (by simp)), r, q⟩
end
noncomputable def tMake (C : Addr) (sp : Sp) (dvs : List V) (E : XK) (t : TA) : TE := fun σ H Q => t σ H fun vs H1 => ∀ x dx, H1 x = none → H1 dx = none → dx ≠ x →
  sp (.ref x :: (vs ++ dvs)) (upd (upd H1 dx (.own x)) x (.ins C dx [])) (fun v H2 => v = .non ∧ Q (.ref x) H2) E
noncomputable def Binds (K : PySem.W.Frag) (fd : FuncData) (ps : List Str) (ds : List Value) : Prop :=
  ∀ (s : Shared) (us : List Value), K.In s.heap → (us ++ ds).length = ps.length → BindsTo s fd ⟨us, []⟩ (ps.zip (us ++ ds))
theorem Binds.all {K : PySem.W.Frag} {fd : FuncData} {ps : List Str} (h : ∀ us : List Value, us.length = ps.length → bindArgs fd ⟨us, []⟩ = pure (ps.zip us)) : Binds K fd ps [] := fun s us _ hl => by
  rw [List.append_nil] at hl ⊢
  exact .of_eq (h us hl)
noncomputable def Passes (CX : CXT) (X : Cx) (E : XK) : Prop := ∀ (pins : List (Addr × Obj)) (σ : St) (H : Hp) (s : Shared) (e : Value) (s' : Shared), Inv X pins σ H s → CX X.stack H s E e s' → X.xe e s'
section
variable {X : Cx} {CX : CXT} {k : Nat} {f C : Addr} {fd : FuncData} {ps : List Str} {sp : Sp} {dvs : List V} {ds : List Value} {E : XK} {x m : Str} {p pos apos : Pos} {e o : Expr} {es : List Expr} {ta : TE} {t : TA}
structure Mk (K : PySem.W.Frag) (C f : Addr) : Prop where
  makes : PySem.W.makesIn K C = true
  init : PySem.W.findIn K (.ref C) "__init__" = some (some (.ref f))
  fn : PySem.W.isFn K (.ref f) = true
  kp : PySem.W.keepIn K (.ref C) = true
theorem run_make {pins : List (Addr × Obj)} {σ : St} {H : Hp} {s : Shared} {Q : VK} {us : List Value} {vs : List V} (M : Mk X.K C f) (F : FnOk X.prog X.w X.K X.mg X.base CX k f fd ps sp) (hr : Room (k + 1) X.A) (hb : Binds X.K fd ps ds) (hd : Vals dvs ds)
    (hx : Passes CX X E) (I : Inv X pins σ H s) (r : Vals vs us)
    (h : ∀ x dx, H x = none → H dx = none → dx ≠ x → sp (.ref x :: (vs ++ dvs)) (upd (upd H dx (.own x)) x (.ins C dx [])) (fun v H2 => v = .non ∧ Q (.ref x) H2) E) :
    wpAny (model X.prog X.w) X.A (call (.ref C) us) (EP X pins σ Q) X.xe s := by
  have hq := h (s.heap.objs.size + 1) s.heap.objs.size (I.hok.fresh (Nat.le_succ _)) (I.hok.fresh (Nat.le_refl _)) (Nat.ne_of_lt (Nat.lt_succ_self _))
  have I2 := Inv.made (C := C) I
  have r2 : Vals (V.ref (s.heap.objs.size + 1) :: (vs ++ dvs)) (Value.ref (s.heap.objs.size + 1) :: (us ++ ds)) := .cons rfl (r.append hd)
  have hl : (Value.ref (s.heap.objs.size + 1) :: us ++ ds).length = ps.length := by
    have e := r2.length
    rw [F.len _ _ _ _ hq] at e
    exact e.symm
  refine wpAny_call (make_map (f := f) I.kIn M.makes M.init (beq_iff_eq.mp M.fn) (codeAny_mono (F.run _ X.stack _ _ ⟨Value.ref (s.heap.objs.size + 1) :: us, []⟩ (Value.ref (s.heap.objs.size + 1) :: (us ++ ds)) _ _ E (hr.make C us [])
    (I2.env0.make C us []) (hb _ (Value.ref (s.heap.objs.size + 1) :: us) I2.kIn hl) r2 hq) fun r s' hq' => ?_))
  cases r with
  | error e => exact hx pins σ _ _ e s' I2 hq'
  | ok fl =>
    cases fl with
    | ret u =>
      obtain ⟨v, H', I3, rv, ev, q3⟩ := I2.after hq'
      subst ev
      exact ⟨rv, ⟨V.ref (s.heap.objs.size + 1), H', I3, rfl, q3⟩⟩
    | next => exact False.elim hq'
    | brk => exact False.elim hq'
    | cont => exact False.elim hq'
theorem pe_make (M : Mk X.K C f) (F : FnOk X.prog X.w X.K X.mg X.base CX k f fd ps sp) (hr : Room (k + 1) X.A) (hg : Gl X x) (hm : X.mg x = some (.ref C)) (hb : Binds X.K fd ps ds) (hd : Vals dvs ds) (hx : Passes CX X E)
    (ha : PA X (e :: es) t) (hdb : (x == ("__debug__" : Str)) = false := by decide) (he : starEach (e :: es) X.env = (false, eval e X.env) :: starEach es X.env := by rfl) (hpl : (backTo pos (starEach es X.env)).any (·.1) = false := by rfl) :
    PE X (.Call (.Name x p) (e :: es) [] pos) (tMake C sp dvs E t) := by
  intro pins s σ H Q I h
  refine wpAny_Call_Name_kw (ld_glob I hg hm ?_ hdb)
  refine PySem.W.callWith_K (h₀ := X.base) I.ok.mod.kin M.kp (thn (ha pos pins s σ H _ I h) fun us s1 ⟨vs, H1, I1, r, q⟩ => ⟨I1.kIn, ?_⟩) he hpl
  exact run_make M F hr hb hd hx I1 r q
end
section
variable {X : Cx} {CX : CXT} {k : Nat} {f C : Addr} {fd : FuncData} {ps ks : List Str} {sp : Sp} {E : XK} {x m : Str} {p pos apos kpos : Pos} {e o : Expr} {es : List Expr} {kws : List Keyword} {te ta : TE} {t tk : TA} {nm : Option Str}
structure KBinds (K : PySem.W.Frag) (fd : FuncData) (ps ks : List Str) (g : List Value → List Value → List Value) (gV : List V → List V → List V) : Prop where
  to : ∀ (s : Shared) (us ws : List Value), K.In s.heap → (g us ws).length = ps.length → BindsTo s fd ⟨us, ks.zip ws⟩ (ps.zip (g us ws))
  rel : ∀ {vs : List V} {us : List Value} {zs : List V} {ws : List Value}, Vals vs us → Vals zs ws → Vals (gV vs zs) (g us ws)
variable {g : List Value → List Value → List Value} {gV : List V → List V → List V}
end
structure FnScope (N P : List Str) (sc : Scope) : Prop where
  kind : sc.kind = .function
  co : sc.isCoroutine = false
  gen : sc.isGenerator = false
  nd : N.Nodup
  pre : N.take P.length = P
  par : ∀ x ∈ P, sc.names.lookup x = some .local ∨ sc.names.lookup x = some .cell
  nofree : ∀ y ∈ sc.names, y.2 ≠ .free
theorem bindL_out {kindOf : Str → Option NameKind} {x : Str} : ∀ {binds : List (Str × Value)} {m : Str → Option Value}, (∀ v, (x, v) ∉ binds) → bindL kindOf binds m x = m x
  | [], _, _ => rfl
  | (n, v) :: r, m, h => by
    unfold bindL
    rw [bindL_out fun w hw => h w (List.mem_cons_of_mem _ hw)]
    split
    · have : x ≠ n := by rintro rfl; exact h v List.mem_cons_self
      simp [this]
    · rfl
theorem bindC_out {kindOf : Str → Option NameKind} {x : Str} : ∀ {binds : List (Str × Value)} {m : Str → Option Value}, (∀ v, (x, v) ∉ binds) → bindC kindOf binds m x = m x
  | [], _, _ => rfl
  | (n, v) :: r, m, h => by
    unfold bindC
    rw [bindC_out fun w hw => h w (List.mem_cons_of_mem _ hw)]
    split
    · rfl
    · have : x ≠ n := by rintro rfl; exact h v List.mem_cons_self
      simp [this]
theorem bindL_get {kindOf : Str → Option NameKind} {x : Str} {v : Value} : ∀ {P : List Str} {vs : List Value} {i : Nat} {m : Str → Option Value}, P.Nodup → P[i]? = some x → vs[i]? = some v → kindOf x = some .local →
    bindL kindOf (P.zip vs) m x = some v
  | [], _, _, _, _, h, _, _ => by simp at h
  | _ :: _, [], _, _, _, _, h, _ => by simp at h
  | p :: P, w :: vs, 0, m, nd, h1, h2, hk => by
    simp at h1 h2; subst h1; subst h2
    show bindL kindOf ((p, w) :: P.zip vs) m p = _
    unfold bindL
    rw [bindL_out fun v hv => (List.nodup_cons.mp nd).1 (List.of_mem_zip hv).1, if_pos hk]
    simp
  | p :: P, w :: vs, i + 1, m, nd, h1, h2, hk => by
    show bindL kindOf ((p, w) :: P.zip vs) m x = _
    unfold bindL
    exact bindL_get (i := i) (List.nodup_cons.mp nd).2 (by simpa using h1) (by simpa using h2) hk
theorem bindC_get {kindOf : Str → Option NameKind} {x : Str} {v : Value} : ∀ {P : List Str} {vs : List Value} {i : Nat} {m : Str → Option Value}, P.Nodup → P[i]? = some x → vs[i]? = some v → kindOf x ≠ some .local →
    bindC kindOf (P.zip vs) m x = some v
  | [], _, _, _, _, h, _, _ => by simp at h
  | _ :: _, [], _, _, _, _, h, _ => by simp at h
  | p :: P, w :: vs, 0, m, nd, h1, h2, hk => by
    simp at h1 h2; subst h1; subst h2
    show bindC kindOf ((p, w) :: P.zip vs) m p = _
    unfold bindC
    rw [bindC_out fun v hv => (List.nodup_cons.mp nd).1 (List.of_mem_zip hv).1, if_neg hk]
    simp
  | p :: P, w :: vs, i + 1, m, nd, h1, h2, hk => by
    show bindC kindOf ((p, w) :: P.zip vs) m x = _
    unfold bindC
    exact bindC_get (i := i) (List.nodup_cons.mp nd).2 (by simpa using h1) (by simpa using h2) hk
noncomputable def start (N : List Str) (vs : List V) : St := vs.map some ++ List.replicate (N.length - vs.length) none
noncomputable def cxOf (CX : CXT) (P : Program) (w : World) (K : PySem.W.Frag) (mg : Str → Option Value) (base : Heap) (N : List Str) (qual : Str) (scope : Scope) (f : Addr) (cd : Value) (A : Around) (outer : List Env) (s : Shared) (H : Hp) (E : XK) : Cx where
  prog := P
  w := w
  K := K
  mg := mg
  base := base
  A := A.deeper (envOfC qual scope s.heap.objs.size f cd)
  N := N
  s₀ := s
  H₀ := H
  env := envOfC qual scope s.heap.objs.size f cd
  outer := outer
  stack := envOfC qual scope s.heap.objs.size f cd :: outer
  ex := []
  calm := true
  fn := fun _ => true
  pn := []
  xe := fun e s' => wpAny (model P w) (A.deeper (envOfC qual scope s.heap.objs.size f cd)) (leaving (envOfC qual scope s.heap.objs.size f cd) e) (fun _ s'' => CX outer H s E e s'') (fun e' s'' => CX outer H s E e' s'') s'
theorem cell_has {sc : Scope} {n : Nat} {x : Str} (h : sc.names.lookup x = some .cell) : ∃ c, (cellsFrom n sc.names []).lookup x = some c := by
  have q := PySem.W.cellsFrom_some sc.names n [] (.inl h)
  exact Option.isSome_iff_exists.mp q
theorem inv_start {CX : CXT} {P : Program} {w : World} {K : PySem.W.Frag} {mg : Str → Option Value} {base : Heap} {N ps : List Str} {qual : Str} {scope : Scope} {f : Addr} {cd : Value} {A : Around} {outer : List Env} {s s1 : Shared} {H : Hp} {E : XK} {us : List Value} {vs : List V}
    (S : FnScope N ps scope) (hd : A.handled = none) (e0 : Env0 P w K mg base A outer s H) (hl : vs.length = ps.length) (r : Vals vs us)
    (x : InCallC s s.heap.objs.size (bindL (envOfC qual scope s.heap.objs.size f cd).kindOf (ps.zip us) fun _ => none) (cellsFrom (s.heap.objs.size + 1) scope.names []) (bindC (envOfC qual scope s.heap.objs.size f cd).kindOf (ps.zip us) fun _ => none) s1) :
    Inv (cxOf CX P w K mg base N qual scope f cd A outer s H E) [] (start N vs) H s1 := by
  have hpl : ps.length ≤ N.length := by have := congrArg List.length S.pre; rw [List.length_take] at this; omega
  obtain ⟨h1, tk, rfl, hk⟩ := x.done
  have noA : ∀ b : Addr, b ∉ (cxOf CX P w K mg base N qual scope f cd A outer s H E).ex := fun b z => absurd (show b ∈ ([] : List Addr) from z) (by simp)
  refine ⟨⟨e0.mod, S.kind, rfl, rfl, Nat.le_refl _, fun y z c h1 h2 => ?_, fun y hy => ?_, fun y c _ h => ?_, fun _ => hd, Around.frames_deeper e0.frames, .inr ⟨rfl, rfl⟩, fun b z => absurd z (noA b), e0.bs, e0.bsz, fun b _ _ => noA b, fun b z => absurd z (noA b), e0.funs, e0.frf⟩,
    rfl, e0.bare, Un.kept hk, ⟨_, x.toInCall.ns, fun i y v h1 h2 h3 => ?_⟩, fun y c h => ⟨_, x.cell y c h⟩, e0.hok.fresh (Nat.le_refl _), fun y c h => ?_, fun p hp => absurd (show p ∈ ([] : List (Addr × Obj)) from hp) (by simp), e0.hok.kept hk, ?_⟩
  · exact name_of_addr x.apart (PySem.mem_of_lookup h1) (PySem.mem_of_lookup h2)
  · have hy : scope.names.lookup y = some .cell ∨ scope.names.lookup y = some .free := hy
    rcases hy with hy | hy
    · exact cell_has hy
    · exact absurd rfl (S.nofree _ (PySem.mem_of_lookup hy))
  · exact Nat.le_of_lt (x.above y c (PySem.mem_of_lookup h))
  · have hi : i < vs.length := by
      unfold start at h2
      by_cases hi : i < vs.length
      · exact hi
      · rw [List.getElem?_append_right (by simpa using hi)] at h2
        rw [List.getElem?_replicate] at h2
        split at h2 <;> cases h2
    have ha : vs[i]? = some v := by
      unfold start at h2
      rw [List.getElem?_append_left (by simpa using hi), List.getElem?_map] at h2
      cases e : vs[i]? with
      | none => rw [e] at h2; cases h2
      | some a => rw [e] at h2; cases h2; rfl
    obtain ⟨u, hu, rv⟩ := r.get ha
    have hp : ps[i]? = some y := by
      rw [← S.pre, List.getElem?_take_of_lt (by omega)]; exact h1
    have ndP : ps.Nodup := by rw [← S.pre]; exact S.nd.sublist (List.take_sublist _ _)
    refine ⟨u, rv, ?_⟩
    rcases S.par y (List.mem_of_getElem? hp) with k | k
    · exact .inl ⟨k, bindL_get ndP hp hu k⟩
    · obtain ⟨c, e⟩ := cell_has (n := s.heap.objs.size + 1) k
      refine .inr ⟨.inl k, c, e, ?_⟩
      have q := x.cell y c e
      rw [bindC_get ndP hp hu (by show scope.names.lookup y ≠ _; rw [k]; decide)] at q
      exact q
  · exact e0.hok.fresh (Nat.le_of_lt (x.above y c (PySem.mem_of_lookup h)))
  · unfold start
    show _ = N.length
    rw [List.length_append, List.length_map, List.length_replicate]
    omega
theorem fn_of {CX : CXT} {P : Program} {w : World} {K : PySem.W.Frag} {mg : Str → Option Value} {base : Heap} {k : Nat} {f : Addr} {name qual : Str} {params : Arguments} {body : List Stmt} {scope : Scope} {dV kV doc pm cdv ct oc : Value} {an od : Option Addr}
    {osl : Array (Option Value)} {N ps : List Str} {sp : Sp} (lk : K.lookup f = some ⟨oc, od, .func (PySem.W.fnOf name qual params body scope dV kV doc pm an cdv ct), osl⟩) (hcd : PySem.W.codeIn K cdv qual = true) (S : FnScope N ps scope)
    (len : ∀ vs H Q E, sp vs H Q E → vs.length = ps.length)
    (hbody : ∀ (A : Around) (outer : List Env) (s : Shared) (H : Hp) (vs : List V) (Q : VK) (E : XK), Room k (A.deeper (envOfC qual scope s.heap.objs.size f cdv)) → sp vs H Q E →
      ∃ t, PSs (cxOf CX P w K mg base N qual scope f cdv A outer s H E) body t ∧ t { nx := fun _ H' => Q .non H', rt := Q } (start N vs) H) :
    FnOk P w K mg base CX (k + 1) f (PySem.W.fnOf name qual params body scope dV kV doc pm an cdv ct) ps sp := by
  refine ⟨len, fun A outer s H args us vs Q E hr e0 hb r hsp => ?_⟩
  have hl := len _ _ _ _ hsp
  have KX : K.In s.heap := e0.mod.kin.keeps fun b o e => (e0.bs b o e).1
  have lim : s.heap.NoLimit := e0.mod.nolimit.keeps fun b o e => (e0.bs b o e).1
  have hkind : ∀ y ∈ ps.zip us, scope.names.lookup y.1 = some .local ∨ (scope.names.lookup y.1 = some .cell ∧ ((cellsFrom (s.heap.objs.size + 1) scope.names []).lookup y.1).isSome = true) := fun ⟨n, v⟩ hy => by
    rcases S.par n (List.of_mem_zip hy).1 with q | q
    · exact .inl q
    · exact .inr ⟨q, PySem.W.cellsFrom_some _ _ _ (.inl q)⟩
  refine codeAny_call_function hr.depth (KX _ _ lk) rfl S.co S.gen rfl (PySem.W.codeRec_of KX hcd) (hb _ _ _ _ ?_)
  refine wpAny_newFunctionEnv_cells S.kind hkind fun env he s1 x => ?_
  subst he
  refine ⟨lim.keeps x.toInCall.keep, codeAny_func ?_⟩
  obtain ⟨t, ht, hq⟩ := hbody A outer s H vs Q E (hr.deeper _) hsp
  have I : Inv (cxOf CX P w K mg base N qual scope f cdv A outer s H E) [] (start N vs) H s1 := inv_start S hr.hd e0 hl r x
  refine wpAny_mono (ht [] s1 (start N vs) H _ I hq) (fun fl s' hs => ?_) fun e s' hs => hs
  have fin : ∀ {σ' : St} {H' : Hp} {v : V} {u : Value}, Inv (cxOf CX P w K mg base N qual scope f cdv A outer s H E) [] σ' H' s' → RelV v u → Q v H' → CE outer P w H s Q u s' :=
    fun {σ' H' v u} J rv q => ⟨v, H', J.os, J.bare, J.base, J.hok, rv, q⟩
  cases fl with
  | ret u =>
    obtain ⟨v, σ', H', J, rv, q⟩ := hs
    exact fin J rv q
  | next =>
    obtain ⟨σ', H', J, q⟩ := hs
    exact fin (v := V.non) (u := Value.none) J rfl q
  | brk =>
    obtain ⟨_, _, _, q⟩ := hs
    exact False.elim q
  | cont =>
    obtain ⟨_, _, _, q⟩ := hs
    exact False.elim q
end L2
namespace L2
open PySem PySem.Spec PyProof.Rows
section
variable {X : Cx} {x : Str} {p pos : Pos} {e : Expr} {es : List Expr} {t : TA} {id T : String} {r : List V → Hp → VK → Prop}
noncomputable def tCB (r : List V → Hp → VK → Prop) (t : TA) : TE := fun σ H Q => t σ H fun vs H1 => r vs H1 Q
theorem pe_callB (hc : CallR X (.builtin id) r) (hg : Gl X x) (hm : X.mg x = none) (hv : bootBuiltins x = some (.builtin id)) (ha : PA X (e :: es) t) (hn : x ≠ "__name__" := by decide) (hdb : (x == ("__debug__" : Str)) = false := by decide)
    (he : starEach (e :: es) X.env = (false, eval e X.env) :: starEach es X.env := by rfl) (hpl : (backTo pos (starEach es X.env)).any (·.1) = false := by rfl) : PE X (.Call (.Name x p) (e :: es) [] pos) (tCB r t) := by
  intro pins s σ H Q I h
  refine wpAny_Call_Name_kw (ld_blt I hg hm hv ?_ hn hdb)
  exact PyProof.Rows.callWith_builtin1 (thn (ha pos pins s σ H _ I h) fun us s1 ⟨vs, H1, I1, r1, q1⟩ => hc pins s1 σ H1 vs us Q I1 r1 q1) he hpl
theorem pe_callTy (hc : CallR X (.type T) r) (hg : Gl X x) (hm : X.mg x = none) (hv : bootBuiltins x = some (.type T)) (ha : PA X (e :: es) t) (hn : x ≠ "__name__" := by decide) (hdb : (x == ("__debug__" : Str)) = false := by decide)
    (he : starEach (e :: es) X.env = (false, eval e X.env) :: starEach es X.env := by rfl) (hpl : (backTo pos (starEach es X.env)).any (·.1) = false := by rfl) : PE X (.Call (.Name x p) (e :: es) [] pos) (tCB r t) := by
  intro pins s σ H Q I h
  refine wpAny_Call_Name_kw (ld_blt I hg hm hv ?_ hn hdb)
  exact PyProof.Rows.callWith_type1 (thn (ha pos pins s σ H _ I h) fun us s1 ⟨vs, H1, I1, r1, q1⟩ => hc pins s1 σ H1 vs us Q I1 r1 q1) he hpl
end
end L2
namespace HT
open PySem PyProof.Rows
section
open PySem.SeqAt
open PySem.AutoSeq1 (wpAny_loadPart')
open PySem.MeetsSeq PySem.MeetsSeq2 PySem.MeetsSeq3
end
section
variable {prog : Program} {w : World} {A : Around} {E : Value → Shared → Prop} {s : Shared}
theorem cat_tup {t b : Addr} {vs ws : List Value} {Q : Value → Shared → Prop} (ht : IsTup s.heap t vs.toArray) (hb : IsTup s.heap b ws.toArray) (hv : vs ≠ [])
    (h1 : ws = [] → Q (.ref t) s) (h2 : ws ≠ [] → Q (.ref s.heap.objs.size) { s with heap := s.heap.push { cls := .type "tuple", data := .seq (vs ++ ws).toArray } })
    (hsz : vs.length + ws.length ≤ sizeLine) : wpAny (model prog w) A (binaryOp .Add (.ref t) (.ref b)) Q E s := by
  obtain ⟨⟨cls, dd, data, sl⟩, ho, hc, n, hd⟩ := id ht
  obtain ⟨⟨cls2, dd2, data2, sl2⟩, ho2, hc2, n2, hd2⟩ := id hb
  simp only at hc hd hc2 hd2
  subst hc hd hc2 hd2
  have e : vs.toArray ++ ws.toArray = (vs ++ ws).toArray := by simp
  by_cases hw : ws = []
  · exact concat_meets ⟨_, ho, rfl⟩ ⟨_, ho2, rfl⟩ noFill_tuple_add seq_tuple_add PySem.F.slot_tuple_add PySem.F.entry_tuple_add (PySem.F.args_tuple_add_2 _ _)
      (tuple_addW1 t b vs.toArray ws.toArray n n2 dd dd2 sl sl2 (by simpa using hv) (by simp [hw])) ⟨ho, ho2, h1 hw⟩
  · refine concat_meets ⟨_, ho, rfl⟩ ⟨_, ho2, rfl⟩ noFill_tuple_add seq_tuple_add PySem.F.slot_tuple_add PySem.F.entry_tuple_add (PySem.F.args_tuple_add_2 _ _)
      (tuple_addW2 t b vs.toArray ws.toArray n n2 dd dd2 sl sl2 (by simpa using hv) (by simpa using hw) (by rw [List.size_toArray, List.size_toArray]; exact hsz)) ⟨ho, ho2, ?_⟩
    rw [e]
    exact h2 hw
noncomputable def sIx (n d : Nat) : Option Int → Nat
  | none => d
  | some v => if v < 0 then (v + (n : Int)).toNat else min v.toNat n
end
end HT
namespace L2
open PySem PySem.Spec PyProof.Rows
noncomputable abbrev TO := St → Hp → (Option Int → Hp → Prop) → Prop
noncomputable def PO (X : Cx) (e : Option Expr) (t : TO) : Prop :=
  ∀ (pins : List (Addr × Obj)) (s : Shared) (σ : St) (H : Hp) (Q : Option Int → Hp → Prop), Inv X pins σ H s → t σ H Q →
    wpAny (model X.prog X.w) X.A (evalPart e X.env) (fun u s' => ∃ o H', Inv X pins σ H' s' ∧ IsPart u o ∧ Q o H') X.xe s
noncomputable def tNoPart : TO := fun _ H Q => Q none H
noncomputable def tPart (t : TE) : TO := fun σ H Q => t σ H fun x H1 => ∃ i, x = .int i ∧ Q (some i) H1
section
variable {X : Cx} {e : Expr} {te : TE} {lo hi : Option Expr} {tl th : TO} {pos p2 : Pos}
theorem po_none : PO X none tNoPart := by
  intro pins s σ H Q I h
  rw [evalPart_none]
  exact wpAny_pure ⟨none, H, I, .none, h⟩
theorem po_some (h : PE X e te) : PO X (some e) (tPart te) := by
  intro pins s σ H Q I hw
  rw [evalPart_some]
  refine thn (h pins s σ H _ I hw) fun u s1 ⟨x, H1, I1, r1, q1⟩ => ?_
  obtain ⟨i, rfl, q⟩ := q1
  obtain ⟨t, rfl⟩ := r1
  exact ⟨some i, H1, I1, .int i t, q⟩
noncomputable def SlR (X : Cx) (r : V → Option Int → Option Int → Hp → VK → Prop) : Prop :=
  ∀ (pins : List (Addr × Obj)) (s : Shared) (σ : St) (H : Hp) (x : V) (v vl vu : Value) (lo hi : Option Int) (sl : Addr) (Q : VK), Inv X pins σ H s → RelV x v → s.heap.IsSliceOf sl vl vu .none → IsPart vl lo → IsPart vu hi → r x lo hi H Q →
    ∃ T id, typeLookup (.type T) "__getitem__" = pure (some (.builtin id)) ∧ s.TypeIs v T ∧ wpAny (model X.prog X.w) X.A (getItem v (.ref sl)) (EP X pins σ Q) X.xe s
noncomputable def tSl (r : V → Option Int → Option Int → Hp → VK → Prop) (te : TE) (tl th : TO) : TE := fun σ H Q => te σ H fun x H1 => tl σ H1 fun l H2 => th σ H2 fun u H3 => r x l u H3 Q
theorem pe_slice {r : V → Option Int → Option Int → Hp → VK → Prop} (hr : SlR X r) (he : PE X e te) (hl : PO X lo tl) (hu : PO X hi th) : PE X (.Subscript e (.Slice lo hi none p2) pos) (tSl r te tl th) := by
  intro pins s σ H Q I h
  refine Subscript_ (thn (he pins s σ H _ I h) fun v s1 ⟨x, H1, I1, r1, q1⟩ => ?_)
  refine wpAny_Slice (thn (hl pins s1 σ H1 _ I1 q1) fun vl s2 ⟨l, H2, I2, pl, q2⟩ => thn (hu pins s2 σ H2 _ I2 q2) fun vu s3 ⟨u, H3, I3, pu, q3⟩ => ?_)
  rw [evalPart_none]
  refine wpAny_pure ?_
  have I4 : Inv X pins σ H3 { s3 with heap := s3.heap.push { cls := .type "slice", data := .fields #[vl, vu, .none] } } := I3.kept (t' := s3.toks) fun b ob q => Heap.get?_push_of_some _ q
  obtain ⟨T, id, hT, ht, hg⟩ := hr pins { s3 with heap := s3.heap.push { cls := .type "slice", data := .fields #[vl, vu, .none] } } σ H3 x v vl vu l u s3.heap.objs.size Q I4 r1 (Heap.IsSliceOf.new ..) pl pu q3
  show wpAny (model X.prog X.w) X.A (subscriptTail e (.Slice lo hi none p2) v (.ref s3.heap.objs.size)) (EP X pins σ Q) X.xe { s3 with heap := s3.heap.push { cls := .type "slice", data := .fields #[vl, vu, .none] } }
  exact tail_any (ops := [.ref s3.heap.objs.size, v]) ht hT hg (by with_unfolding_all rfl)
noncomputable def rCatT (K : PySem.W.Frag) : R2 := fun x y H Q => ∃ a b xs ys, x = .ref a ∧ y = .ref b ∧ SqT K H a xs ∧ SqT K H b ys ∧ xs ≠ [] ∧ xs.length + ys.length ≤ sizeLine ∧
  (ys = [] → Q (.ref a) H) ∧ (ys ≠ [] → ∀ p, H p = none → Q (.ref p) (upd H p (.tup (xs ++ ys))))
theorem Vals.nil_iff {xs : List V} {us : List Value} (r : Vals xs us) : us = [] ↔ xs = [] := by
  cases r with
  | nil => simp
  | cons _ _ => simp
theorem op_catT : OpR X (binaryOp .Add) (rCatT X.K) := by
  intro pins s σ H x y v u Q I rx ry h
  obtain ⟨a, b, xs, ys, rfl, rfl, ha, hb, hx, hz, q1, q2⟩ := h
  cases rx
  cases ry
  obtain ⟨its, r1, p1, _⟩ := I.tuple ha
  obtain ⟨its2, r2, p2, _⟩ := I.tuple hb
  refine HT.cat_tup p1 p2 (fun z => hx (r1.nil_iff.mp z)) (fun z => ⟨.ref a, H, I, rfl, q1 (r2.nil_iff.mp z)⟩) (fun z => ?_) (by rw [← r1.length, ← r2.length]; exact hz)
  refine ⟨.ref s.heap.objs.size, _, I.laid (t' := s.toks) (o := .tup (xs ++ ys)) (fun b ob q => Heap.get?_push_of_some _ q) (Nat.le_refl _) ?_, rfl, q2 (fun w => z (r2.nil_iff.mpr w)) _ (I.hok.fresh (Nat.le_refl _))⟩
  exact ⟨by rw [List.length_append]; exact hz, _, r1.append r2, IsTup.new _ _⟩
end
end L2
namespace L2
open PySem PySem.Spec PyProof.Rows
noncomputable def ixN (n : Nat) (i : Int) : Option Nat := if 0 ≤ i then (if i < n then some i.toNat else none) else if -(n : Int) ≤ i then some (i + n).toNat else none
noncomputable def atI {α : Type} (xs : List α) (i : Int) : Option α := (ixN xs.length i).bind fun j => xs[j]?
theorem ixN_seq {n : Nat} {i : Int} {j : Nat} (h : ixN n i = some j) : seqIndex? i n = some j ∧ j < n ∧ -(n : Int) ≤ i ∧ i < n := by
  unfold ixN at h
  by_cases h0 : 0 ≤ i
  · rw [if_pos h0] at h
    by_cases h1 : i < n
    · rw [if_pos h1] at h
      have e : i.toNat = j := Option.some.inj h
      exact ⟨by rw [seqIndex_of h0 h1, e], by omega, by omega, h1⟩
    · rw [if_neg h1] at h; cases h
  · rw [if_neg h0] at h
    by_cases h1 : -(n : Int) ≤ i
    · rw [if_pos h1] at h
      have e : (i + n).toNat = j := Option.some.inj h
      exact ⟨by rw [seqIndex_neg (by omega) h1, e], by omega, h1, by omega⟩
    · rw [if_neg h1] at h; cases h
theorem atI_get {α : Type} {xs : List α} {i : Int} {v : α} (h : atI xs i = some v) : ∃ j, seqIndex? i xs.length = some j ∧ xs[j]? = some v ∧ j < xs.length ∧ -(xs.length : Int) ≤ i ∧ i < xs.length := by
  unfold atI at h
  cases e : ixN xs.length i with
  | none => rw [e] at h; cases h
  | some j =>
    rw [e] at h
    obtain ⟨h1, h2, h3, h4⟩ := ixN_seq e
    exact ⟨j, h1, h, h2, h3, h4⟩
noncomputable def PlainIx (b : Expr) : Prop := ∀ o i, subscripted b false o i = operate [o, i] (getItem o i)
noncomputable def IxR (X : Cx) (r : R2) : Prop :=
  ∀ (value slice : Expr) (pins : List (Addr × Obj)) (s : Shared) (σ : St) (H : Hp) (x y : V) (v u : Value) (Q : VK), Inv X pins σ H s → RelV x v → RelV y u → r x y H Q →
    subscripted slice false v u = operate [v, u] (getItem v u) → wpAny (model X.prog X.w) X.A (subscriptTail value slice v u) (EP X pins σ Q) X.xe s
noncomputable def MtR (X : Cx) (id : String) (r : V → List V → Hp → VK → Prop) : Prop :=
  ∀ (pins : List (Addr × Obj)) (s : Shared) (σ : St) (H : Hp) (x : V) (xs : List V) (v : Value) (us : List Value) (Q : VK), Inv X pins σ H s → RelV x v → Vals xs us → r x xs H Q →
    wpAny (model X.prog X.w) X.A (call (.builtin id) (v :: us)) (EP X pins σ Q) X.xe s
section
variable {X : Cx} {a b : Expr} {ta tb : TE} {pos : Pos}
theorem pe_ix {r : R2} (hr : IxR X r) (ha : PE X a ta) (hb : PE X b tb) (hs : PlainIx b) : PE X (.Subscript a b pos) (tOp r ta tb) := by
  intro pins s σ H Q I h
  exact Subscript_ (binT ha hb I h fun v u s2 x y H2 I2 rx ry q => hr a b pins s2 σ H2 x y v u Q I2 rx ry q (hs _ _))
noncomputable def rIxL (K : PySem.W.Frag) : R2 := fun x y H Q => ∃ p xs i v, x = .ref p ∧ y = .int i ∧ SqL K H p xs ∧ atI xs i = some v ∧ Q v H
noncomputable def rIxT (K : PySem.W.Frag) : R2 := fun x y H Q => ∃ p xs i v, x = .ref p ∧ y = .int i ∧ SqT K H p xs ∧ atI xs i = some v ∧ Q v H
noncomputable def rIxS : R2 := fun x y H Q => ∃ z i c, x = .str z ∧ y = .int i ∧ z.length ≤ sizeLine ∧ atI z.cps.toList i = some c ∧ Q (.str ⟨#[c]⟩) H
theorem ix_list : IxR X (rIxL X.K) := by
  intro value slice pins s σ H x y v u Q I rx ry h hs
  obtain ⟨p, xs, i, z, rfl, rfl, hq, he, q⟩ := h
  cases rx
  obtain ⟨t, rfl⟩ := ry
  obtain ⟨its, r, pl, hz⟩ := I.list hq
  obtain ⟨j, h1, h2, h3, h4, h5⟩ := atI_get he
  obtain ⟨w, ew, rw'⟩ := r.get h2
  have hl := r.length
  have hn := line63
  have fin : EP X pins σ Q w s := ⟨z, H, I, rw', q⟩
  by_cases h0 : 0 ≤ i
  · have hj : i.toNat = j := by
      rw [seqIndex_of h0 h5] at h1
      exact Option.some.inj h1
    exact item_listR pl.isList h0 (by omega) (by rw [hj]; simpa using ew) fin hs
  · have hj : (i + (its.toArray.size : Int)).toNat = j := by
      rw [seqIndex_neg (by omega) h4] at h1
      rw [List.size_toArray, ← hl]
      exact Option.some.inj h1
    exact subscriptTail_builtinR (x := w) pl.isList.typeIs slot_list_getitem.lookup
      (wpAny_getItem_list_neg (Q := fun r s' => r = w ∧ EP X pins σ Q r s') pl.isList (by omega) (by rw [List.size_toArray] <;> omega) (by omega) (by rw [hj]; simpa using ew) ⟨rfl, fin⟩) hs
theorem ix_tup : IxR X (rIxT X.K) := by
  intro value slice pins s σ H x y v u Q I rx ry h hs
  obtain ⟨p, xs, i, z, rfl, rfl, hq, he, q⟩ := h
  cases rx
  obtain ⟨t, rfl⟩ := ry
  obtain ⟨its, r, pl, hz⟩ := I.tuple hq
  obtain ⟨j, h1, h2, h3, h4, h5⟩ := atI_get he
  obtain ⟨w, ew, rw'⟩ := r.get h2
  have hl := r.length
  have hn := line63
  have fin : EP X pins σ Q w s := ⟨z, H, I, rw', q⟩
  exact subscriptTail_builtinR (x := w) pl.typeIs slot_tuple_getitem.lookup
    (getItem_tuple (j := j) (Q := fun r s' => r = w ∧ EP X pins σ Q r s') pl (by omega) (by omega) (by rw [List.size_toArray, ← hl]; exact h1) (by simpa using ew) ⟨rfl, fin⟩) hs
theorem ix_str : IxR X rIxS := by
  intro value slice pins s σ H x y v u Q I rx ry h hs
  obtain ⟨z, i, c, rfl, rfl, hz, he, q⟩ := h
  obtain ⟨t, rfl⟩ := rx
  obtain ⟨t', rfl⟩ := ry
  obtain ⟨j, h1, h2, h3, h4, h5⟩ := atI_get he
  have hl : z.cps.toList.length = z.length := by simp [Str.length]
  rw [hl] at h1 h4 h5
  have hn := line63
  exact tail_any (typeIs_str s z t) slot_str_getitem.lookup (getItem_str (c := c) (by
    have e1 : decide (i < -(2 ^ 63 : Int)) = false := decide_eq_false (by omega)
    have e2 : decide (i ≥ 2 ^ 63) = false := decide_eq_false (by omega)
    rw [e1, e2, Bool.or_false]) (by rw [h1]; simpa using h2) ⟨.str ⟨#[c]⟩, H, I.tok _, ⟨_, rfl⟩, q⟩) hs
noncomputable def flatV : V → Bool
  | .non => true
  | .bl _ => true
  | .int _ => true
  | .str _ => true
  | _ => false
noncomputable def eqV : V → V → Bool
  | .non, .non => true
  | .bl a, .bl b => a == b
  | .bl a, .int b => (if a then 1 else 0) == b
  | .int a, .bl b => a == (if b then 1 else 0)
  | .int a, .int b => a == b
  | .str a, .str b => a == b
  | _, _ => false
theorem eqAt_V {A : Around} {s : Shared} {y x : V} {u v : Value} (ry : RelV y u) (rx : RelV x v) (fy : flatV y = true) (fx : flatV x = true) : SeqAt.EqAt A s u v (eqV y x) := by
  cases y with
  | non =>
    cases ry
    cases x with
    | non => cases rx; exact SeqAt.EqAt.same _
    | bl b => cases rx; exact SeqAt.EqAt.none_bool b
    | int b => obtain ⟨t, rfl⟩ := rx; exact SeqAt.EqAt.none_int b t
    | str b => obtain ⟨t, rfl⟩ := rx; exact SeqAt.EqAt.none_str b t
    | _ => exact absurd (show false = true from fx) Bool.false_ne_true
  | bl a =>
    cases ry
    cases x with
    | non => cases rx; exact SeqAt.EqAt.bool_none a
    | bl b => cases rx; exact SeqAt.EqAt.bool_bool a b
    | int b => obtain ⟨t, rfl⟩ := rx; exact SeqAt.EqAt.bool_int a b t
    | str b => obtain ⟨t, rfl⟩ := rx; exact SeqAt.EqAt.bool_str a b t
    | _ => exact absurd (show false = true from fx) Bool.false_ne_true
  | int a =>
    obtain ⟨t', rfl⟩ := ry
    cases x with
    | non => cases rx; exact SeqAt.EqAt.int_none a t'
    | bl b => cases rx; exact SeqAt.EqAt.int_bool a t' b
    | int b => obtain ⟨t, rfl⟩ := rx; exact SeqAt.EqAt.int_int a t' b t
    | str b => obtain ⟨t, rfl⟩ := rx; exact SeqAt.EqAt.int_str a t' b t
    | _ => exact absurd (show false = true from fx) Bool.false_ne_true
  | str a =>
    obtain ⟨t', rfl⟩ := ry
    cases x with
    | non => cases rx; exact SeqAt.EqAt.str_none a t'
    | bl b => cases rx; exact SeqAt.EqAt.str_bool a t' b
    | int b => obtain ⟨t, rfl⟩ := rx; exact SeqAt.EqAt.str_int a t' b t
    | str b => obtain ⟨t, rfl⟩ := rx; exact SeqAt.EqAt.str_str a t' b t
    | _ => exact absurd (show false = true from fx) Bool.false_ne_true
  | _ => exact absurd (show false = true from fy) Bool.false_ne_true
noncomputable def eqU (x : V) (u : Value) : Bool := match u with
  | .none => eqV .non x
  | .bool b => eqV (.bl b) x
  | .int i _ => eqV (.int i) x
  | .str z _ => eqV (.str z) x
  | _ => false
theorem eqU_of {x y : V} {u : Value} (r : RelV y u) (f : flatV y = true) : eqU x u = eqV y x := by
  cases y with
  | non => cases r; rfl
  | bl b => cases r; rfl
  | int i => obtain ⟨t, rfl⟩ := r; rfl
  | str z => obtain ⟨t, rfl⟩ := r; rfl
  | _ => exact absurd (show false = true from f) Bool.false_ne_true
theorem any_eqU {x : V} : ∀ {xs : List V} {us : List Value}, Vals xs us → xs.all flatV = true → us.any (eqU x) = xs.any fun y => eqV y x
  | _, _, .nil, _ => rfl
  | y :: xs, u :: us, .cons r t, f => by
    rw [List.all_cons, Bool.and_eq_true] at f
    rw [List.any_cons, List.any_cons, eqU_of r f.1, any_eqU t f.2]
theorem mem_eqAt {A : Around} {s : Shared} {x : V} {v : Value} (rx : RelV x v) (fx : flatV x = true) : ∀ {xs : List V} {us : List Value}, Vals xs us → xs.all flatV = true → ∀ u ∈ us, SeqAt.EqAt A s u v (eqU x u)
  | _, _, .nil, _ => fun u hu => by cases hu
  | y :: xs, u :: us, .cons r t, f => fun u' hu => by
    rw [List.all_cons, Bool.and_eq_true] at f
    rcases List.mem_cons.mp hu with rfl | hu
    · rw [eqU_of r f.1]; exact eqAt_V r rx f.1 fx
    · exact mem_eqAt rx fx t f.2 u' hu
noncomputable def inV (x : V) (xs : List V) : Bool := xs.any fun y => eqV y x
noncomputable def rIn (K : PySem.W.Frag) (neg : Bool) : R2 := fun x y H Q => ∃ p xs, y = .ref p ∧ (SqL K H p xs ∨ SqT K H p xs) ∧ flatV x = true ∧ xs.all flatV = true ∧ Q (.bl (if neg then !inV x xs else inV x xs)) H
theorem op_in_seq : OpR X (compareOp .In) (rIn X.K false) := by
  intro pins s σ H x y v u Q I rx ry h
  obtain ⟨p, xs, rfl, hq, fx, fs, q⟩ := h
  cases ry
  rcases hq with hq | hq
  · obtain ⟨its, r, pl, hz⟩ := I.list hq
    refine SeqAt.in_listAt (eqU x) pl.isList (fun w hw => mem_eqAt rx fx r fs w (by simpa using hw)) ⟨.bl _, H, I, rfl, ?_⟩
    rw [show its.toArray.any (eqU x) = its.any (eqU x) by simp, any_eqU r fs]
    exact q
  · obtain ⟨its, r, pl, hz⟩ := I.tuple hq
    refine SeqAt.in_tupleAt (eqU x) pl (fun w hw => mem_eqAt rx fx r fs w (by simpa using hw)) ⟨.bl _, H, I, rfl, ?_⟩
    rw [show its.toArray.any (eqU x) = its.any (eqU x) by simp, any_eqU r fs]
    exact q
theorem op_notIn_seq : OpR X (compareOp .NotIn) (rIn X.K true) := by
  intro pins s σ H x y v u Q I rx ry h
  obtain ⟨p, xs, rfl, hq, fx, fs, q⟩ := h
  cases ry
  rcases hq with hq | hq
  · obtain ⟨its, r, pl, hz⟩ := I.list hq
    refine SeqAt.notIn_listAt (eqU x) pl.isList (fun w hw => mem_eqAt rx fx r fs w (by simpa using hw)) ⟨.bl _, H, I, rfl, ?_⟩
    rw [show its.toArray.any (eqU x) = its.any (eqU x) by simp, any_eqU r fs]
    exact q
  · obtain ⟨its, r, pl, hz⟩ := I.tuple hq
    refine SeqAt.notIn_tupleAt (eqU x) pl (fun w hw => mem_eqAt rx fx r fs w (by simpa using hw)) ⟨.bl _, H, I, rfl, ?_⟩
    rw [show its.toArray.any (eqU x) = its.any (eqU x) by simp, any_eqU r fs]
    exact q
theorem op_notIn_str : OpR X (compareOp .NotIn) (fun x y H Q => ∃ i j, x = .str i ∧ y = .str j ∧ Q (.bl (!(!(Builtin.Str.occurrences j i 0 j.length 1).isEmpty))) H) := by
  intro pins s σ H x y v u Q I rx ry h
  obtain ⟨i, j, rfl, rfl, q⟩ := h
  obtain ⟨t, rfl⟩ := rx
  obtain ⟨t', rfl⟩ := ry
  exact notIn_str ⟨.bl _, H, I, rfl, q⟩
theorem call_len_seq : CallR X (.builtin "len") (fun xs H Q => ∃ p ys, xs = [.ref p] ∧ (SqL X.K H p ys ∨ SqT X.K H p ys) ∧ Q (.int ys.length) H) := by
  intro pins s σ H xs us Q I r h
  obtain ⟨p, ys, rfl, hq, q⟩ := h
  obtain ⟨u, rfl, rx⟩ := vals1 r
  cases rx
  have hn := line63
  rcases hq with hq | hq
  · obtain ⟨its, r', pl, hz⟩ := I.list hq
    have hlen := r'.length
    exact Calls.call_len_list pl.isList (by simp only [List.size_toArray] <;> omega) ⟨.int ys.length, H, I.tok _, ⟨s.toks + 1, by rw [List.size_toArray, hlen]⟩, q⟩
  · obtain ⟨its, r', pl, hz⟩ := I.tuple hq
    have hlen := r'.length
    exact len_tuple pl (by simp only [List.size_toArray] <;> omega) ⟨.int ys.length, H, I.tok _, ⟨s.toks + 1, by rw [List.size_toArray, hlen]⟩, q⟩
theorem call_len_str : CallR X (.builtin "len") (fun xs H Q => ∃ z, xs = [.str z] ∧ z.length ≤ sizeLine ∧ Q (.int z.length) H) := by
  intro pins s σ H xs us Q I r h
  obtain ⟨z, rfl, hz, q⟩ := h
  obtain ⟨u, rfl, t, rfl⟩ := vals1 r
  have hn := line63
  exact len_str (by omega) ⟨.int z.length, H, I.tok _, ⟨_, rfl⟩, q⟩
noncomputable def tyV (K : PySem.W.Frag) (T : String) (x : V) (H : Hp) : Prop := match x with
  | .str _ => T = "str"
  | .int _ => T = "int"
  | .ref p => (T = "list" ∧ ∃ xs, SqL K H p xs) ∨ (T = "tuple" ∧ ∃ o, K.lookup p = some o ∧ o.cls = .type "tuple" ∧ o.dict = none) ∨
      (T = "dict" ∧ ((∃ kvs, H p = some (.dK kvs)) ∨ ∃ kvs, H p = some (.dT kvs))) ∨ (T = "set" ∧ ∃ S n, H p = some (.set S n))
  | _ => False
theorem tyV_is {pins : List (Addr × Obj)} {σ : St} {H : Hp} {s : Shared} {T : String} {x : V} {v : Value} (I : Inv X pins σ H s) (r : RelV x v) (ty : tyV X.K T x H) :
    s.TypeIs v T ∧ ∀ a, v = .ref a → ∃ ob, s.heap.get? a = some ob ∧ ob.dict = none := by
  cases x with
  | str z =>
    obtain ⟨t, rfl⟩ := r
    cases (show T = "str" from ty)
    exact ⟨typeIs_str s z t, fun _ e => nomatch e⟩
  | int i =>
    obtain ⟨t, rfl⟩ := r
    cases (show T = "int" from ty)
    exact ⟨typeIs_int s i t, fun _ e => nomatch e⟩
  | ref p =>
    cases r
    rcases ty with ⟨rfl, xs, hq⟩ | ⟨rfl, o, hk, hc, hd⟩ | ⟨rfl, hk⟩ | ⟨rfl, S, n, hk⟩
    · obtain ⟨its, _, pl, _⟩ := I.list hq
      refine ⟨pl.isList.typeIs, fun a e => ?_⟩
      cases e
      obtain ⟨o, n, e, c, hd, _⟩ := pl
      exact ⟨o, e, hd⟩
    · refine ⟨⟨o, I.kIn p o hk, hc⟩, fun a e => ?_⟩
      cases e
      exact ⟨o, I.kIn _ o hk, hd⟩
    · have z : ∃ o, s.heap.get? p = some o ∧ o.ExactDict := by
        rcases hk with ⟨kvs, hk⟩ | ⟨kvs, hk⟩
        · obtain ⟨_, _, _, _, o, _, _, e, ex, _⟩ := I.hok p _ hk
          exact ⟨o, e, ex⟩
        · obtain ⟨_, _, _, _, o, _, _, e, ex, _⟩ := I.hok p _ hk
          exact ⟨o, e, ex⟩
      obtain ⟨o, e, ex⟩ := z
      refine ⟨⟨o, e, ex.1⟩, fun a e2 => ?_⟩
      cases e2
      exact ⟨o, e, ex.2.1⟩
    · obtain ⟨o, _, _, _, e, ex, _⟩ := I.hok p _ hk
      refine ⟨⟨o, e, ex.1⟩, fun a e2 => ?_⟩
      cases e2
      exact ⟨o, e, ex.2.1⟩
  | _ => exact False.elim ty
noncomputable def tBM0 (K : PySem.W.Frag) (T : String) (r : V → List V → Hp → VK → Prop) (to : TE) : TE := fun σ H Q => to σ H fun x H1 => tyV K T x H1 ∧ r x [] H1 Q
noncomputable def tBM (K : PySem.W.Frag) (T : String) (r : V → List V → Hp → VK → Prop) (to : TE) (t : TA) : TE := fun σ H Q => to σ H fun x H1 => tyV K T x H1 ∧ t σ H1 fun xs H2 => r x xs H2 Q
variable {o e : Expr} {es : List Expr} {to : TE} {t : TA} {name : Str} {apos cpos : Pos} {T id : String} {r : V → List V → Hp → VK → Prop}
theorem pe_bm0 (pa : PlainAttrs T) (slot : Slot T name id) (hty : typeOf (.builtin id) = pure (.type "method_descriptor")) (hm : MtR X id r) (ho : PE X o to)
    (hbase : attributeBase o name X.env (eval o X.env) = eval o X.env := by rfl) (hline : (apos.endLine == cpos.line) = true := by rfl) : PE X (.Call (.Attribute o name apos) [] [] cpos) (tBM0 X.K T r to) := by
  intro pins s σ H Q I h
  refine wpAny_Call_method0_late hbase hline (thn (ho pins s σ H _ I h) fun v s1 ⟨x, H1, I1, r1, ty, q1⟩ => ?_)
  obtain ⟨h1, h2⟩ := tyV_is I1 r1 ty
  exact ⟨T, id, pa, slot, hty, h1, h2, Calls.callWith_builtin rfl (PySem.evalArgs_none (hm pins s1 σ H1 x [] v [] Q I1 r1 .nil q1))⟩
theorem pe_bm (pa : PlainAttrs T) (slot : Slot T name id) (hty : typeOf (.builtin id) = pure (.type "method_descriptor")) (hm : MtR X id r) (ho : PE X o to) (ha : PA X (e :: es) t)
    (hbase : attributeBase o name X.env (eval o X.env) = eval o X.env := by rfl)
    (hfew : ((backTo cpos (starEach (e :: es) X.env)).all (fun x => !x.1) && (backToKw cpos (keywordEach [] X.env)).all (fun x => x.1.isSome)
      && decide ((e :: es).length + ([] : List Keyword).length + (if ([] : List Keyword).isEmpty then 0 else 1) < 30)) = true := by rfl)
    (hline : (apos.endLine == cpos.line) = true := by rfl) (hs : starEach (e :: es) X.env = (false, eval e X.env) :: starEach es X.env := by rfl) (hplain : (backTo cpos (starEach es X.env)).any (·.1) = false := by rfl) :
    PE X (.Call (.Attribute o name apos) (e :: es) [] cpos) (tBM X.K T r to t) := by
  intro pins s σ H Q I h
  refine wpAny_Call_method_late hbase hfew hline rfl (thn (ho pins s σ H _ I h) fun v s1 ⟨x, H1, I1, r1, ty, q1⟩ => ?_)
  obtain ⟨h1, h2⟩ := tyV_is I1 r1 ty
  refine ⟨T, id, pa, slot, hty, h1, h2, ?_⟩
  have hA := ha cpos pins s1 σ H1 _ I1 q1
  rw [hs] at hA ⊢
  refine Calls.callWith_builtin (by show (false || (backTo cpos (starEach es X.env)).any (·.1)) = false; rw [hplain] <;> rfl) (Calls.evalArgs_plain ?_)
  exact thn hA fun us s2 ⟨vs, H2, I2, r2, q2⟩ => hm pins s2 σ H2 x vs v us Q I2 r1 r2 q2
/- xs.append(e), list.index on a module's tuple .. are MtR facts of 06m -/
end
end L2
namespace L2
open PySem PySem.Spec PyProof.Rows
section
variable {X : Cx} {pins : List (Addr × Obj)} {σ : St} {H : Hp} {s : Shared} {l b : Addr} {xs ys zs : List V}
theorem Inv.lnew {its : List Value} {t' : Nat} (I : Inv X pins σ H s) (hv : Vals ys its) (hz : ys.length ≤ sizeLine) :
    Inv X pins σ (upd H s.heap.objs.size (.lst ys)) { s with heap := s.heap.push { cls := .type "list", data := .seq its.toArray }, toks := t' } :=
  I.laid (fun _ _ q => Heap.get?_push_of_some _ q) (Nat.le_refl _) ⟨hz, its, 0, hv, Heap.get?_push_size _ rfl⟩
theorem Inv.fresh (I : Inv X pins σ H s) : H s.heap.objs.size = none := I.hok.fresh (Nat.le_refl _)
end
section
variable {X : Cx}
end
section
variable {prog : Program} {w : World} {A : Around} {E : Value → Shared → Prop} {s : Shared}
end
section
variable {X : Cx}
end
end L2
namespace Att
open PySem PySem.W PySem.Calls PyProof.Rows
theorem ints_of_wellAll {P : Params} {h : Heap} : ∀ (ns : List Int) (vs : List Value), WellAll P h vs (ns.map WData.int) → IntsAre vs ns := by
  intro ns
  induction ns with
  | nil =>
    intro vs w
    rw [List.map_nil] at w
    cases w
    exact .nil
  | cons n ns ih =>
    intro vs w
    rw [List.map_cons] at w
    cases w with
    | cons a b =>
      cases a
      exact .cons _ _ (ih _ b)
theorem script_of {l : OpenLaw} {n : Nat} (hn : l.most = some n) {P : Params} {h : Heap} {args : List WData} {vals : List Value}
    (hpre : l.row.toRowW.claim.pre args = true) (hwl : WellAll P h vals args) :
    ∃ a vs ns, vals = [Value.ref a] ∧ args = [WData.list (ns.map WData.int)] ∧ h.get? a = some { cls := .type "list", data := .seq vs.toArray } ∧ IntsAre vs ns ∧ ns.length ≤ n := by
  have hsh : WShape.hasAll [] args [.list .int] = true := (pre_splitW hpre).1
  have hc : l.pre.holds [] { args := args } = true := (pre_splitW hpre).2
  obtain ⟨d, r, rfl, h1, h2⟩ := hasAllW_cons hsh
  obtain rfl := hasAllW_nil h2
  obtain ⟨xs, rfl, h3⟩ := hasW_list h1
  obtain ⟨ns, rfl⟩ := items_int h3
  have hlen : ns.length ≤ n := by
    unfold OpenLaw.pre at hc
    have h4 : (WTm.not (.lt (.lit (.int (n : Int))) (.len (.arg 0)))).holds [] { args := [.list (ns.map .int)] } = true := by
      have h4 := (holds_andW hc).1
      rw [hn] at h4
      exact h4
    have h5 := condW_of h4 (w_not (w_lt w_lit (w_len_list (w_arg rfl))))
    rw [List.length_map] at h5
    refine Nat.le_of_not_lt fun q => ?_
    have q' : (n : Int) < ((ns.length : Nat) : Int) := by omega
    first
      | (rw [decide_eq_true q'] at h5; exact absurd h5 (by decide))
      | (simp at h5; omega)
  cases hwl with
  | cons w1 w2 =>
    cases w2
    cases w1 with
    | list ho hall => exact ⟨_, _, ns, rfl, rfl, ho, ints_of_wellAll ns _ hall, hlen⟩
theorem post_true (l : OpenLaw) (args : List WData) : l.row.toRowW.claim.post args (.bool true) args = true :=
  postW_of (r := l.row.toRowW) (X := (true == true))
    (show WShape.has [] (.bool true) .bool = true by first | rfl | decide | simp [WShape.has, WShape.arms, WShape.armsAll])
    (show (WTm.eq .res (.lit (.bool true))).value [] { args := args, res := some (.bool true), after := args } = some (.bool (true == true)) from w_eq_bool (w_res rfl) w_lit) rfl
section
variable {prog : Program} {w : World} {A : Around} {E : Value → Shared → Prop} {s : Shared} {K : Frag}
noncomputable def ledger (h : Heap) (L d : Addr) : List (Addr × Obj) := (List.range h.objs.size).filterMap fun a => if a = L ∨ a = d then none else (h.get? a).map fun o => (a, o)
end
end Att
namespace L2
open PySem PySem.Spec PyProof.Rows
theorem vals_ints : ∀ {vs : List Value} {ns : List Int}, IntsAre vs ns → Vals (ns.map V.int) vs
  | _, _, .nil => .nil
  | _, _, .cons n t h => .cons ⟨t, rfl⟩ (vals_ints h)
noncomputable def Only (H : Hp) : Prop := ∀ b, H b = none ∨ ∃ o xs, H b = some (.frz o (.lst xs))
theorem law_call {P : Program} {w : World} {K : PySem.W.Frag} {mg mb : Str → Option Value} {CX : CXT} {k : Nat} {fa a : Addr} {fd : FuncData} {x : Str} {sp : Sp} {s₁ : Shared} {vs : List Value} {ns : List Int}
    (KX : K.In s₁.heap) (hns : s₁.heap.Ns mainGlobals mg) (hb : s₁.heap.Ns builtinsNs mb) (hbb : ∀ x : Str, x ≠ "__name__" → mb x = bootBuiltins x) (hlim : s₁.heap.NoLimit) (hg : s₁.gens = #[])
    (ha : s₁.heap.get? a = some { cls := .type "list", data := .seq vs.toArray }) (hi : IntsAre vs ns) (hl : ns.length ≤ sizeLine) (hr : Room k callerA)
    (F : ∀ base : Heap, K.In base → base.Ns mainGlobals mg → FnOk P w K mg base CX k fa fd [x] sp) (hbind : ∀ (s : Shared) (u : Value), BindsTo s fd ⟨[u], []⟩ [(x, u)])
    (hsp : ∀ H : Hp, Only H → SqL K H a (ns.map V.int) → sp [.ref a] H (fun v _ => v = .bl true) fun _ _ _ => False)
    (hCX : ∀ H e s', CX [] H s₁ (fun _ _ _ => False) e s' → False) :
    codeAny (model P w) callerA (.call (.ref fa) ⟨[.ref a], []⟩) (fun r s' => r = .ok (.ret (.bool true)) ∧ OldK s₁.heap s'.heap ∧ s'.os = s₁.os ∧ AllBare s'.gens) s₁ := by
  have rv := vals_ints hi
  have lenV := hi.length
  have core : ∀ H : Hp, Only H → SqL K H a (ns.map V.int) → HOk P w H s₁.heap → (∀ b, H b ≠ none → b = a) → (H a ≠ none → K.lookup a = none) →
      codeAny (model P w) callerA (.call (.ref fa) ⟨[.ref a], []⟩) (fun r s' => r = .ok (.ret (.bool true)) ∧ OldK s₁.heap s'.heap ∧ s'.os = s₁.os ∧ AllBare s'.gens) s₁ := by
    intro H hO hS hok hA hK
    have base_of : ∀ {b : Addr} {o : Obj}, s₁.heap.get? b = some o → H b = none → (hidT s₁.heap H).get? b = some o := fun e n => hidT_get e n
    have noA : ∀ {b : Addr} {o : Obj} {es : Array DictEntry} {ep : Nat}, s₁.heap.get? b = some o → o.data = .dict es ep → H b = none := fun {b o es ep} e d => by
      cases q : H b with
      | none => rfl
      | some u =>
        have e' : b = a := hA b (by rw [q]; simp)
        subst e'
        rw [ha] at e; cases e
        have d' : Data.seq vs.toArray _ = Data.dict es ep := d
        cases d'
    have nsK : ∀ {b : Addr} {m : Str → Option Value}, s₁.heap.Ns b m → (hidT s₁.heap H).Ns b m := fun {b m} ⟨o, es, ep, e, d, r⟩ => ⟨o, es, ep, base_of e (noA e d), d, r⟩
    have hKb : K.In (hidT s₁.heap H) := fun b o e => base_of (KX b o e) (by
      cases q : H b with
      | none => rfl
      | some u =>
        have e' : b = a := hA b (by rw [q]; simp)
        subst e'
        rw [hK (by rw [q]; simp)] at e; cases e)
    have hM : Mod K mg (hidT s₁.heap H) := ⟨hKb, nsK hns, ⟨mb, nsK hb, hbb⟩, let ⟨mc, h1, h2⟩ := hlim; ⟨mc, nsK h1, h2⟩⟩
    have e0 : Env0 P w K mg (hidT s₁.heap H) callerA [] s₁ H := ⟨rfl, hM, fun b o e => of_hidT e, Nat.le_of_eq (hidT_size _ _), trivial, fun b hb => absurd (show b ∈ ([] : List Addr) from hb) (by simp), hok, .of_eq hg⟩
    refine codeAny_mono ((F _ hKb (nsK hns)).run callerA [] s₁ H ⟨[.ref a], []⟩ [.ref a] [.ref a] _ _ hr e0 (hbind s₁ (.ref a)) (.cons rfl .nil) (hsp H hO hS)) fun r s' h => ?_
    cases r with
    | error e => exact (hCX H e s' h).elim
    | ok fl =>
      cases fl with
      | next => exact False.elim h
      | brk => exact False.elim h
      | cont => exact False.elim h
      | ret u =>
        obtain ⟨v, H', os, bare, un, hok', r', q⟩ := h
        have q' : v = .bl true := q
        subst q'
        obtain rfl : u = Value.bool true := r'
        refine ⟨rfl, OldK.of_keep fun b o e => ?_, os, bare⟩
        cases q : H b with
        | none => exact un.keep b o e q (by intro z; exact absurd (show b ∈ ([] : List Addr) from z) (by simp)) (by simp)
        | some u =>
          rcases hO b with z | ⟨ob, xs, z⟩
          · rw [q] at z; cases z
          · have z2 := un.frzs b ob _ z
            obtain ⟨e1, _⟩ := hok b _ z
            obtain ⟨e2, _⟩ := hok' b _ z2
            rw [e] at e1; cases e1
            exact e2
  cases hk : K.lookup a with
  | some o =>
    have e := KX a o hk
    rw [ha] at e
    cases e
    refine core (fun _ => none) (fun _ => .inl rfl) (.inr ⟨_, vs.toArray, _, hk, rfl, rfl, rfl, by rw [List.size_toArray, lenV]; exact hl, by simpa using rv⟩) (fun b u z => by have z' : (none : Option HO) = some u := z; cases z') (fun b z => absurd rfl z) fun z => absurd rfl z
  | none =>
    refine core (fun b => if b = a then some (.frz { cls := .type "list", data := .seq vs.toArray } (.lst (ns.map V.int))) else none) (fun b => ?_) (.inl (.inr ⟨{ cls := .type "list", data := .seq vs.toArray }, if_pos rfl⟩)) (fun b u z => ?_) (fun b z => ?_) fun _ => hk
    · by_cases hb : b = a
      · exact .inr ⟨_, _, if_pos hb⟩
      · exact .inl (if_neg hb)
    · by_cases hb : b = a
      · have z' := (if_pos hb).symm.trans z
        cases z'
        subst hb
        exact ⟨ha, by rw [List.length_map]; exact hl, vs, _, rv, ha⟩
      · have z' := (if_neg hb).symm.trans z
        cases z'
    · by_cases hb : b = a
      · exact hb
      · exact absurd (if_neg hb) z
end L2
namespace L2
open PySem PySem.Spec PyProof.Rows
noncomputable abbrev KOf {K : PySem.W.Frag} {h : Heap} (_ : K.In h) : PySem.W.Frag := K
end L2
/- THE LAST THEOREM (shape; LID, My.* are yours):
   My.Adr: a structure of the addresses that your layer names (classes, functions); My.Txt K t: a structure (Prop) of the equations over K;
   My.txt_mk : {K} {implicit addresses ..} (e1 : nsIn K mainGlobals "law" = some (some (.ref f))) (e2 : K.lookup f = some ⟨oc, od, .func (fnOf "law" "law" params body scope dV kV doc pm an cdv ct), sl⟩) (e3 : codeIn K cdv "law" = true) .. : ∃ t, My.Txt K t
set_option maxHeartbeats 0 in
theorem PySem.Challenge.cw_LID_holds : PySem.Challenge.rw_LID.Holds := by
  w_on; o_law; k_head; (case hw => w_witness2)
  k_fill
  refine L2.walk_of (l := PySem.Challenge.rw_LID) (n := 63) (k := 40) (x := "script") (CX := fun w => ..) (sp := fun _ => My.sp_law) rfl (by decide) rfl ⟨rfl, by decide, by decide⟩ (fun w h Y => PySem.W.kIn_of Y) ?F ?S ?C
  case F =>
    intro w mg fa h KX G hmg
    have T : ∃ t, My.Txt (L2.KOf KX) t := by
      dsimp only [L2.KOf]                          -- K must stand as «<heap const> w.params» for k_is
      refine' My.txt_mk ?e1 ?e2 ?e3 ..
      (case e1 => PySem.W.k_is)                    -- in the order: a name -> its address -> its object -> its parts
      (case e2 => PySem.W.k_is)
      ..
    obtain ⟨t, T⟩ := T
    have e0 := hmg.symm.trans (PySem.W.mg_of KX G T.law)
    cases e0                                       -- fa is the law's own address
    exact ⟨_, fun s u => .of_eq rfl, fun base kb nb => My.law_fn T kb nb⟩     -- if «.of_eq rfl» comes too early: refine' ⟨_, ?b, fun base kb nb => My.law_fn T kb nb⟩; exact fun s u => .of_eq rfl
  case S => exact fun w H a ns hl hO hS => ..
  case C => exact ..
(the tactic k_is has no namespace: write k_is) -/
namespace L2
open PySem PySem.Spec PyProof.Rows
noncomputable def defArgs (s : Stmt) : Arguments := match s with
  | .FunctionDef _ a _ _ _ _ _ _ _ _ => a
  | _ => { posonlyargs := [], args := [], vararg := none, kwonlyargs := [], kw_defaults := [], kwarg := none, defaults := [] }
noncomputable def defBody (s : Stmt) : List Stmt := match s with
  | .FunctionDef _ _ b _ _ _ _ _ _ _ => b
  | _ => []
noncomputable def defScope (s : Stmt) : Scope := match s with
  | .FunctionDef _ _ _ _ _ _ sc _ _ _ => sc
  | _ => { kind := .function, names := [], isGenerator := false, isCoroutine := false }
noncomputable abbrev CX0 : CXT := fun _ _ _ _ _ _ => False
noncomputable abbrev E0 : XK := fun _ _ _ => False
theorem pass0 {X : Cx} : Passes CX0 X E0 := fun _ _ _ _ _ _ _ h => h.elim
structure Fun (K : PySem.W.Frag) (x qual : Str) (st : Stmt) (f : Addr) (fd : FuncData) : Prop where
  ex : ∃ (oc : Value) (od : Option Addr) (kV doc pm : Value) (an : Option Addr) (cdv ct : Value) (osl : Array (Option Value)),
    fd = PySem.W.fnOf x qual (defArgs st) (defBody st) (defScope st) .none kV doc pm an cdv ct ∧ K.lookup f = some ⟨oc, od, .func fd, osl⟩ ∧ PySem.W.codeIn K cdv qual = true
  kp : PySem.W.keepIn K (.ref f) = true
section
variable {P : Program} {w : World} {K : PySem.W.Frag} {mg : Str → Option Value} {base : Heap}
theorem Fun.ok {x qual : Str} {st : Stmt} {f : Addr} {fd : FuncData} {N ps : List Str} {k : Nat} {sp : Sp} (F : Fun K x qual st f fd) (S : FnScope N ps (defScope st)) (len : ∀ vs H Q E, sp vs H Q E → vs.length = ps.length)
    (hbody : ∀ (cdv : Value) (A : Around) (outer : List Env) (s : Shared) (H : Hp) (vs : List V) (Q : VK) (E : XK), Room k (A.deeper (envOfC qual (defScope st) s.heap.objs.size f cdv)) → sp vs H Q E →
      ∃ t, PSs (cxOf CX0 P w K mg base N qual (defScope st) f cdv A outer s H E).nox (defBody st) t ∧ t { nx := fun _ H' => Q .non H', rt := Q } (start N vs) H) : FnOk P w K mg base CX0 (k + 1) f fd ps sp := by
  obtain ⟨oc, od, kV, doc, pm, an, cdv, ct, osl, rfl, lk, hcd⟩ := F.ex
  refine fn_of lk hcd S len fun A outer s H vs Q E hr hsp => ?_
  obtain ⟨t, h, q⟩ := hbody cdv A outer s H vs Q E hr hsp
  exact ⟨t, h.nox, q⟩
theorem Fun.binds {x qual : Str} {st : Stmt} {f : Addr} {fd : FuncData} {ps : List Str} (F : Fun K x qual st f fd)
    (h : ∀ (kV doc pm : Value) (an : Option Addr) (cdv ct : Value) (us : List Value), us.length = ps.length → bindArgs (PySem.W.fnOf x qual (defArgs st) (defBody st) (defScope st) .none kV doc pm an cdv ct) ⟨us, []⟩ = pure (ps.zip us)) : Binds K fd ps [] := by
  obtain ⟨oc, od, kV, doc, pm, an, cdv, ct, osl, rfl, lk, hcd⟩ := F.ex
  exact .all (h kV doc pm an cdv ct)
theorem fun_mk {x qual : Str} {st : Stmt} {f : Addr} {oc : Value} {od an : Option Addr} {osl : Array (Option Value)} {kV doc pm cdv ct : Value} (l : K.lookup f = some ⟨oc, od, .func (PySem.W.fnOf x qual (defArgs st) (defBody st) (defScope st) .none kV doc pm an cdv ct), osl⟩)
    (c : PySem.W.codeIn K cdv qual = true) (k : PySem.W.keepIn K (.ref f) = true) : Fun K x qual st f (PySem.W.fnOf x qual (defArgs st) (defBody st) (defScope st) .none kV doc pm an cdv ct) := ⟨⟨oc, od, kV, doc, pm, an, cdv, ct, osl, rfl, l, c⟩, k⟩
end
theorem small1000 {n : Nat} (h : n ≤ 1000) : n < sizeLine := Nat.lt_of_le_of_lt h (by decide)
section
variable {X : Cx}
end
theorem iteF {A B : Prop} (h : B) : if false = true then A else B := by
  rw [if_neg Bool.false_ne_true]
  exact h
theorem iteT {A B : Prop} (h : A) : if true = true then A else B := by
  rw [if_pos rfl]
  exact h
noncomputable def Same (H H' : Hp) : Prop := ∀ b o, H b = some o → H' b = some o
theorem Same.refl (H : Hp) : Same H H := fun _ _ h => h
theorem Same.trans {H H1 H2 : Hp} (a : Same H H1) (b : Same H1 H2) : Same H H2 := fun c o h => b c o (a c o h)
theorem Same.seq {K : PySem.W.Frag} {H H' : Hp} {a : Addr} {xs : List V} (e : Same H H') (h : SqL K H a xs) : SqL K H' a xs := by
  rcases h with (h | ⟨o, h⟩) | h
  · exact .inl (.inl (e _ _ h))
  · exact .inl (.inr ⟨o, e _ _ h⟩)
  · exact .inr h
end L2
namespace EV
open PySem (Str)
inductive D where
  | non | bl (b : Bool) | int (i : Int) | str (x : Str) | tup (ds : List D) | lst (ds : List D) | own (ds : List D)
  | ty (n : String) | cls (n : String) | exc (n : String) | ins (n : String) (fs : List (String × D))
noncomputable instance : Inhabited D := ⟨.non⟩
inductive R (α : Type) where
  | ok (a : α) | ex (C : String) | bad
namespace R
noncomputable def bind {α β : Type} : R α → (α → R β) → R β
  | .ok a, f => f a
  | .ex C, _ => .ex C
  | .bad, _ => .bad
end R
noncomputable abbrev Dt := List (Option D)
noncomputable abbrev E := Dt → R D
inductive O where
  | nx (δ : Dt) | rt (d : D) | bk (δ : Dt) | ct (δ : Dt) | ex (C : String) (δ : Dt) | mk (C : String) (δ : Dt) | bad
noncomputable abbrev S := Dt → O
noncomputable def pw (k : Int) : Int := 2 ^ k.toNat
noncomputable def nb (i : Int) : Nat := if i = 0 then 0 else i.natAbs.log2 + 1
noncomputable def MulOk (i j : Int) : Prop := nb i + nb j ≤ 134217728
noncomputable def DivOk (i j : Int) : Prop := 0 < j ∧ (nb j ≤ 9000 ∨ nb i ≤ nb j + 4000)
noncomputable instance {i j : Int} : Decidable (MulOk i j) := inferInstanceAs (Decidable (_ ≤ _))
noncomputable instance {i j : Int} : Decidable (DivOk i j) := inferInstanceAs (Decidable (_ ∧ _))
noncomputable def oAdd : D → D → R D
  | .int i, .int j => .ok (.int (i + j))
  | .str x, .str y => if x.cps.size + y.cps.size ≤ 1000000 then .ok (.str ⟨x.cps ++ y.cps⟩) else .bad
  | .lst xs, .lst ys => if xs.length + ys.length ≤ 100000 then .ok (.lst (xs ++ ys)) else .bad
  | .tup xs, .tup ys => if xs ≠ [] ∧ xs.length + ys.length ≤ 100000 then .ok (.tup (xs ++ ys)) else .bad
  | _, _ => .bad
noncomputable def oSub : D → D → R D
  | .int i, .int j => .ok (.int (i - j))
  | _, _ => .bad
noncomputable def oMul : D → D → R D
  | .int i, .int j => if MulOk i j then .ok (.int (i * j)) else .bad
  | _, _ => .bad
noncomputable def oDiv : D → D → R D
  | .int i, .int j => if DivOk i j then .ok (.int (i / j)) else .bad
  | _, _ => .bad
noncomputable def oMod : D → D → R D
  | .int i, .int j => if 0 < j then .ok (.int (i % j)) else .bad
  | _, _ => .bad
noncomputable def oShl : D → D → R D
  | .int i, .int j => if 0 ≤ j ∧ (nb i : Int) + j ≤ 134217728 then .ok (.int (i * pw j)) else .bad
  | _, _ => .bad
noncomputable def oShr : D → D → R D
  | .int i, .int j => if 0 ≤ j then .ok (.int (i / pw j)) else .bad
  | _, _ => .bad
noncomputable def oPow : D → D → R D
  | .int i, .int j => if 0 ≤ j ∧ (nb i : Int) * j ≤ 134217728 then .ok (.int (i ^ j.toNat)) else .bad
  | _, _ => .bad
noncomputable def oBand : D → D → R D
  | .int i, .int j => if 0 ≤ i ∧ 0 ≤ j then .ok (.int ((i.toNat &&& j.toNat : Nat) : Int)) else .bad
  | _, _ => .bad
noncomputable def oNeg : D → R D
  | .int i => .ok (.int (-i))
  | _ => .bad
noncomputable def oLt : D → D → R D
  | .int i, .int j => .ok (.bl (decide (i < j)))
  | _, _ => .bad
noncomputable def oLe : D → D → R D
  | .int i, .int j => .ok (.bl (decide (i ≤ j)))
  | _, _ => .bad
noncomputable def oGt : D → D → R D
  | .int i, .int j => .ok (.bl (decide (j < i)))
  | _, _ => .bad
noncomputable def oGe : D → D → R D
  | .int i, .int j => .ok (.bl (decide (j ≤ i)))
  | _, _ => .bad
mutual
noncomputable def D.beq : D → D → Bool
  | .non, .non => true
  | .bl a, .bl b => a == b
  | .bl a, .int b => (if a then 1 else 0) == b
  | .int a, .bl b => a == (if b then 1 else 0)
  | .int a, .int b => a == b
  | .str a, .str b => a == b
  | .tup a, .tup b => D.beqs a b
  | .lst a, .lst b => D.beqs a b
  | _, _ => false
noncomputable def D.beqs : List D → List D → Bool
  | [], [] => true
  | a :: as, b :: bs => D.beq a b && D.beqs as bs
  | _, _ => false
end
noncomputable def D.sc : D → Bool
  | .non => true | .bl _ => true | .int _ => true | .str _ => true
  | _ => false
noncomputable def D.pl : Nat → D → Bool
  | _, .non => true
  | _, .bl _ => true
  | _, .int _ => true
  | _, .str x => x.cps.all (· < 0x110000)
  | n + 1, .tup ds => ds.all (D.pl n)
  | n + 1, .lst ds => ds.all (D.pl n)
  | _, _ => false
noncomputable def D.cmp (a b : D) : Bool := (a.sc && b.sc) || (D.pl 8 a && D.pl 8 b)
noncomputable def oEq (a b : D) : R D := if D.cmp a b then .ok (.bl (D.beq a b)) else .bad
noncomputable def oNe (a b : D) : R D := if D.cmp a b then .ok (.bl (!D.beq a b)) else .bad
noncomputable def oIsN : D → R D
  | .non => .ok (.bl true)
  | _ => .ok (.bl false)
noncomputable def oNotN : D → R D
  | .non => .ok (.bl false)
  | _ => .ok (.bl true)
noncomputable def isIn (x : D) (ys : List D) : Option Bool := if x.sc && ys.all D.sc then some (ys.any fun y => D.beq y x) else none
noncomputable def oIn (a b : D) : R D := match a, b with
  | .str x, .str y => match x.cps.toList with | [c] => .ok (.bl (decide (c ∈ y.cps.toList))) | _ => .bad
  | a, .tup ds => match isIn a ds with | some k => .ok (.bl k) | none => .bad
  | a, .lst ds => match isIn a ds with | some k => .ok (.bl k) | none => .bad
  | _, _ => .bad
noncomputable def oNotIn (a b : D) : R D := (oIn a b).bind fun d => match d with | .bl k => .ok (.bl (!k)) | _ => .bad
noncomputable def ixN (n : Nat) (i : Int) : Option Nat := if 0 ≤ i then (if i < n then some i.toNat else none) else if -(n : Int) ≤ i then some (i + n).toNat else none
noncomputable def oIx : D → D → R D
  | .tup ds, .int i => match (ixN ds.length i).bind fun j => ds[j]? with | some d => .ok d | none => .bad
  | .lst ds, .int i => match (ixN ds.length i).bind fun j => ds[j]? with | some d => .ok d | none => .bad
  | .str x, .int i => if x.cps.size ≤ 1000000 then (match (ixN x.cps.toList.length i).bind fun j => x.cps.toList[j]? with | some c => .ok (.str ⟨#[c]⟩) | none => .bad) else .bad
  | _, _ => .bad
noncomputable def sIx (n d : Nat) : Option Int → Nat
  | none => d
  | some i => if i < 0 then (i + n).toNat else min i.toNat n
noncomputable def cut {α : Type} (xs : List α) (lo hi : Option Int) : List α := (xs.drop (sIx xs.length 0 lo)).take (sIx xs.length xs.length hi - sIx xs.length 0 lo)
noncomputable def oSl : D → Option Int → Option Int → R D
  | .tup ds, lo, hi => if sIx ds.length 0 lo = 0 ∧ sIx ds.length ds.length hi = ds.length then .bad else .ok (.tup (cut ds lo hi))
  | .lst ds, lo, hi => .ok (.lst (cut ds lo hi))
  | _, _, _ => .bad
noncomputable def var (i : Nat) : E := fun δ => match δ[i]? with
  | some (some (.own _)) => .bad
  | some (some d) => .ok d
  | _ => .bad
noncomputable def con (d : D) : E := fun _ => .ok d
noncomputable def un (f : D → R D) (a : E) : E := fun δ => (a δ).bind f
noncomputable def bin (f : D → D → R D) (a b : E) : E := fun δ => (a δ).bind fun x => (b δ).bind fun y => f x y
noncomputable def truth {β : Type} (d : D) (t f : R β) : R β := match d with
  | .bl true => t
  | .bl false => f
  | _ => .bad
noncomputable def and_ (a b : E) : E := fun δ => (a δ).bind fun d => truth d (b δ) (.ok (.bl false))
noncomputable def or_ (a b : E) : E := fun δ => (a δ).bind fun d => truth d (.ok (.bl true)) (b δ)
noncomputable def not_ (a : E) : E := fun δ => (a δ).bind fun d => truth d (.ok (.bl false)) (.ok (.bl true))
noncomputable def ife (c a b : E) : E := fun δ => (c δ).bind fun d => truth d (a δ) (b δ)
noncomputable def chain (f g : D → D → R D) (a b c : E) : E := fun δ => (a δ).bind fun x => (b δ).bind fun y => (f x y).bind fun d => truth d ((c δ).bind fun z => g y z) (.ok (.bl false))
noncomputable def evs : List E → Dt → R (List D)
  | [], _ => .ok []
  | e :: es, δ => (e δ).bind fun d => (evs es δ).bind fun ds => .ok (d :: ds)
noncomputable def tupE (es : List E) : E := fun δ => (evs es δ).bind fun ds => .ok (.tup ds)
noncomputable def lstE (es : List E) : E := fun δ => (evs es δ).bind fun ds => .ok (.lst ds)
noncomputable def call (f : List D → R D) (es : List E) : E := fun δ => (evs es δ).bind f
noncomputable def part : Option E → Dt → R (Option Int)
  | none, _ => .ok none
  | some e, δ => (e δ).bind fun d => match d with | .int i => .ok (some i) | _ => .bad
noncomputable def slc (a : E) (lo hi : Option E) : E := fun δ => (a δ).bind fun d => (part lo δ).bind fun l => (part hi δ).bind fun h => oSl d l h
/- data without a list -/
mutual
noncomputable def D.flat : D → Bool
  | .lst _ => false
  | .own _ => false
  | .tup ds => D.flats ds
  | .ins _ fs => D.flatf fs
  | _ => true
noncomputable def D.flats : List D → Bool
  | [] => true
  | d :: r => D.flat d && D.flats r
noncomputable def D.flatf : List (String × D) → Bool
  | [] => true
  | (_, d) :: r => D.flat d && D.flatf r
end
noncomputable abbrev IT := Dt → R (List D)
noncomputable def rngD (lo hi : Int) : List D := (List.range (hi - lo).toNat).map fun (k : Nat) => D.int (lo + k)
noncomputable def asL : D → R (List D)
  | .lst ds => .ok ds
  | _ => .bad
noncomputable def asT : D → R (List D)
  | .tup ds => .ok ds
  | _ => .bad
noncomputable def asA : D → R (List D)
  | .lst ds => .ok ds
  | .tup ds => .ok ds
  | _ => .bad
noncomputable def asR1 : D → R (List D)
  | .int hi => if -(2 ^ 62) ≤ hi ∧ hi < 2 ^ 62 then .ok (rngD 0 hi) else .bad
  | _ => .bad
noncomputable def asR2 : List D → R (List D)
  | [.int lo, .int hi] => if -(2 ^ 62) ≤ lo ∧ lo < 2 ^ 62 ∧ -(2 ^ 62) ≤ hi ∧ hi < 2 ^ 62 then .ok (rngD lo hi) else .bad
  | _ => .bad
noncomputable def rngS (lo hi c : Int) : List D := (List.range (if lo < hi then (hi - lo - 1) / c + 1 else 0).toNat).map fun (k : Nat) => D.int (lo + k * c)
noncomputable def asR3 : List D → R (List D)
  | [.int lo, .int hi, .int c] => if (-(2 ^ 40) ≤ lo ∧ lo < 2 ^ 40 ∧ -(2 ^ 40) ≤ hi ∧ hi < 2 ^ 40) ∧ 0 < c ∧ c < 2 ^ 20 then .ok (rngS lo hi c) else .bad
  | _ => .bad
noncomputable def itL (g : E) : IT := fun δ => (g δ).bind asL
noncomputable def itT (g : E) : IT := fun δ => (g δ).bind asT
noncomputable def itA (g : E) : IT := fun δ => (g δ).bind asA
noncomputable def itR1 (g : E) : IT := fun δ => (g δ).bind asR1
noncomputable def itR2 (a b : E) : IT := fun δ => (evs [a, b] δ).bind asR2
noncomputable def itR3 (a b c : E) : IT := fun δ => (evs [a, b, c] δ).bind asR3
noncomputable def noEx {α : Type} (r : R α) : R α := match r with
  | .ex _ => .bad
  | r => r
noncomputable def inC (ks : List Nat) (δ : Dt) (x : D) : Dt := some x :: ks.map fun k => δ.getD k none
noncomputable def flatR (rs : List D) : R D := if D.flats rs then .ok (.lst rs) else .bad
noncomputable def runC (st : D → R (Option D)) : List D → R (List D)
  | [] => .ok []
  | d :: ds => (st d).bind fun o => (runC st ds).bind fun rs => .ok (match o with | some r => r :: rs | none => rs)
noncomputable def stC (c elt : E) (ks : List Nat) (δ : Dt) (x : D) : R (Option D) := (noEx (c (inC ks δ x))).bind fun d => truth d ((noEx (elt (inC ks δ x))).bind fun r => .ok (some r)) (.ok none)
noncomputable def compIf (it : IT) (ks : List Nat) (c elt : E) : E := fun δ => (it δ).bind fun ds => if ds.length ≤ 100000 then (runC (stC c elt ks δ) ds).bind flatR else .bad
noncomputable def comp (it : IT) (ks : List Nat) (elt : E) : E := compIf it ks (con (.bl true)) elt
noncomputable def oFld (cn f : String) : D → R D
  | .ins n fs => if n == cn then (match fs.lookup f with | some d => .ok d | none => .bad) else .bad
  | _ => .bad
noncomputable def isMeth (cn m : String) : D → Bool
  | .ins n fs => n == cn && (fs.lookup m).isNone
  | _ => false
noncomputable def meth (cn m : String) (F : List D → R D) (o : E) (es : List E) : E := fun δ => (o δ).bind fun d => if isMeth cn m d then (evs es δ).bind fun ds => F (d :: ds) else .bad
noncomputable def mk1 (cn f : String) : List D → R D
  | [d] => .ok (.ins cn [(f, d)])
  | _ => .bad
noncomputable def bLen : List D → R D
  | [.lst ds] => .ok (.int ds.length)
  | [.tup ds] => .ok (.int ds.length)
  | [.str x] => if x.cps.size ≤ 1000000 then .ok (.int x.cps.size) else .bad
  | _ => .bad
noncomputable def bAbs : List D → R D
  | [.int i] => .ok (.int (if i < 0 then -i else i))
  | _ => .bad
noncomputable def bMax : List D → R D
  | [.int i, .int j] => .ok (.int (if j > i then j else i))
  | _ => .bad
noncomputable def bMin : List D → R D
  | [.int i, .int j] => .ok (.int (if j < i then j else i))
  | _ => .bad
noncomputable def bInt : List D → R D
  | [.int i] => .ok (.int i)
  | [.bl k] => .ok (.int (if k then 1 else 0))
  | _ => .bad
noncomputable def bList : List D → R D
  | [.lst ds] => .ok (.lst ds)
  | [.tup ds] => .ok (.lst ds)
  | _ => .bad
noncomputable def bBitLen : List D → R D
  | [.int i] => .ok (.int (nb i))
  | _ => .bad
noncomputable def excNames : List String := ["MillError", "NoSize", "NoBits", "NoParts", "NoRank", "NotFinite", "NoWay", "NoFlags", "NoFraction", "Unlike", "Empty", "NoLeft", "NoText", "NoRow", "NoName", "Stopped"]
noncomputable def exSub (C B : String) : Bool := excNames.contains C && (C == B || B == "MillError")
noncomputable def bIsi : List D → R D
  | [.exc C, .cls B] => if excNames.contains C && excNames.contains B then .ok (.bl (C == B || B == "MillError")) else .bad
  | [.non, .cls B] => if excNames.contains B then .ok (.bl false) else .bad
  | [.exc C, .ty n] => if excNames.contains C && n == "ValueError" then .ok (.bl true) else .bad
  | [.non, .ty n] => if ["int", "bool", "str", "tuple", "list", "ValueError"].contains n then .ok (.bl false) else .bad
  | [.bl _, .ty n] => if ["int", "bool", "str", "tuple", "list", "ValueError"].contains n then .ok (.bl (n == "int" || n == "bool")) else .bad
  | [.int _, .ty n] => if ["int", "bool", "str", "tuple", "list", "ValueError"].contains n then .ok (.bl (n == "int")) else .bad
  | [.str _, .ty n] => if ["int", "bool", "str", "tuple", "list", "ValueError"].contains n then .ok (.bl (n == "str")) else .bad
  | [.tup _, .ty n] => if ["int", "bool", "str", "tuple", "list", "ValueError"].contains n then .ok (.bl (n == "tuple")) else .bad
  | [.lst _, .ty n] => if ["int", "bool", "str", "tuple", "list", "ValueError"].contains n then .ok (.bl (n == "list")) else .bad
  | _ => .bad
noncomputable def isiAny (d : D) : List D → R D
  | [] => .ok (.bl false)
  | c :: r => (bIsi [d, c]).bind fun x => truth x (.ok (.bl true)) (isiAny d r)
noncomputable def bIsiT : List D → R D
  | [d, .tup cs] => isiAny d cs
  | _ => .bad
noncomputable def noOwn (δ : Dt) : Dt := δ.map fun c => match c with | some (.own _) => none | c => c
noncomputable def view (δ : Dt) : Dt := δ.map fun c => match c with | some (.own ds) => some (.lst ds) | c => c
noncomputable def pass_ : S := .nx
noncomputable def asg (i : Nat) (δ : Dt) (r : R D) : O := match r with
  | .ok d => .nx (δ.set i (some d))
  | .ex C => .ex C (noOwn δ)
  | .bad => .bad
noncomputable def xpr (δ : Dt) (r : R D) : O := match r with
  | .ok _ => .nx δ
  | .ex C => .ex C (noOwn δ)
  | .bad => .bad
noncomputable def rtn (δ : Dt) (r : R D) : O := match r with
  | .ok d => .rt d
  | .ex C => .ex C (noOwn δ)
  | .bad => .bad
noncomputable def ifO (δ : Dt) (r : R D) (a b : O) : O := match r with
  | .ok (.bl true) => a
  | .ok (.bl false) => b
  | .ex C => .ex C (noOwn δ)
  | _ => .bad
noncomputable def assign (i : Nat) (g : E) : S := fun δ => asg i δ (g δ)
noncomputable def expr (g : E) : S := fun δ => xpr δ (g δ)
noncomputable def ret (g : E) : S := fun δ => rtn δ (g δ)
noncomputable def retN : S := fun _ => .rt .non
noncomputable def retV (g : E) : S := fun δ => rtn δ (g (view δ))
noncomputable def ownNew (i : Nat) : S := fun δ => .nx (δ.set i (some (.own [])))
noncomputable def onOwn (i : Nat) (δ : Dt) (f : List D → O) : O := match δ[i]? with
  | some (some (.own ds)) => f ds
  | _ => .bad
noncomputable def appO (i : Nat) (δ : Dt) (ds : List D) (r : R D) : O := match r with
  | .ok d => if D.flat d = true ∧ ds.length < 100000 then .nx (δ.set i (some (.own (ds ++ [d])))) else .bad
  | .ex C => .ex C (noOwn δ)
  | .bad => .bad
noncomputable def ownApp (i : Nat) (g : E) : S := fun δ => onOwn i δ fun ds => appO i δ ds (g (view δ))
noncomputable def ownRev (i : Nat) : S := fun δ => onOwn i δ fun ds => .nx (δ.set i (some (.own ds.reverse)))
noncomputable def asgF (i : Nat) (δ : Dt) (r : R D) : O := match r with
  | .ok d => if D.flat d = true then .nx (δ.set i (some d)) else .bad
  | .ex C => .ex C (noOwn δ)
  | .bad => .bad
noncomputable def assignV (i : Nat) (g : E) : S := fun δ => asgF i δ (g (view δ))
noncomputable def ifsV (c : E) (a b : S) : S := fun δ => ifO δ (c (view δ)) (a δ) (b δ)
noncomputable def takO (i : Nat) (δ : Dt) (r : R D) : O := match r with
  | .ok (.lst rs) => .nx (δ.set i (some (.own rs)))
  | .ex C => .ex C (noOwn δ)
  | _ => .bad
noncomputable def ownComp (i : Nat) (g : E) : S := fun δ => takO i δ (g (view δ))
noncomputable def ownTake (i : Nat) (g : E) : S := fun δ => takO i δ (g δ)
noncomputable def setO (i : Nat) (δ : Dt) (ds : List D) (v k : R D) : O := match v, k with
  | .ok d, .ok (.int k) => if D.flat d = true ∧ 0 ≤ k ∧ k < ds.length then .nx (δ.set i (some (.own (ds.set k.toNat d)))) else .bad
  | _, _ => .bad
noncomputable def ownSet (i : Nat) (gk gv : E) : S := fun δ => onOwn i δ fun ds => setO i δ ds (gv (view δ)) (gk (view δ))
noncomputable def pub (i : Nat) (δ : Dt) : Dt := match δ[i]? with
  | some (some (.own ds)) => δ.set i (some (.lst ds))
  | _ => δ
noncomputable def pubS (i : Nat) (s : S) : S := fun δ => s (pub i δ)
noncomputable def ifs (c : E) (a b : S) : S := fun δ => ifO δ (c δ) (a δ) (b δ)
noncomputable def O.then (o : O) (s : S) : O := match o with
  | .nx δ => s δ
  | o => o
noncomputable def seq (a b : S) : S := fun δ => (a δ).then b
noncomputable def brk : S := .bk
noncomputable def cont : S := .ct
noncomputable def raise (C : String) : S := .mk C
noncomputable def trn (o : O) (k : S) : O := match o with
  | .nx δ1 => k δ1
  | .ct δ1 => k δ1
  | .bk δ1 => .nx δ1
  | o => o
noncomputable def forL (i : Nat) (body : S) : List D → S
  | [], δ => .nx δ
  | d :: ds, δ => trn (body (δ.set i (some d))) (forL i body ds)
noncomputable def ovL (δ : Dt) (r : R D) (k : List D → O) : O := match r with
  | .ok (.lst ds) => k ds
  | .ex C => .ex C (noOwn δ)
  | _ => .bad
noncomputable def ovT (δ : Dt) (r : R D) (k : List D → O) : O := match r with
  | .ok (.tup ds) => k ds
  | .ex C => .ex C (noOwn δ)
  | _ => .bad
noncomputable def forsL (i : Nat) (g : E) (body : S) : S := fun δ => ovL δ (g δ) fun ds => forL i body ds δ
noncomputable def forsT (i : Nat) (g : E) (body : S) : S := fun δ => ovT δ (g δ) fun ds => forL i body ds δ
noncomputable def ovI (δ : Dt) (r : R (List D)) (k : List D → O) : O := match r with
  | .ok ds => k ds
  | .ex C => .ex C (noOwn δ)
  | .bad => .bad
noncomputable def forI (i : Nat) (it : IT) (body : S) : S := fun δ => ovI δ (it δ) fun ds => forL i body ds δ
noncomputable def ovR (δ : Dt) (r : R D) (k : List D → O) : O := match r with
  | .ok (.int hi) => if -(2 ^ 62) ≤ hi ∧ hi < 2 ^ 62 then k (rngD 0 hi) else .bad
  | .ex C => .ex C (noOwn δ)
  | _ => .bad
noncomputable def forR1 (i : Nat) (b : E) (body : S) : S := fun δ => ovR δ (b δ) fun ds => forL i body ds δ
noncomputable def forget (i : Nat) (o : O) : O := match o with
  | .nx δ => .nx (δ.set i none)
  | _ => .bad
noncomputable def tryO (o : O) (B : String) (i : Nat) (suite : S) : O := match o with
  | .nx δ1 => .nx δ1
  | .ex C δ1 => if exSub C B then forget i (suite ((noOwn δ1).set i (some (.exc C)))) else .bad
  | _ => .bad
noncomputable def try_ (body : S) (B : String) (i : Nat) (suite : S) : S := fun δ => tryO (body δ) B i suite
noncomputable def whileN (c : E) (body : S) : Nat → S
  | 0, _ => .bad
  | n + 1, δ => match c δ with
    | .ok (.bl true) => trn (body δ) (whileN c body n)
    | .ok (.bl false) => .nx δ
    | _ => .bad
open Classical in
noncomputable def while_ (c : E) (body : S) : S := fun δ => if h : ∃ n, whileN c body n δ ≠ .bad then whileN c body h.choose δ else .bad
noncomputable def O.res : O → R D
  | .rt d => .ok d
  | .nx _ => .ok .non
  | .ex C _ => .ex C
  | .mk C _ => .ex C
  | _ => .bad
noncomputable def start (n m : Nat) (ds : List D) : Dt := ds.map some ++ List.replicate (m - n) none
noncomputable def Good (f : List D → R D) : Prop := ∀ ns : List Int, ns.length ≤ 63 → (∀ m ∈ ns, nb m ≤ 2 ^ 20) → f [.lst (ns.map .int)] = .ok (.bl true)
noncomputable def fn (n m : Nat) (body : S) : List D → R D := fun ds => if ds.length = n then (body (start n m ds)).res else .bad
end EV
namespace ES
open PySem PySem.Spec PyProof.Rows L2 EV
noncomputable def excO (a C : Addr) : HO := .ext fun h => ∃ o vs, h.get? a = some o ∧ o.cls = .ref C ∧ o.data = .fields vs
mutual
inductive Rep (K : PySem.W.Frag) (mg : Str → Option Value) (H : Hp) : V → D → Prop
  | non : Rep K mg H .non .non
  | bl (b : Bool) : Rep K mg H (.bl b) (.bl b)
  | int (i : Int) : Rep K mg H (.int i) (.int i)
  | str (x : Str) : Rep K mg H (.str x) (.str x)
  | tup {a : Addr} {xs : List V} {ds : List D} : SqT K H a xs → Reps K mg H xs ds → Rep K mg H (.ref a) (.tup ds)
  | lst {a : Addr} {xs : List V} {ds : List D} : SqL K H a xs → Reps K mg H xs ds → Rep K mg H (.ref a) (.lst ds)
  | ty (n : String) : Rep K mg H (.ty n) (.ty n)
  | cls {a : Addr} {n : String} : mg n = some (.ref a) → Rep K mg H (.ref a) (.cls n)
  | exc {a C : Addr} {n : String} : mg n = some (.ref C) → H a = some (excO a C) → Rep K mg H (.ref a) (.exc n)
  | ins {a C dx : Addr} {n : String} {fs : List (Str × V)} {ds : List (String × D)} : mg n = some (.ref C) → H a = some (.ins C dx fs) → Repf K mg H fs ds → Rep K mg H (.ref a) (.ins n ds)
inductive Reps (K : PySem.W.Frag) (mg : Str → Option Value) (H : Hp) : List V → List D → Prop
  | nil : Reps K mg H [] []
  | cons {v : V} {d : D} {vs : List V} {ds : List D} : Rep K mg H v d → Reps K mg H vs ds → Reps K mg H (v :: vs) (d :: ds)
inductive Repf (K : PySem.W.Frag) (mg : Str → Option Value) (H : Hp) : List (Str × V) → List (String × D) → Prop
  | nil : Repf K mg H [] []
  | cons {x : String} {v : V} {d : D} {vs : List (Str × V)} {ds : List (String × D)} : Rep K mg H v d → Repf K mg H vs ds → Repf K mg H (((x : Str), v) :: vs) ((x, d) :: ds)
end
theorem same_seqT {K : PySem.W.Frag} {H H' : Hp} {a : Addr} {xs : List V} (e : Same H H') (h : SqT K H a xs) : SqT K H' a xs := by
  rcases h with (h | ⟨o, h⟩) | h
  · exact .inl (.inl (e _ _ h))
  · exact .inl (.inr ⟨o, e _ _ h⟩)
  · exact .inr h
section
variable {K : PySem.W.Frag} {mg : Str → Option Value} {H H' : Hp}
mutual
theorem Rep.mono (s : Same H H') : ∀ {v : V} {d : D}, Rep K mg H v d → Rep K mg H' v d
  | _, _, .non => .non
  | _, _, .bl b => .bl b
  | _, _, .int i => .int i
  | _, _, .str x => .str x
  | _, _, .tup h r => .tup (same_seqT s h) (Reps.mono s r)
  | _, _, .lst h r => .lst (s.seq h) (Reps.mono s r)
  | _, _, .ty n => .ty n
  | _, _, .cls h => .cls h
  | _, _, .exc h e => .exc h (s _ _ e)
  | _, _, .ins h e r => .ins h (s _ _ e) (Repf.mono s r)
theorem Reps.mono (s : Same H H') : ∀ {vs : List V} {ds : List D}, Reps K mg H vs ds → Reps K mg H' vs ds
  | _, _, .nil => .nil
  | _, _, .cons r t => .cons (Rep.mono s r) (Reps.mono s t)
theorem Repf.mono (s : Same H H') : ∀ {vs : List (Str × V)} {ds : List (String × D)}, Repf K mg H vs ds → Repf K mg H' vs ds
  | _, _, .nil => .nil
  | _, _, .cons r t => .cons (Rep.mono s r) (Repf.mono s t)
end
theorem Reps.length : ∀ {vs : List V} {ds : List D}, Reps K mg H vs ds → vs.length = ds.length
  | _, _, .nil => rfl
  | _, _, .cons _ t => congrArg (· + 1) (Reps.length t)
theorem Reps.get : ∀ {vs : List V} {ds : List D} {i : Nat} {d : D}, Reps K mg H vs ds → ds[i]? = some d → ∃ v, vs[i]? = some v ∧ Rep K mg H v d
  | _, _, _, _, .nil, e => by simp at e
  | _, _, 0, _, .cons r _, e => by simp at e; subst e; exact ⟨_, rfl, r⟩
  | _, _, i + 1, d, .cons _ t, e => by
    obtain ⟨v, h1, h2⟩ := Reps.get (i := i) (d := d) t (by simpa using e)
    exact ⟨v, by simpa using h1, h2⟩
theorem Reps.append : ∀ {vs ws : List V} {ds es : List D}, Reps K mg H vs ds → Reps K mg H ws es → Reps K mg H (vs ++ ws) (ds ++ es)
  | _, _, _, _, .nil, s => s
  | _, _, _, _, .cons r t, s => .cons r (Reps.append t s)
theorem Reps.ints (ns : List Int) : Reps K mg H (ns.map V.int) (ns.map D.int) := by
  induction ns with
  | nil => exact .nil
  | cons n r ih => exact .cons (.int n) ih
theorem ofStr_inj {x y : String} (h : (Str.ofString x) = Str.ofString y) : x = y := by
  rw [Str.ofString_eq_toList, Str.ofString_eq_toList] at h
  have h1 : (x.toList.map Char.toNat).toArray = (y.toList.map Char.toNat).toArray := congrArg Str.cps h
  have h2 : x.toList.map Char.toNat = y.toList.map Char.toNat := by simpa using h1
  have h3 : ∀ (l m : List Char), l.map Char.toNat = m.map Char.toNat → l = m := by
    intro l
    induction l with
    | nil => intro m e; cases m with | nil => rfl | cons _ _ => cases e
    | cons c r ih =>
      intro m e
      cases m with
      | nil => cases e
      | cons c' r' =>
        rw [List.map_cons, List.map_cons, List.cons.injEq] at e
        rw [Char.ext (UInt32.toNat_inj.mp e.1), ih r' e.2]
  exact String.toList_inj.mp (h3 _ _ h2)
theorem ofStr_beq (x y : String) : ((Str.ofString x) == Str.ofString y) = (x == y) := by
  rw [Bool.eq_iff_iff, beq_iff_eq, beq_iff_eq]
  exact ⟨ofStr_inj, fun e => by rw [e]⟩
theorem Repf.lookup : ∀ {fs : List (Str × V)} {ds : List (String × D)} {x : String} {d : D}, Repf K mg H fs ds → ds.lookup x = some d → ∃ v, fs.lookup (x : Str) = some v ∧ Rep K mg H v d
  | _, _, _, _, .nil, e => by cases e
  | (_, v) :: fs, (y, d') :: ds, x, d, .cons r t, e => by
    rw [List.lookup_cons] at e ⊢
    rw [ofStr_beq]
    cases q : (x == y) with
    | true =>
      rw [q] at e
      have e' : d' = d := by simpa using e
      subst e'
      exact ⟨v, rfl, r⟩
    | false => rw [q] at e; exact Repf.lookup t e
theorem Repf.lookupN : ∀ {fs : List (Str × V)} {ds : List (String × D)} {x : String}, Repf K mg H fs ds → ds.lookup x = none → fs.lookup (x : Str) = none
  | _, _, _, .nil, e => rfl
  | (_, v) :: fs, (y, d') :: ds, x, .cons r t, e => by
    rw [List.lookup_cons] at e ⊢
    rw [ofStr_beq]
    cases q : (x == y) with
    | true => rw [q] at e; cases e
    | false => rw [q] at e; exact Repf.lookupN t e
end
noncomputable def Stt (K : PySem.W.Frag) (mg : Str → Option Value) (H : Hp) (σ : L2.St) (δ : Dt) : Prop :=
  σ.length = δ.length ∧ ∀ (i : Nat) (d : D), δ[i]? = some (some d) → (∀ ds, d ≠ .own ds) → ∃ v, σ[i]? = some (some v) ∧ Rep K mg H v d
theorem Stt.mono {K : PySem.W.Frag} {mg : Str → Option Value} {H H' : Hp} {σ : L2.St} {δ : Dt} (h : Stt K mg H σ δ) (s : Same H H') : Stt K mg H' σ δ :=
  ⟨h.1, fun i d e n => let ⟨v, a, b⟩ := h.2 i d e n; ⟨v, a, b.mono s⟩⟩
theorem Stt.set {K : PySem.W.Frag} {mg : Str → Option Value} {H : Hp} {σ : L2.St} {δ : Dt} {i : Nat} {v : V} {d : D} (h : Stt K mg H σ δ) (r : Rep K mg H v d) : Stt K mg H (σ.set i (some v)) (δ.set i (some d)) := by
  refine ⟨by rw [List.length_set, List.length_set]; exact h.1, fun j d' e n => ?_⟩
  by_cases hj : j = i
  · subst hj
    by_cases hl : j < δ.length
    · rw [List.getElem?_set_self hl] at e
      cases e
      exact ⟨v, by rw [List.getElem?_set_self (by rw [h.1]; exact hl)], r⟩
    · rw [List.getElem?_eq_none (by simp; omega)] at e
      cases e
  · rw [List.getElem?_set_ne (Ne.symm hj)] at e
    obtain ⟨u, a, b⟩ := h.2 j d' e n
    exact ⟨u, by rw [List.getElem?_set_ne (Ne.symm hj)]; exact a, b⟩
structure FlyX (P : Program) (w : World) (outer : List Env) (H : Hp) (s : Shared) (C : Addr) (H' : Hp) (ea : Addr) (s' : Shared) : Prop where
  os : s'.os = s.os
  bare : AllBare s'.gens
  un : Un (frs outer) [] H H' s.heap s'.heap
  hok : HOk P w H' s'.heap
  same : Same H H'
  new : s.heap.get? ea = none
  fly : ∃ a0 B, Heap.FlyingW B outer ea (.ref C) a0 s'.heap ∧ (∀ b o, s.heap.get? b = some o → H b = none → b ∉ frs outer → B.get? b = some o) ∧ (∀ b u o, H' b = some u → s'.heap.get? b = some o → B.get? b = some o)
noncomputable def ew (X : Cx) (C : Addr) (σ : L2.St) (H' : Hp) : Prop := ∀ pins H s ea s', Inv X pins σ H s → FlyX X.prog X.w X.stack H s C H' ea s' → X.xe (.ref ea) s'
noncomputable def em (X : Cx) (C : Addr) (σ : L2.St) (H' : Hp) : Prop := ∀ pins s h' ea vs, Inv X pins σ H' s → Heap.MadeExcOf s.heap h' ea (.ref C) vs → X.xe (.ref ea) { s with heap := h' }
noncomputable def RQ (X : Cx) (σ : L2.St) (H : Hp) (r : R D) (Q : VK) : Prop := match r with
  | .ok d => ∀ v H', Same H H' → Rep X.K X.mg H' v d → Q v H'
  | .ex C => ∀ Ca, X.mg C = some (.ref Ca) → ∀ H', Same H H' → ew X Ca σ H'
  | .bad => False
noncomputable def tE (X : Cx) (g : E) : TE := fun σ H Q => ∃ δ, Stt X.K X.mg H σ δ ∧ RQ X σ H (g δ) Q
@[irreducible] noncomputable def SE (X : Cx) (e : Expr) (g : E) : Prop := PE X e (tE X g)
noncomputable def RT (X : Cx) (σ : L2.St) (H : Hp) (r : R D) (Q : Bool → Hp → Prop) : Prop := match r with
  | .ok (.bl b) => ∀ H', Same H H' → Q b H'
  | .ex C => ∀ Ca, X.mg C = some (.ref Ca) → ∀ H', Same H H' → ew X Ca σ H'
  | _ => False
noncomputable def tT (X : Cx) (g : E) : TT := fun σ H Q => ∃ δ, Stt X.K X.mg H σ δ ∧ RT X σ H (g δ) Q
@[irreducible] noncomputable def ST (X : Cx) (e : Expr) (g : E) : Prop := PT X e (tT X g)
@[irreducible] noncomputable def SW (X : Cx) (e : Expr) (g : E) : Prop := PW X e (tT X g)
noncomputable def RA (X : Cx) (σ : L2.St) (H : Hp) (r : R (List D)) (Q : List V → Hp → Prop) : Prop := match r with
  | .ok ds => ∀ vs H', Same H H' → Reps X.K X.mg H' vs ds → Q vs H'
  | .ex C => ∀ Ca, X.mg C = some (.ref Ca) → ∀ H', Same H H' → ew X Ca σ H'
  | .bad => False
noncomputable def tAs (X : Cx) (gs : List E) : TA := fun σ H Q => ∃ δ, Stt X.K X.mg H σ δ ∧ RA X σ H (evs gs δ) Q
@[irreducible] noncomputable def SA (X : Cx) (es : List Expr) (gs : List E) : Prop := PA X es (tAs X gs)
unseal SE ST SW SA
section
variable {X : Cx} {σ : L2.St} {H H1 : Hp}
theorem PE.weak {e : Expr} {t t' : TE} (h : PE X e t) (w : ∀ σ H Q, t' σ H Q → t σ H Q) : PE X e t' := fun pins s σ H Q I q => h pins s σ H Q I (w σ H Q q)
theorem PT.weak {e : Expr} {t t' : TT} (h : PT X e t) (w : ∀ σ H Q, t' σ H Q → t σ H Q) : PT X e t' := fun pins s σ H Q I q => h pins s σ H Q I (w σ H Q q)
theorem PW.weak {e : Expr} {t t' : TT} (h : PW X e t) (w : ∀ σ H Q, t' σ H Q → t σ H Q) : PW X e t' := fun wh pins s σ H Q I q => h wh pins s σ H Q I (w σ H Q q)
theorem PA.weak {es : List Expr} {t t' : TA} (h : PA X es t) (w : ∀ σ H Q, t' σ H Q → t σ H Q) : PA X es t' := fun pos pins s σ H Q I q => h pos pins s σ H Q I (w σ H Q q)
theorem PS.weak {st : Stmt} {t t' : TS} (h : PS X st t) (w : ∀ D σ H, t' D σ H → t D σ H) : PS X st t' := fun pins s σ H D I q => h pins s σ H D I (w D σ H q)
theorem PSs.weak {st : List Stmt} {t t' : TS} (h : PSs X st t) (w : ∀ D σ H, t' D σ H → t D σ H) : PSs X st t' := fun pins s σ H D I q => h pins s σ H D I (w D σ H q)
theorem RQ.to {r : R D} {Q Q' : VK} (h : RQ X σ H r Q) (g : ∀ v H', Same H H' → Q v H' → Q' v H') : RQ X σ H r Q' := by
  cases r with
  | ok d => exact fun v H' s r => g v H' s (h v H' s r)
  | ex C => exact h
  | bad => exact h
theorem RQ.mono {r : R D} {Q : VK} (s : Same H H1) (h : RQ X σ H r Q) : RQ X σ H1 r Q := by
  cases r with
  | ok d => exact fun v H' s' r => h v H' (s.trans s') r
  | ex C => exact fun Ca hc H' s' => h Ca hc H' (s.trans s')
  | bad => exact h
theorem RT.mono {r : R D} {Q : Bool → Hp → Prop} (s : Same H H1) (h : RT X σ H r Q) : RT X σ H1 r Q := by
  cases r with
  | ok d =>
    cases d with
    | bl b => exact fun H' s' => h H' (s.trans s')
    | _ => exact False.elim h
  | ex C => exact fun Ca hc H' s' => h Ca hc H' (s.trans s')
  | bad => exact h
theorem RQ.bind {r : R D} {f : D → R D} {Q : VK} (h : RQ X σ H (r.bind f) Q) : RQ X σ H r (fun v H' => Same H H' ∧ ∃ d, Rep X.K X.mg H' v d ∧ RQ X σ H' (f d) Q) := by
  cases r with
  | ok d => exact fun v H' s r => ⟨s, d, r, h.mono s⟩
  | ex C => exact h
  | bad => exact h
theorem RA.bind {r : R (List D)} {f : List D → R D} {Q : VK} (h : RQ X σ H (r.bind f) Q) : RA X σ H r (fun vs H' => Same H H' ∧ ∃ ds, Reps X.K X.mg H' vs ds ∧ RQ X σ H' (f ds) Q) := by
  cases r with
  | ok d => exact fun v H' s r => ⟨s, d, r, h.mono s⟩
  | ex C => exact h
  | bad => exact h
theorem RT.bind {r : R D} {f : D → R D} {Q : Bool → Hp → Prop} (h : RT X σ H (r.bind f) Q) : RQ X σ H r (fun v H' => Same H H' ∧ ∃ d, Rep X.K X.mg H' v d ∧ RT X σ H' (f d) Q) := by
  cases r with
  | ok d => exact fun v H' s r => ⟨s, d, r, h.mono s⟩
  | ex C => exact h
  | bad => exact False.elim h
end
structure Sc (X : Cx) (N : List Str) : Prop where
  n : X.N = N
  nd : N.Nodup
  vis : ∀ x ∈ N, Vis X.env.scope x
  dbg : ∀ x ∈ N, (x == ("__debug__" : Str)) = false ∧ (x == ("__classdict__" : Str)) = false
noncomputable def Sto (X : Cx) (x : Str) : Prop := Loc X.env.scope x ∧ (X.fn x = true ∨ X.env.scope.names.lookup x = some .local)
structure Gb (X : Cx) (x : Str) : Prop where
  g : X.env.scope.names.lookup x = some .globalImplicit
  d : (x == ("__debug__" : Str)) = false
  n : x ≠ "__name__"
section
variable {X : Cx} {N : List Str} {pos : Pos} {a b c e : Expr} {ga gb gc g : E}
theorem e_var (S : Sc X N) (i : Nat) {x : Str} (hN : N[i]? = some x) : SE X (.Name x pos) (var i) := by
  have hm : x ∈ N := List.mem_of_getElem? hN
  refine PE.weak (pe_var (i := i) (by rw [S.n]; exact hN) (S.vis x hm) (S.dbg x hm).1 (S.dbg x hm).2) fun σ H Q ⟨δ, hσ, h⟩ => ?_
  unfold var at h
  split at h
  · exact False.elim h
  · rename_i d _ hd
    obtain ⟨v, e, r⟩ := hσ.2 i d hd (by intro ds z; subst z; rename_i q; exact q ds rfl)
    exact ⟨v, e, h v H (Same.refl H) r⟩
  · exact False.elim h
theorem e_con {v : V} {d : D} (h : PE X e (tC v)) (r : ∀ H, Rep X.K X.mg H v d) : SE X e (con d) := PE.weak h fun σ H Q ⟨δ, hσ, q⟩ => q _ H (Same.refl H) (r H)
theorem e_int {i j} : SE X (.Constant (.int i) j pos) (con (.int i)) := e_con pe_int fun _ => .int i
theorem e_bl {b j} : SE X (.Constant (.bool b) j pos) (con (.bl b)) := e_con pe_bl fun _ => .bl b
theorem e_non {j} : SE X (.Constant .none j pos) (con .non) := e_con pe_non fun _ => .non
theorem e_str {x j} : SE X (.Constant (.str x) j pos) (con (.str x)) := e_con pe_str fun _ => .str x
theorem e_gInt {x : Str} {i : Int} (G : Gb X x) (h : ∃ t, X.mg x = some (.int i t)) : SE X (.Name x pos) (con (.int i)) := by
  obtain ⟨t, h⟩ := h
  exact e_con (pe_glob (v := .int i) G.g h ⟨t, rfl⟩ G.d) fun _ => .int i
theorem e_cls {x : String} {C : Addr} (G : Gb X x) (h : X.mg x = some (.ref C)) : SE X (.Name x pos) (con (.cls x)) := e_con (pe_glob (v := .ref C) G.g h rfl G.d) fun _ => .cls h
theorem e_ty {x : Str} {n : String} (G : Gb X x) (h : X.mg x = none) (hv : bootBuiltins x = some (.type n)) : SE X (.Name x pos) (con (.ty n)) :=
  e_con (pe_bltn (v := .ty n) G.g h hv rfl G.n G.d) fun _ => .ty n
noncomputable def rD (X : Cx) (f : D → D → R D) : R2 := fun x y H Q => ∃ dx dy d, Rep X.K X.mg H x dx ∧ Rep X.K X.mg H y dy ∧ f dx dy = .ok d ∧ ∀ v H', Same H H' → Rep X.K X.mg H' v d → Q v H'
noncomputable def NoX2 (f : D → D → R D) : Prop := ∀ x y C, f x y ≠ .ex C
theorem RQ.op {σ : L2.St} {H : Hp} {f : D → D → R D} (nx : NoX2 f) {x y : V} {dx dy : D} {Q : VK} (r1 : Rep X.K X.mg H x dx) (r2 : Rep X.K X.mg H y dy) (h : RQ X σ H (f dx dy) Q) : rD X f x y H Q := by
  cases e : f dx dy with
  | ok d => rw [e] at h; exact ⟨dx, dy, d, r1, r2, e, h⟩
  | ex C => exact absurd e (nx dx dy C)
  | bad => rw [e] at h; exact False.elim h
theorem bin_to {f : D → D → R D} {σ : L2.St} {H : Hp} {Q : VK} (h : tE X (EV.bin f ga gb) σ H Q) : tE X ga σ H fun x H1 => tE X gb σ H1 fun y H2 => ∃ dx dy, Rep X.K X.mg H2 x dx ∧ Rep X.K X.mg H2 y dy ∧ RQ X σ H2 (f dx dy) Q := by
  obtain ⟨δ, hσ, h⟩ := h
  refine ⟨δ, hσ, (RQ.bind h).to fun x H1 s1 ⟨_, dx, r1, h1⟩ => ?_⟩
  refine ⟨δ, hσ.mono s1, (RQ.bind h1).to fun y H2 s2 ⟨_, dy, r2, h2⟩ => ?_⟩
  exact ⟨dx, dy, r1.mono s2, r2, h2⟩
theorem e_bin {op : Operator} {f : D → D → R D} (nx : NoX2 f) (ho : OpR X (binaryOp op) (rD X f)) (ha : SE X a ga) (hb : SE X b gb) : SE X (.BinOp a op b pos) (EV.bin f ga gb) :=
  PE.weak (pe_op ho ha hb) fun σ H Q h => by
    obtain ⟨δ, hσ, q⟩ := bin_to h
    refine ⟨δ, hσ, q.to fun x H1 s1 ⟨δ1, hσ1, q1⟩ => ⟨δ1, hσ1, q1.to fun y H2 s2 ⟨dx, dy, r1, r2, q2⟩ => RQ.op nx r1 r2 q2⟩⟩
theorem e_cmp {op : CmpOp} {f : D → D → R D} (nx : NoX2 f) (ho : OpR X (compareOp op) (rD X f)) (ha : SE X a ga) (hb : SE X b gb) (hm : behindInMarks op b = false) : SE X (.Compare a [op] [b] pos) (EV.bin f ga gb) :=
  PE.weak (pe_cmpR ho ha hb hm) fun σ H Q h => by
    obtain ⟨δ, hσ, q⟩ := bin_to h
    refine ⟨δ, hσ, q.to fun x H1 s1 ⟨δ1, hσ1, q1⟩ => ⟨δ1, hσ1, q1.to fun y H2 s2 ⟨dx, dy, r1, r2, q2⟩ => RQ.op nx r1 r2 q2⟩⟩
theorem bin_toT {f : D → D → R D} {σ : L2.St} {H : Hp} {Q : Bool → Hp → Prop} (h : tT X (EV.bin f ga gb) σ H Q) : tE X ga σ H fun x H1 => tE X gb σ H1 fun y H2 => ∃ dx dy, Rep X.K X.mg H2 x dx ∧ Rep X.K X.mg H2 y dy ∧ RT X σ H2 (f dx dy) Q := by
  obtain ⟨δ, hσ, h⟩ := h
  refine ⟨δ, hσ, (RT.bind h).to fun x H1 s1 ⟨_, dx, r1, h1⟩ => ?_⟩
  refine ⟨δ, hσ.mono s1, (RT.bind h1).to fun y H2 s2 ⟨_, dy, r2, h2⟩ => ?_⟩
  exact ⟨dx, dy, r1.mono s2, r2, h2⟩
theorem RT.op {σ : L2.St} {H : Hp} {f : D → D → R D} (nx : NoX2 f) {x y : V} {dx dy : D} {Q : Bool → Hp → Prop} (r1 : Rep X.K X.mg H x dx) (r2 : Rep X.K X.mg H y dy) (h : RT X σ H (f dx dy) Q) : rD X f x y H fun v H' => ∃ k, v = .bl k ∧ Q k H' := by
  cases e : f dx dy with
  | ok d =>
    rw [e] at h
    cases d with
    | bl k => exact ⟨dx, dy, _, r1, r2, e, fun v H' s r => by cases r; exact ⟨k, rfl, h H' s⟩⟩
    | _ => exact False.elim h
  | ex C => exact absurd e (nx dx dy C)
  | bad => rw [e] at h; exact False.elim h
theorem t_cmp {op : CmpOp} {f : D → D → R D} (nx : NoX2 f) (ho : OpR X (compareOp op) (rD X f)) (ha : SE X a ga) (hb : SE X b gb) (hm : behindInMarks op b = false) : ST X (.Compare a [op] [b] pos) (EV.bin f ga gb) :=
  PT.weak (pt_cmpR ho ha hb hm) fun σ H Q h => by
    obtain ⟨δ, hσ, q⟩ := bin_toT h
    refine ⟨δ, hσ, q.to fun x H1 s1 ⟨δ1, hσ1, q1⟩ => ⟨δ1, hσ1, q1.to fun y H2 s2 ⟨dx, dy, r1, r2, q2⟩ => RT.op nx r1 r2 q2⟩⟩
theorem op_ofI {F : Value → Value → Sem Value} {f : D → D → R D} {C : Int → Int → Prop} {g : Int → Int → Int} (ho : OpR X F (rI C fun i j => .int (g i j)))
    (hf : ∀ dx dy d, f dx dy = .ok d → ∃ i j, dx = .int i ∧ dy = .int j ∧ C i j ∧ d = .int (g i j)) : OpR X F (rD X f) := by
  intro pins s σ H x y v u Q I rx ry ⟨dx, dy, d, r1, r2, e, q⟩
  obtain ⟨i, j, rfl, rfl, hc, rfl⟩ := hf dx dy d e
  cases r1
  cases r2
  exact ho pins s σ H _ _ v u Q I rx ry ⟨i, j, rfl, rfl, hc, q _ _ (Same.refl _) (.int _)⟩
theorem op_ofI0 {F : Value → Value → Sem Value} {f : D → D → R D} {g : Int → Int → Int} (ho : OpR X F (rI0 fun i j => .int (g i j)))
    (hf : ∀ dx dy d, f dx dy = .ok d → ∃ i j, dx = .int i ∧ dy = .int j ∧ d = .int (g i j)) : OpR X F (rD X f) := by
  intro pins s σ H x y v u Q I rx ry ⟨dx, dy, d, r1, r2, e, q⟩
  obtain ⟨i, j, rfl, rfl, rfl⟩ := hf dx dy d e
  cases r1
  cases r2
  exact ho pins s σ H _ _ v u Q I rx ry ⟨i, j, rfl, rfl, q _ _ (Same.refl _) (.int _)⟩
theorem op_ofB {F : Value → Value → Sem Value} {f : D → D → R D} {g : Int → Int → Bool} (ho : OpR X F (rI0 fun i j => .bl (g i j)))
    (hf : ∀ dx dy d, f dx dy = .ok d → ∃ i j, dx = .int i ∧ dy = .int j ∧ d = .bl (g i j)) : OpR X F (rD X f) := by
  intro pins s σ H x y v u Q I rx ry ⟨dx, dy, d, r1, r2, e, q⟩
  obtain ⟨i, j, rfl, rfl, rfl⟩ := hf dx dy d e
  cases r1
  cases r2
  exact ho pins s σ H _ _ v u Q I rx ry ⟨i, j, rfl, rfl, q _ _ (Same.refl _) (.bl _)⟩
end
theorem nb_eq (i : Int) : nb i = Builtin.Int.intBits i := by
  unfold nb Builtin.Int.intBits
  by_cases h : i = 0
  · rw [if_pos h, if_pos (by rw [h]; rfl)]
  · rw [if_neg h, if_neg (by simpa using h)]
theorem mulOk_ok {i j : Int} (h : MulOk i j) : IntMulOk i j := IntMulOk.of_le (m := nb i) (n := nb j) (Nat.le_of_eq (nb_eq i).symm) (Nat.le_of_eq (nb_eq j).symm) h
noncomputable def rCatL (K : PySem.W.Frag) : R2 := fun x y H Q => ∃ a b xs ys, x = .ref a ∧ y = .ref b ∧ SqL K H a xs ∧ SqL K H b ys ∧ xs.length + ys.length ≤ sizeLine ∧ ∀ p, H p = none → Q (.ref p) (upd H p (.lst (xs ++ ys)))
section
variable {X : Cx}
theorem same_upd {H : Hp} {p : Addr} (h : H p = none) (o : HO) : Same H (upd H p o) := fun b u q => by rw [upd_ne (ne_of_none q h)]; exact q
theorem list_addG (l b : Addr) (xs ys : Array Value) (n m : Nat) (d1 d2 : Option Addr) (s1 s2 : Array (Option Value)) (hz : xs.size + ys.size ≤ sizeLine) :
    Meets (Builtin.«list.__add__» ⟨[.ref l, .ref b], []⟩) (fun _ R s => s.heap.get? l = some { cls := .type "list", dict := d1, data := .seq xs n, slots := s1 } ∧ s.heap.get? b = some { cls := .type "list", dict := d2, data := .seq ys m, slots := s2 } ∧
      R (.ok (.ret (Value.ref s.heap.objs.size))) { s with heap := s.heap.push { cls := .type "list", data := .seq (xs ++ ys) } }) :=
  .of_wp fun prog w A R s h => by
    obtain ⟨hp, g, dd, tk, os⟩ := s
    obtain ⟨ha, hb, h⟩ := h
    have f3 := AutoSeq1.sub_list_list
    wp_walk using AutoSeq1.wpAny_loadPart' ha, AutoSeq1.wpAny_loadPart' hb
    exact ⟨_, rfl, h⟩
theorem op_catL : OpR X (binaryOp .Add) (rCatL X.K) := by
  intro pins s σ H x y v u Q I rx ry h
  obtain ⟨l, b, xs, zs, rfl, rfl, hH, hB, hz, q⟩ := h
  cases rx
  cases ry
  obtain ⟨its, r, ⟨⟨c1, d1, t1, s1⟩, n, e, g1, g2, g3⟩, _⟩ := I.list hH
  obtain ⟨its2, r2, ⟨⟨c2, d2, t2, s2⟩, n2, e2, k1, k2, k3⟩, _⟩ := I.list hB
  simp only at g1 g2 g3 k1 k2 k3
  subst g1 g2 g3 k1 k2 k3
  have hl := r.length
  have hl2 := r2.length
  refine concat_meets ⟨_, e, rfl⟩ ⟨_, e2, rfl⟩ noFill_list_add seq_list_add F.slot_list_add F.entry_list_add (F.args_list_add_2 _ _) (list_addG l b its.toArray its2.toArray n n2 _ _ _ _ (by rw [List.size_toArray, List.size_toArray]; omega)) ⟨e, e2, ?_⟩
  have ea : its.toArray ++ its2.toArray = (its ++ its2).toArray := by simp
  rw [ea]
  exact ⟨.ref _, _, I.lnew (t' := s.toks) (r.append r2) (by rw [List.length_append]; omega), rfl, q _ I.fresh⟩
theorem nx_ite {c : Prop} [Decidable c] {d : D} {C : String} : (if c then R.ok d else R.bad) ≠ R.ex C := by split <;> exact fun z => nomatch z
theorem nxAdd : NoX2 oAdd := fun x y C z => by unfold oAdd at z; split at z <;> first | cases z | exact nx_ite z
theorem op_addD : OpR X (binaryOp .Add) (rD X oAdd) := by
  intro pins s σ H x y v u Q I rx ry ⟨dx, dy, d, r1, r2, e, q⟩
  unfold oAdd at e
  split at e
  · cases e; cases r1; cases r2
    exact op_add pins s σ H _ _ v u Q I rx ry ⟨_, _, rfl, rfl, q _ _ (Same.refl _) (.int _)⟩
  · split at e
    · rename_i hz
      cases e; cases r1; cases r2
      exact op_add_str pins s σ H _ _ v u Q I rx ry ⟨_, _, rfl, rfl, Nat.le_trans hz (by rw [sizeLine_eq]; decide), q _ _ (Same.refl _) (.str _)⟩
    · cases e
  · split at e
    · rename_i hz
      cases e; cases r1; cases r2
      rename_i a xs h1 r1 b ys h2 r2
      exact op_catL pins s σ H _ _ v u Q I rx ry ⟨a, b, xs, ys, rfl, rfl, h1, h2, by rw [r1.length, r2.length]; exact Nat.le_trans hz (by rw [sizeLine_eq]; decide), fun p hp => q _ _ (same_upd hp _) (.lst (SqL.of upd_same) ((r1.append r2).mono (same_upd hp _)))⟩
    · cases e
  · split at e
    · rename_i hz
      cases e; cases r1; cases r2
      rename_i a xs h1 r1 b ys h2 r2
      refine op_catT pins s σ H _ _ v u Q I rx ry ⟨a, b, xs, ys, rfl, rfl, h1, h2, fun z => hz.1 ?_, by rw [r1.length, r2.length]; exact Nat.le_trans hz.2 (by rw [sizeLine_eq]; decide), fun z => q _ _ (Same.refl _) ?_, fun _ p hp => q _ _ (same_upd hp _) (.tup (SqT.of upd_same) ((r1.append r2).mono (same_upd hp _)))⟩
      · subst z
        cases r1; rfl
      · subst z
        cases r2
        rw [List.append_nil]
        exact .tup h1 r1
    · cases e
  · cases e
theorem nxSub : NoX2 oSub := fun x y C z => by unfold oSub at z; split at z <;> cases z
theorem op_subD : OpR X (binaryOp .Sub) (rD X oSub) := op_ofI0 op_sub fun dx dy d e => by
  unfold oSub at e; split at e
  · cases e; exact ⟨_, _, rfl, rfl, rfl⟩
  · cases e
theorem nxMul : NoX2 oMul := fun x y C z => by unfold oMul at z; split at z <;> first | cases z | exact nx_ite z
theorem op_mulD : OpR X (binaryOp .Mult) (rD X oMul) := op_ofI (C := IntMulOk) (opI fun _ _ _ _ _ _ _ hc q => mul_int q hc) fun dx dy d e => by
  unfold oMul at e; split at e
  · split at e
    · rename_i h; cases e; exact ⟨_, _, rfl, rfl, mulOk_ok h, rfl⟩
    · cases e
  · cases e
theorem nxDiv : NoX2 oDiv := fun x y C z => by unfold oDiv at z; split at z <;> first | cases z | exact nx_ite z
theorem noPy {i j : Int} (h : DivOk i j) : Builtin.divisionGoesByPylong i j = false := by
  obtain ⟨h0, h⟩ := h
  show (decide ((if j == 0 then 0 else j.natAbs.log2 / 30 + 1) > 300) && decide ((if i == 0 then 0 else i.natAbs.log2 / 30 + 1) > (if j == 0 then 0 else j.natAbs.log2 / 30 + 1) + 150)) = false
  have ej : (j == 0) = false := by simp; omega
  unfold nb at h
  rw [if_neg (by omega : ¬ j = 0)] at h
  rw [ej]
  simp only [Bool.false_eq_true, if_false]
  rw [Bool.and_eq_false_iff, decide_eq_false_iff_not, decide_eq_false_iff_not]
  by_cases hi : i = 0
  · rw [if_pos (by simp [hi])]; omega
  · rw [if_neg (by simp [hi])]
    rw [if_neg hi] at h
    omega
theorem op_divD : OpR X (binaryOp .FloorDiv) (rD X oDiv) := op_ofI (C := DivOk) (g := fun i j => i / j) (opI fun i j _ _ _ _ _ hc q => by
    have h1 : (0 : Int) < j := hc.1
    exact floordiv_int (by omega) (by rw [Int.fdiv_eq_ediv_of_nonneg i (by omega)]; exact q) (.inl (noPy hc))) fun dx dy d e => by
  unfold oDiv at e; split at e
  · split at e
    · rename_i h; cases e; exact ⟨_, _, rfl, rfl, h, rfl⟩
    · cases e
  · cases e
theorem nxMod : NoX2 oMod := fun x y C z => by unfold oMod at z; split at z <;> first | cases z | exact nx_ite z
theorem op_modD : OpR X (binaryOp .Mod) (rD X oMod) := op_ofI (C := fun _ j => 0 < j) (g := fun i j => i % j) op_mod fun dx dy d e => by
  unfold oMod at e; split at e
  · split at e
    · rename_i h; cases e; exact ⟨_, _, rfl, rfl, h, rfl⟩
    · cases e
  · cases e
theorem nxShl : NoX2 oShl := fun x y C z => by unfold oShl at z; split at z <;> first | cases z | exact nx_ite z
theorem op_shlD : OpR X (binaryOp .LShift) (rD X oShl) := op_ofI (C := fun i j => 0 ≤ j ∧ (nb i : Int) + j ≤ 134217728) (g := fun i j => i * pw j) (opI fun _ _ _ _ _ _ _ hc q => lshift_int hc.1 (by rw [← nb_eq]; exact hc.2) q) fun dx dy d e => by
  unfold oShl at e; split at e
  · split at e
    · rename_i h; cases e; exact ⟨_, _, rfl, rfl, h, rfl⟩
    · cases e
  · cases e
theorem nxShr : NoX2 oShr := fun x y C z => by unfold oShr at z; split at z <;> first | cases z | exact nx_ite z
theorem op_shrD : OpR X (binaryOp .RShift) (rD X oShr) := op_ofI (C := fun _ j => 0 ≤ j) (g := fun i j => i / 2 ^ j.toNat) op_shr fun dx dy d e => by
  unfold oShr at e; split at e
  · split at e
    · rename_i h; cases e; exact ⟨_, _, rfl, rfl, h, rfl⟩
    · cases e
  · cases e
theorem nxPow : NoX2 oPow := fun x y C z => by unfold oPow at z; split at z <;> first | cases z | exact nx_ite z
theorem op_powD : OpR X (binaryOp .Pow) (rD X oPow) := op_ofI (C := fun i j => 0 ≤ j ∧ (nb i : Int) * j ≤ 134217728) (g := fun i j => i ^ j.toNat) (opI fun _ _ _ _ _ _ _ hc q => pow_int hc.1 (by rw [← nb_eq]; exact hc.2) q) fun dx dy d e => by
  unfold oPow at e; split at e
  · split at e
    · rename_i h; cases e; exact ⟨_, _, rfl, rfl, h, rfl⟩
    · cases e
  · cases e
theorem nxBand : NoX2 oBand := fun x y C z => by unfold oBand at z; split at z <;> first | cases z | exact nx_ite z
theorem band_nn {i j : Int} (hi : 0 ≤ i) (hj : 0 ≤ j) : Builtin.bitAnd i j = ((i.toNat &&& j.toNat : Nat) : Int) := by
  unfold Builtin.bitAnd
  rw [decide_eq_true hi, decide_eq_true hj]
theorem op_bandD : OpR X (binaryOp .BitAnd) (rD X oBand) := op_ofI0 op_and fun dx dy d e => by
  unfold oBand at e; split at e
  · split at e
    · rename_i h; cases e; exact ⟨_, _, rfl, rfl, by rw [band_nn h.1 h.2]⟩
    · cases e
  · cases e
theorem nxLt : NoX2 oLt := fun x y C z => by unfold oLt at z; split at z <;> cases z
theorem nxLe : NoX2 oLe := fun x y C z => by unfold oLe at z; split at z <;> cases z
theorem nxGt : NoX2 oGt := fun x y C z => by unfold oGt at z; split at z <;> cases z
theorem nxGe : NoX2 oGe := fun x y C z => by unfold oGe at z; split at z <;> cases z
theorem op_ltD : OpR X (compareOp .Lt) (rD X oLt) := op_ofB op_lt fun dx dy d e => by
  unfold oLt at e; split at e
  · cases e; exact ⟨_, _, rfl, rfl, rfl⟩
  · cases e
theorem op_leD : OpR X (compareOp .LtE) (rD X oLe) := op_ofB op_le fun dx dy d e => by
  unfold oLe at e; split at e
  · cases e; exact ⟨_, _, rfl, rfl, rfl⟩
  · cases e
theorem op_gtD : OpR X (compareOp .Gt) (rD X oGt) := op_ofB op_gt fun dx dy d e => by
  unfold oGt at e; split at e
  · cases e; exact ⟨_, _, rfl, rfl, rfl⟩
  · cases e
theorem op_geD : OpR X (compareOp .GtE) (rD X oGe) := op_ofB op_ge fun dx dy d e => by
  unfold oGe at e; split at e
  · cases e; exact ⟨_, _, rfl, rfl, rfl⟩
  · cases e
end
section
variable {X : Cx} {pos : Pos} {a b c e : Expr} {ga gb gc g : E}
theorem e_add (ha : SE X a ga) (hb : SE X b gb) : SE X (.BinOp a .Add b pos) (EV.bin oAdd ga gb) := e_bin nxAdd op_addD ha hb
theorem e_sub (ha : SE X a ga) (hb : SE X b gb) : SE X (.BinOp a .Sub b pos) (EV.bin oSub ga gb) := e_bin nxSub op_subD ha hb
theorem e_mul (ha : SE X a ga) (hb : SE X b gb) : SE X (.BinOp a .Mult b pos) (EV.bin oMul ga gb) := e_bin nxMul op_mulD ha hb
theorem e_div (ha : SE X a ga) (hb : SE X b gb) : SE X (.BinOp a .FloorDiv b pos) (EV.bin oDiv ga gb) := e_bin nxDiv op_divD ha hb
theorem e_mod (ha : SE X a ga) (hb : SE X b gb) : SE X (.BinOp a .Mod b pos) (EV.bin oMod ga gb) := e_bin nxMod op_modD ha hb
theorem e_shl (ha : SE X a ga) (hb : SE X b gb) : SE X (.BinOp a .LShift b pos) (EV.bin oShl ga gb) := e_bin nxShl op_shlD ha hb
theorem e_shr (ha : SE X a ga) (hb : SE X b gb) : SE X (.BinOp a .RShift b pos) (EV.bin oShr ga gb) := e_bin nxShr op_shrD ha hb
theorem e_pow (ha : SE X a ga) (hb : SE X b gb) : SE X (.BinOp a .Pow b pos) (EV.bin oPow ga gb) := e_bin nxPow op_powD ha hb
theorem e_band (ha : SE X a ga) (hb : SE X b gb) : SE X (.BinOp a .BitAnd b pos) (EV.bin oBand ga gb) := e_bin nxBand op_bandD ha hb
theorem e_lt (ha : SE X a ga) (hb : SE X b gb) : SE X (.Compare a [.Lt] [b] pos) (EV.bin oLt ga gb) := e_cmp nxLt op_ltD ha hb (nomark _)
theorem e_gt (ha : SE X a ga) (hb : SE X b gb) : SE X (.Compare a [.Gt] [b] pos) (EV.bin oGt ga gb) := e_cmp nxGt op_gtD ha hb (nomark _)
theorem e_ge (ha : SE X a ga) (hb : SE X b gb) : SE X (.Compare a [.GtE] [b] pos) (EV.bin oGe ga gb) := e_cmp nxGe op_geD ha hb (nomark _)
theorem t_lt (ha : SE X a ga) (hb : SE X b gb) : ST X (.Compare a [.Lt] [b] pos) (EV.bin oLt ga gb) := t_cmp nxLt op_ltD ha hb (nomark _)
theorem t_le (ha : SE X a ga) (hb : SE X b gb) : ST X (.Compare a [.LtE] [b] pos) (EV.bin oLe ga gb) := t_cmp nxLe op_leD ha hb (nomark _)
theorem t_gt (ha : SE X a ga) (hb : SE X b gb) : ST X (.Compare a [.Gt] [b] pos) (EV.bin oGt ga gb) := t_cmp nxGt op_gtD ha hb (nomark _)
theorem t_ge (ha : SE X a ga) (hb : SE X b gb) : ST X (.Compare a [.GtE] [b] pos) (EV.bin oGe ga gb) := t_cmp nxGe op_geD ha hb (nomark _)
theorem e_neg (ha : SE X a ga) : SE X (.UnaryOp .USub a pos) (un oNeg ga) :=
  PE.weak (pe_un un_neg ha) fun σ H Q ⟨δ, hσ, h⟩ => ⟨δ, hσ, (RQ.bind h).to fun v H1 s1 ⟨_, d, r, q⟩ => by
    unfold oNeg at q
    split at q
    · cases r; exact ⟨_, rfl, q _ _ (Same.refl _) (.int _)⟩
    · exact False.elim q⟩
end
end ES
namespace ES
open PySem PySem.Spec PyProof.Rows L2 EV
unseal SE ST SW SA
mutual
noncomputable def py : D → PyData
  | .non => .none
  | .bl b => .bool b
  | .int i => .int i
  | .str x => .str x
  | .tup ds => .tuple (pys ds)
  | .lst ds => .list (pys ds)
  | _ => .dict []
noncomputable def pys : List D → List PyData
  | [] => []
  | d :: r => py d :: pys r
end
section
variable {X : Cx} {pins : List (Addr × Obj)} {σ : L2.St} {H : Hp} {s : Shared}
mutual
theorem reads_of (I : Inv X pins σ H s) : ∀ {v : V} {d : D} {u : Value}, (py d).canLay0 = true → Rep X.K X.mg H v d → RelV v u → ∃ as, Reads s.heap u (py d) as
  | _, _, u, _, .non, r => by cases r; exact ⟨_, .none⟩
  | _, _, u, _, .bl b, r => by cases r; exact ⟨_, .bool b⟩
  | _, _, u, _, .int i, r => by obtain ⟨t, rfl⟩ := r; exact ⟨_, .int i t⟩
  | _, _, u, _, .str x, r => by obtain ⟨t, rfl⟩ := r; exact ⟨_, .str x t⟩
  | _, .tup ds, u, hc, .tup hq rs, r => by
    cases r
    obtain ⟨its, rv, ⟨o, h1, h2, n, h3⟩, _⟩ := I.tuple hq
    obtain ⟨as, ra⟩ := readsAll_of I (by simpa [py, PyData.canLay0] using hc) rs rv
    exact ⟨_, .tuple h1 h2 h3 (by simpa using ra)⟩
  | _, .lst ds, u, hc, .lst hq rs, r => by
    cases r
    obtain ⟨its, rv, ⟨o, n, h1, h2, _, h3⟩, _⟩ := I.list hq
    obtain ⟨as, ra⟩ := readsAll_of I (by simpa [py, PyData.canLay0] using hc) rs rv
    exact ⟨_, .list h1 h2 h3 (by simpa using ra)⟩
  | _, .ty n, u, hc, _, _ => by simp [py, PyData.canLay0] at hc
  | _, .cls a, u, hc, _, _ => by simp [py, PyData.canLay0] at hc
  | _, .exc a, u, hc, _, _ => by simp [py, PyData.canLay0] at hc
  | _, .ins a b, u, hc, _, _ => by simp [py, PyData.canLay0] at hc
theorem readsAll_of (I : Inv X pins σ H s) : ∀ {vs : List V} {ds : List D} {us : List Value}, PyData.canLayAll0 (pys ds) = true → Reps X.K X.mg H vs ds → Vals vs us → ∃ as, ReadsAll s.heap us (pys ds) as
  | _, _, _, _, .nil, r => by cases r; exact ⟨_, .nil⟩
  | _, dd :: dr, _, hc, .cons r t, q => by
    cases q with
    | cons q1 q2 =>
      have hc' : PyData.canLay0 (py dd) = true ∧ PyData.canLayAll0 (pys dr) = true := by simpa [pys, PyData.canLayAll0] using hc
      obtain ⟨a1, r1⟩ := reads_of I hc'.1 r q1
      obtain ⟨a2, r2⟩ := readsAll_of I hc'.2 t q2
      exact ⟨_, .cons r1 r2⟩
end
end
mutual
theorem pl_lay : ∀ (n : Nat) (d : D), D.pl n d = true → (py d).canLay0 = true ∧ (py d).depth ≤ n
  | _, .non, _ => ⟨rfl, Nat.zero_le _⟩
  | _, .bl _, _ => ⟨rfl, Nat.zero_le _⟩
  | _, .int _, _ => ⟨rfl, Nat.zero_le _⟩
  | _, .str x, h => ⟨by simpa [py, PyData.canLay0, PyData.strOk, D.pl] using h, Nat.zero_le _⟩
  | 0, .tup _, h => by simp [D.pl] at h
  | 0, .lst _, h => by simp [D.pl] at h
  | n + 1, .tup ds, h => by
    have z := pls_lay n ds (by simpa [D.pl] using h)
    exact ⟨by simpa [py, PyData.canLay0] using z.1, by simp only [py, PyData.depth]; omega⟩
  | n + 1, .lst ds, h => by
    have z := pls_lay n ds (by simpa [D.pl] using h)
    exact ⟨by simpa [py, PyData.canLay0] using z.1, by simp only [py, PyData.depth]; omega⟩
  | n, .own _, h => by cases n <;> simp [D.pl] at h
  | n, .ty _, h => by cases n <;> simp [D.pl] at h
  | n, .cls _, h => by cases n <;> simp [D.pl] at h
  | n, .exc _, h => by cases n <;> simp [D.pl] at h
  | n, .ins _ _, h => by cases n <;> simp [D.pl] at h
theorem pls_lay : ∀ (n : Nat) (ds : List D), (∀ d ∈ ds, D.pl n d = true) → PyData.canLayAll0 (pys ds) = true ∧ PyData.depthAll (pys ds) ≤ n
  | _, [], _ => ⟨rfl, Nat.zero_le _⟩
  | n, d :: r, h => by
    have z1 := pl_lay n d (h d (.head _))
    have z2 := pls_lay n r (fun x hx => h x (.tail _ hx))
    exact ⟨by simp [pys, PyData.canLayAll0, z1.1, z2.1], by simp only [pys, PyData.depthAll]; omega⟩
end
mutual
theorem beq_eqv : ∀ (n : Nat) (a b : D), D.pl n a = true → D.pl n b = true → D.beq a b = PyData.eqv (py a) (py b)
  | n, a, b, ha, hb => by
    cases a <;> cases b <;> first
      | rfl
      | (cases n <;> simp [D.pl] at ha; done)
      | (cases n <;> simp [D.pl] at hb; done)
      | skip
    all_goals cases n with
      | zero => simp [D.pl] at ha
      | succ n =>
        simp only [D.beq, py, PyData.eqv]
        exact beqs_eqv n _ _ (by simpa [D.pl] using ha) (by simpa [D.pl] using hb)
theorem beqs_eqv : ∀ (n : Nat) (as bs : List D), (∀ d ∈ as, D.pl n d = true) → (∀ d ∈ bs, D.pl n d = true) → D.beqs as bs = PyData.eqvAll (pys as) (pys bs)
  | _, [], [], _, _ => rfl
  | _, [], _ :: _, _, _ => rfl
  | _, _ :: _, [], _, _ => rfl
  | n, a :: as, b :: bs, ha, hb => by
    simp only [D.beqs, pys, PyData.eqvAll]
    rw [beq_eqv n a b (ha a (.head _)) (hb b (.head _)), beqs_eqv n as bs (fun x hx => ha x (.tail _ hx)) (fun x hx => hb x (.tail _ hx))]
end
section
variable {X : Cx}
theorem nxEq : NoX2 oEq := fun x y C z => by unfold oEq at z; exact nx_ite z
theorem beq_V {H : Hp} {x y : V} {dx dy : D} (r1 : Rep X.K X.mg H x dx) (r2 : Rep X.K X.mg H y dy) (sx : dx.sc = true) (sy : dy.sc = true) (n : scal x y = true) : decide (x = y) = D.beq dx dy := by
  cases r1 <;> cases sx <;> cases r2 <;> cases sy <;> first
    | exact absurd (show false = true from n) Bool.false_ne_true
    | exact dec_int
    | exact dec_bl
    | exact dec_str
    | (simp [D.beq]; done)
theorem eq_core (n : Bool) (hu : X.A.units + 64 < cLine) {pins : List (Addr × Obj)} {s : Shared} {σ : L2.St} {H : Hp} {x y : V} {v u : Value} {Q : VK} (I : Inv X pins σ H s) (rx : RelV x v) (ry : RelV y u) {dx dy : D} (r1 : Rep X.K X.mg H x dx) (r2 : Rep X.K X.mg H y dy)
    (hc : D.cmp dx dy = true) (q : Q (.bl (xor n (D.beq dx dy))) H) : wpAny (model X.prog X.w) X.A (compareOp (if n then .NotEq else .Eq) v u) (EP X pins σ Q) X.xe s := by
  unfold D.cmp at hc
  by_cases hp : (D.pl 8 dx && D.pl 8 dy) = true
  · rw [Bool.and_eq_true] at hp
    obtain ⟨l1, d1⟩ := pl_lay 8 dx hp.1
    obtain ⟨l2, d2⟩ := pl_lay 8 dy hp.2
    obtain ⟨as, ra⟩ := reads_of I l1 r1 rx
    obtain ⟨bs, rb⟩ := reads_of I l2 r2 ry
    have e := beq_eqv 8 dx dy hp.1 hp.2
    cases n with
    | false =>
      refine (SeqAt.rcAt_reads ra rb l1 l2 (by omega) X.prog X.w X.xe _ ?_ : wpAny (model X.prog X.w) X.A (compareOp .Eq v u) _ _ _)
      exact fin_bl I q (by rw [Bool.false_xor, e])
    | true =>
      refine (SeqAt.rcNeAt_reads ra rb l1 l2 (by omega) X.prog X.w X.xe _ ?_ : wpAny (model X.prog X.w) X.A (compareOp .NotEq v u) _ _ _)
      exact fin_bl I q (by rw [Bool.true_xor, e])
  · have hs : (dx.sc && dy.sc) = true := by
      rw [Bool.or_eq_true] at hc
      exact hc.resolve_right hp
    rw [Bool.and_eq_true] at hs
    have hsc : scal x y = true := by
      cases r1 <;> cases (hs.1) <;> cases r2 <;> cases (hs.2) <;> first | rfl | exact absurd rfl hp
    have e := beq_V r1 r2 hs.1 hs.2 hsc
    cases n with
    | false => exact op_eq pins s σ H x y v u Q I rx ry ⟨hsc, by rw [e]; rw [Bool.false_xor] at q; exact q⟩
    | true => exact op_ne pins s σ H x y v u Q I rx ry ⟨hsc, by rw [e]; rw [Bool.true_xor] at q; exact q⟩
theorem op_eqD (hu : X.A.units + 64 < cLine) : OpR X (compareOp .Eq) (rD X oEq) := by
  intro pins s σ H x y v u Q I rx ry ⟨dx, dy, d, r1, r2, e, q⟩
  unfold oEq at e
  split at e
  · rename_i hc
    cases e
    exact eq_core false hu I rx ry r1 r2 hc (by rw [Bool.false_xor]; exact q _ _ (Same.refl _) (.bl _))
  · cases e
theorem sc_flatV {H : Hp} {x : V} {d : D} (r : Rep X.K X.mg H x d) (h : d.sc = true) : flatV x = true := by cases r <;> first | rfl | cases h
theorem scs_flatV {H : Hp} : ∀ {xs : List V} {ds : List D}, Reps X.K X.mg H xs ds → ds.all D.sc = true → xs.all flatV = true
  | _, _, .nil, _ => rfl
  | _, _, .cons r t, h => by
    rw [List.all_cons, Bool.and_eq_true] at h
    rw [List.all_cons, sc_flatV r h.1, scs_flatV t h.2]; rfl
theorem eqV_beq {H : Hp} {x y : V} {dx dy : D} (r1 : Rep X.K X.mg H x dx) (r2 : Rep X.K X.mg H y dy) (sx : dx.sc = true) (sy : dy.sc = true) : eqV x y = D.beq dx dy := by
  cases r1 <;> cases sx <;> cases r2 <;> cases sy <;> rfl
theorem inV_beq {H : Hp} {x : V} {dx : D} (r : Rep X.K X.mg H x dx) (sx : dx.sc = true) : ∀ {xs : List V} {ds : List D}, Reps X.K X.mg H xs ds → ds.all D.sc = true → inV x xs = ds.any fun y => D.beq y dx
  | _, _, .nil, _ => rfl
  | _, _, .cons r' t, h => by
    rw [List.all_cons, Bool.and_eq_true] at h
    unfold inV
    rw [List.any_cons, List.any_cons, eqV_beq r' r h.1 sx]
    exact congrArg _ (inV_beq r sx t h.2)
theorem in_core (neg : Bool) {pins : List (Addr × Obj)} {s : Shared} {σ : L2.St} {H : Hp} {x y : V} {v u : Value} {Q : VK} (I : Inv X pins σ H s) (rx : RelV x v) (ry : RelV y u) {dx dy : D} (r1 : Rep X.K X.mg H x dx) (r2 : Rep X.K X.mg H y dy) {k : Bool}
    (hc : oIn dx dy = .ok (.bl k)) (q : Q (.bl (xor neg k)) H) : wpAny (model X.prog X.w) X.A (compareOp (if neg then .NotIn else .In) v u) (EP X pins σ Q) X.xe s := by
  have seq : ∀ {p : Addr} {xs : List V} {ds : List D}, y = .ref p → (SqL X.K H p xs ∨ SqT X.K H p xs) → Reps X.K X.mg H xs ds → isIn dx ds = some k → wpAny (model X.prog X.w) X.A (compareOp (if neg then .NotIn else .In) v u) (EP X pins σ Q) X.xe s := fun {p xs ds} ey hq rs hi => by
    subst ey
    unfold isIn at hi
    split at hi
    · rename_i hs
      rw [Bool.and_eq_true] at hs
      cases hi
      have e := inV_beq r1 hs.1 rs hs.2
      cases neg with
      | false => exact op_in_seq pins s σ H _ _ v u Q I rx ry ⟨p, xs, rfl, hq, sc_flatV r1 hs.1, scs_flatV rs hs.2, by rw [if_neg (by decide), e]; rw [Bool.false_xor] at q; exact q⟩
      | true => exact op_notIn_seq pins s σ H _ _ v u Q I rx ry ⟨p, xs, rfl, hq, sc_flatV r1 hs.1, scs_flatV rs hs.2, by rw [if_pos rfl, e]; rw [Bool.true_xor] at q; exact q⟩
    · cases hi
  have hseq : ∀ {ds : List D}, (match isIn dx ds with | some k => R.ok (D.bl k) | none => R.bad) = .ok (.bl k) → isIn dx ds = some k := fun {ds} h => by
    cases e : isIn dx ds with
    | none => rw [e] at h; cases h
    | some k' => rw [e] at h; cases h; rfl
  cases r2 with
  | tup hq rs => exact seq rfl (.inr hq) rs (hseq (by cases dx <;> exact hc))
  | lst hq rs => exact seq rfl (.inl hq) rs (hseq (by cases dx <;> exact hc))
  | str b =>
    cases r1 with
    | str a =>
      obtain ⟨⟨l⟩⟩ := a
      cases l with
      | nil => cases hc
      | cons c t =>
        cases t with
        | cons _ _ => cases hc
        | nil =>
          cases hc
          have e := empty_one b c
          cases neg with
          | false => exact op_in_str pins s σ H _ _ v u Q I rx ry ⟨_, _, rfl, rfl, by rw [e, Bool.not_not]; rw [Bool.false_xor] at q; exact q⟩
          | true => exact op_notIn_str pins s σ H _ _ v u Q I rx ry ⟨_, _, rfl, rfl, by rw [e, Bool.not_not]; rw [Bool.true_xor] at q; exact q⟩
    | _ => cases hc
  | _ => cases dx <;> cases hc
theorem oIn_ok {a b : D} : (∃ k, oIn a b = .ok (.bl k)) ∨ oIn a b = .bad := by
  unfold oIn
  split <;> first
    | exact .inr rfl
    | (split <;> first | exact .inl ⟨_, rfl⟩ | exact .inr rfl)
theorem nxIn : NoX2 oIn := fun x y C z => by rcases oIn_ok (a := x) (b := y) with ⟨k, e⟩ | e <;> rw [e] at z <;> cases z
theorem nxNotIn : NoX2 oNotIn := fun x y C z => by unfold oNotIn at z; rcases oIn_ok (a := x) (b := y) with ⟨k, e⟩ | e <;> rw [e] at z <;> cases z
theorem op_inD : OpR X (compareOp .In) (rD X oIn) := by
  intro pins s σ H x y v u Q I rx ry ⟨dx, dy, d, r1, r2, e, q⟩
  rcases oIn_ok (a := dx) (b := dy) with ⟨k, e'⟩ | e' <;> rw [e'] at e <;> cases e
  exact in_core false I rx ry r1 r2 e' (by rw [Bool.false_xor]; exact q _ _ (Same.refl _) (.bl _))
theorem op_notInD : OpR X (compareOp .NotIn) (rD X oNotIn) := by
  intro pins s σ H x y v u Q I rx ry ⟨dx, dy, d, r1, r2, e, q⟩
  unfold oNotIn at e
  rcases oIn_ok (a := dx) (b := dy) with ⟨k, e'⟩ | e' <;> rw [e'] at e <;> cases e
  exact in_core true I rx ry r1 r2 e' (by rw [Bool.true_xor]; exact q _ _ (Same.refl _) (.bl _))
end
section
variable {X : Cx} {pos : Pos} {a b c e : Expr} {ga gb gc g : E} {k : Nat}
theorem e_eq (hu : Room k X.A) (ha : SE X a ga) (hb : SE X b gb) : SE X (.Compare a [.Eq] [b] pos) (EV.bin oEq ga gb) := e_cmp nxEq (op_eqD hu.units) ha hb (nomark _)
theorem t_eq (hu : Room k X.A) (ha : SE X a ga) (hb : SE X b gb) : ST X (.Compare a [.Eq] [b] pos) (EV.bin oEq ga gb) := t_cmp nxEq (op_eqD hu.units) ha hb (nomark _)
theorem t_in (ha : SE X a ga) (hb : SE X b gb) (hm : behindInMarks .In b = false := by rfl) : ST X (.Compare a [.In] [b] pos) (EV.bin oIn ga gb) := t_cmp nxIn op_inD ha hb hm
theorem t_notIn (ha : SE X a ga) (hb : SE X b gb) (hm : behindInMarks .NotIn b = false := by rfl) : ST X (.Compare a [.NotIn] [b] pos) (EV.bin oNotIn ga gb) := t_cmp nxNotIn op_notInD ha hb hm
theorem isN_of {H : Hp} {v : V} {d : D} (r : Rep X.K X.mg H v d) : oIsN d = .ok (.bl (decide (v = .non))) ∧ oNotN d = .ok (.bl (!decide (v = .non))) := by
  cases r <;> exact ⟨rfl, rfl⟩
theorem isN_to {σ : L2.St} {H : Hp} {Q : VK} (h : tE X (un oIsN ga) σ H Q) : tE X ga σ H fun x H1 => tE X (con .non) σ H1 fun y H2 => y = .non ∧ Q (.bl (decide (x = .non))) H2 := by
  obtain ⟨δ, hσ, h⟩ := h
  refine ⟨δ, hσ, (RQ.bind h).to fun x H1 s1 ⟨_, d, r, q⟩ => ⟨δ, hσ.mono s1, fun v H2 s2 r2 => ?_⟩⟩
  cases r2
  rw [(isN_of r).1] at q
  exact ⟨rfl, q _ _ s2 (.bl _)⟩
theorem tT_of_tE {σ : L2.St} {H : Hp} {Q : Bool → Hp → Prop} (h : tT X g σ H Q) : tE X g σ H fun v H' => ∃ k, v = .bl k ∧ Q k H' := by
  obtain ⟨δ, hσ, h⟩ := h
  refine ⟨δ, hσ, ?_⟩
  cases q : g δ with
  | ok d =>
    rw [q] at h
    cases d with
    | bl k => exact fun v H' s r => by cases r; exact ⟨k, rfl, h H' s⟩
    | _ => exact False.elim h
  | ex C => rw [q] at h; exact h
  | bad => rw [q] at h; exact False.elim h
theorem t_isN {j : Nat} {p2 : Pos} (ha : SE X a ga) : ST X (.Compare a [.Is] [.Constant .none j p2] pos) (un oIsN ga) := PT.weak (pt_cmpR op_isN ha e_non (nomark _)) fun σ H Q h => isN_to (tT_of_tE h)
theorem t_val (h : SE X e g) (he : ∀ whole, isTrue e X.env whole = (do let v ← whole; standAt e.pos; holding [v] (truthy v)) := by intro _; rfl) : ST X e g := PT.weak (pt_val h he) fun σ H Q q => tT_of_tE q
theorem RT.truth {σ : L2.St} {H : Hp} {r : R D} {t f : R D} {Q : Bool → Hp → Prop} (h : RT X σ H (r.bind fun d => truth d t f) Q) : RT X σ H r fun k H' => Same H H' ∧ if k = true then RT X σ H' t Q else RT X σ H' f Q := by
  cases r with
  | ok d =>
    cases d with
    | bl k =>
      cases k with
      | true => exact fun H' s => ⟨s, iteT (RT.mono s h)⟩
      | false => exact fun H' s => ⟨s, iteF (RT.mono s h)⟩
    | _ => exact False.elim h
  | ex C => exact h
  | bad => exact False.elim h
theorem RT.to {σ : L2.St} {H : Hp} {r : R D} {Q Q' : Bool → Hp → Prop} (h : RT X σ H r Q) (g : ∀ k H', Same H H' → Q k H' → Q' k H') : RT X σ H r Q' := by
  cases r with
  | ok d =>
    cases d with
    | bl k => exact fun H' s => g k H' s (h H' s)
    | _ => exact False.elim h
  | ex C => exact h
  | bad => exact False.elim h
theorem RQ.truthT {σ : L2.St} {H : Hp} {r : R D} {t f : R D} {Q : VK} (h : RQ X σ H (r.bind fun d => truth d t f) Q) : RT X σ H r fun k H' => Same H H' ∧ if k = true then RQ X σ H' t Q else RQ X σ H' f Q := by
  cases r with
  | ok d =>
    cases d with
    | bl k =>
      cases k with
      | true => exact fun H' s => ⟨s, iteT (RQ.mono s h)⟩
      | false => exact fun H' s => ⟨s, iteF (RQ.mono s h)⟩
    | _ => exact False.elim h
  | ex C => exact h
  | bad => exact False.elim h
theorem RQ.truth {σ : L2.St} {H : Hp} {r : R D} {t f : R D} {Q : VK} (h : RQ X σ H (r.bind fun d => truth d t f) Q) : RQ X σ H r fun v H' => ∃ k, v = .bl k ∧ if k = true then RQ X σ H' t Q else RQ X σ H' f Q := by
  cases r with
  | ok d =>
    cases d with
    | bl k =>
      cases k with
      | true => exact fun v H' s r => by cases r; exact ⟨true, rfl, iteT (RQ.mono s h)⟩
      | false => exact fun v H' s r => by cases r; exact ⟨false, rfl, iteF (RQ.mono s h)⟩
    | _ => exact False.elim h
  | ex C => exact h
  | bad => exact False.elim h
theorem ite_to {k : Bool} {A B A' B' : Prop} (h : if k = true then A else B) (f : A → A') (g : B → B') : if k = true then A' else B' := by
  cases k with
  | true => exact iteT (f (by simpa using h))
  | false => exact iteF (g (by simpa using h))
theorem t_not (h : ST X a ga) : ST X (.UnaryOp .Not a pos) (not_ ga) := PT.weak (pt_not h) fun σ H Q ⟨δ, hσ, q⟩ => ⟨δ, hσ, (RT.truth q).to fun k H' s ⟨_, z⟩ => by
  cases k with
  | true => exact (show RT X σ H' (.ok (.bl false)) Q by simpa using z) H' (Same.refl _)
  | false => exact (show RT X σ H' (.ok (.bl true)) Q by simpa using z) H' (Same.refl _)⟩
theorem t_w (h : SW X e g) : ST X e g := PW.pt h
theorem w_or1 (h : ST X a ga) : SW X (.BoolOp .Or [a] pos) ga := pw_or1 h
theorem w_or {rest : List Expr} (h : ST X a ga) (hb : SW X (.BoolOp .Or (b :: rest) pos) gb) : SW X (.BoolOp .Or (a :: b :: rest) pos) (or_ ga gb) :=
  PW.weak (pw_or h hb) fun σ H Q ⟨δ, hσ, q⟩ => ⟨δ, hσ, (RT.truth q).to fun k H' s ⟨_, z⟩ => ite_to z (fun z => z H' (Same.refl _)) (fun z => ⟨δ, hσ.mono s, z⟩)⟩
theorem e_one {op} (h : SE X a g) : SE X (.BoolOp op [a] pos) g := pe_one h
theorem e_and {rest : List Expr} (h : SE X a ga) (hb : SE X (.BoolOp .And (b :: rest) pos) gb) : SE X (.BoolOp .And (a :: b :: rest) pos) (and_ ga gb) :=
  PE.weak (pe_and h hb) fun σ H Q ⟨δ, hσ, q⟩ => ⟨δ, hσ, (RQ.truth q).to fun v H' s ⟨k, e, z⟩ => ⟨k, e, ite_to z (fun z => ⟨δ, hσ.mono s, z⟩) (fun z => z _ H' (Same.refl _) (.bl _))⟩⟩
theorem e_or {rest : List Expr} (h : SE X a ga) (hb : SE X (.BoolOp .Or (b :: rest) pos) gb) : SE X (.BoolOp .Or (a :: b :: rest) pos) (or_ ga gb) :=
  PE.weak (pe_or h hb) fun σ H Q ⟨δ, hσ, q⟩ => ⟨δ, hσ, (RQ.truth q).to fun v H' s ⟨k, e, z⟩ => ⟨k, e, ite_to z (fun z => z _ H' (Same.refl _) (.bl _)) (fun z => ⟨δ, hσ.mono s, z⟩)⟩⟩
theorem e_not (h : SE X a ga) : SE X (.UnaryOp .Not a pos) (not_ ga) := PE.weak (pe_not h) fun σ H Q ⟨δ, hσ, q⟩ => ⟨δ, hσ, (RQ.truth q).to fun v H' s ⟨k, e, z⟩ => ⟨k, e, by
  cases k with
  | true => exact (show RQ X σ H' (.ok (.bl false)) Q by simpa using z) _ H' (Same.refl _) (.bl _)
  | false => exact (show RQ X σ H' (.ok (.bl true)) Q by simpa using z) _ H' (Same.refl _) (.bl _)⟩⟩
theorem e_if (h : ST X c gc) (ha : SE X a ga) (hb : SE X b gb) : SE X (.IfExp c a b pos) (ife gc ga gb) :=
  PE.weak (pe_ifExp h ha hb) fun σ H Q ⟨δ, hσ, q⟩ => ⟨δ, hσ, (RQ.truthT q).to fun k H' s ⟨_, z⟩ => ite_to z (fun z => ⟨δ, hσ.mono s, z⟩) (fun z => ⟨δ, hσ.mono s, z⟩)⟩
theorem t_chain {op op' : CmpOp} {f f' : D → D → R D} (nx : NoX2 f) (nx' : NoX2 f') (ho : OpR X (compareOp op) (rD X f)) (ho' : OpR X (compareOp op') (rD X f')) (ha : SE X a ga) (hb : SE X b gb) (hc : SE X c gc)
    (hm : lastMarks [op, op'] [b, c] = false := by with_unfolding_all rfl) : ST X (.Compare a [op, op'] [b, c] pos) (chain f f' ga gb gc) := by
  refine PT.weak (pt_chain ho ho' ha hb hc hm) fun σ H Q h => ?_
  obtain ⟨δ, hσ, q⟩ := tT_of_tE h
  refine ⟨δ, hσ, (RQ.bind q).to fun x H1 s1 ⟨_, dx, r1, q1⟩ => ⟨δ, hσ.mono s1, (RQ.bind q1).to fun y H2 s2 ⟨_, dy, r2, q2⟩ => ?_⟩⟩
  have q3 := RQ.truth q2
  refine RQ.op nx (r1.mono s2) r2 (q3.to fun v H3 s3 ⟨k, e, z⟩ => ⟨k, e, ite_to z (fun z => ⟨δ, ((hσ.mono s1).mono s2).mono s3, (RQ.bind z).to fun w H4 s4 ⟨_, dw, r4, q4⟩ => ?_⟩) (fun z => z _ H3 (Same.refl _) (.bl _))⟩)
  exact RQ.op nx' ((r2.mono s3).mono s4) r4 q4
theorem a_nil : SA X [] [] := PA.weak pa_nil fun σ H Q ⟨δ, hσ, h⟩ => h [] H (Same.refl H) .nil
theorem RA.cons {σ : L2.St} {H : Hp} {δ : Dt} {g : E} {gs : List E} {Q : List V → Hp → Prop} (h : RA X σ H (evs (g :: gs) δ) Q) : RQ X σ H (g δ) fun v H1 => RA X σ H1 (evs gs δ) fun vs H2 => Same H1 H2 → ∀ d, Rep X.K X.mg H1 v d → Q (v :: vs) H2 := by
  unfold evs at h
  cases q : g δ with
  | ok d =>
    rw [q] at h
    refine fun v H1 s1 r1 => ?_
    simp only [R.bind] at h
    cases q2 : evs gs δ with
    | ok ds =>
      rw [q2] at h
      exact fun vs H2 s2 rs s2' d' r' => h (v :: vs) H2 (s1.trans s2) (.cons (r1.mono s2) rs)
    | ex C => rw [q2] at h; exact fun Ca hc H' s' => h Ca hc H' (s1.trans s')
    | bad => rw [q2] at h; exact h
  | ex C => rw [q] at h; exact h
  | bad => rw [q] at h; exact h
theorem RA.to {σ : L2.St} {H : Hp} {r : R (List D)} {Q Q' : List V → Hp → Prop} (h : RA X σ H r Q) (g : ∀ v H', Same H H' → Q v H' → Q' v H') : RA X σ H r Q' := by
  cases r with
  | ok d => exact fun v H' s r => g v H' s (h v H' s r)
  | ex C => exact h
  | bad => exact h
theorem a_cons {es : List Expr} {gs : List E} (ha : SE X e g) (hr : SA X es gs) (hs : starEach (e :: es) X.env = (false, eval e X.env) :: starEach es X.env := by rfl) : SA X (e :: es) (g :: gs) :=
  PA.weak (pa_cons ha hr hs) fun σ H Q ⟨δ, hσ, h⟩ => by
    refine ⟨δ, hσ, ?_⟩
    cases q : g δ with
    | ok d =>
      have h' := RA.cons h
      rw [q] at h'
      exact fun v H1 s1 r1 => ⟨δ, hσ.mono s1, (h' v H1 s1 r1).to fun vs H2 s2 z => z s2 d r1⟩
    | ex C =>
      have h' := RA.cons h
      rw [q] at h'
      exact h'
    | bad =>
      have h' := RA.cons h
      rw [q] at h'
      exact h'
theorem e_tup {es : List Expr} {gs : List E} {x1} (h : SA X es gs) (hl : es.length ≤ 1000) (hg : gs.length = es.length := by rfl) : SE X (.Tuple es x1 pos) (tupE gs) :=
  PE.weak (pe_tup h) fun σ H Q ⟨δ, hσ, q⟩ => ⟨δ, hσ, by
    have q' := RA.bind q
    cases e : evs gs δ with
    | ok ds =>
      have hd : ds.length = gs.length := evs_len e
      rw [e] at q'
      refine fun vs H1 s1 rs => ?_
      obtain ⟨_, ds', rs', q2⟩ := q' vs H1 s1 rs
      refine ⟨by rw [rs.length, hd, hg]; exact Nat.le_of_lt (small1000 hl), fun p hp => q2 _ _ (same_upd hp _) (.tup (SqT.of upd_same) (rs'.mono (same_upd hp _)))⟩
    | ex C => rw [e] at q'; exact q'
    | bad => rw [e] at q'; exact q'⟩
where
  evs_len {δ : Dt} : ∀ {gs : List E} {ds : List D}, evs gs δ = .ok ds → ds.length = gs.length
    | [], ds, e => by cases e; rfl
    | g :: gs, ds, e => by
      unfold evs at e
      cases q : g δ with
      | ok d =>
        rw [q] at e
        simp only [R.bind] at e
        cases q2 : evs gs δ with
        | ok ds' => rw [q2] at e; cases e; simp [evs_len q2]
        | ex C => rw [q2] at e; cases e
        | bad => rw [q2] at e; cases e
      | ex C => rw [q] at e; cases e
      | bad => rw [q] at e; cases e
theorem e_lst {es : List Expr} {gs : List E} (h : SA X es gs) (hl : es.length ≤ 1000) (hg : gs.length = es.length := by rfl) : SE X (.List es pos) (lstE gs) :=
  PE.weak (pe_lst h) fun σ H Q ⟨δ, hσ, q⟩ => ⟨δ, hσ, by
    have q' := RA.bind q
    cases e : evs gs δ with
    | ok ds =>
      have hd : ds.length = gs.length := e_tup.evs_len e
      rw [e] at q'
      refine fun vs H1 s1 rs => ?_
      obtain ⟨_, ds', rs', q2⟩ := q' vs H1 s1 rs
      refine ⟨by rw [rs.length, hd, hg]; exact Nat.le_of_lt (small1000 hl), fun p hp => q2 _ _ (same_upd hp _) (.lst (SqL.of upd_same) (rs'.mono (same_upd hp _)))⟩
    | ex C => rw [e] at q'; exact q'
    | bad => rw [e] at q'; exact q'⟩
theorem nxIx : NoX2 oIx := fun x y C z => by
  unfold oIx at z
  split at z
  · split at z <;> cases z
  · split at z <;> cases z
  · split at z
    · split at z <;> cases z
    · cases z
  · cases z
theorem atI_reps {H : Hp} {xs : List V} {ds : List D} {i : Int} {d : D} (rs : Reps X.K X.mg H xs ds) (h : ((EV.ixN ds.length i).bind fun j => ds[j]?) = some d) : ∃ v, atI xs i = some v ∧ Rep X.K X.mg H v d := by
  have el := rs.length
  cases q : EV.ixN ds.length i with
  | none => rw [q] at h; cases h
  | some j =>
    rw [q] at h
    obtain ⟨v, h1, h2⟩ := rs.get h
    refine ⟨v, ?_, h2⟩
    unfold atI
    rw [el, show L2.ixN ds.length i = some j from q]
    exact h1
theorem ix_D : IxR X (rD X oIx) := by
  intro value slice pins s σ H x y v u Q I rx ry ⟨dx, dy, d, r1, r2, e, q⟩ hs
  unfold oIx at e
  split at e
  · split at e
    · rename_i h
      cases e; cases r1; cases r2
      rename_i a xs hq rs
      obtain ⟨w, h1, h2⟩ := atI_reps rs h
      exact ix_tup value slice pins s σ H _ _ v u Q I rx ry ⟨a, xs, _, w, rfl, rfl, hq, h1, q _ _ (Same.refl _) h2⟩ hs
    · cases e
  · split at e
    · rename_i h
      cases e; cases r1; cases r2
      rename_i a xs hq rs
      obtain ⟨w, h1, h2⟩ := atI_reps rs h
      exact ix_list value slice pins s σ H _ _ v u Q I rx ry ⟨a, xs, _, w, rfl, rfl, hq, h1, q _ _ (Same.refl _) h2⟩ hs
    · cases e
  · split at e
    · rename_i hz
      split at e
      · rename_i c h
        cases e; cases r1; cases r2
        refine ix_str value slice pins s σ H _ _ v u Q I rx ry ⟨_, _, c, rfl, rfl, Nat.le_trans hz (by rw [sizeLine_eq]; decide), ?_, q _ _ (Same.refl _) (.str _)⟩ hs
        exact h
      · cases e
    · cases e
  · cases e
theorem e_ix (ha : SE X a ga) (hb : SE X b gb) (hs : PlainIx b := by intro _ _; rfl) : SE X (.Subscript a b pos) (EV.bin oIx ga gb) :=
  PE.weak (pe_ix ix_D ha hb hs) fun σ H Q h => by
    obtain ⟨δ, hσ, q⟩ := bin_to h
    refine ⟨δ, hσ, q.to fun x H1 s1 ⟨δ1, hσ1, q1⟩ => ⟨δ1, hσ1, q1.to fun y H2 s2 ⟨dx, dy, r1, r2, q2⟩ => RQ.op nxIx r1 r2 q2⟩⟩
end
end ES
namespace ES
open PySem PySem.Spec PyProof.Rows L2 EV
unseal SE ST SW SA
noncomputable abbrev Os := List (Nat × Addr)
noncomputable def adrs (os : Os) : List Addr := os.map (·.2)
noncomputable def hide (H : Hp) (os : Os) : Hp := fun a => if a ∈ adrs os then none else H a
theorem hide_nil (H : Hp) : hide H [] = H := by
  funext a
  unfold hide adrs
  simp
theorem hide_in {H : Hp} {os : Os} {a : Addr} (h : a ∈ adrs os) : hide H os a = none := if_pos h
theorem hide_out {H : Hp} {os : Os} {a : Addr} (h : a ∉ adrs os) : hide H os a = H a := if_neg h
theorem hide_same (H : Hp) (os : Os) : Same (hide H os) H := fun b o e => by
  unfold hide at e
  split at e
  · cases e
  · exact e
structure StO (X : Cx) (H : Hp) (σ : L2.St) (δ : Dt) (os : Os) : Prop where
  st : Stt X.K X.mg (hide H os) σ δ
  lst : ∀ p ∈ os, ∃ xs ds, H p.2 = some (.lst xs) ∧ σ[p.1]? = some (some (.ref p.2)) ∧ δ[p.1]? = some (some (.own ds)) ∧ Reps X.K X.mg (hide H os) xs ds
  own : ∀ i ds, δ[i]? = some (some (.own ds)) → ∃ a, (i, a) ∈ os
  inj : ∀ i j a, (i, a) ∈ os → (j, a) ∈ os → i = j
theorem mem_adrs {os : Os} {a : Addr} (h : a ∈ adrs os) : ∃ p ∈ os, p.2 = a := by
  obtain ⟨p, hp, e⟩ := List.mem_map.mp h
  exact ⟨p, hp, e⟩
theorem adrs_mem {os : Os} {p : Nat × Addr} (h : p ∈ os) : p.2 ∈ adrs os := List.mem_map.mpr ⟨p, h, rfl⟩
noncomputable def pinsOf (h : Heap) (os : Os) : List (Addr × Obj) := pinsAt (adrs os) h
section
variable {X : Cx} {pins : List (Addr × Obj)} {σ : L2.St} {H H' : Hp} {s s' : Shared} {os : Os}
noncomputable def Lsts (H : Hp) (os : Os) : Prop := ∀ a ∈ adrs os, ∃ xs, H a = some (.lst xs)
theorem inv_hide (I : Inv X pins σ H s) (hl : Lsts H os) : Inv X (pins ++ pinsOf s.heap os) σ (hide H os) s := by
  have ne : ∀ {b : Addr} {o : HO}, H b = some o → (∀ xs, o ≠ .lst xs) → hide H os b = some o := fun {b o} e n => by
    rw [hide_out fun z => ?_]; exact e
    obtain ⟨xs, q⟩ := hl b z
    rw [e] at q
    exact n xs (Option.some.inj q)
  refine ⟨I.ok, I.os, I.bare, ⟨I.base.keep, I.base.slot, fun b o e n hx => ?_, I.base.there, fun b xs e => ?_, fun b o u e => ?_, fun b ps e => ?_⟩, I.loc, I.cell, ?_, fun x c e => ?_, fun p hp => ?_, fun a o e => ?_, I.len⟩
  · unfold hide; split
    · rfl
    · exact I.base.free b o e n hx
  · exact ne (I.base.tups b xs e) fun _ z => nomatch z
  · exact ne (I.base.frzs b o u e) fun _ z => nomatch z
  · obtain ⟨more, q⟩ := I.base.tbls b ps e
    exact ⟨more, ne q fun _ z => nomatch z⟩
  · unfold hide; split
    · rfl
    · exact I.free
  · unfold hide; split
    · rfl
    · exact I.freeC x c e
  · rw [← List.append_assoc] at hp
    rcases List.mem_append.mp hp with z | z
    · obtain ⟨e, n, r⟩ := I.pin p z
      refine ⟨e, ?_, r⟩
      unfold hide; split
      · rfl
      · exact n
    · obtain ⟨hb, e⟩ := of_pinsAt z
      obtain ⟨xs, q⟩ := hl p.1 hb
      obtain ⟨_, its, n, _, e'⟩ := I.hok p.1 _ q
      rw [e] at e'
      have e2 : p.2 = { cls := .type "list", data := .seq its.toArray n } := Option.some.inj e'
      refine ⟨e, hide_in hb, fun z => ?_, fun z => ?_, fun v z => ?_⟩
      · rw [z, I.free] at q; cases q
      · have hx : p.1 ∉ X.ex := fun w => I.ok.exfs p.1 w z
        obtain ⟨_, o0, ho0, _⟩ := I.ok.funs.mem z
        rw [I.base.free p.1 o0 ho0 (I.ok.frf p.1 z) hx] at q; cases q
      · rw [e2] at z; cases z
  · have hna : a ∉ adrs os := fun z => by rw [hide_in z] at e; cases e
    rw [hide_out hna] at e
    exact (I.hok a o e).stay (fun _ _ _ q => q) (fun b q => ne q fun _ z => nomatch z) fun b xs q => ne q fun _ z => nomatch z
noncomputable def show_ (H H' : Hp) (os : Os) : Hp := fun a => if a ∈ adrs os then H a else H' a
theorem hide_show {os : Os} (h : ∀ a ∈ adrs os, H' a = none) : hide (show_ H H' os) os = H' := by
  funext a
  unfold hide show_
  by_cases z : a ∈ adrs os
  · rw [if_pos z, h a z]
  · rw [if_neg z, if_neg z]
theorem inv_show (hx : X.ex = []) (I0 : Inv X pins σ H s) (hl : Lsts H os) (I : Inv X (pins ++ pinsOf s.heap os) σ H' s') : Inv X pins σ (show_ H H' os) s' ∧ ∀ a ∈ adrs os, H' a = none := by
  have pin : ∀ a ∈ adrs os, ∃ o, s.heap.get? a = some o ∧ s'.heap.get? a = some o ∧ H' a = none ∧ a ≠ X.env.locals ∧ a ∉ X.fs := fun a ha => by
    obtain ⟨xs, q⟩ := hl a ha
    obtain ⟨o, e⟩ : ∃ o, s.heap.get? a = some o := by
      obtain ⟨_, its, n, _, e⟩ := I0.hok a _ q
      exact ⟨_, e⟩
    obtain ⟨e1, e2, e3, e4, _⟩ := I.pin (a, o) (List.mem_append_right _ (List.mem_append_right _ (mem_pinsAt ha e)))
    exact ⟨o, e, e1, e2, e3, e4⟩
  have hn : ∀ a ∈ adrs os, H' a = none := fun a ha => (pin a ha).choose_spec.2.2.1
  have vis : ∀ {b : Addr} {o : HO}, H' b = some o → show_ H H' os b = some o := fun {b o} e => by
    unfold show_; rw [if_neg fun z => ?_]; exact e
    rw [hn b z] at e; cases e
  refine ⟨⟨I.ok, I.os, I.bare, ⟨I.base.keep, I.base.slot, fun b o e n hx' => ?_, I.base.there, fun b xs e => vis (I.base.tups b xs e), fun b o u e => vis (I.base.frzs b o u e), fun b ps e => ?_⟩, I.loc, I.cell, ?_, fun x c e => ?_, fun p hp => ?_, fun a o e => ?_, I.len⟩, hn⟩
  · unfold show_; split
    · exact I0.base.free b o e n hx'
    · exact I.base.free b o e n hx'
  · obtain ⟨more, q⟩ := I.base.tbls b ps e
    exact ⟨more, vis q⟩
  · unfold show_; split
    · exact I0.free
    · exact I.free
  · unfold show_; split
    · exact I0.freeC x c e
    · exact I.freeC x c e
  · obtain ⟨e, n, r⟩ := I.pin p (by rw [← List.append_assoc]; exact List.mem_append_left _ hp)
    refine ⟨e, ?_, r⟩
    unfold show_; split
    · exact (I0.pin p hp).2.1
    · exact n
  · by_cases z : a ∈ adrs os
    · obtain ⟨ob, e0, e1, _⟩ := pin a z
      unfold show_ at e
      rw [if_pos z] at e
      obtain ⟨xs, q⟩ := hl a z
      rw [e] at q
      have q' : o = .lst xs := Option.some.inj q
      subst q'
      obtain ⟨hz, its, n, r, e2⟩ := I0.hok a _ e
      rw [e0] at e2
      have e3 : ob = _ := Option.some.inj e2
      subst e3
      exact ⟨hz, its, n, r, e1⟩
    · unfold show_ at e
      rw [if_neg z] at e
      exact (I.hok a o e).stay (fun _ _ _ q => q) (fun b q => vis q) fun b xs q => vis q
end
section
variable {K : PySem.W.Frag} {mg : Str → Option Value} {H H' : Hp}
end
section
variable {X : Cx} {σ : L2.St} {δ : Dt} {H H' : Hp} {os : Os}
theorem StO.lsts (S : StO X H σ δ os) : Lsts H os := fun a ha => by
  obtain ⟨p, hp, rfl⟩ := mem_adrs ha
  obtain ⟨xs, _, h, _⟩ := S.lst p hp
  exact ⟨xs, h⟩
theorem StO.nil (h : Stt X.K X.mg H σ δ) (hn : ∀ (i : Nat) (ds : List D), δ[i]? ≠ some (some (.own ds))) : StO X H σ δ [] := ⟨by rw [hide_nil]; exact h, fun p hp => (nomatch hp), fun i ds e => absurd e (hn i ds), fun _ _ _ z => (nomatch z)⟩
theorem StO.shown (S : StO X H σ δ os) (s : Same (hide H os) H') (hn : ∀ a ∈ adrs os, H' a = none) : StO X (show_ H H' os) σ δ os := by
  have e := hide_show (H := H) hn
  refine ⟨by rw [e]; exact S.st.mono s, fun p hp => ?_, S.own, S.inj⟩
  obtain ⟨xs, ds, a, b, c, d⟩ := S.lst p hp
  exact ⟨xs, ds, by unfold show_; rw [if_pos (adrs_mem hp)]; exact a, b, c, by rw [e]; exact d.mono s⟩
theorem StO.noOwn (S : StO X H σ δ os) {H' : Hp} (s : Same (hide H os) H') : Stt X.K X.mg H' σ (noOwn δ) := by
  refine ⟨by unfold EV.noOwn; rw [List.length_map]; exact S.st.1, fun i d e n => ?_⟩
  unfold EV.noOwn at e
  rw [List.getElem?_map] at e
  cases q : δ[i]? with
  | none => rw [q] at e; cases e
  | some c =>
    rw [q] at e
    cases c with
    | none => cases e
    | some d0 =>
      by_cases ho : ∃ ds, d0 = .own ds
      · obtain ⟨ds, rfl⟩ := ho
        cases e
      · have e' : d0 = d := by
          cases d0 <;> first | exact absurd ⟨_, rfl⟩ ho | exact Option.some.inj (Option.some.inj e)
        subst e'
        obtain ⟨v, h1, h2⟩ := S.st.2 i d0 q n
        exact ⟨v, h1, h2.mono s⟩
end
noncomputable def FQ (X : Cx) (σ : L2.St) (H : Hp) (os : Os) (δ : Dt) (r : R D) (Q : VK) : Prop := match r with
  | .ok d => ∀ v H', StO X H' σ δ os → Same (hide H os) (hide H' os) → Rep X.K X.mg (hide H' os) v d → Q v H'
  | .ex C => ∀ Ca, X.mg C = some (.ref Ca) → ∀ H', Same (hide H os) H' → Stt X.K X.mg H' σ (noOwn δ) → ew X Ca σ H'
  | .bad => False
noncomputable def tF (X : Cx) (g : E) : TE := fun σ H Q => ∃ δ os, StO X H σ δ os ∧ FQ X σ H os δ (g δ) Q
noncomputable def FT (X : Cx) (σ : L2.St) (H : Hp) (os : Os) (δ : Dt) (r : R D) (Q : Bool → Hp → Prop) : Prop := match r with
  | .ok (.bl b) => ∀ H', StO X H' σ δ os → Same (hide H os) (hide H' os) → Q b H'
  | .ex C => ∀ Ca, X.mg C = some (.ref Ca) → ∀ H', Same (hide H os) H' → Stt X.K X.mg H' σ (noOwn δ) → ew X Ca σ H'
  | _ => False
noncomputable def tFT (X : Cx) (g : E) : TT := fun σ H Q => ∃ δ os, StO X H σ δ os ∧ FT X σ H os δ (g δ) Q
section
variable {X : Cx} {e : Expr} {g : E}
theorem frameE (hx : X.ex = []) (h : SE X e g) : PE X e (tF X g) := by
  intro pins s σ H Q I ⟨δ, os, S, q⟩
  have hl := S.lsts
  have hw : RQ X σ (hide H os) (g δ) (fun v H1 => Same (hide H os) H1 ∧ ∃ d, g δ = .ok d ∧ Rep X.K X.mg H1 v d) := by
    cases r : g δ with
    | ok d => exact fun v H' s r => ⟨s, d, rfl, r⟩
    | ex C =>
      rw [r] at q
      exact fun Ca hc H' s' => q Ca hc H' s' (S.noOwn s')
    | bad => rw [r] at q; exact q
  refine thn (h _ s σ _ _ (inv_hide I hl) ⟨δ, S.st, hw⟩) fun u s' ⟨v, H1, I1, rv, sm, d, e, rd⟩ => ?_
  obtain ⟨I2, hn⟩ := inv_show hx I hl I1
  rw [e] at q
  have eh := hide_show (H := H) hn
  exact ⟨v, _, I2, rv, q v _ (S.shown sm hn) (by rw [eh]; exact sm) (by rw [eh]; exact rd)⟩
theorem frameT (hx : X.ex = []) (h : ST X e g) : PT X e (tFT X g) := by
  intro pins s σ H Q I ⟨δ, os, S, q⟩
  have hl := S.lsts
  have hw : RT X σ (hide H os) (g δ) (fun b H1 => Same (hide H os) H1 ∧ g δ = .ok (.bl b)) := by
    cases r : g δ with
    | ok d =>
      rw [r] at q
      cases d with
      | bl b => exact fun H' s => ⟨s, rfl⟩
      | _ => exact False.elim q
    | ex C =>
      rw [r] at q
      exact fun Ca hc H' s' => q Ca hc H' s' (S.noOwn s')
    | bad => rw [r] at q; exact False.elim q
  refine thn (h _ s σ _ _ (inv_hide I hl) ⟨δ, S.st, hw⟩) fun b s' ⟨H1, I1, sm, e⟩ => ?_
  obtain ⟨I2, hn⟩ := inv_show hx I hl I1
  rw [e] at q
  have eh := hide_show (H := H) hn
  exact ⟨_, I2, q _ (S.shown sm hn) (by rw [eh]; exact sm)⟩
noncomputable def tB (X : Cx) (g : E) : TE := fun σ H Q => ∃ δ os, StO X H σ δ os ∧ (∀ d, g (view δ) = .ok d → d.flat = true) ∧ FQ X σ H os δ (g (view δ)) Q
end
noncomputable def OQ (X : Cx) (D : Ends) (F : Hp) : O → Prop
  | .nx δ => ∀ σ H os, StO X H σ δ os → Same F (hide H os) → D.nx σ H
  | .bk δ => ∀ σ H os, StO X H σ δ os → Same F (hide H os) → D.bk σ H
  | .ct δ => ∀ σ H os, StO X H σ δ os → Same F (hide H os) → D.ct σ H
  | .rt d => ∀ v H, Same F H → Rep X.K X.mg H v d → D.rt v H
  | .ex C δ => ∀ σ H, Same F H → Stt X.K X.mg H σ δ → ∀ Ca, X.mg C = some (.ref Ca) → ew X Ca σ H
  | .mk C δ => ∀ σ H, Same F H → ∀ Ca, X.mg C = some (.ref Ca) → em X Ca σ H
  | .bad => False
noncomputable def tS (X : Cx) (g : S) : TS := fun D σ H => ∃ δ os, StO X H σ δ os ∧ OQ X D (hide H os) (g δ)
@[irreducible] noncomputable def SS (X : Cx) (st : Stmt) (g : S) : Prop := PS X st (tS X g)
@[irreducible] noncomputable def SSs (X : Cx) (st : List Stmt) (g : S) : Prop := PSs X st (tS X g)
unseal SS SSs
theorem OQ.mono {X : Cx} {D : Ends} {F F' : Hp} {o : O} (s : Same F F') (h : OQ X D F o) : OQ X D F' o := by
  cases o with
  | nx δ => exact fun σ H os S s' => h σ H os S (s.trans s')
  | bk δ => exact fun σ H os S s' => h σ H os S (s.trans s')
  | ct δ => exact fun σ H os S s' => h σ H os S (s.trans s')
  | rt d => exact fun v H s' r => h v H (s.trans s') r
  | ex C δ => exact fun σ H s' S => h σ H (s.trans s') S
  | mk C δ => exact fun σ H s' => h σ H (s.trans s')
  | bad => exact h
theorem OQ.lv {X : Cx} {D : Ends} {F : Hp} {o : O} {n : L2.St → Hp → Prop} (hn : ∀ δ, o ≠ .nx δ) (h : OQ X D F o) : OQ X { D with nx := n } F o := by
  cases o with
  | nx δ => exact absurd rfl (hn δ)
  | _ => exact h
section
variable {X : Cx} {N : List Str} {H : Hp} {σ : L2.St} {δ : Dt} {os : Os}
theorem os_drop (os : Os) (i : Nat) : ∀ p ∈ os.filter (fun p => p.1 != i), p ∈ os ∧ p.1 ≠ i := fun p hp => by
  have := List.mem_filter.mp hp
  exact ⟨this.1, by simpa using this.2⟩
theorem hide_less {os os' : Os} (h : ∀ p ∈ os', p ∈ os) : Same (hide H os) (hide H os') := fun b o e => by
  have hb : b ∉ adrs os := fun z => by rw [hide_in z] at e; cases e
  rw [hide_out hb] at e
  rw [hide_out fun z => ?_]; exact e
  obtain ⟨p, hp, rfl⟩ := mem_adrs z
  exact hb (adrs_mem (h p hp))
theorem StO.set {v : V} {d : D} {i : Nat} (S : StO X H σ δ os) (r : Rep X.K X.mg (hide H os) v d) : StO X H (σ.set i (some v)) (δ.set i (some d)) (os.filter fun p => p.1 != i) ∧ Same (hide H os) (hide H (os.filter fun p => p.1 != i)) := by
  have sm : Same (hide H os) (hide H (os.filter fun p => p.1 != i)) := hide_less fun p hp => (os_drop os i p hp).1
  refine ⟨⟨(S.st.mono sm).set (r.mono sm), fun p hp => ?_, fun j ds e => ?_, fun a b c h1 h2 => S.inj a b c (os_drop os i _ h1).1 (os_drop os i _ h2).1⟩, sm⟩
  · obtain ⟨hp', ne⟩ := os_drop os i p hp
    obtain ⟨xs, ds, h1, h2, h3, h4⟩ := S.lst p hp'
    exact ⟨xs, ds, h1, by rw [List.getElem?_set_ne (Ne.symm ne)]; exact h2, by rw [List.getElem?_set_ne (Ne.symm ne)]; exact h3, h4.mono sm⟩
  · by_cases hj : j = i
    · subst hj
      by_cases hl : j < δ.length
      · rw [List.getElem?_set_self hl] at e
        have e' : d = .own ds := Option.some.inj (Option.some.inj e)
        subst e'
        cases r
      · rw [List.getElem?_eq_none (by simp; omega)] at e
        cases e
    · rw [List.getElem?_set_ne (Ne.symm hj)] at e
      obtain ⟨a, ha⟩ := S.own j ds e
      exact ⟨a, List.mem_filter.mpr ⟨ha, by simpa using hj⟩⟩
structure Sx (X : Cx) (N : List Str) : Prop where
  sc : Sc X N
  ex : X.ex = []
variable {e c : Expr} {g gc : E} {pos : Pos} {st : Stmt} {rest body els : List Stmt} {gs gr gb ge : S}
theorem FQ.then {r : R EV.D} {Q : VK} {D : Ends} {f : EV.D → O} (h : OQ X D (hide H os) (match r with | .ok d => f d | .ex C => .ex C (noOwn δ) | .bad => .bad))
    (hq : ∀ d v H', r = .ok d → StO X H' σ δ os → Same (hide H os) (hide H' os) → Rep X.K X.mg (hide H' os) v d → OQ X D (hide H' os) (f d) → Q v H') : FQ X σ H os δ r Q := by
  cases r with
  | ok d => exact fun v H' S s r => hq d v H' rfl S s r (OQ.mono s h)
  | ex C => exact fun Ca hc H' s' st => h σ H' s' st Ca hc
  | bad => exact h
theorem s_nil : SSs X [] pass_ := PSs.weak pss_nil fun D σ H ⟨δ, os, S, h⟩ => h σ H os S (Same.refl _)
theorem s_one (h : SS X st gs) : SSs X [st] gs := pss_one h
theorem s_cons (h : SS X st gs) (hr : SSs X rest gr) : SSs X (st :: rest) (seq gs gr) := PSs.weak (pss_cons h hr) fun D σ H ⟨δ, os, S, h⟩ => ⟨δ, os, S, by
  unfold seq at h
  cases q : gs δ with
  | nx δ' =>
    rw [q] at h
    exact fun σ' H' os' S' s' => ⟨δ', os', S', OQ.mono s' h⟩
  | _ => rw [q] at h; exact OQ.lv (fun _ z => nomatch z) h⟩
theorem s_set (C : Sx X N) (i : Nat) {x : Str} {pos' : Pos} (hN : N[i]? = some x) (hx : Sto X x) (h : SE X e g) (hsw : swapsWith e (some (.Name x pos')) pos.line X.env = pure false := by rfl) : SS X (.Assign [.Name x pos'] e pos) (assign i g) :=
  PS.weak (ps_set (i := i) (by rw [C.sc.n]; exact C.sc.nd) (by rw [C.sc.n]; exact hN) hx.1 (frameE C.ex h) hsw hx.2) fun D σ H ⟨δ, os, S, q⟩ => ⟨δ, os, S, FQ.then q fun d v H' e S' s r q' => by
    obtain ⟨S2, s2⟩ := S'.set (i := i) r
    exact q' _ _ _ S2 s2⟩
theorem s_expr (C : Sx X N) (h : SE X e g) (hs : swapsWith e none pos.line X.env = pure false := by rfl) : SS X (.Expr e pos) (expr g) :=
  PS.weak (ps_expr (frameE C.ex h) hs) fun D σ H ⟨δ, os, S, q⟩ => ⟨δ, os, S, FQ.then q fun d v H' e S' s r q' => q' _ _ _ S' (Same.refl _)⟩
theorem s_ret (C : Sx X N) (h : SE X e g) : SS X (.Return (some e) pos) (ret g) :=
  PS.weak (ps_ret (frameE C.ex h)) fun D σ H ⟨δ, os, S, q⟩ => ⟨δ, os, S, FQ.then q fun d v H' e S' s r q' => q' v H' (hide_same _ _) (r.mono (hide_same _ _))⟩
theorem FT.then {r : R EV.D} {Q : Bool → Hp → Prop} {D : Ends} {ta fa : O} (h : OQ X D (hide H os) (match r with | .ok (.bl true) => ta | .ok (.bl false) => fa | .ex C => .ex C (noOwn δ) | _ => .bad))
    (hq : ∀ b H', StO X H' σ δ os → Same (hide H os) (hide H' os) → OQ X D (hide H' os) (if b = true then ta else fa) → Q b H') : FT X σ H os δ r Q := by
  cases r with
  | ok d =>
    cases d with
    | bl b =>
      cases b with
      | true => exact fun H' S s => hq true H' S s (by rw [if_pos rfl]; exact OQ.mono s h)
      | false => exact fun H' S s => hq false H' S s (by rw [if_neg (by decide)]; exact OQ.mono s h)
    | _ => exact h
  | ex C => exact fun Ca hc H' s' st => h σ H' s' st Ca hc
  | bad => exact h
theorem s_if (C : Sx X N) (hc : ST X c gc) (ha : SSs X body gb) (hb : SSs X els ge) : SS X (.If c body els pos) (ifs gc gb ge) :=
  PS.weak (ps_if (frameT C.ex hc) ha hb) fun D σ H ⟨δ, os, S, q⟩ => ⟨δ, os, S, FT.then q fun b H' S' s q' => by
    cases b with
    | true => exact iteT ⟨δ, os, S', by simpa using q'⟩
    | false => exact iteF ⟨δ, os, S', by simpa using q'⟩⟩
theorem drop_cons_of {α : Type} {xs : List α} {n : Nat} {x : α} (h : xs[n]? = some x) : xs.drop n = x :: xs.drop (n + 1) := by
  obtain ⟨h1, h2⟩ := List.getElem?_eq_some_iff.mp h
  rw [List.drop_eq_getElem_cons h1, h2]
noncomputable def Pv (X : Cx) (D : Ends) (F F1 : Hp) (i : Nat) (gb : S) (ds : List EV.D) (n : Nat) (σ : L2.St) (H : Hp) : Prop := ∃ δ os, StO X H σ δ os ∧ Same F1 (hide H os) ∧ Same F F1 ∧ OQ X D F (forL i gb (ds.drop n) δ)
theorem turn_ok {D : Ends} {F F1 : Hp} {i n : Nat} {ds : List EV.D} {d : EV.D} {v : V} (hd : ds[n]? = some d) (r : ∀ H', Same F1 H' → Rep X.K X.mg H' v d) (p : Pv X D F F1 i gb ds n σ H) :
    gName i v σ H fun σ2 H2 => tS X gb { D with nx := Pv X D F F1 i gb ds (n + 1), ct := Pv X D F F1 i gb ds (n + 1), bk := D.nx } σ2 H2 := by
  obtain ⟨δ, os, S, s1, s0, q⟩ := p
  rw [drop_cons_of hd] at q
  obtain ⟨S2, s2⟩ := S.set (i := i) (r _ s1)
  refine ⟨_, _, S2, ?_⟩
  unfold forL trn at q
  have s3 := (s0.trans s1).trans s2
  cases e : gb (δ.set i (some d)) with
  | nx δ1 => rw [e] at q; exact fun σ' H' os' S' s' => ⟨δ1, os', S', (s1.trans s2).trans s', s0, q⟩
  | ct δ1 => rw [e] at q; exact fun σ' H' os' S' s' => ⟨δ1, os', S', (s1.trans s2).trans s', s0, q⟩
  | bk δ1 => rw [e] at q; exact fun σ' H' os' S' s' => q σ' H' os' S' (s3.trans s')
  | rt d' => rw [e] at q; exact fun v' H' s' r' => q v' H' (s3.trans s') r'
  | ex C δ1 => rw [e] at q; exact fun σ' H' s' r' => q σ' H' (s3.trans s') r'
  | mk C δ1 => rw [e] at q; exact fun σ' H' s' => q σ' H' (s3.trans s')
  | bad => rw [e] at q; exact q
theorem end_ok {D : Ends} {F F1 : Hp} {i n : Nat} {ds : List EV.D} (hn : ds.length ≤ n) (p : Pv X D F F1 i gb ds n σ H) : D.nx σ H := by
  obtain ⟨δ, os, S, s1, s0, q⟩ := p
  rw [List.drop_eq_nil_of_le hn] at q
  exact q σ H os S (s0.trans s1)
structure Lp (X : Cx) : Prop where
  own : PassesOwn (model X.prog X.w) X.A X.env X.xe
  calm : X.calm = true
theorem whileN_more {c : E} {b : S} : ∀ {n : Nat} {δ : Dt}, whileN c b n δ ≠ .bad → ∀ k, whileN c b (n + k) δ = whileN c b n δ
  | 0, δ, h, _ => absurd rfl h
  | n + 1, δ, h, k => by
    rw [show n + 1 + k = (n + k) + 1 by omega]
    unfold whileN at h ⊢
    split
    · rename_i q
      rw [q] at h
      simp only at h
      unfold trn at h ⊢
      split
      · rename_i q2; rw [q2] at h; exact whileN_more h k
      · rename_i q2; rw [q2] at h; exact whileN_more h k
      · rfl
      · rfl
    · rfl
    · rfl
theorem while_is {c : E} {b : S} {n : Nat} {δ : Dt} {o : O} (h : whileN c b n δ = o) (ho : o ≠ .bad) : while_ c b δ = o := by
  have hx : ∃ n, whileN c b n δ ≠ .bad := ⟨n, by rw [h]; exact ho⟩
  unfold while_
  rw [dif_pos hx]
  have h1 := whileN_more hx.choose_spec n
  have h2 := whileN_more (show whileN c b n δ ≠ .bad by rw [h]; exact ho) hx.choose
  rw [Nat.add_comm] at h1
  rw [← h1, h2, h]
theorem s_while (C : Sx X N) (L : PassesOwn (model X.prog X.w) X.A X.env X.xe) (hc : ST X c gc) (hb : SSs X body gb) : SS X (.While c body [] pos) (while_ gc gb) := by
  refine PS.weak (ps_while L (frameT C.ex hc) hb) fun D σ H ⟨δ, os, S, q⟩ => ?_
  unfold while_ at q
  split at q
  · rename_i hx
    refine ⟨fun m σ H' => ∃ δ os', StO X H' σ δ os' ∧ Same (hide H os) (hide H' os') ∧ OQ X D (hide H os) (whileN gc gb m δ), ⟨_, δ, os, S, Same.refl _, q⟩, ?_⟩
    rintro m σ1 H1 ⟨δ1, os1, S1, s1, q1⟩
    refine ⟨δ1, os1, S1, ?_⟩
    cases m with
    | zero => exact False.elim q1
    | succ m =>
      unfold whileN at q1
      cases r : gc δ1 with
      | ok d =>
        rw [r] at q1
        cases d with
        | bl b =>
          cases b with
          | true =>
            intro H2 S2 s2
            refine iteT ⟨fun σ' H' => ∃ δ os', StO X H' σ' δ os' ∧ Same (hide H os) (hide H' os') ∧ OQ X D (hide H os) (whileN gc gb m δ), fun σ' H' w => ⟨m, Nat.lt_succ_self _, w⟩, δ1, os1, S2, ?_⟩
            simp only [trn] at q1
            have s12 := s1.trans s2
            cases e : gb δ1 with
            | nx δ2 => rw [e] at q1; exact fun σ' H' os' S' s' => ⟨δ2, os', S', s12.trans s', q1⟩
            | ct δ2 => rw [e] at q1; exact fun σ' H' os' S' s' => ⟨δ2, os', S', s12.trans s', q1⟩
            | bk δ2 => rw [e] at q1; exact fun σ' H' os' S' s' => q1 σ' H' os' S' (s12.trans s')
            | rt d' => rw [e] at q1; exact fun v' H' s' r' => q1 v' H' (s12.trans s') r'
            | ex C δ1 => rw [e] at q1; exact fun σ' H' s' r' => q1 σ' H' (s12.trans s') r'
            | mk C δ1 => rw [e] at q1; exact fun σ' H' s' => q1 σ' H' (s12.trans s')
            | bad => rw [e] at q1; exact q1
          | false => exact fun H2 S2 s2 => iteF (q1 σ1 H2 os1 S2 (s1.trans s2))
        | _ => exact False.elim q1
      | ex C => rw [r] at q1; exact False.elim q1
      | bad => rw [r] at q1; exact False.elim q1
  · exact False.elim q
end
end ES
namespace ES
open PySem PySem.Spec PyProof.Rows L2 EV
unseal SE ST SW SA SS SSs
theorem obj_there {P : Program} {w : World} {H : Hp} {h : Heap} {a : Addr} {o : HO} (x : ObjOk P w H h a o) : ∃ ob, h.get? a = some ob := by
  cases o with
  | lst xs => obtain ⟨_, _, _, _, e⟩ := x; exact ⟨_, e⟩
  | tup xs => obtain ⟨_, _, _, ob, e, _⟩ := x; exact ⟨_, e⟩
  | dK kvs => obtain ⟨_, _, _, _, ob, _, _, e, _⟩ := x; exact ⟨_, e⟩
  | dT kvs => obtain ⟨_, _, _, _, ob, _, _, e, _⟩ := x; exact ⟨_, e⟩
  | set S n => obtain ⟨ob, _, _, _, e, _⟩ := x; exact ⟨_, e⟩
  | ins C dx fs => obtain ⟨_, _, _, e, _⟩ := x; exact ⟨_, e⟩
  | own y => exact x
  | xd fs => obtain ⟨_, ⟨_, _, _, e, _⟩, _⟩ := x; exact ⟨_, e⟩
  | rng lo hi => obtain ⟨_, _, _, e⟩ := x; exact ⟨_, e⟩
  | frz ob u => obtain ⟨e, _⟩ := x; exact ⟨_, e⟩
  | tbl ps => exact ⟨_, (show h.get? a = some _ from x)⟩
  | met f y => exact ⟨_, (show h.get? a = some _ from x)⟩
  | ext φ => obtain ⟨_, e, _⟩ := x; exact e
theorem un_fly {fs : List Addr} {H H' : Hp} {h h1 h2 B : Heap} (u : Un fs [] H H' h h1) (same : Same H H') (i1 : ∀ b o, h.get? b = some o → H b = none → b ∉ fs → B.get? b = some o)
    (i2 : ∀ b u o, H' b = some u → h1.get? b = some o → B.get? b = some o) (st : B.StaysIn h2) (up : h1.UpToSlots h2) (ff : ∀ b ∈ fs, ∀ o, h1.get? b = some o → ∀ vs, o.data ≠ .fields vs) : Un fs [] H H' h h2 := by
  have slot : ∀ b o, h.get? b = some o → H b = none → b ∈ fs → b ∉ ([] : List Addr) → ∃ sl, h2.get? b = some { o with slots := sl } := fun b o e n hb hx => by
    obtain ⟨sl, e1⟩ := u.slot b o e n hb hx
    obtain ⟨sl2, e2⟩ := up b _ e1 (ff b hb _ e1)
    exact ⟨sl2, e2⟩
  refine ⟨fun b o e n hb _ => st b o (i1 b o e n hb), slot, u.free, fun b o e hx => ?_, u.tups, u.frzs, u.tbls⟩
  cases n : H b with
  | none =>
    by_cases hb : b ∈ fs
    · obtain ⟨sl, e2⟩ := slot b o e n hb hx
      exact ⟨_, e2⟩
    · exact ⟨o, st b o (i1 b o e n hb)⟩
  | some x =>
    obtain ⟨o', e1⟩ := u.there b o e hx
    exact ⟨o', st b o' (i2 b x o' (same b x n) e1)⟩
theorem hok_fly {P : Program} {w : World} {H' : Hp} {h1 h2 B : Heap} (hok : HOk P w H' h1) (i2 : ∀ b u o, H' b = some u → h1.get? b = some o → B.get? b = some o) (st : B.StaysIn h2) : HOk P w H' h2 := fun a o e =>
  (hok a o e).stay (fun b u hb q => by
    rcases hb with rfl | hb
    · exact st b u (i2 b o u e q)
    · exact st b u (i2 b _ u hb q)) (fun _ q => q) fun _ _ q => q
theorem i2_fly {P : Program} {w : World} {H' : Hp} {h1 h2 B : Heap} (hok : HOk P w H' h1) (i2 : ∀ b u o, H' b = some u → h1.get? b = some o → B.get? b = some o) (st : B.StaysIn h2) : ∀ b u o, H' b = some u → h2.get? b = some o → B.get? b = some o := fun b u o e q => by
  obtain ⟨ob, e1⟩ := obj_there (hok b u e)
  have e2 := i2 b u ob e e1
  have e3 := st b ob e2
  rw [q] at e3
  cases e3
  exact e2
theorem ff_of {base h : Heap} {l : List Env} (x : h.FunFrames base l) : ∀ b ∈ frs l, ∀ o, h.get? b = some o → ∀ vs, o.data ≠ .fields vs := fun b hb o e => by
  obtain ⟨_, o', e', d⟩ := x.mem hb
  rw [e] at e'
  cases e'
  exact d
section
variable {X : Cx} {pins : List (Addr × Obj)} {σ : L2.St} {H H' : Hp} {s s' : Shared} {C ea : Addr}
structure Own (X : Cx) : Prop where
  stk : X.stack = X.env :: X.outer
  frm : X.env.frame = some X.env.locals
  ex : X.ex = []
theorem Own.frs (h : Own X) : L2.frs X.stack = X.env.locals :: X.fs := by
  rw [h.stk]
  unfold L2.frs
  rw [List.filterMap_cons, h.frm]
  rfl
theorem first_of (I : Inv X pins σ H s) (O : Own X) {B : Heap} (i1 : ∀ b o, s.heap.get? b = some o → H b = none → b ∉ L2.frs X.stack → B.get? b = some o) : ∀ b o, X.s₀.heap.get? b = some o → X.H₀ b = none → b ∉ X.fs → B.get? b = some o := fun b o e n hb => by
  have hx : b ∉ X.ex := by rw [O.ex]; simp
  refine i1 b o (I.base.keep b o e n hb hx) (I.base.free b o e n hx) fun z => ?_
  rw [O.frs] at z
  rcases List.mem_cons.mp z with q | q
  · exact absurd (Nat.lt_of_lt_of_le (Heap.lt_size e) I.ok.above) (by rw [q]; exact Nat.lt_irrefl _)
  · exact hb q
theorem new_of (I : Inv X pins σ H s) (O : Own X) (h : s.heap.get? ea = none) : X.s₀.heap.get? ea = none := by
  cases q : X.s₀.heap.get? ea with
  | none => rfl
  | some o =>
    obtain ⟨o', e⟩ := I.base.there ea o q (by rw [O.ex]; simp)
    rw [h] at e
    cases e
theorem base_nil (I : Inv X pins σ H s) (O : Own X) : Un X.fs [] X.H₀ H X.s₀.heap s.heap := by
  have z := I.base
  rw [O.ex] at z
  exact z
theorem fly_inv (I : Inv X pins σ H s) (F : FlyX X.prog X.w X.stack H s C H' ea s') : Inv X pins σ H' s' := I.call' (ch := []) F.os F.un F.hok F.bare fun b z => absurd z (by simp)
theorem leaves_on {M : Model} {E : Value → Shared → Prop} {Q : Unit → Shared → Prop} (I : Inv X pins σ H s) (O : Own X) (F : FlyX X.prog X.w X.stack H s C H' ea s') (same : Same X.H₀ H')
    (hQ : ∀ s'', FlyX X.prog X.w X.outer X.H₀ X.s₀ C H' ea s'' → Q () s'') : wpAny M X.A (leaving X.env (.ref ea)) Q E s' := by
  obtain ⟨a0, B, hfl, i1, i2⟩ := F.fly
  have I' := fly_inv I F
  have ff := ff_of hfl.2.2.1
  rw [O.stk] at hfl
  refine wpAny_leaves_onW (by rw [I.ok.frames, O.stk]) O.frm hfl fun h' f1 up => hQ _ ⟨F.os.trans I.os, F.bare, ?_, hok_fly F.hok i2 f1.1, same, new_of I O F.new, a0, B, f1, first_of I O i1, i2_fly F.hok i2 f1.1⟩
  exact un_fly (base_nil I' O) same (first_of I O i1) i2 f1.1 up fun b hb => ff b (by rw [O.frs]; exact List.mem_cons_of_mem _ hb)
theorem leaves_made {M : Model} {E : Value → Shared → Prop} {Q : Unit → Shared → Prop} {h1 : Heap} {vs : List Value} (I : Inv X pins σ H s) (O : Own X) (made : Heap.MadeExcOf s.heap h1 ea (.ref C) vs) (same : Same X.H₀ H)
    (hQ : ∀ s'', FlyX X.prog X.w X.outer X.H₀ X.s₀ C H ea s'' → Q () s'') : wpAny M X.A (leaving X.env (.ref ea)) Q E { s with heap := h1 } := by
  have hst := I.stack
  have ff := ff_of hst
  have i1 : ∀ b o, s.heap.get? b = some o → H b = none → b ∉ L2.frs X.stack → (PySem.W.hideAll s.heap (L2.frs X.stack)).get? b = some o := fun b o e _ hb => PySem.W.hideAll_get _ e hb
  have i2 : ∀ b u o, H b = some u → s.heap.get? b = some o → (PySem.W.hideAll s.heap (L2.frs X.stack)).get? b = some o := fun b u o e q => PySem.W.hideAll_get _ q fun z => by
    rw [I.stkFree b z] at e
    cases e
  have hl := PySem.W.funFrames_hide (as := L2.frs X.stack) hst fun env he b hb => List.mem_filterMap.mpr ⟨env, he, hb⟩
  rw [O.stk] at hl
  refine wpAny_leaves_madeW (s := { s with heap := h1 }) (base := PySem.W.hideAll s.heap (L2.frs X.stack)) (by rw [I.ok.frames, O.stk]) O.frm (fun b o e => PySem.W.of_hideAll _ e) (by rw [O.stk] at *; exact hl) made fun h' t f1 _ _ up => hQ _ ⟨I.os, I.bare, ?_, hok_fly I.hok i2 f1.1, same, new_of I O made.new, _, _, f1, first_of I O i1, i2_fly I.hok i2 f1.1⟩
  exact un_fly (base_nil I O) same (first_of I O i1) i2 f1.1 ((Heap.UpToSlots.of_keeps made.keeps).trans up) fun b hb => ff b (by rw [O.frs]; exact List.mem_cons_of_mem _ hb)
end
noncomputable def CXF (P : Program) (w : World) : CXT := fun outer H s E e s' => ∃ C H' ea, e = .ref ea ∧ FlyX P w outer H s C H' ea s' ∧ E (.ref C) none H'
noncomputable def spP (K : PySem.W.Frag) (mg : Str → Option Value) (f : List D → R D) : Sp := fun vs H Q E => ∃ ds, Reps K mg H vs ds ∧ match f ds with
  | .ok d => ∀ v H', Same H H' → Rep K mg H' v d → Q v H'
  | .ex C => ∀ Ca, mg C = some (.ref Ca) → ∀ H', Same H H' → E (.ref Ca) none H'
  | .bad => False
theorem own_def {CX : CXT} {P : Program} {w : World} {K : PySem.W.Frag} {mg : Str → Option Value} {base : Heap} {N : List Str} {qual : Str} {sc : Scope} {f : Addr} {cdv : Value} {A : Around} {outer : List Env} {s : Shared} {H : Hp} {E : XK} :
    Own (cxOf CX P w K mg base N qual sc f cdv A outer s H E) := ⟨rfl, rfl, rfl⟩
section
variable {P : Program} {w : World} {K : PySem.W.Frag} {mg : Str → Option Value} {base : Heap} {N : List Str} {qual : Str} {sc : Scope} {f : Addr} {cdv : Value} {A : Around} {outer : List Env} {s : Shared} {H H' : Hp} {E : XK} {C : Addr} {σ : L2.St}
theorem ew_def (same : Same H H') (hE : E (.ref C) none H') : ew (cxOf (CXF P w) P w K mg base N qual sc f cdv A outer s H E) C σ H' :=
  fun pins H1 s1 ea s' I F => leaves_on I own_def F same fun s'' F' => ⟨C, H', ea, rfl, F', hE⟩
theorem em_def (same : Same H H') (hE : E (.ref C) none H') : em (cxOf (CXF P w) P w K mg base N qual sc f cdv A outer s H E) C σ H' :=
  fun pins s1 h' ea vs I made => leaves_made I own_def made same fun s'' F' => ⟨C, H', ea, rfl, F', hE⟩
end
structure ScF (N G ps : List Str) (sc : Scope) : Prop where
  fs : FnScope N ps sc
  loc : ∀ x ∈ N, Loc sc x
  glb : ∀ x ∈ G, sc.names.lookup x = some .globalImplicit
  dbg : ∀ x ∈ N, (x == ("__debug__" : Str)) = false ∧ (x == ("__classdict__" : Str)) = false
  dbgG : ∀ x ∈ G, (x == ("__debug__" : Str)) = false ∧ x ≠ "__name__"
structure Pl (X : Cx) (N G : List Str) : Prop extends Sx X N where
  sto : ∀ x ∈ N, Sto X x
  gb : ∀ x ∈ G, Gb X x
noncomputable instance locDec {sc : Scope} {x : Str} : Decidable (Loc sc x) := inferInstanceAs (Decidable (_ ∨ _))
theorem locVis {sc : Scope} {x : Str} (h : Loc sc x) : Vis sc x := h.elim .inl fun z => .inr (.inl z)
theorem stt_start {K : PySem.W.Frag} {mg : Str → Option Value} {H : Hp} {N : List Str} {n m : Nat} : ∀ {vs : List V} {ds : List D}, Reps K mg H vs ds → ds.length = n → N.length = m → Stt K mg H (L2.start N vs) (EV.start n m ds) := by
  intro vs ds r hn hm
  have hl := r.length
  refine ⟨by simp [L2.start, EV.start, hl, hn, hm], fun i d e _ => ?_⟩
  unfold EV.start at e
  by_cases hi : i < ds.length
  · rw [List.getElem?_append_left (by simpa using hi), List.getElem?_map] at e
    cases q : ds[i]? with
    | none => rw [q] at e; cases e
    | some d' =>
      rw [q] at e
      have e' : d' = d := Option.some.inj (Option.some.inj e)
      subst e'
      obtain ⟨v, h1, h2⟩ := r.get q
      exact ⟨v, by unfold L2.start; rw [List.getElem?_append_left (by simp; omega), List.getElem?_map, h1]; rfl, h2⟩
  · rw [List.getElem?_append_right (by simpa using hi), List.getElem?_replicate] at e
    split at e <;> cases e
theorem start_noOwn {K : PySem.W.Frag} {mg : Str → Option Value} {H : Hp} {n m : Nat} {vs : List V} {ds : List D} (r : Reps K mg H vs ds) (i : Nat) (es : List D) : (EV.start n m ds)[i]? ≠ some (some (.own es)) := fun e => by
  unfold EV.start at e
  by_cases hi : i < ds.length
  · rw [List.getElem?_append_left (by simpa using hi), List.getElem?_map] at e
    cases q : ds[i]? with
    | none => rw [q] at e; cases e
    | some d' =>
      rw [q] at e
      have e' : d' = .own es := Option.some.inj (Option.some.inj e)
      subst e'
      obtain ⟨v, h1, h2⟩ := r.get q
      cases h2
  · rw [List.getElem?_append_right (by simpa using hi), List.getElem?_replicate] at e
    split at e <;> cases e
theorem fn_ok {P : Program} {w : World} {K : PySem.W.Frag} {mg : Str → Option Value} {base : Heap} {x qual : Str} {st : Stmt} {f : Addr} {fd : FuncData} {N G ps : List Str} {k n m : Nat} {g : S}
    (F : Fun K x qual st f fd) (S : ScF N G ps (defScope st)) (hn : ps.length = n) (hm : N.length = m)
    (hbody : ∀ X : Cx, X.prog = P → X.w = w → X.K = K → X.mg = mg → X.base = base → Room k X.A → Lp X → Own X → Pl X N G → X.env.scope = defScope st → SSs X (defBody st) g) :
    FnOk P w K mg base (CXF P w) (k + 1) f fd ps (spP K mg (fn n m g)) := by
  obtain ⟨oc, od, kV, doc, pm, an, cdv, ct, osl, rfl, lk, hcd⟩ := F.ex
  have len : ∀ {ds : List D}, fn n m g ds ≠ .bad → ds.length = n := fun {ds} h => by
    unfold fn at h
    split at h
    · assumption
    · exact absurd rfl h
  refine fn_of lk hcd S.fs (fun vs H Q E h => ?_) fun A outer s H vs Q E hr h => ?_
  · obtain ⟨ds, rs, h⟩ := h
    rw [rs.length, hn]
    refine len fun z => ?_
    rw [z] at h
    exact h
  · obtain ⟨ds, rs, h⟩ := h
    have hl : ds.length = n := len fun z => by rw [z] at h; exact h
    refine ⟨_, hbody (cxOf (CXF P w) P w K mg base N qual (defScope st) f cdv A outer s H E) rfl rfl rfl rfl rfl hr ⟨PassesOwn.leaving, rfl⟩ own_def ⟨⟨⟨rfl, S.fs.nd, fun y hy => locVis (S.loc y hy), S.dbg⟩, rfl⟩, fun y hy => ⟨S.loc y hy, .inl rfl⟩, fun y hy => ⟨S.glb y hy, (S.dbgG y hy).1, (S.dbgG y hy).2⟩⟩ rfl, _, [], StO.nil (stt_start rs hl hm) (start_noOwn rs), ?_⟩
    rw [hide_nil]
    unfold fn at h
    rw [if_pos hl] at h
    cases e : g (EV.start n m ds) with
    | nx δ => rw [e] at h; exact fun σ H' os _ s' => h .non H' (s'.trans (hide_same _ _)) .non
    | rt d => rw [e] at h; exact fun v H' s' r => h v H' s' r
    | ex C δ => rw [e] at h; exact fun σ H' s' _ Ca hc => ew_def s' (h Ca hc H' s')
    | mk C δ => rw [e] at h; exact fun σ H' s' Ca hc => em_def s' (h Ca hc H' s')
    | bk δ => rw [e] at h; exact False.elim h
    | ct δ => rw [e] at h; exact False.elim h
    | bad => rw [e] at h; exact False.elim h
noncomputable abbrev at5 (X : Cx) (P : Program) (w : World) (K : PySem.W.Frag) (mg : Str → Option Value) (base : Heap) : Cx := { X with prog := P, w := w, K := K, mg := mg, base := base }
theorem fn_ok2 {P : Program} {w : World} {K : PySem.W.Frag} {mg : Str → Option Value} {base : Heap} {x qual : Str} {st : Stmt} {f : Addr} {fd : FuncData} {N G ps : List Str} {k n m : Nat} {g : S}
    (F : Fun K x qual st f fd) (S : ScF N G ps (defScope st)) (hn : ps.length = n) (hm : N.length = m)
    (hbody : ∀ X : Cx, Room k (at5 X P w K mg base).A → Lp (at5 X P w K mg base) → Own (at5 X P w K mg base) → Pl (at5 X P w K mg base) N G → (at5 X P w K mg base).env.scope = defScope st → SSs (at5 X P w K mg base) (defBody st) g) :
    FnOk P w K mg base (CXF P w) (k + 1) f fd ps (spP K mg (fn n m g)) := fn_ok F S hn hm fun X hP hw hK hM hB hr L O Pl hS => by
  subst hP hw hK hM hB
  exact hbody X hr L O Pl hS
theorem us1 {C : List Value → Prop} (h : ∀ a, C [a]) (us : List Value) (hl : us.length = 1) : C us := by
  match us, hl with
  | [_], _ => exact h _
theorem us2 {C : List Value → Prop} (h : ∀ a b, C [a, b]) (us : List Value) (hl : us.length = 2) : C us := by
  match us, hl with
  | a :: us, hl => exact us1 (C := fun us => C (a :: us)) (h a) us (Nat.succ.inj hl)
theorem us3 {C : List Value → Prop} (h : ∀ a b c, C [a, b, c]) (us : List Value) (hl : us.length = 3) : C us := by
  match us, hl with
  | a :: us, hl => exact us2 (C := fun us => C (a :: us)) (h a) us (Nat.succ.inj hl)
theorem us4 {C : List Value → Prop} (h : ∀ a b c d, C [a, b, c, d]) (us : List Value) (hl : us.length = 4) : C us := by
  match us, hl with
  | a :: us, hl => exact us3 (C := fun us => C (a :: us)) (h a) us (Nat.succ.inj hl)
theorem us5 {C : List Value → Prop} (h : ∀ a b c d e, C [a, b, c, d, e]) (us : List Value) (hl : us.length = 5) : C us := by
  match us, hl with
  | a :: us, hl => exact us4 (C := fun us => C (a :: us)) (h a) us (Nat.succ.inj hl)
theorem us6 {C : List Value → Prop} (h : ∀ a b c d e f, C [a, b, c, d, e, f]) (us : List Value) (hl : us.length = 6) : C us := by
  match us, hl with
  | a :: us, hl => exact us5 (C := fun us => C (a :: us)) (h a) us (Nat.succ.inj hl)
theorem binds1 {K : PySem.W.Frag} {x qual : Str} {st : Stmt} {f : Addr} {fd : FuncData} {ps : List Str} (F : Fun K x qual st f fd) (hp : ps.length = 1)
    (h : ∀ (kV doc pm : Value) (an : Option Addr) (cdv ct : Value) (a : Value), bindArgs (PySem.W.fnOf x qual (defArgs st) (defBody st) (defScope st) .none kV doc pm an cdv ct) ⟨[a], []⟩ = pure (ps.zip [a])) : Binds K fd ps [] :=
  F.binds fun kV doc pm an cdv ct us hl => us1 (C := fun us => bindArgs (PySem.W.fnOf x qual (defArgs st) (defBody st) (defScope st) .none kV doc pm an cdv ct) ⟨us, []⟩ = pure (ps.zip us)) (h kV doc pm an cdv ct) us (hl.trans hp)
theorem binds2 {K : PySem.W.Frag} {x qual : Str} {st : Stmt} {f : Addr} {fd : FuncData} {ps : List Str} (F : Fun K x qual st f fd) (hp : ps.length = 2)
    (h : ∀ (kV doc pm : Value) (an : Option Addr) (cdv ct : Value) (a b : Value), bindArgs (PySem.W.fnOf x qual (defArgs st) (defBody st) (defScope st) .none kV doc pm an cdv ct) ⟨[a, b], []⟩ = pure (ps.zip [a, b])) : Binds K fd ps [] :=
  F.binds fun kV doc pm an cdv ct us hl => us2 (C := fun us => bindArgs (PySem.W.fnOf x qual (defArgs st) (defBody st) (defScope st) .none kV doc pm an cdv ct) ⟨us, []⟩ = pure (ps.zip us)) (h kV doc pm an cdv ct) us (hl.trans hp)
theorem binds3 {K : PySem.W.Frag} {x qual : Str} {st : Stmt} {f : Addr} {fd : FuncData} {ps : List Str} (F : Fun K x qual st f fd) (hp : ps.length = 3)
    (h : ∀ (kV doc pm : Value) (an : Option Addr) (cdv ct : Value) (a b c : Value), bindArgs (PySem.W.fnOf x qual (defArgs st) (defBody st) (defScope st) .none kV doc pm an cdv ct) ⟨[a, b, c], []⟩ = pure (ps.zip [a, b, c])) : Binds K fd ps [] :=
  F.binds fun kV doc pm an cdv ct us hl => us3 (C := fun us => bindArgs (PySem.W.fnOf x qual (defArgs st) (defBody st) (defScope st) .none kV doc pm an cdv ct) ⟨us, []⟩ = pure (ps.zip us)) (h kV doc pm an cdv ct) us (hl.trans hp)
theorem binds4 {K : PySem.W.Frag} {x qual : Str} {st : Stmt} {f : Addr} {fd : FuncData} {ps : List Str} (F : Fun K x qual st f fd) (hp : ps.length = 4)
    (h : ∀ (kV doc pm : Value) (an : Option Addr) (cdv ct : Value) (a b c d : Value), bindArgs (PySem.W.fnOf x qual (defArgs st) (defBody st) (defScope st) .none kV doc pm an cdv ct) ⟨[a, b, c, d], []⟩ = pure (ps.zip [a, b, c, d])) : Binds K fd ps [] :=
  F.binds fun kV doc pm an cdv ct us hl => us4 (C := fun us => bindArgs (PySem.W.fnOf x qual (defArgs st) (defBody st) (defScope st) .none kV doc pm an cdv ct) ⟨us, []⟩ = pure (ps.zip us)) (h kV doc pm an cdv ct) us (hl.trans hp)
theorem binds5 {K : PySem.W.Frag} {x qual : Str} {st : Stmt} {f : Addr} {fd : FuncData} {ps : List Str} (F : Fun K x qual st f fd) (hp : ps.length = 5)
    (h : ∀ (kV doc pm : Value) (an : Option Addr) (cdv ct : Value) (a b c d e : Value), bindArgs (PySem.W.fnOf x qual (defArgs st) (defBody st) (defScope st) .none kV doc pm an cdv ct) ⟨[a, b, c, d, e], []⟩ = pure (ps.zip [a, b, c, d, e])) : Binds K fd ps [] :=
  F.binds fun kV doc pm an cdv ct us hl => us5 (C := fun us => bindArgs (PySem.W.fnOf x qual (defArgs st) (defBody st) (defScope st) .none kV doc pm an cdv ct) ⟨us, []⟩ = pure (ps.zip us)) (h kV doc pm an cdv ct) us (hl.trans hp)
theorem binds6 {K : PySem.W.Frag} {x qual : Str} {st : Stmt} {f : Addr} {fd : FuncData} {ps : List Str} (F : Fun K x qual st f fd) (hp : ps.length = 6)
    (h : ∀ (kV doc pm : Value) (an : Option Addr) (cdv ct : Value) (a b c d e f : Value), bindArgs (PySem.W.fnOf x qual (defArgs st) (defBody st) (defScope st) .none kV doc pm an cdv ct) ⟨[a, b, c, d, e, f], []⟩ = pure (ps.zip [a, b, c, d, e, f])) : Binds K fd ps [] :=
  F.binds fun kV doc pm an cdv ct us hl => us6 (C := fun us => bindArgs (PySem.W.fnOf x qual (defArgs st) (defBody st) (defScope st) .none kV doc pm an cdv ct) ⟨us, []⟩ = pure (ps.zip us)) (h kV doc pm an cdv ct) us (hl.trans hp)
structure FnP (P : Program) (w : World) (K : PySem.W.Frag) (mg : Str → Option Value) (base : Heap) (x : Str) (k : Nat) (f : List D → R D) : Prop where
  ex : ∃ fa fd ps, FnOk P w K mg base (CXF P w) k fa fd ps (spP K mg f) ∧ mg x = some (.ref fa) ∧ PySem.W.keepIn K (.ref fa) = true ∧ Binds K fd ps []
theorem fn_def {P : Program} {w : World} {K : PySem.W.Frag} {mg : Str → Option Value} {base : Heap} {x : Str} {fa : Addr} {fd : FuncData} {ps : List Str} {k : Nat} {f : List D → R D}
    (F : FnOk P w K mg base (CXF P w) k fa fd ps (spP K mg f)) (kp : PySem.W.keepIn K (.ref fa) = true) (hm : mg x = some (.ref fa)) (hb : Binds K fd ps []) : FnP P w K mg base x k f := ⟨fa, fd, ps, F, hm, kp, hb⟩
structure Callee (X : Cx) (x : Str) (f : List D → R D) : Prop where
  ex : ∃ k fa fd ps, FnOk X.prog X.w X.K X.mg X.base (CXF X.prog X.w) k fa fd ps (spP X.K X.mg f) ∧ Room k X.A ∧ X.mg x = some (.ref fa) ∧ PySem.W.keepIn X.K (.ref fa) = true ∧ Binds X.K fd ps []
theorem FnP.callee {X : Cx} {x : Str} {k j : Nat} {f : List D → R D} (F : FnP X.prog X.w X.K X.mg X.base x k f) (hr : Room j X.A) (h : k ≤ j) : Callee X x f := by
  obtain ⟨fa, fd, ps, a, b, c, d⟩ := F.ex
  exact ⟨k, fa, fd, ps, a, hr.mono h, b, c, d⟩
section
variable {X : Cx} {x : Str} {f : List D → R D} {e : Expr} {es : List Expr} {gs : List E} {p pos : Pos}
theorem run_p {k : Nat} {fa : Addr} {fd : FuncData} {ps : List Str} {pins : List (Addr × Obj)} {σ : L2.St} {H : Hp} {s : Shared} {Q : VK} {us : List Value} {vs : List V} {ds : List D}
    (F : FnOk X.prog X.w X.K X.mg X.base (CXF X.prog X.w) k fa fd ps (spP X.K X.mg f)) (hr : Room k X.A) (hb : Binds X.K fd ps []) (I : Inv X pins σ H s) (r : Vals vs us) (rs : Reps X.K X.mg H vs ds) (q : RQ X σ H (f ds) Q) :
    wpAny (model X.prog X.w) X.A (PySem.call (.ref fa) us) (EP X pins σ Q) X.xe s := by
  have hsp : spP X.K X.mg f vs H Q (fun c _ H' => ∃ C Ca, f ds = .ex C ∧ X.mg C = some (.ref Ca) ∧ c = .ref Ca ∧ Same H H') := ⟨ds, rs, by
    cases e : f ds with
    | ok d => rw [e] at q; exact q
    | ex C => exact fun Ca hc H' s' => ⟨C, Ca, rfl, hc, rfl, s'⟩
    | bad => rw [e] at q; exact q⟩
  have hl : us.length = ps.length := by rw [← r.length]; exact F.len _ _ _ _ hsp
  have hb' := hb s us I.kIn (by rw [List.append_nil]; exact hl)
  rw [List.append_nil] at hb'
  refine wpAny_call (codeAny_mono (F.run X.A X.stack s H ⟨us, []⟩ us vs _ _ hr I.env0 hb' r hsp) fun r s' hq => ?_)
  cases r with
  | error er =>
    obtain ⟨C', H', ea, rfl, FX, C, Ca, e1, hc, e2, s2⟩ := hq
    cases e2
    rw [e1] at q
    exact q C' hc H' s2 pins H s ea s' I FX
  | ok fl =>
    cases fl with
    | ret u => exact I.after hq
    | next => exact False.elim hq
    | brk => exact False.elim hq
    | cont => exact False.elim hq
theorem e_call (c : Callee X x f) (G : Gb X x) (ha : SA X (e :: es) gs) (he : starEach (e :: es) X.env = (false, eval e X.env) :: starEach es X.env := by rfl) (hpl : (backTo pos (starEach es X.env)).any (·.1) = false := by rfl) :
    SE X (.Call (.Name x p) (e :: es) [] pos) (EV.call f gs) := by
  obtain ⟨k, fa, fd, ps, F, hr, hm, hk, hb⟩ := c.ex
  intro pins s σ H Q I ⟨δ, hσ, h⟩
  refine wpAny_Call_Name_kw (ld_glob I G.g hm ?_ G.d)
  refine PySem.W.callWith_K (h₀ := X.base) I.ok.mod.kin hk (thn (ha pos pins s σ H _ I ⟨δ, hσ, RA.bind h⟩) fun us s1 ⟨vs, H1, I1, r, sm, ds, rs, q⟩ => ⟨I1.kIn, run_p F hr hb I1 r rs q⟩) he hpl
end
theorem own_obj {K : PySem.W.Frag} {h : Heap} {C : Addr} {bmB : List Value} {newId : String} (KX : K.In h) (q : PySem.W.excIn K C bmB newId = true) :
    ∃ bm M nm qn bs hd sn sub ab col dd k0 k1 k2 k3 k5 mN, h.get? C = some (excClassObj nm qn C M bs bm hd sn sub ab col dd k0 k1 k2 k3 k5 newId) ∧ h.Ns M mN ∧ mN "__init__" = none ∧ OwnTail h bmB bm := by
  unfold PySem.W.excIn at q
  split at q
  · rename_i d1 cd sl hlk
    split at q
    · rename_i C' bm k0 k1 k2 k3 n k5 e1 e2
      simp only [Bool.and_eq_true, beq_iff_eq, Bool.not_eq_true'] at q
      obtain ⟨⟨⟨⟨⟨r1, r2⟩, r3⟩, r4⟩, r5⟩, r6⟩ := q
      subst r1 r2
      obtain ⟨nm, bs, mro, ns, qn, hd, sn, sub, ab, col, del⟩ := cd
      dsimp only at e1 r3 r5 r6
      subst e1 r3
      have e3 : sl = #[k0, k1, k2, k3, some (.builtin n), k5] := by
        obtain ⟨l⟩ := sl
        simp only at e2
        rw [e2]
      subst e3
      exact ⟨bm, ns, nm, qn, bs, hd, sn, sub, ab, col, d1, k0, k1, k2, k3, k5, _, KX _ _ hlk, .of_isNs (PySem.W.isNs_of_in KX r5), PySem.W.nsMap_none_of_in KX r5 r6, PySem.W.tail_of_in KX r4⟩
    · cases q
  · cases q
def bmV : List Value := [.type "ValueError", .type "Exception", .type "BaseException", .type "object"]
section
variable {X : Cx} {pos : Pos} {x : String} {C : Addr}
theorem s_raise (hc : X.calm = true) {np cp p3 : Pos} {m : Str} {j : Nat} (G : Gb X x) (hm : X.mg x = some (.ref C)) (hq : PySem.W.excIn X.K C bmV "ValueError.__new__" = true) :
    SS X (.Raise (some (.Call (.Name x np) [.Constant (.str m) j p3] [] cp)) none pos) (raise x) := by
  intro pins s σ H D I ⟨δ, os, S, h⟩
  obtain ⟨bm, M, nm, qn, bs, hd, sn, sub, ab, col, dd, k0, k1, k2, k3, k5, mN, hC, hN, hni, T⟩ := own_obj I.mod.kin hq
  have FB : ExcBaseFacts "ValueError" "ValueError.__new__" "ValueError.__init__" bmV := PySem.F.excBase_ValueError
  refine wpAny_Raise_call_subT (C := C) (nm := nm) (q := qn) (N := M) (bs := bs) (bm := bm) (hdct := hd) (sn := sn) (sub := sub) (ab := ab) (col := col) (dd := dd) (k0 := k0) (k1 := k1) (k2 := k2) (k3 := k3) (k5 := k5)
    FB (mN := mN) (T.hasType FB.hasBase) (I.ok.hd hc) rfl hni (ld_glob I G.g hm ⟨rfl, ?_⟩ G.d)
  have hsp := (pa_cons (X := X) (pe_str (x := m) (j := j) (pos := p3)) pa_nil) cp pins s σ H (fun vs H1 => vs.length = 1 ∧ H1 = H) I (show (1 = 1 ∧ H = H) from ⟨rfl, rfl⟩)
  refine Calls.evalArgs_plain (thn hsp fun us s2 ⟨vs, H1, I1, r, q1, q2⟩ => ?_)
  subst q2
  have hl : us.length = 1 := by rw [← r.length]; exact q1
  exact ⟨rfl, by show us.length ≤ _; rw [hl, sizeLine_eq]; decide, I1.bk _ _ hC, hN.keeps I1.bk, T.keeps I1.bk, fun h' e1 made => h σ H1 (hide_same _ _) C hm pins s2 h' e1 us I1 made⟩
end
section
variable {K : PySem.W.Frag} {M : Model} {h : Heap} {C C' e : Addr}
open PySem.W in
theorem xc_matches {A : Around} {E : Value → Shared → Prop} {s : Shared} {Q : Bool → Shared → Prop} (KX : K.In s.heap) (he : ∃ o, s.heap.get? e = some o ∧ o.cls = .ref C) (c1 : (clsIn K C').isSome = true) (c2 : typeIn K (.ref C') = some (.type "type"))
    (c3 : subIn K (.type "type") (.type "tuple") = some false) (c4 : mroIn K C' (.type "BaseException") = some true) (c5 : mroIn K C (.ref C') = some true) (h : Q true s) : wpAny M A (excMatches (.ref e) (.ref C')) Q E s := by
  obtain ⟨o, ho, hcl⟩ := he
  have L1 : Looks M s.heap (isInstance (.ref C') (.type "tuple")) false := (looks_typeIn KX c2).andThen (looks_subIn KX c3)
  have L2 : Looks M s.heap (isType (.ref C')) true := by
    obtain ⟨cd, c1⟩ := Option.isSome_iff_exists.mp c1
    unfold clsIn at c1
    split at c1
    · rename_i hlk
      intro A' Q' E' s' k q
      unfold isType loadHead
      exact wpAny_bind (wpAny_loadPart (k _ _ (KX _ _ hlk)) (wpAny_pure q))
    · cases c1
  have L3 : Looks M s.heap (isExcClass (.ref C')) true := L2.andThen (looks_mroIn KX c4)
  have L4 : Looks M s.heap (typeOf (.ref e)) (.ref C) := hcl ▸ (Looks.ld ho).andThen .now
  have L5 : Looks M s.heap (isSubtype (.ref C) (.ref C')) true := looks_mroIn KX c5
  unfold excMatches
  refine wpAny_bind (L1.here ?_)
  simp only [Bool.false_eq_true, if_false]
  refine wpAny_bind (wpAny_pure ?_)
  simp only [List.forIn_cons, List.forIn_nil]
  refine wpAny_bind (wpAny_bind (wpAny_bind (L3.here ?_)))
  simp only [Bool.not_true, Bool.false_eq_true, if_false]
  refine wpAny_pure ?_
  refine wpAny_pure ?_
  refine wpAny_bind (L4.here ?_)
  refine wpAny_bind (wpAny_bind (wpAny_bind (L5.here ?_)))
  simp only [if_true]
  exact wpAny_pure (wpAny_pure (wpAny_pure h))
end
noncomputable abbrev tryCx (X : Cx) (pins : List (Addr × Obj)) (W : Value → Shared → Prop) : Cx := { X with xe := W, pn := X.pn ++ pins }
noncomputable abbrev inCx (X : Cx) (ea : Addr) : Cx := { X with A := X.A.mark (some (.ref ea)), calm := false, xe := fun _ _ => False }
section
variable {X : Cx} {pins : List (Addr × Obj)} {σ : L2.St} {H H' : Hp} {s s' : Shared} {C ea : Addr} {W : Value → Shared → Prop}
theorem ok_try (o : X.Ok) : (tryCx X pins W).Ok := ⟨o.mod, o.kind, o.glob, o.blt, o.above, o.inj, o.has, o.cab, o.hd, o.frames, o.stk, o.exf, o.bs, o.bsz, o.noex, o.exfs, o.funs, o.frf⟩
theorem inv_try (I : Inv X pins σ H s) : Inv (tryCx X pins W) [] σ H s :=
  ⟨ok_try I.ok, I.os, I.bare, I.base, I.loc, I.cell, I.free, I.freeC, fun p hp => I.pin p (by rw [List.append_nil] at hp; exact hp), I.hok, I.len⟩
theorem inv_untry {p2 : List (Addr × Obj)} (ok : X.Ok) (I : Inv (tryCx X pins W) p2 σ H s) : Inv X pins σ H s :=
  ⟨ok, I.os, I.bare, I.base, I.loc, I.cell, I.free, I.freeC, fun p hp => I.pin p (List.mem_append_left _ hp), I.hok, I.len⟩
theorem inv_in (I : Inv X pins σ H s) (ea : Addr) : Inv (inCx X ea) pins σ H s :=
  let o := I.ok
  ⟨⟨o.mod, o.kind, o.glob, o.blt, o.above, o.inj, o.has, o.cab, (fun z => absurd z Bool.false_ne_true), o.frames, o.stk, o.exf, o.bs, o.bsz, o.noex, o.exfs, o.funs, o.frf⟩, I.os, I.bare, I.base, I.loc, I.cell, I.free, I.freeC, I.pin, I.hok, I.len⟩
theorem inv_out (ok : X.Ok) (I : Inv (inCx X ea) pins σ H s) : Inv X pins σ H s := ⟨ok, I.os, I.bare, I.base, I.loc, I.cell, I.free, I.freeC, I.pin, I.hok, I.len⟩
theorem inv_gone (I : Inv X pins σ H s) {i : Nat} {n : Str} {m : Str → Option Value} {v : Option Value} {h' : Heap} {tk : Nat} (hN : X.N.Nodup) (hi : X.N[i]? = some n)
    (hl : ∀ (i : Nat) (x : Str) (v : V), X.N[i]? = some x → σ[i]? = some (some v) → Vis X.env.scope x → ∃ u, RelV v u ∧ Look X.env s.heap m x u)
    (hn' : h'.Ns X.env.locals (fun x => if x = n then v else m x)) (hs : Heap.SameBut X.env.locals s.heap h') : Inv X pins (σ.set i none) H { s with heap := h', toks := tk } := by
  have cne := I.cne
  obtain ⟨m0, hn0, _⟩ := id I.loc
  have iσ : i < σ.length := by rw [I.len]; exact (List.getElem?_eq_some_iff.mp hi).1
  have ne0 : ∀ {b : Addr} {o : Obj}, X.s₀.heap.get? b = some o → b ≠ X.env.locals := fun {b o} e => Nat.ne_of_lt (Nat.lt_of_lt_of_le (Heap.lt_size e) I.ok.above)
  refine ⟨I.ok, I.os, I.bare, ⟨fun b o e k hb hx => ?_, fun b o e k hb hx => ?_, I.base.free, fun b o e hx => ?_, I.base.tups, I.base.frzs, I.base.tbls⟩, ⟨_, hn', fun j y v' e1 e2 e3 => ?_⟩, fun y c e => ?_, I.free, I.freeC, fun p hp => ?_, fun b ob e => ?_, by rw [List.length_set]; exact I.len⟩
  · exact (hs.2 b (ne0 e)).trans (I.base.keep b o e k hb hx)
  · obtain ⟨sl, q⟩ := I.base.slot b o e k hb hx
    exact ⟨sl, (hs.2 b (ne0 e)).trans q⟩
  · obtain ⟨o', q⟩ := I.base.there b o e hx
    exact ⟨o', (hs.2 b (ne0 e)).trans q⟩
  · by_cases hj : j = i
    · subst hj
      rw [List.getElem?_set_self iσ] at e2
      cases e2
    · rw [List.getElem?_set_ne (Ne.symm hj)] at e2
      obtain ⟨u, r, q⟩ := hl j y v' e1 e2 e3
      refine ⟨u, r, ?_⟩
      rcases q with ⟨k, e⟩ | ⟨k, c, e, z⟩
      · refine .inl ⟨k, ?_⟩
        have : y ≠ n := fun q => hj (nodup_ix hN e1 (q ▸ hi))
        simp [this, e]
      · exact .inr ⟨k, c, e, z.sameBut hs (cne y c e)⟩
  · obtain ⟨w', z⟩ := I.cell y c e
    exact ⟨w', z.sameBut hs (cne y c e)⟩
  · obtain ⟨e, k, ne, nf, d⟩ := I.pin p hp
    exact ⟨(hs.2 p.1 ne).trans e, k, ne, nf, d⟩
  · refine (I.hok b ob e).stay (fun c w' hc q => (hs.2 c ?_).trans q) (fun _ q => q) fun _ _ q => q
    rintro rfl
    rcases hc with rfl | hc
    · rw [I.free] at e; cases e
    · rw [I.free] at hc; cases hc
theorem un_track {fs : List Addr} {h h2 : Heap} {o : HO} (u : Un fs [] H H' h h2) (k1 : h.get? ea = none) (k2 : H' ea = none) : Un fs [] H (upd H' ea o) h h2 := by
  have ne1 : ∀ {b : Addr} {ob : Obj}, h.get? b = some ob → b ≠ ea := fun {b ob} e z => by rw [z, k1] at e; cases e
  have ne2 : ∀ {b : Addr} {x : HO}, H' b = some x → b ≠ ea := fun {b x} e z => by rw [z, k2] at e; cases e
  refine ⟨u.keep, u.slot, fun b ob e n hx => by rw [upd_ne (ne1 e)]; exact u.free b ob e n hx, u.there, fun b xs e => ?_, fun b ob x e => ?_, fun b ps e => ?_⟩
  · have q := u.tups b xs e
    rw [upd_ne (ne2 q)]; exact q
  · have q := u.frzs b ob x e
    rw [upd_ne (ne2 q)]; exact q
  · obtain ⟨more, q⟩ := u.tbls b ps e
    exact ⟨more, by rw [upd_ne (ne2 q)]; exact q⟩
theorem hok_track {P : Program} {w : World} {h2 : Heap} (hok : HOk P w H' h2) (k2 : H' ea = none) (he : ∃ o vs, h2.get? ea = some o ∧ o.cls = .ref C ∧ o.data = .fields vs) : HOk P w (upd H' ea (excO ea C)) h2 := fun b u e => by
  by_cases hb : b = ea
  · subst hb
    rw [upd_same] at e
    cases e
    obtain ⟨o, vs, h1, h2', h3⟩ := he
    exact ⟨⟨o, vs, h1, h2', h3⟩, ⟨o, h1⟩, fun g1 g2 ⟨o1, vs1, q1, q2⟩ k => ⟨o1, vs1, k o1 q1, q2⟩⟩
  · rw [upd_ne hb] at e
    refine (hok b u e).stay (fun _ _ _ q => q) (fun c q => ?_) fun c xs q => ?_
    · rw [upd_ne (fun z => by rw [z, k2] at q; cases q)]; exact q
    · rw [upd_ne (fun z => by rw [z, k2] at q; cases q)]; exact q
end
structure Catch (K : PySem.W.Frag) (C C' : Addr) : Prop where
  c1 : (PySem.W.clsIn K C').isSome = true
  c2 : PySem.W.typeIn K (.ref C') = some (.type "type")
  c3 : PySem.W.subIn K (.type "type") (.type "tuple") = some false
  c4 : PySem.W.mroIn K C' (.type "BaseException") = some true
  c5 : PySem.W.mroIn K C (.ref C') = some true
section
variable {X : Cx} {N G : List Str} {pos np hpos : Pos} {n : Str} {cls : String} {C' : Addr} {body suite : List Stmt} {b₀ : Stmt} {gb gs : S}
noncomputable def Catches (X : Cx) (cls : String) (C' : Addr) : Prop := ∀ (C : String) (Ca : Addr), exSub C cls = true → X.mg C = some (.ref Ca) → Catch X.K Ca C'
theorem noOwn_stt {K : PySem.W.Frag} {mg : Str → Option Value} {H : Hp} {σ : L2.St} {δ : Dt} (h : Stt K mg H σ δ) : Stt K mg H σ (noOwn δ) := by
  refine ⟨by unfold noOwn; rw [List.length_map]; exact h.1, fun i d e n => ?_⟩
  unfold noOwn at e
  rw [List.getElem?_map] at e
  cases q : δ[i]? with
  | none => rw [q] at e; cases e
  | some c =>
    rw [q] at e
    cases c with
    | none => cases e
    | some d0 =>
      by_cases ho : ∃ ds, d0 = .own ds
      · obtain ⟨ds, rfl⟩ := ho
        cases e
      · have e' : d0 = d := by
          cases d0 <;> first | exact absurd ⟨_, rfl⟩ ho | exact Option.some.inj (Option.some.inj e)
        subst e'
        exact h.2 i d0 q n
theorem noOwn_ne {δ : Dt} {i : Nat} {d : D} (hd : ∀ ds, d ≠ .own ds) (j : Nat) (ds : List D) : ((noOwn δ).set i (some d))[j]? ≠ some (some (.own ds)) := fun e => by
  by_cases hj : j = i
  · subst hj
    by_cases hl : j < (noOwn δ).length
    · rw [List.getElem?_set_self hl] at e
      exact hd ds (Option.some.inj (Option.some.inj e))
    · rw [List.getElem?_eq_none (by rw [List.length_set]; omega)] at e
      cases e
  · rw [List.getElem?_set_ne (Ne.symm hj)] at e
    unfold noOwn at e
    rw [List.getElem?_map] at e
    cases q : δ[j]? with
    | none => rw [q] at e; cases e
    | some c =>
      rw [q] at e
      cases c with
      | none => cases e
      | some d0 => cases d0 <;> cases e
theorem caught (P : Pl X N G) (O : Own X) (i : Nat) (hn : N[i]? = some n) (hloc : X.env.scope.names.lookup n = some .local) (GC : Gb X cls) (hm : X.mg cls = some (.ref C')) {C : String} {Ca : Addr} (hC : X.mg C = some (.ref Ca)) (hk : Catch X.K Ca C')
    (hs : ∀ ea, SSs (inCx X ea) (b₀ :: suite) gs) {δe δ2 : Dt} (eg : gs (δe.set i (some (.exc C))) = .nx δ2)
    (ne' : ∀ (j : Nat) (ds : List D), (δe.set i (some (.exc C)))[j]? ≠ some (some (.own ds)))
    {pins : List (Addr × Obj)} {σ : L2.St} {H1 H' : Hp} {s1 s' : Shared} {ea : Addr} {D : Ends} {hrest : List ExceptHandler}
    (I1 : Inv X pins σ H1 s1) (F : FlyX X.prog X.w X.stack H1 s1 Ca H' ea s') (hσ : Stt X.K X.mg H' σ δe) (hD : ∀ σ2 H2 os, Same H' (hide H2 os) → StO X H2 σ2 (δ2.set i none) os → D.nx σ2 H2) :
    wpAny (model X.prog X.w) X.A (noteFrame (.ref ea) X.env) (fun _ s2 => wpAny (model X.prog X.w) X.A (setFlight (.ref ea) none) (fun _ s3 =>
      wpAny (model X.prog X.w) X.A (handleBy (.ref ea) X.env (.ExceptHandler (some (.Name cls np)) (some n) (b₀ :: suite) hpos :: hrest)) (SP X pins D) X.xe s3) X.xe s2) X.xe s' := by
  have hmn : n ∈ N := List.mem_of_getElem? hn
  obtain ⟨a0, B, hfl, i1, i2⟩ := F.fly
  have ff := ff_of hfl.2.2.1
  have noea : H' ea = none := by
    cases q : H' ea with
    | none => rfl
    | some u =>
      obtain ⟨ob, e⟩ := obj_there (F.hok ea u q)
      have z := i2 ea u ob q e
      rw [hfl.2.1] at z
      cases z
  rw [O.stk] at hfl
  refine wpAny_looks_onW (by rw [I1.ok.frames, O.stk]) O.frm hfl fun h4 held4 up4 => ?_
  refine wpAny_landsW held4 fun h5 fl5 up5 => ?_
  have up45 := up4.trans up5
  have at_ : ∀ {h6 : Heap} {g : Nat}, B.StaysIn h6 → s'.heap.UpToSlots h6 → Inv X pins σ H' { s' with heap := h6, toks := g } := fun {h6 g} st up =>
    I1.call' (s' := { s' with heap := h6, toks := g }) (ch := []) F.os (un_fly F.un F.same i1 i2 st up ff) (hok_fly F.hok i2 st) F.bare fun b z => absurd z (by simp)
  have I5 := at_ (g := s'.toks) fl5.1 up45
  refine wpAny_handleBy_cons (codeAny_handlers_test ?_) (by intro q; cases q)
  refine ld_glob (X := inCx X ea) (inv_in I5 ea) GC.g hm ?_ GC.d
  refine xc_matches (K := X.K) I5.kIn fl5.there hk.c1 hk.c2 hk.c3 hk.c4 hk.c5 ?_
  refine codeAny_handlers_suite_as ?_
  refine lands_againW fl5 fun h6 fl6 up6 => ?_
  have up456 := up45.trans up6
  have u6 := un_fly F.un F.same i1 i2 fl6.1 up456 ff
  have fl6' : ∃ o vs, h6.get? ea = some o ∧ o.cls = .ref Ca ∧ o.data = .fields vs := by
    obtain ⟨_, _, _, oe, vs, _, _, _, he, hc, hd, _⟩ := fl6
    exact ⟨oe, vs, he, hc.1, hd⟩
  have I6 : Inv X pins σ (upd H' ea (excO ea Ca)) { s' with heap := h6 } :=
    I1.call' (s' := { s' with heap := h6 }) (ch := []) F.os (un_track u6 F.new noea) (hok_track (hok_fly F.hok i2 fl6.1) noea fl6') F.bare fun b z => absurd z (by simp)
  have same2 : Same H' (upd H' ea (excO ea Ca)) := same_upd noea _
  have J6 := inv_in I6 ea
  refine store_ok (X := inCx X ea) (v := .ref ea) (i := i) J6 (by rw [show (inCx X ea).N = X.N from rfl, P.sc.n]; exact P.sc.nd) (by rw [show (inCx X ea).N = X.N from rfl, P.sc.n]; exact hn) (.inl hloc) rfl (fun s7 J7 => ?_) (.inr hloc)
  have hσ7 : Stt X.K X.mg (upd H' ea (excO ea Ca)) (σ.set i (some (.ref ea))) (δe.set i (some (.exc C))) := (hσ.mono same2).set (.exc hC upd_same)
  have S7 : StO (inCx X ea) (upd H' ea (excO ea Ca)) (σ.set i (some (.ref ea))) (δe.set i (some (.exc C))) [] := StO.nil hσ7 ne'
  refine wpAny_mono (hs ea pins s7 _ _ { nx := fun σ2 H2 => ∃ os, Same (upd H' ea (excO ea Ca)) (hide H2 os) ∧ StO X H2 σ2 δ2 os, rt := fun _ _ => False } J7 ⟨_, [], S7, by rw [eg]; exact fun σ2 H2 os S sm => ⟨os, by rw [hide_nil] at sm; exact sm, ⟨S.st, S.lst, S.own, S.inj⟩⟩⟩) (fun f s8 q8 => ?_) fun _ _ z => False.elim z
  cases f with
  | ret v => obtain ⟨_, _, _, _, _, z⟩ := q8; exact z.elim
  | brk => obtain ⟨_, _, _, z⟩ := q8; exact z.elim
  | cont => obtain ⟨_, _, _, z⟩ := q8; exact z.elim
  | next =>
    obtain ⟨σ8, H8, J8, os, sm, S8⟩ := q8
    have I8 := inv_out I1.ok J8
    obtain ⟨m, hns, hl⟩ := id I8.loc
    refine wpAny_nameGoes_keeps hloc hns (by rw [I8.ok.kind]; rfl) fun h9 v hn9 hs9 => ?_
    have hless : Same (hide H8 os) (hide H8 (os.filter fun p => p.1 != i)) := hide_less fun p hp => (os_drop os i p hp).1
    refine ⟨σ8.set i none, H8, inv_gone I8 (by rw [P.sc.n]; exact P.sc.nd) (by rw [P.sc.n]; exact hn) hl hn9 hs9, hD _ _ (os.filter fun p => p.1 != i) ((same2.trans sm).trans hless) ?_⟩
    have setn : ∀ {α : Type} {l : List (Option α)} {j : Nat} {d : α}, (l.set i none)[j]? = some (some d) → l[j]? = some (some d) ∧ j ≠ i := fun {α l j d} e => by
      by_cases hj : j = i
      · subst hj
        by_cases hjl : j < l.length
        · rw [List.getElem?_set_self hjl] at e; cases e
        · rw [List.getElem?_eq_none (by rw [List.length_set]; omega)] at e; cases e
      · rw [List.getElem?_set_ne (Ne.symm hj)] at e
        exact ⟨e, hj⟩
    refine ⟨⟨by rw [List.length_set, List.length_set]; exact S8.st.1, fun j d e nd => ?_⟩, fun p hp => ?_, fun j ds e => ?_, fun a b c h1 h2 => S8.inj a b c (os_drop os i _ h1).1 (os_drop os i _ h2).1⟩
    · obtain ⟨e, hj⟩ := setn e
      obtain ⟨v1, q1, q2⟩ := S8.st.2 j d e nd
      exact ⟨v1, by rw [List.getElem?_set_ne (Ne.symm hj)]; exact q1, q2.mono hless⟩
    · obtain ⟨hp', hne⟩ := os_drop os i p hp
      obtain ⟨xs, ds, h1, h2, h3, h4⟩ := S8.lst p hp'
      exact ⟨xs, ds, h1, by rw [List.getElem?_set_ne (Ne.symm hne)]; exact h2, by rw [List.getElem?_set_ne (Ne.symm hne)]; exact h3, h4.mono hless⟩
    · obtain ⟨e, hj⟩ := setn e
      obtain ⟨a, ha⟩ := S8.own j ds e
      exact ⟨a, List.mem_filter.mpr ⟨ha, by simpa using hj⟩⟩
theorem s_try (P : Pl X N G) (O : Own X) (i : Nat) (hn : N[i]? = some n) (hloc : X.env.scope.names.lookup n = some .local) (GC : Gb X cls) (hm : X.mg cls = some (.ref C')) (hk : Catches X cls C')
    (hb : ∀ pins W, SSs (tryCx X pins W) body gb) (hs : ∀ ea, SSs (inCx X ea) (b₀ :: suite) gs) :
    SS X (.Try body [.ExceptHandler (some (.Name cls np)) (some n) (b₀ :: suite) hpos] [] [] pos) (try_ gb cls i gs) := by
  intro pins s σ H D I ⟨δ, os, S, h⟩
  refine wpAny_Try_except ?_
  have S' : ∀ W, StO (tryCx X pins W) H σ δ os := fun W => ⟨S.st, S.lst, S.own, S.inj⟩
  unfold try_ tryO at h
  cases e : gb δ with
  | nx δ1 =>
    rw [e] at h
    refine wpAny_mono (hb pins _ [] s σ H { nx := D.nx, rt := fun _ _ => False } (inv_try I) ⟨δ, os, S' _, by rw [e]; exact fun σ1 H1 os1 S1 s1 => h σ1 H1 os1 ⟨S1.st, S1.lst, S1.own, S1.inj⟩ s1⟩) (fun f s1 q => ?_) fun _ _ z => z
    cases f with
    | next =>
      obtain ⟨σ1, H1, I1, q⟩ := q
      exact wpAny_execs_nil ⟨σ1, H1, inv_untry I.ok I1, q⟩
    | ret v => obtain ⟨_, _, _, _, _, z⟩ := q; exact z.elim
    | brk => obtain ⟨_, _, _, z⟩ := q; exact z.elim
    | cont => obtain ⟨_, _, _, z⟩ := q; exact z.elim
  | ex C δe =>
    rw [e] at h
    simp only [forget] at h
    split at h
    · rename_i hcl
      cases eg : gs ((noOwn δe).set i (some (.exc C))) with
      | nx δ2 =>
        rw [eg] at h
        have ho : ∀ W, (∀ ea s', (∃ p2 Hc sc σ1 H1 Ca, Inv X pins σ1 Hc sc ∧ Same (hide H os) H1 ∧ Stt X.K X.mg H1 σ1 δe ∧ X.mg C = some (.ref Ca) ∧ FlyX X.prog X.w X.stack Hc sc Ca H1 ea s' ∧ p2 = pins) → W (.ref ea) s') → OQ (tryCx X pins W) { nx := fun _ _ => False, rt := fun _ _ => False } (hide H os) (gb δ) := fun W hW => by
          rw [e]
          exact fun σ1 H1 s1 hσ1 Ca hCa p2 Hc sc ea s' Ic F => hW ea s' ⟨pins, Hc, sc, σ1, H1, Ca, inv_untry I.ok Ic, s1, hσ1, hCa, F, rfl⟩
        refine wpAny_mono (hb pins _ [] s σ H _ (inv_try I) ⟨δ, os, S' _, ho _ ?_⟩) (fun f s1 q => ?_) fun _ _ z => z
        · rintro ea s' ⟨p2, Hc, sc, σ1, H1, Ca, Ic, s1, hσ1, hCa, F, _⟩
          exact caught P O i hn hloc GC hm hCa (hk C Ca hcl hCa) hs eg (noOwn_ne (fun _ z => nomatch z)) Ic F (noOwn_stt hσ1) fun σ2 H2 os2 sm S2 => h σ2 H2 os2 S2 (s1.trans sm)
        · cases f with
          | next => obtain ⟨_, _, _, z⟩ := q; exact z.elim
          | ret v => obtain ⟨_, _, _, _, _, z⟩ := q; exact z.elim
          | brk => obtain ⟨_, _, _, z⟩ := q; exact z.elim
          | cont => obtain ⟨_, _, _, z⟩ := q; exact z.elim
      | _ => rw [eg] at h; exact False.elim h
    · exact False.elim h
  | _ => rw [e] at h; exact False.elim h
theorem Pl.try (P : Pl X N G) (p : List (Addr × Obj)) (W : Value → Shared → Prop) : Pl (tryCx X p W) N G := ⟨⟨⟨P.sc.n, P.sc.nd, P.sc.vis, P.sc.dbg⟩, P.ex⟩, P.sto, fun x hx => ⟨(P.gb x hx).g, (P.gb x hx).d, (P.gb x hx).n⟩⟩
theorem Pl.inn (P : Pl X N G) (ea : Addr) : Pl (inCx X ea) N G := ⟨⟨⟨P.sc.n, P.sc.nd, P.sc.vis, P.sc.dbg⟩, P.ex⟩, P.sto, fun x hx => ⟨(P.gb x hx).g, (P.gb x hx).d, (P.gb x hx).n⟩⟩
end
end ES
namespace ES
open PySem PySem.Spec PyProof.Rows L2 EV
unseal SE ST SW SA SS SSs
noncomputable def rC (X : Cx) (f : List D → R D) : List V → Hp → VK → Prop := fun vs H Q => ∃ ds d, Reps X.K X.mg H vs ds ∧ f ds = .ok d ∧ ∀ v H', Same H H' → Rep X.K X.mg H' v d → Q v H'
noncomputable def NoX (f : List D → R D) : Prop := ∀ ds C, f ds ≠ .ex C
theorem RQ.cl {X : Cx} {σ : L2.St} {H : Hp} {f : List D → R D} (nx : NoX f) {vs : List V} {ds : List D} {Q : VK} (r : Reps X.K X.mg H vs ds) (h : RQ X σ H (f ds) Q) : rC X f vs H Q := by
  cases e : f ds with
  | ok d => rw [e] at h; exact ⟨ds, d, r, e, h⟩
  | ex C => exact absurd e (nx ds C)
  | bad => rw [e] at h; exact False.elim h
section
variable {X : Cx} {x : Str} {id T : String} {f : List D → R D} {e o : Expr} {es : List Expr} {gs : List E} {g : E} {p pos apos : Pos}
theorem e_bltn (hc : CallR X (.builtin id) (rC X f)) (nx : NoX f) (G : Gb X x) (hm : X.mg x = none) (hv : bootBuiltins x = some (.builtin id)) (ha : SA X (e :: es) gs)
    (he : starEach (e :: es) X.env = (false, eval e X.env) :: starEach es X.env := by rfl) (hpl : (backTo pos (starEach es X.env)).any (·.1) = false := by rfl) : SE X (.Call (.Name x p) (e :: es) [] pos) (EV.call f gs) :=
  PE.weak (pe_callB hc G.g hm hv ha G.n G.d he hpl) fun σ H Q ⟨δ, hσ, h⟩ => ⟨δ, hσ, (RA.bind h).to fun vs H' s ⟨_, ds, rs, q⟩ => RQ.cl nx rs q⟩
theorem e_btyp (hc : CallR X (.type T) (rC X f)) (nx : NoX f) (G : Gb X x) (hm : X.mg x = none) (hv : bootBuiltins x = some (.type T)) (ha : SA X (e :: es) gs)
    (he : starEach (e :: es) X.env = (false, eval e X.env) :: starEach es X.env := by rfl) (hpl : (backTo pos (starEach es X.env)).any (·.1) = false := by rfl) : SE X (.Call (.Name x p) (e :: es) [] pos) (EV.call f gs) :=
  PE.weak (pe_callTy hc G.g hm hv ha G.n G.d he hpl) fun σ H Q ⟨δ, hσ, h⟩ => ⟨δ, hσ, (RA.bind h).to fun vs H' s ⟨_, ds, rs, q⟩ => RQ.cl nx rs q⟩
theorem reps1 {H : Hp} {vs : List V} {d : D} (r : Reps X.K X.mg H vs [d]) : ∃ v, vs = [v] ∧ Rep X.K X.mg H v d := by
  cases r with
  | cons r rr => cases rr; exact ⟨_, rfl, r⟩
theorem reps2 {H : Hp} {vs : List V} {d d' : D} (r : Reps X.K X.mg H vs [d, d']) : ∃ v v', vs = [v, v'] ∧ Rep X.K X.mg H v d ∧ Rep X.K X.mg H v' d' := by
  cases r with
  | cons r rr =>
    cases rr with
    | cons r' rr => cases rr; exact ⟨_, _, rfl, r, r'⟩
theorem nxLen : NoX bLen := fun ds C z => by unfold bLen at z; split at z <;> first | cases z | exact nx_ite z
theorem c_len : CallR X (.builtin "len") (rC X bLen) := by
  intro pins s σ H xs us Q I rs ⟨ds, d, r, e, q⟩
  unfold bLen at e
  split at e
  · cases e
    obtain ⟨v, rfl, r1⟩ := reps1 r
    cases r1 with
    | @lst a ys _ hq rr => exact call_len_seq pins s σ H _ us Q I rs ⟨a, ys, rfl, .inl hq, by rw [rr.length]; exact q _ _ (Same.refl _) (.int _)⟩
  · cases e
    obtain ⟨v, rfl, r1⟩ := reps1 r
    cases r1 with
    | @tup a ys _ hq rr => exact call_len_seq pins s σ H _ us Q I rs ⟨a, ys, rfl, .inr hq, by rw [rr.length]; exact q _ _ (Same.refl _) (.int _)⟩
  · split at e
    · rename_i hz
      cases e
      obtain ⟨v, rfl, r1⟩ := reps1 r
      cases r1
      exact call_len_str pins s σ H _ us Q I rs ⟨_, rfl, Nat.le_trans hz (by rw [sizeLine_eq]; decide), q _ _ (Same.refl _) (.int _)⟩
    · cases e
  · cases e
theorem nxMax : NoX bMax := fun ds C z => by unfold bMax at z; split at z <;> cases z
theorem c_max (hc : X.calm = true) : CallR X (.builtin "max") (rC X bMax) := by
  intro pins s σ H xs us Q I rs ⟨ds, d, r, e, q⟩
  unfold bMax at e
  split at e
  · cases e
    obtain ⟨v, v', rfl, r, r'⟩ := reps2 r
    cases r; cases r'
    exact call_max2 hc pins s σ H _ us Q I rs ⟨_, _, rfl, q _ _ (Same.refl _) (.int _)⟩
  · cases e
theorem nxMin : NoX bMin := fun ds C z => by unfold bMin at z; split at z <;> cases z
theorem c_min (hc : X.calm = true) : CallR X (.builtin "min") (rC X bMin) := by
  intro pins s σ H xs us Q I rs ⟨ds, d, r, e, q⟩
  unfold bMin at e
  split at e
  · cases e
    obtain ⟨v, v', rfl, r, r'⟩ := reps2 r
    cases r; cases r'
    exact call_min2 hc pins s σ H _ us Q I rs ⟨_, _, rfl, q _ _ (Same.refl _) (.int _)⟩
  · cases e
theorem mt_bitlen : MtR X "int.bit_length" (fun x xs H Q => ∃ i, x = .int i ∧ xs = [] ∧ Q (.int (nb i)) H) := by
  intro pins s σ H x xs v us Q I rx rs ⟨i, ex, exs, q⟩
  subst ex exs
  obtain ⟨t, rfl⟩ := rx
  cases rs
  refine call_int_bit_length ⟨.int (nb i), H, I.tok _, ⟨_, by rw [nb_eq]⟩, q⟩
theorem e_bitlen (ho : SE X o g) (hbase : attributeBase o "bit_length" X.env (eval o X.env) = eval o X.env := by rfl) (hline : (apos.endLine == pos.line) = true := by rfl) : SE X (.Call (.Attribute o "bit_length" apos) [] [] pos) (EV.call bBitLen [g]) :=
  PE.weak (pe_bm0 PySem.F.plainAttrs_int PySem.F.slot_int_bit_length PySem.F.type_int_bit_length mt_bitlen ho hbase hline) fun σ H Q ⟨δ, hσ, h⟩ => ⟨δ, hσ, by
    have h' : RQ X σ H ((g δ).bind fun d => bBitLen [d]) Q := by
      unfold EV.call evs at h
      cases r : g δ with
      | ok d => rw [r] at h; exact h
      | ex C => rw [r] at h; exact h
      | bad => rw [r] at h; exact h
    refine (RQ.bind h').to fun v H' s ⟨_, d, r, q⟩ => ?_
    unfold bBitLen at q
    split at q
    · rename_i e
      cases e
      cases r
      exact ⟨rfl, _, rfl, rfl, q _ _ (Same.refl _) (.int _)⟩
    · exact False.elim q⟩
noncomputable def tyV (mg : Str → Option Value) : D → Option Value
  | .non => some (.type "NoneType")
  | .bl _ => some (.type "bool")
  | .int _ => some (.type "int")
  | .str _ => some (.type "str")
  | .tup _ => some (.type "tuple")
  | .lst _ => some (.type "list")
  | .exc n => mg n
  | _ => none
noncomputable def clsV (mg : Str → Option Value) : D → Option Value
  | .ty n => some (.type n)
  | .cls n => mg n
  | _ => none
noncomputable def Isi (X : Cx) (c : D) : Prop := ∀ d k t u, bIsi [d, c] = .ok (.bl k) → tyV X.mg d = some t → clsV X.mg c = some u → PySem.W.kitOne X.K t u = some k
noncomputable def ExcKit (X : Cx) : Prop := ∀ (e C : Addr) (n : String), excNames.contains n = true → X.mg n = some (.ref C) → PySem.W.KitX X.K (.ref e) (.ref C) (fun h => ∃ o vs, h.get? e = some o ∧ o.cls = .ref C ∧ o.data = .fields vs)
theorem bIsi_ok {ds : List D} : (∃ d c k, ds = [d, c] ∧ bIsi ds = .ok (.bl k)) ∨ bIsi ds = .bad := by
  unfold bIsi
  split <;> first
    | exact .inr rfl
    | (split <;> first | exact .inl ⟨_, _, _, rfl, rfl⟩ | exact .inr rfl)
theorem exc_known {n : String} {c : D} {k : Bool} (h : bIsi [.exc n, c] = .ok (.bl k)) : excNames.contains n = true := by
  cases c with
  | cls B =>
    unfold bIsi at h
    simp only at h
    split at h
    · rename_i z; rw [Bool.and_eq_true] at z; exact z.1
    · cases h
  | ty B =>
    unfold bIsi at h
    simp only at h
    split at h
    · rename_i z; rw [Bool.and_eq_true] at z; exact z.1
    · cases h
  | _ => cases h
theorem c_isi {c : D} (hI : Isi X c) (hE : ExcKit X) : CallR X (.builtin "isinstance") (fun vs H Q => ∃ dx d, Reps X.K X.mg H vs [dx, c] ∧ bIsi [dx, c] = .ok d ∧ ∀ v H', Same H H' → Rep X.K X.mg H' v d → Q v H') := by
  intro pins s σ H xs us Q I rs ⟨dx0, d, r, e, q⟩
  rcases bIsi_ok (ds := [dx0, c]) with ⟨dx, dc, k, ez, e'⟩ | e' <;> rw [e'] at e <;> cases e
  cases ez
  obtain ⟨v, v', rfl, r1, r2⟩ := reps2 r
  cases rs with
  | cons h1 h2 =>
    cases h2 with
    | cons h2 h3 =>
      cases h3
      rename_i u w
      have fin : ∀ tk, EP X pins σ Q (.bool k) { s with toks := tk } := fun tk => ⟨.bl k, H, I.tok tk, rfl, q _ _ (Same.refl _) (.bl k)⟩
      have hw : clsV X.mg c = some w := by
        cases r2 with
        | ty n => cases h2; rfl
        | cls hc => cases h2; exact hc
        | _ => cases dx0 <;> cases e'
      cases r1 with
      | non => cases (show u = Value.none from h1); exact PySem.W.kia_one PySem.W.kitx_none I.kIn True.intro (hI _ k _ _ e' rfl hw) (fun z => nomatch z) fin
      | bl y => cases (show u = Value.bool y from h1); exact PySem.W.kia_one PySem.W.kitx_bool I.kIn True.intro (hI _ k _ _ e' rfl hw) (fun z => nomatch z) fin
      | int i => obtain ⟨t, z⟩ := (show ∃ t, u = Value.int i t from h1); cases z; exact PySem.W.kia_one PySem.W.kitx_int I.kIn True.intro (hI _ k _ _ e' rfl hw) (fun z => nomatch z) fin
      | str y => obtain ⟨t, z⟩ := (show ∃ t, u = Value.str y t from h1); cases z; exact PySem.W.kia_one PySem.W.kitx_str I.kIn True.intro (hI _ k _ _ e' rfl hw) (fun z => nomatch z) fin
      | @tup a ys ds hq rr =>
        cases (show u = Value.ref a from h1)
        obtain ⟨its, _, ⟨o, g1, g2, _⟩, _⟩ := I.tuple hq
        exact PySem.W.kia_one PySem.W.kitx_tuple I.kIn ⟨o, g1, g2⟩ (hI _ k _ _ e' rfl hw) (fun z => nomatch z) fin
      | @lst a ys ds hq rr =>
        cases (show u = Value.ref a from h1)
        obtain ⟨its, _, ⟨o, n, g1, g2, _⟩, _⟩ := I.list hq
        exact PySem.W.kia_one PySem.W.kitx_list I.kIn ⟨o, g1, g2⟩ (hI _ k _ _ e' rfl hw) (fun z => nomatch z) fin
      | @exc a C n hn hq =>
        cases (show u = Value.ref a from h1)
        exact PySem.W.kia_one (hE a C n (exc_known e') hn) I.kIn (I.hok a _ hq).1 (hI _ k _ _ e' hn hw) (fun z => nomatch z) fin
      | ty n => cases c <;> cases e'
      | cls _ => cases c <;> cases e'
      | ins _ _ _ => cases c <;> cases e'
theorem e_isi {e2 : Expr} {c : D} (hI : Isi X c) (hE : ExcKit X) (G : Gb X "isinstance") (hm : X.mg "isinstance" = none) (ha : SE X e g) (hb : SE X e2 (con c))
    (hs : starEach [e, e2] X.env = (false, eval e X.env) :: starEach [e2] X.env := by rfl) (hs2 : starEach [e2] X.env = [(false, eval e2 X.env)] := by rfl) (hpl : (backTo pos (starEach [e2] X.env)).any (·.1) = false := by rfl) :
    SE X (.Call (.Name "isinstance" p) [e, e2] [] pos) (EV.call bIsi [g, con c]) :=
  PE.weak (pe_callB (c_isi hI hE) G.g hm PyProof.Rows.boot_isinstance (a_cons ha (a_cons hb a_nil hs2) hs) G.n G.d hs hpl) fun σ H Q ⟨δ, hσ, h⟩ => ⟨δ, hσ, by
    cases r : g δ with
    | ok d =>
      have e1 : evs [g, con c] δ = .ok [d, c] := by simp [evs, r, con, R.bind]
      unfold EV.call at h
      rw [e1] at h ⊢
      refine fun vs H' s rs => ?_
      have h' : RQ X σ H' (bIsi [d, c]) Q := RQ.mono s h
      rcases bIsi_ok (ds := [d, c]) with ⟨_, _, k, _, e'⟩ | e'
      · rw [e'] at h'; exact ⟨d, _, rs, e', h'⟩
      · rw [e'] at h'; exact False.elim h'
    | ex C =>
      have e1 : evs [g, con c] δ = .ex C := by simp [evs, r, R.bind]
      unfold EV.call at h
      rw [e1] at h ⊢
      exact h
    | bad =>
      have e1 : evs [g, con c] δ = .bad := by simp [evs, r, R.bind]
      unfold EV.call at h
      rw [e1] at h
      exact False.elim h⟩
end
end ES
namespace ES
open PySem PySem.Spec PyProof.Rows L2 EV
unseal SE ST SW SA SS SSs
section
variable {prog : Program} {w : World} {A : Around} {s : Shared} {K : PySem.W.Frag} {e C : Addr}
open PySem.W PySem.Builtin PySem.Builtin.Getset_descriptor in
theorem xk_get {R : Result → Shared → Prop} {tp : Value} (L1 : Looks (model prog w) s.heap (isSubtype (.ref C) (.type "object")) true) (L0 : Looks (model prog w) s.heap (typeOf (.ref e)) (.ref C)) (done : R (.ok (.ret (.ref C))) s) :
    codeAny (model prog w) A (.call (.builtin "getset_descriptor.__get__") ⟨[.builtin "object.__class__", .ref e, tp], []⟩) R s := by
  obtain ⟨hh, g, dr, t, os⟩ := s
  refine codeAny_call_builtin KF.slot_gs.plain KF.entry_gs (KF.slot_gs.check _ _ _ _ _ _ _ _ KF.type_class (KF.args_gs _ _ tp) ?_)
  unfold Builtin.«getset_descriptor.__get__»; unfold descrGet; rw [dga_obj]
  refine wpAny_bind (wpAny_pure ?_)
  simp only [descrGetter, descrCheckInstance, descrNameAndClass, isInstance, KF.owner_class]
  repeat lk
  refine ⟨Code.quiet_builtin _ (by decide +kernel), ?_⟩
  refine codeAny_builtin KF.entry_class ?_
  unfold Builtin.«object.__class__»; unfold shownTypeOf
  repeat lk
  exact done
open PySem.W PySem.Builtin PySem.Builtin.Getset_descriptor in
theorem xk_entry {E : Value → Shared → Prop} {Q : Fin → Shared → Prop} {tk : Tok} (L1 : Looks (model prog w) s.heap (isSubtype (.ref C) (.type "object")) true) (L0 : Looks (model prog w) s.heap (typeOf (.ref e)) (.ref C))
    (L2 : Looks (model prog w) s.heap (typeLookup (.ref C) "__class__") (some (.builtin "object.__class__"))) (done : Q (.done (.ret (.ref C))) s) :
    wpAny (model prog w) A (Builtin.«object.__getattribute__» ⟨[.ref e, .str "__class__" tk], []⟩) Q E s := by
  obtain ⟨hh, g, dr, t, os⟩ := s
  have f5 := F.typeOf_object_class
  have f6 := F.slot_gs_get.lookup
  have f7 := F.slot_gs_set.lookup
  have hT5 : (⟨hh, g, dr, t, os⟩ : Shared).TypeIs (.builtin "object.__class__") "getset_descriptor" := F.typeOf_object_class
  repeat (any_goals (first | assumption | with_reducible refine L0.at ?_ | with_reducible refine L2.at ?_ | wp_step))
  refine xk_get L1 L0 ?_
  repeat (any_goals (first | assumption | wp_step))
open PySem.W PySem.Builtin PySem.Builtin.Getset_descriptor in
theorem xk_check {M : Model} {E : Value → Shared → Prop} {nameV : Value} {Q : Unit → Shared → Prop} (L3 : Looks M s.heap (isSubtype (.ref C) (.type "BaseException")) true) (L0 : Looks M s.heap (typeOf (.ref e)) (.ref C)) (done : Q () s) :
    wpAny M A (checkBuiltinCall "BaseException.__getattribute__" ⟨[.ref e, nameV], []⟩) Q E s := by
  obtain ⟨hh, g, dr, t, os⟩ := s
  have k1 : builtinKind "BaseException.__getattribute__" = some .slot := by decide +kernel
  have k2 : splitId "BaseException.__getattribute__" = some ("BaseException", "__getattribute__") := by decide +kernel
  have ha := F.args_bexc_ga (.ref e) nameV
  simp only [checkBuiltinCall, k1, k2]
  refine wpAny_bind ?_
  unfold isInstance
  repeat (first | with_reducible refine L0.at ?_ | with_reducible refine L3.at ?_ | wp_step)
  exact done
structure XCls (K : PySem.W.Frag) (C : Addr) : Prop where
  c0 : PySem.W.mroIn K C (.type "object") = some true
  c1 : PySem.W.mroIn K C (.type "BaseException") = some true
  c2 : PySem.W.findIn K (.ref C) "__class__" = some (some (.builtin "object.__class__"))
  c3 : PySem.W.findIn K (.ref C) "__getattribute__" = some (some (.builtin "BaseException.__getattribute__"))
  c4 : PySem.W.findIn K (.ref C) "__getattr__" = some none
  c5 : ∃ cd, PySem.W.clsIn K C = some cd
open PySem.W PySem.Builtin PySem.Builtin.Getset_descriptor in
theorem xk_by {E : Value → Shared → Prop} {Q : Value → Shared → Prop} {tk : Tok} (FB : ExcAttrFacts "ValueError") (L0 : Looks (model prog w) s.heap (typeOf (.ref e)) (.ref C)) (c : XCls K C) (KX : K.In s.heap) (done : Q (.ref C) s) :
    wpAny (model prog w) A (getAttrBy (.ref e) (.str "__class__" tk) false) Q E s := by
  have L1 : Looks (model prog w) s.heap (isSubtype (.ref C) (.type "object")) true := looks_mroIn KX c.c0
  have L3 : Looks (model prog w) s.heap (isSubtype (.ref C) (.type "BaseException")) true := looks_mroIn KX c.c1
  have L2 : Looks (model prog w) s.heap (typeLookup (.ref C) "__class__") (some (.builtin "object.__class__")) := looks_findIn KX c.c2
  have L4 : Looks (model prog w) s.heap (typeLookup (.ref C) "__getattribute__") (some (.builtin "BaseException.__getattribute__")) := looks_findIn KX c.c3
  have L5 : Looks (model prog w) s.heap (typeLookup (.ref C) "__getattr__") none := looks_findIn KX c.c4
  obtain ⟨hh, g, dr, t, os⟩ := s
  have f3 := FB.ga.bind (.ref e)
  have q2 : (Value.builtin "BaseException.__getattribute__" == Value.builtin "object.__getattribute__") = false := by decide +kernel
  have q0 : (false && onTheHeap (Value.builtin "BaseException.__getattribute__")) = false := rfl
  have q1 : (onTheHeap (Value.ref C) && Value.builtin "BaseException.__getattribute__" == Value.builtin "object.__getattribute__") = false := by rw [q2]; rfl
  repeat (any_goals (first | assumption | with_reducible refine L0.at ?_ | with_reducible refine L4.at ?_ | with_reducible refine L5.at ?_ | wp_step))
  refine codeAny_call_builtin FB.ga.plain F.entry_bexc_ga (xk_check L3 L0 (xk_entry L1 L0 L2 ?_))
  repeat (any_goals (first | assumption | wp_step))
open PySem.W in
theorem exc_kit (c : XCls K C) : KitX K (.ref e) (.ref C) (fun h => ∃ o vs, h.get? e = some o ∧ o.cls = .ref C ∧ o.data = .fields vs) where
  ty := fun M h KX ⟨o, vs, h1, h2, h3⟩ => h2 ▸ (Looks.ld h1).andThen .now
  it := fun M h KX _ => by
    obtain ⟨cd, hc⟩ := c.c5
    unfold clsIn at hc
    split at hc
    · rename_i hlk
      intro A' Q' E' s' k q
      unfold isType loadHead
      exact wpAny_bind (wpAny_loadPart (k _ _ (KX _ _ hlk)) (wpAny_pure q))
    · cases hc
  ne := fun h tp dd its n sl KX htp => by
    obtain ⟨cd, hc⟩ := c.c5
    unfold clsIn at hc
    split at hc
    · rename_i hlk
      have h1 := KX _ _ hlk
      by_cases z : C = tp
      · subst z
        rw [htp] at h1
        cases h1
      · simpa using z
    · cases hc
  ca := fun {prog w A E Q s} KX ⟨o, vs, h1, h2, h3⟩ q => by
    obtain ⟨hh, g, dr, t, os⟩ := s
    have L0 : Looks (model prog w) hh (typeOf (.ref e)) (.ref C) := h2 ▸ (Looks.ld h1).andThen .now
    have by_ : ∀ {tk : Tok} {t' : Nat} {E' : Value → Shared → Prop} {Q' : Value → Shared → Prop}, Q' (.ref C) ⟨hh, g, dr, t', os⟩ → wpAny (model prog w) A (getAttrBy (.ref e) (.str "__class__" tk) false) Q' E' ⟨hh, g, dr, t', os⟩ := fun {tk t' E' Q'} done => xk_by (s := ⟨hh, g, dr, t', os⟩) PySem.F.excAttr_ValueError L0 c KX done
    clear h1
    unfold getAttr? getAttrBy?
    repeat (any_goals (first | assumption | with_reducible apply by_ | wp_step))
end
theorem excKit_of {X : Cx} (h : ∀ (n : String) (C : Addr), excNames.contains n = true → X.mg n = some (.ref C) → XCls X.K C) : ExcKit X := fun e C n hx hn => exc_kit (h n C hx hn)
end ES
namespace ES
open PySem PySem.Spec PyProof.Rows L2 EV
unseal SE ST SW SA SS SSs
theorem boot_ValueError : bootBuiltins "ValueError" = some (.type "ValueError") := by decide +kernel
theorem mG {G : List Str} (i : Nat) {x : Str} (h : G[i]? = some x := by rfl) : x ∈ G := List.mem_of_getElem? h
structure XF (K : PySem.W.Frag) (mg : Str → Option Value) (n : String) : Prop where
  ex : mg n = none ∨ ∃ C, mg n = some (.ref C) ∧ XCls K C
theorem xcls_of {K : PySem.W.Frag} {mg : Str → Option Value} (h : ∀ n ∈ excNames, XF K mg n) (n : String) (C : Addr) (hn : excNames.contains n = true) (hm : mg n = some (.ref C)) : XCls K C := by
  rcases (h n (by simpa using hn)).ex with z | ⟨C', z, x⟩
  · rw [hm] at z; cases z
  · rw [hm] at z; cases z; exact x
structure CF (K : PySem.W.Frag) (mg : Str → Option Value) (B : Addr) (n : String) : Prop where
  ex : mg n = none ∨ ∃ C, mg n = some (.ref C) ∧ PySem.W.mroIn K C (.ref B) = some true
structure CB (K : PySem.W.Frag) (B : Addr) : Prop where
  c1 : ∃ cd, PySem.W.clsIn K B = some cd
  c2 : PySem.W.typeIn K (.ref B) = some (.type "type")
  c3 : PySem.W.subIn K (.type "type") (.type "tuple") = some false
  c4 : PySem.W.mroIn K B (.type "BaseException") = some true
theorem catches_of {X : Cx} {cls : String} {B : Addr} (b : CB X.K B) (h : ∀ n ∈ excNames, exSub n cls = true → CF X.K X.mg B n) : Catches X cls B := fun C Ca hs hm => by
  have hn : C ∈ excNames := by
    unfold exSub at hs
    rw [Bool.and_eq_true] at hs
    simpa using hs.1
  rcases (h C hn hs).ex with z | ⟨C', z, x⟩
  · rw [hm] at z; cases z
  · rw [hm] at z; cases z; exact ⟨by obtain ⟨_, e⟩ := b.c1; rw [e]; rfl, b.c2, b.c3, b.c4, x⟩
theorem isi_ty {X : Cx} {n : String} (hn : n ≠ "ValueError") (i0 : PySem.W.kitOne X.K (.type "NoneType") (.type n) = some false) (i1 : PySem.W.kitOne X.K (.type "bool") (.type n) = some (n == "int" || n == "bool")) (i2 : PySem.W.kitOne X.K (.type "int") (.type n) = some (n == "int"))
    (i3 : PySem.W.kitOne X.K (.type "str") (.type n) = some (n == "str")) (i4 : PySem.W.kitOne X.K (.type "tuple") (.type n) = some (n == "tuple")) (i5 : PySem.W.kitOne X.K (.type "list") (.type n) = some (n == "list")) : Isi X (.ty n) := by
  intro d k t u e ht hu
  cases hu
  cases d with
  | exc C =>
    unfold bIsi at e
    simp only at e
    split at e
    · rename_i z
      rw [Bool.and_eq_true, beq_iff_eq] at z
      exact absurd z.2 hn
    · cases e
  | non => cases ht; unfold bIsi at e; simp only at e; split at e <;> cases e; exact i0
  | bl b => cases ht; unfold bIsi at e; simp only at e; split at e <;> cases e; exact i1
  | int b => cases ht; unfold bIsi at e; simp only at e; split at e <;> cases e; exact i2
  | str b => cases ht; unfold bIsi at e; simp only at e; split at e <;> cases e; exact i3
  | tup b => cases ht; unfold bIsi at e; simp only at e; split at e <;> cases e; exact i4
  | lst b => cases ht; unfold bIsi at e; simp only at e; split at e <;> cases e; exact i5
  | _ => cases e
structure IF (K : PySem.W.Frag) (mg : Str → Option Value) (c : Value) (k : Bool) (n : String) : Prop where
  ex : mg n = none ∨ ∃ C, mg n = some (.ref C) ∧ PySem.W.kitOne K (.ref C) c = some k
theorem IF.get {K : PySem.W.Frag} {mg : Str → Option Value} {c : Value} {k : Bool} {n : String} {C : Addr} (f : IF K mg c k n) (hm : mg n = some (.ref C)) : PySem.W.kitOne K (.ref C) c = some k := by
  rcases f.ex with z | ⟨C', z, x⟩
  · rw [hm] at z; cases z
  · rw [hm] at z; cases z; exact x
theorem isi_ve {X : Cx} (hX : ∀ n C, excNames.contains n = true → X.mg n = some (.ref C) → True) (hr : ∀ (n : String) u, excNames.contains n = true → X.mg n = some u → ∃ C, u = .ref C) (i0 : PySem.W.kitOne X.K (.type "NoneType") (.type "ValueError") = some false) (i1 : PySem.W.kitOne X.K (.type "bool") (.type "ValueError") = some false) (i2 : PySem.W.kitOne X.K (.type "int") (.type "ValueError") = some false)
    (i3 : PySem.W.kitOne X.K (.type "str") (.type "ValueError") = some false) (i4 : PySem.W.kitOne X.K (.type "tuple") (.type "ValueError") = some false) (i5 : PySem.W.kitOne X.K (.type "list") (.type "ValueError") = some false) (ix : ∀ n ∈ excNames, IF X.K X.mg (.type "ValueError") true n) : Isi X (.ty "ValueError") := by
  intro d k t u e ht hu
  cases hu
  cases d with
  | exc C =>
    unfold bIsi at e
    simp only at e
    split at e
    · rename_i z
      rw [Bool.and_eq_true] at z
      cases e
      obtain ⟨Ca, rfl⟩ := hr C t z.1 ht
      exact (ix C (by simpa using z.1)).get ht
    · cases e
  | non => cases ht; cases e; exact i0
  | bl b => cases ht; cases e; exact i1
  | int b => cases ht; cases e; exact i2
  | str b => cases ht; cases e; exact i3
  | tup b => cases ht; cases e; exact i4
  | lst b => cases ht; cases e; exact i5
  | _ => cases e
theorem isi_cls {X : Cx} {B : String} {Ba : Addr} (hB : X.mg B = some (.ref Ba)) (hr : ∀ (n : String) u, excNames.contains n = true → X.mg n = some u → ∃ C, u = .ref C) (i0 : PySem.W.kitOne X.K (.type "NoneType") (.ref Ba) = some false) (ix : ∀ n ∈ excNames, IF X.K X.mg (.ref Ba) (n == B || B == "MillError") n) : Isi X (.cls B) := by
  intro d k t u e ht hu
  have hu' : X.mg B = some u := hu
  rw [hB] at hu'
  cases hu'
  cases d with
  | exc C =>
    unfold bIsi at e
    simp only at e
    split at e
    · rename_i z
      rw [Bool.and_eq_true] at z
      cases e
      obtain ⟨Ca, rfl⟩ := hr C t z.1 ht
      exact (ix C (by simpa using z.1)).get ht
    · cases e
  | non =>
    cases ht
    unfold bIsi at e
    simp only at e
    split at e <;> cases e
    exact i0
  | _ => cases e
theorem ref_of {K : PySem.W.Frag} {mg : Str → Option Value} (h : ∀ n ∈ excNames, XF K mg n) (n : String) (u : Value) (hn : excNames.contains n = true) (hm : mg n = some u) : ∃ C, u = .ref C := by
  rcases (h n (by simpa using hn)).ex with z | ⟨C', z, x⟩
  · rw [hm] at z; cases z
  · rw [hm] at z; cases z; exact ⟨_, rfl⟩
theorem bits_of_weight : ∀ {ns : List Int}, PySem.W.WData.weightAll (ns.map PySem.W.WData.int) ≤ 2 ^ 20 → ∀ n ∈ ns, nb n ≤ 2 ^ 20
  | [], _, _, h => nomatch h
  | m :: r, hw, n, h => by
    rw [List.map_cons, PySem.W.WData.weightAll] at hw
    rcases List.mem_cons.mp h with rfl | h
    · have : PySem.W.WData.weight (.int n) = Builtin.Int.intBits n := by simp only [PySem.W.WData.weight, Builtin.Int.intBits]
      rw [nb_eq]
      omega
    · exact bits_of_weight (ns := r) (by omega) n h
open PySem.W PySem.Calls Att in
theorem attach_bits {l : OpenLaw} {n : Nat} {q : Program} {loose : List Str} {XP : (Str → Option Value) → Heap → Prop} {YP : World → Heap → Prop} {d : DefRec}
    (hn : l.most = some n) (hdf : d.params.defaults = [])
    (call : ∀ (w : World) (s₀ s₁ : Shared) (mg mb : Str → Option Value) (fa : Addr) (a : Addr) (vs : List Value) (ns : List Int),
      Ground q loose [] XP w s₀ mg mb s₁.heap → YP w s₁.heap → mg d.name = some (.ref fa) →
      s₁.heap.get? a = some { cls := .type "list", data := .seq vs.toArray } → IntsAre vs ns → ns.length ≤ n → (∀ m ∈ ns, nb m ≤ 2 ^ 20) → s₁.gens = #[] →
      codeAny (model l.prog w) callerA (.call (.ref fa) ⟨[.ref a], []⟩) (fun r s' => r = .ok (.ret (.bool true)) ∧ OldK s₁.heap s'.heap ∧ s'.os = s₁.os ∧ AllBare s'.gens) s₁) :
    WalkO q loose XP YP l.row.toRowW d [] (fun f vs => PySem.call f vs) := by
  intro w s₀ s₁ mg mb G Y fa o pm cd doc dV kV ho hd hcd hD hmg hg args vals as hpre hlay hrd hwl hlo
  obtain rfl : dV = .none := Dflts.none hD hdf
  obtain rfl : kV = .none := Dflts.noKw hD
  obtain ⟨a, vs, ns, rfl, rfl, hobj, hints, hlen⟩ := script_of hn hpre hwl
  have hb : ∀ m ∈ ns, nb m ≤ 2 ^ 20 := by
    have h1 := (layableW_iff.mp (layW_cons hlay).1).2.2
    rw [WData.weight] at h1
    exact bits_of_weight h1
  refine enter_call (codeAny_mono (call w s₀ s₁ mg mb fa a vs ns G Y hmg hobj hints hlen hb hg) fun r s' hq => ?_)
  obtain ⟨rfl, h2, h3, h4⟩ := hq
  exact ⟨.inl ⟨.bool true, .bool true, [], rfl, fun _ => rfl, .bool true, post_true l _, fun _ => ⟨List.Pairwise.nil, fun _ hm => (nomatch hm)⟩⟩, h2, h3, h4⟩
theorem walk_law {l : PySem.W.OpenLaw} {k : Nat} {q : Program} {loose : List Str} {XP : (Str → Option Value) → Heap → Prop} {YP : World → Heap → Prop} {d : DefRec} {K : Params → PySem.W.Frag} {x : Str} {f : List D → R D}
    (hf : Good f) (hn : l.most = some 63) (hdf : d.params.defaults = []) (hr : Room k callerA)
    (hY : ∀ (w : World) (h : Heap), YP w h → (K w.params).In h)
    (F : ∀ (w : World) (mg : Str → Option Value) (fa : Addr) (h : Heap), (K w.params).In h → h.Ns mainGlobals mg → mg d.name = some (.ref fa) →
      ∃ fd : FuncData, (∀ (s : Shared) (u : Value), BindsTo s fd ⟨[u], []⟩ [(x, u)]) ∧
        ∀ base : Heap, (K w.params).In base → base.Ns mainGlobals mg → FnOk l.prog w (K w.params) mg base (CXF l.prog w) k fa fd [x] (spP (K w.params) mg f)) :
    PySem.W.WalkO q loose XP YP l.row.toRowW d [] (fun f vs => PySem.call f vs) := by
  refine attach_bits hn hdf fun w s₀ s₁ mg mb fa a vs ns G Y hmg hobj hints hlen hbits hg => ?_
  have KX := hY w _ Y
  obtain ⟨fd, hb, hF⟩ := F w mg fa _ KX G.T.g hmg
  refine law_call KX G.T.g G.T.b G.T.builtins G.T.nolimit hg hobj hints (Nat.le_trans hlen (by decide)) hr hF hb (fun H hO hS => ⟨[.lst (ns.map .int)], .cons (.lst hS (Reps.ints ns)) .nil, ?_⟩) fun H e s' ⟨_, _, _, _, _, z⟩ => z
  rw [hf ns hlen hbits]
  exact fun v H' _ r => by cases r; rfl
end ES
namespace ES
open PySem PySem.Spec PyProof.Rows L2 EV
unseal SE ST SW SA SS SSs
structure FldOk (X : Cx) (cn f : String) : Prop where
  ex : ∃ C, X.mg cn = some (.ref C) ∧ Cls X.K C ∧ NoAttr X.K C f
structure MethOk (X : Cx) (cn m : String) (F : List D → R D) : Prop where
  ex : ∃ C fa k fd ps, X.mg cn = some (.ref C) ∧ Cls X.K C ∧ Meth X.K C m fa ∧ FnOk X.prog X.w X.K X.mg X.base (CXF X.prog X.w) k fa fd ps (spP X.K X.mg F) ∧ Room k X.A ∧ Binds X.K fd ps []
section
variable {X : Cx} {o e : Expr} {es : List Expr} {go : E} {gs : List E} {pos apos p : Pos} {cn f m : String} {F : List D → R D}
theorem e_fld (h : FldOk X cn f) (ho : SE X o go) (hb : attributeBase o f X.env (eval o X.env) = eval o X.env := by rfl) : SE X (.Attribute o f pos) (un (oFld cn f) go) := by
  obtain ⟨C, hC, cl, na⟩ := h.ex
  refine PE.weak (pe_fld ho hb) fun σ H Q ⟨δ, hσ, h⟩ => ⟨δ, hσ, (RQ.bind h).to fun v H' s ⟨_, d, r, q⟩ => ?_⟩
  cases r with
  | @ins a C' dx n fs ds hn ha rf =>
    unfold oFld at q
    simp only at q
    split at q
    · rename_i hcn
      rw [beq_iff_eq] at hcn
      subst hcn
      split at q
      · rename_i d hd
        obtain ⟨v, e1, e2⟩ := rf.lookup hd
        rw [hC] at hn
        cases hn
        exact ⟨a, C, dx, fs, v, rfl, ha, cl, na, e1, q _ _ (Same.refl _) e2⟩
      · exact False.elim q
    · exact False.elim q
  | _ => exact False.elim q
theorem meth_to {σ : L2.St} {H : Hp} {δ : Dt} {d : D} {es : List E} {Q : VK} (h : RQ X σ H (if isMeth cn m d then (evs es δ).bind fun ds => F (d :: ds) else .bad) Q) : isMeth cn m d = true ∧ RA X σ H (evs es δ) fun vs H' => Same H H' ∧ ∃ ds, Reps X.K X.mg H' vs ds ∧ RQ X σ H' (F (d :: ds)) Q := by
  by_cases hm : isMeth cn m d = true
  · rw [if_pos hm] at h
    refine ⟨hm, ?_⟩
    have h2 : RQ X σ H ((evs es δ).bind fun ds => F (d :: ds)) Q := h
    cases r : evs es δ with
    | ok ds => rw [r] at h2; exact fun vs H' s rs => ⟨s, ds, rs, RQ.mono s h2⟩
    | ex C => rw [r] at h2; exact h2
    | bad => rw [r] at h2; exact h2
  · rw [if_neg hm] at h; exact False.elim h
theorem e_meth {pl : Sem Bool} (h : MethOk X cn m F) (ho : SE X o go) (ha : SA X (e :: es) gs)
    (hst : starEach (e :: es) X.env = (false, eval e X.env) :: starEach es X.env := by rfl) (hpl : (backTo pos (starEach es X.env)).any (·.1) = false := by rfl)
    (ht : eval (.Call (.Attribute o m apos) (e :: es) [] pos) X.env = (do
      let ov ← eval o X.env
      standAt apos.atName
      let (f, first) ← holding [ov] (getMethod ov m pl)
      callWith pos f first (backTo pos (starEach (e :: es) X.env)) (backToKw pos (keywordEach [] X.env))) := by rfl) :
    SE X (.Call (.Attribute o m apos) (e :: es) [] pos) (meth cn m F go gs) := by
  obtain ⟨C, fa, k, fd, ps, hC, cl, hm, FO, hr, hb⟩ := h.ex
  intro pins s σ H Q I ⟨δ, hσ, h⟩
  refine PySem.W.methodCall_KW (pl := pl) (thn (ho pins s σ H _ I ⟨δ, hσ, RQ.bind h⟩) fun u s1 ⟨x, H1, I1, rx, sm, d, rd, q⟩ => ?_) ht
  obtain ⟨im, qa⟩ := meth_to q
  cases rd with
  | @ins a C' dx n fs ds hn hA rf =>
    unfold isMeth at im
    rw [Bool.and_eq_true, beq_iff_eq] at im
    obtain ⟨e1, e2⟩ := im
    subst e1
    rw [hC] at hn
    cases hn
    have l : fs.lookup (m : Str) = none := rf.lookupN (by simpa using e2)
    obtain rfl : u = Value.ref a := rx
    refine getmeth_ok I1 hA cl hm l ?_
    refine PySem.W.callWith_K (first := [.ref a]) (h₀ := X.base) I.ok.mod.kin hm.kp (thn (ha pos pins s1 σ H1 _ I1 ⟨δ, hσ.mono sm, qa⟩) fun us s2 ⟨vs, H2, I2, r, sm2, ds', rs, q2⟩ => ⟨I2.kIn, ?_⟩) hst hpl
    exact run_p (us := .ref a :: us) (vs := .ref a :: vs) FO hr hb I2 (.cons rfl r) (.cons (.ins hC (sm2 _ _ hA) (rf.mono sm2)) rs) q2
  | _ => cases im
noncomputable def spI (K : PySem.W.Frag) (f : Str) : Sp := fun vs H Q _ => ∃ x v C dx, vs = [.ref x, v] ∧ H x = some (.ins C dx []) ∧ Cls K C ∧ NoAttr K C f ∧ Q .non (upd H x (.ins C dx [(f, v)]))
theorem init_ok {P : Program} {w : World} {K : PySem.W.Frag} {mg : Str → Option Value} {base : Heap} {x qual ps pa f : Str} {st : Stmt} {fa : Addr} {fd : FuncData} {p1 p2 p3 p4 : Pos} {k : Nat} (F : Fun K x qual st fa fd)
    (S : FnScope [ps, pa] [ps, pa] (defScope st)) (h0 : (defScope st).names.lookup ps = some .local) (h1 : (defScope st).names.lookup pa = some .local) (d0 : (ps == ("__debug__" : Str)) = false ∧ (ps == ("__classdict__" : Str)) = false) (d1 : (pa == ("__debug__" : Str)) = false ∧ (pa == ("__classdict__" : Str)) = false)
    (hb : defBody st = [.Assign [.Attribute (.Name ps p1) f p2] (.Name pa p3) p4]) (hsw : ∀ env, swapsWith (.Name pa p3) (some (.Attribute (.Name ps p1) f p2)) p4.line env = pure false) : FnOk P w K mg base CX0 (k + 1) fa fd [ps, pa] (spI K f) := by
  refine F.ok S (fun vs H Q E h => ?_) fun cdv A outer s H vs Q E hr h => ?_
  · obtain ⟨_, _, _, _, rfl, _⟩ := h
    rfl
  · obtain ⟨a, v, C, dx, rfl, hH, cl, na, q⟩ := h
    rw [hb]
    refine ⟨_, pss_one (ps_fld (pe_var (i := 0) rfl (.inl h0) d0.1 d0.2) (pe_var (i := 1) rfl (.inl h1) d1.1 d1.2) (hsw _)), ?_⟩
    exact ⟨v, rfl, _, rfl, a, C, dx, [], rfl, hH, cl, na, by decide, q⟩
structure MakeOk (X : Cx) (cn f : String) : Prop where
  ex : ∃ C fa k fd ps, X.mg cn = some (.ref C) ∧ Cls X.K C ∧ NoAttr X.K C f ∧ Mk X.K C fa ∧ FnOk X.prog X.w X.K X.mg X.base CX0 k fa fd ps (spI X.K f) ∧ Room (k + 1) X.A ∧ Binds X.K fd ps []
theorem e_make1 (h : MakeOk X cn f) (G : Gb X cn) (ha : SA X (e :: es) gs) (he : starEach (e :: es) X.env = (false, eval e X.env) :: starEach es X.env := by rfl) (hpl : (backTo pos (starEach es X.env)).any (·.1) = false := by rfl) :
    SE X (.Call (.Name cn p) (e :: es) [] pos) (EV.call (mk1 cn f) gs) := by
  obtain ⟨C, fa, k, fd, ps, hC, cl, na, M, F, hr, hb⟩ := h.ex
  refine PE.weak (pe_make (E := fun _ _ _ => False) M F hr G.g hC hb .nil pass0 ha G.d he hpl) fun σ H Q ⟨δ, hσ, h⟩ => ⟨δ, hσ, (RA.bind h).to fun vs H' s ⟨_, ds, rs, q⟩ x dx hx hdx hne => ?_⟩
  unfold mk1 at q
  split at q
  · rename_i d
    obtain ⟨v, rfl, r⟩ := reps1 rs
    refine ⟨x, v, C, dx, rfl, upd_same, cl, na, rfl, ?_⟩
    have s1 : Same H' (upd H' dx (.own x)) := same_upd hdx _
    have hx1 : (upd H' dx (.own x)) x = none := by rw [upd_ne (Ne.symm hne)]; exact hx
    have s2 : Same (upd H' dx (.own x)) (upd (upd H' dx (.own x)) x (.ins C dx [])) := same_upd hx1 _
    have s3 : Same H' (upd (upd (upd H' dx (.own x)) x (.ins C dx [])) x (.ins C dx [((f : Str), v)])) := fun b o e => by
      have hb : b ≠ x := ne_of_none e hx
      rw [upd_ne hb, upd_ne hb]
      exact s1 b o e
    exact q _ _ s3 (.ins hC upd_same (.cons (r.mono s3) .nil))
  · exact False.elim q
end
end ES
namespace ES
open PySem PySem.Spec PyProof.Rows L2 EV
unseal SE ST SW SA SS SSs
noncomputable def WalkI (X : Cx) (J : It) (H : Hp) (ds : List D) : Prop := ∀ Hc, Same H Hc →
  (∀ i d, ds[i]? = some d → J.go i Hc ∧ ∀ x H', J.yld i Hc x H' → H' = Hc ∧ Rep X.K X.mg H x d) ∧ ∀ i, ds.length ≤ i → J.stop i Hc
noncomputable def RI (X : Cx) (σ : L2.St) (H : Hp) (r : R (List D)) (Q : It → Hp → Prop) : Prop := match r with
  | .ok ds => ∀ J H', Same H H' → WalkI X J H' ds → Q J H'
  | .ex C => ∀ Ca, X.mg C = some (.ref Ca) → ∀ H', Same H H' → ew X Ca σ H'
  | .bad => False
noncomputable def tI (X : Cx) (g : IT) : TI := fun σ H Q => ∃ δ, Stt X.K X.mg H σ δ ∧ RI X σ H (g δ) Q
@[irreducible] noncomputable def SI (X : Cx) (tg iter : Expr) (g : IT) : Prop := PI X tg iter (tI X g)
unseal SI
section
variable {X : Cx} {tg e a b : Expr} {g ga gb : E} {σ : L2.St} {H H1 : Hp}
theorem RI.mono {r : R (List D)} {Q : It → Hp → Prop} (s : Same H H1) (h : RI X σ H r Q) : RI X σ H1 r Q := by
  cases r with
  | ok d => exact fun v H' s' r => h v H' (s.trans s') r
  | ex C => exact fun Ca hc H' s' => h Ca hc H' (s.trans s')
  | bad => exact h
theorem RI.bind {r : R D} {f : D → R (List D)} {Q : It → Hp → Prop} (h : RI X σ H (r.bind f) Q) : RQ X σ H r (fun v H' => Same H H' ∧ ∃ d, Rep X.K X.mg H' v d ∧ RI X σ H' (f d) Q) := by
  cases r with
  | ok d => exact fun v H' s r => ⟨s, d, r, h.mono s⟩
  | ex C => exact h
  | bad => exact h
theorem PI.weak {t t' : TI} (h : PI X tg e t) (w : ∀ σ H Q, t' σ H Q → t σ H Q) : PI X tg e t' := fun pins s σ H Q I q => h pins s σ H Q I (w σ H Q q)
theorem i_list (h : SE X e g) : SI X tg e (itL g) := PI.weak (pi_list h) fun σ H Q ⟨δ, hσ, q⟩ => ⟨δ, hσ, (RI.bind q).to fun v H' s ⟨_, d, r, q⟩ => by
  cases d with
  | lst ds =>
    cases r with
    | @lst p xs _ hq rs =>
      refine ⟨p, rfl, ⟨xs, hq⟩, q _ _ (Same.refl _) fun Hc sc => ⟨fun i d hd => ?_, fun i hi => ⟨xs, sc.seq hq, by rw [rs.length]; exact hi⟩⟩⟩
      obtain ⟨v, e1, r1⟩ := rs.get hd
      exact ⟨⟨xs, v, sc.seq hq, e1⟩, fun x H'' ⟨e2, y⟩ => by
        have := y xs (sc.seq hq)
        rw [e1] at this
        cases this
        exact ⟨e2, r1⟩⟩
  | _ => exact False.elim q⟩
theorem i_tup (h : SE X e g) : SI X tg e (itT g) := PI.weak (pi_tup h) fun σ H Q ⟨δ, hσ, q⟩ => ⟨δ, hσ, (RI.bind q).to fun v H' s ⟨_, d, r, q⟩ => by
  cases d with
  | tup ds =>
    cases r with
    | @tup p xs _ hq rs =>
      refine ⟨p, rfl, ⟨xs, hq⟩, q _ _ (Same.refl _) fun Hc sc => ⟨fun i d hd => ?_, fun i hi => ⟨xs, same_seqT sc hq, by rw [rs.length]; exact hi⟩⟩⟩
      obtain ⟨v, e1, r1⟩ := rs.get hd
      exact ⟨⟨xs, v, same_seqT sc hq, e1⟩, fun x H'' ⟨e2, y⟩ => by
        have := y xs (same_seqT sc hq)
        rw [e1] at this
        cases this
        exact ⟨e2, r1⟩⟩
  | _ => exact False.elim q⟩
end
noncomputable def FI (X : Cx) (σ : L2.St) (H : Hp) (os : Os) (δ : Dt) (r : R (List D)) (Q : It → Hp → Prop) : Prop := match r with
  | .ok ds => ∀ J H', StO X H' σ δ os → Same (hide H os) (hide H' os) → WalkI X J (hide H' os) ds → Q J H'
  | .ex C => ∀ Ca, X.mg C = some (.ref Ca) → ∀ H', Same (hide H os) H' → Stt X.K X.mg H' σ (noOwn δ) → ew X Ca σ H'
  | .bad => False
noncomputable def tFI (X : Cx) (g : IT) : TI := fun σ H Q => ∃ δ os, StO X H σ δ os ∧ FI X σ H os δ (g δ) Q
section
variable {X : Cx} {N : List Str} {tg e : Expr} {g : IT}
theorem frameI (hx : X.ex = []) (h : SI X tg e g) : PI X tg e (tFI X g) := by
  intro pins s σ H Q I ⟨δ, os, S, q⟩
  have hl := S.lsts
  have hw : RI X σ (hide H os) (g δ) (fun J H1 => Same (hide H os) H1 ∧ ∃ ds, g δ = .ok ds ∧ WalkI X J H1 ds) := by
    cases r : g δ with
    | ok d => exact fun v H' s r => ⟨s, d, rfl, r⟩
    | ex C =>
      rw [r] at q
      exact fun Ca hc H' s' => q Ca hc H' s' (S.noOwn s')
    | bad => rw [r] at q; exact q
  refine thn (h _ s σ _ _ (inv_hide I hl) ⟨δ, S.st, hw⟩) fun v s1 h1 => thn h1 fun itv s2 h2 => ?_
  obtain ⟨it, fp, tn, J, H1, e1, I1, T, st, fpk, sm, ds, e2, wk⟩ := h2
  obtain ⟨I2, hn⟩ := inv_show hx I hl I1
  rw [e2] at q
  have eh := hide_show (H := H) hn
  refine ⟨it, fp, tn, J, show_ H H1 os, e1, I2, T, st, fun b hb => ?_, q J _ (S.shown sm hn) (by rw [eh]; exact sm) (by rw [eh]; exact wk)⟩
  obtain ⟨f0, f1, f2, f3, f4, f5⟩ := fpk b hb
  have nb : b ∉ adrs os := fun z => by
    obtain ⟨xs, hh⟩ := hl b z
    obtain ⟨o, eo⟩ : ∃ o, s.heap.get? b = some o := by
      obtain ⟨_, its, n, _, eo⟩ := I.hok b _ hh
      exact ⟨_, eo⟩
    exact f5 (b, o) (List.mem_append_right _ (List.mem_append_right _ (mem_pinsAt z eo))) rfl
  refine ⟨by unfold show_; rw [if_neg nb]; exact f0, f1, f2, f3, f4, fun p hp => f5 p ?_⟩
  rw [← List.append_assoc]
  exact List.mem_append_left _ hp
variable {body : List Stmt} {gb : S} {pos : Pos}
theorem s_forI (C : Sx X N) (L : Lp X) (i : Nat) {x : Str} {pos' : Pos} (hN : N[i]? = some x) (hx : Sto X x) (he : SI X (.Name x pos') e g) (hb : SSs X body gb) (hs : ∀ x, foldedSetIterable e X.env x = pure x := by intro _; rfl) :
    SS X (.For (.Name x pos') e body [] pos) (forI i g gb) := by
  refine PS.weak (ps_for L.own L.calm (frameI C.ex he) (pg_name (i := i) (by rw [C.sc.n]; exact C.sc.nd) (by rw [C.sc.n]; exact hN) hx.1 hx.2) hb hs) fun D σ H ⟨δ, os, S, q⟩ => ⟨δ, os, S, ?_⟩
  unfold forI ovI at q
  cases r : g δ with
  | ok ds =>
    rw [r] at q
    intro J H1 S1 s1 wk
    refine ⟨fun n m σ' H' => m = ds.length - n ∧ n ≤ ds.length ∧ Pv X D (hide H os) (hide H1 os) i gb ds n σ' H', ⟨ds.length, by simp, Nat.zero_le _, δ, os, S1, Same.refl _, s1, by rw [List.drop_zero]; exact q⟩, ?_⟩
    rintro n m σ' H' ⟨rfl, hn, p⟩
    obtain ⟨δ', os', S', s', s0, q'⟩ := id p
    have w := wk H' (s'.trans (hide_same _ _))
    by_cases hlt : n < ds.length
    · have hd : ds[n]? = some ds[n] := List.getElem?_eq_getElem hlt
      refine .inr ⟨(w.1 n _ hd).1, Pv X D (hide H os) (hide H1 os) i gb ds (n + 1), fun σ2 H2 z => ⟨ds.length - (n + 1), by omega, rfl, by omega, z⟩, fun x H'' y => ?_⟩
      obtain ⟨e1, r1⟩ := (w.1 n _ hd).2 x H'' y
      subst e1
      exact turn_ok hd (fun H' s' => r1.mono s') p
    · exact .inl ⟨w.2 n (by omega), end_ok (by omega) p⟩
  | ex C => rw [r] at q; exact fun Ca hc H' s' st => q σ H' s' st Ca hc
  | bad => rw [r] at q; exact q
end
end ES
namespace ES
open PySem PySem.Spec PyProof.Rows L2 EV
unseal SE ST SW SA SS SSs SI
structure ScC (x : Str) (ks G : List Str) (sc : Scope) : Prop where
  kind : sc.kind = .function
  noc : ∀ y ∈ sc.names, y.2 ≠ .cell
  nms : ∀ y ∈ sc.names, y.2 = .local → sc.names.lookup y.1 = some .local
  loc : sc.names.lookup x = some .local
  fre : ∀ y ∈ ks, sc.names.lookup y = some .free
  all : ∀ y ∈ sc.names, y.2 = .free → y.1 ∈ ks
  glb : ∀ y ∈ G, sc.names.lookup y = some .globalImplicit
  nd : (x :: ks).Nodup
  dbg : ∀ y ∈ x :: ks, (y == ("__debug__" : Str)) = false ∧ (y == ("__classdict__" : Str)) = false
  dbgG : ∀ y ∈ G, (y == ("__debug__" : Str)) = false ∧ y ≠ "__name__"
inductive Tst (X' : Cx) : List Expr → E → Prop
  | nil : Tst X' [] (con (.bl true))
  | one {c : Expr} {g : E} : ST X' c g → Tst X' [c] g
section
variable {X : Cx}
end
end ES
namespace ES
open PySem PySem.Spec PyProof.Rows L2 EV
unseal SE ST SW SA SS SSs SI
structure GC (X : Cx) (x : String) (d : D) : Prop where
  ex : ∃ v u, X.mg x = some u ∧ RelV v u ∧ ∀ H, Rep X.K X.mg H v d
section
variable {X : Cx} {pos p : Pos} {x : String} {d : D} {e e2 : Expr} {g : E}
theorem e_gC (G : Gb X x) (h : GC X x d) : SE X (.Name x pos) (con d) := by
  obtain ⟨v, u, hm, r, hr⟩ := h.ex
  exact e_con (pe_glob (v := v) G.g hm r G.d) hr
theorem gc_strs {a : Addr} {dd : Option Addr} {ss : List String} {its : Array Value} {n : Nat} {sl : Array (Option Value)} (hm : X.mg x = some (.ref a)) (hk : X.K.lookup a = some ⟨.type "tuple", dd, .seq its n, sl⟩) (hi : Vals (ss.map fun s => V.str (Str.ofString s)) its.toList) (hz : its.size ≤ 1000) : GC X x (.tup (ss.map fun s => D.str (Str.ofString s))) := by
  refine ⟨.ref a, .ref a, hm, rfl, fun H => .tup (.inr ⟨_, its, n, hk, rfl, rfl, Nat.le_of_lt (small1000 hz), hi⟩) ?_⟩
  clear hi
  induction ss with
  | nil => exact .nil
  | cons s r ih => exact .cons (.str _) ih
theorem vals_strs : ∀ {ss : List String} {ts : List Tok} {its : List Value}, its = (ss.zip ts).map (fun p => Value.str (Str.ofString p.1) p.2) → ts.length = ss.length → Vals (ss.map fun s => V.str (Str.ofString s)) its
  | [], _, _, e, _ => by subst e; exact .nil
  | s :: r, [], _, _, h => by simp at h
  | s :: r, t :: ts, _, e, h => by
    subst e
    exact .cons ⟨t, rfl⟩ (vals_strs (ts := ts) rfl (by simpa using h))
theorem any_kit {cs : List D} {dx : D} {t : Value} {k : Bool} (hI : ∀ c ∈ cs, Isi X c) (ht : tyV X.mg dx = some t) {us : List Value} (hu : Paired (fun (c : D) (u : Value) => clsV X.mg c = some u) cs us) (h : isiAny dx cs = .ok (.bl k)) : PySem.W.kitAny X.K t us = some k := by
  induction hu generalizing k with
  | nil => cases h; rfl
  | @cons c u cs us hc hr ih =>
    unfold isiAny at h
    rcases bIsi_ok (ds := [dx, c]) with ⟨d', c', k', e0, e'⟩ | e'
    · cases e0
      rw [e'] at h
      have h1 := hI c (.head _) dx k' t u e' ht hc
      unfold PySem.W.kitAny
      rw [h1]
      cases k' with
      | true => cases h; rfl
      | false => exact ih (fun c hc => hI c (.tail _ hc)) h
    · rw [e'] at h; cases h
theorem isiAny_ok {d : D} : ∀ {cs : List D}, (∃ k, isiAny d cs = .ok (.bl k)) ∨ isiAny d cs = .bad
  | [] => .inl ⟨false, rfl⟩
  | c :: r => by
    unfold isiAny
    rcases bIsi_ok (ds := [d, c]) with ⟨_, _, k', _, e'⟩ | e'
    · rw [e']
      cases k' with
      | true => exact .inl ⟨true, rfl⟩
      | false => exact isiAny_ok (cs := r)
    · rw [e']; exact .inr rfl
theorem cls_vals {H : Hp} : ∀ {cs : List D} {xs : List V} {us : List Value}, (∀ c ∈ cs, ∃ n, c = .cls n ∨ c = .ty n) → Reps X.K X.mg H xs cs → Vals xs us → Paired (fun (c : D) (u : Value) => clsV X.mg c = some u) cs us
  | [], _, _, _, .nil, .nil => .nil
  | c :: cs, _, _, hc, .cons r rs, .cons v vs => by
    refine .cons ?_ (cls_vals (fun c h => hc c (.tail _ h)) rs vs)
    obtain ⟨n, rfl | rfl⟩ := hc c (.head _)
    · cases r with | cls h => cases v; exact h
    · cases r; cases v; rfl
theorem exc_knownT {n : String} : ∀ {cs : List D} {k : Bool}, cs ≠ [] → isiAny (.exc n) cs = .ok (.bl k) → excNames.contains n = true
  | [], _, h, _ => absurd rfl h
  | c :: r, k, _, h => by
    unfold isiAny at h
    rcases bIsi_ok (ds := [.exc n, c]) with ⟨_, _, k', e0, e'⟩ | e'
    · cases e0; exact exc_known e'
    · rw [e'] at h; cases h
theorem c_isiT {cs : List D} (hcs : cs ≠ []) (hk : ∀ c ∈ cs, ∃ n, c = .cls n ∨ c = .ty n) (hI : ∀ c ∈ cs, Isi X c) (hE : ExcKit X) : CallR X (.builtin "isinstance") (fun vs H Q => ∃ dx d, Reps X.K X.mg H vs [dx, .tup cs] ∧ isiAny dx cs = .ok d ∧ ∀ v H', Same H H' → Rep X.K X.mg H' v d → Q v H') := by
  intro pins s σ H xs us Q I rs ⟨dx, d, r, e, q⟩
  rcases isiAny_ok (d := dx) (cs := cs) with ⟨k, e'⟩ | e' <;> rw [e'] at e <;> cases e
  obtain ⟨v, v', rfl, r1, r2⟩ := reps2 r
  cases rs with
  | cons h1 h2 =>
    cases h2 with
    | cons h2 h3 =>
      cases h3
      rename_i u w
      have fin : ∀ tk, EP X pins σ Q (.bool k) { s with toks := tk } := fun tk => ⟨.bl k, H, I.tok tk, rfl, q _ _ (Same.refl _) (.bl k)⟩
      cases r2 with
      | @tup tp ys _ hq rr =>
        cases (show w = Value.ref tp from h2)
        obtain ⟨its, rv, ⟨ot, g1, g2, nt, g3⟩, _⟩ := I.tuple hq
        obtain ⟨ct, dt, tt, slt⟩ := ot
        simp only at g2 g3
        subst g2 g3
        have ka : ∀ t, tyV X.mg dx = some t → PySem.W.kitAny X.K t its = some k := fun t ht => any_kit hI ht (cls_vals hk rr rv) e'
        cases r1 with
        | non => cases (show u = Value.none from h1); exact PySem.W.kia_tup PySem.W.kitx_none I.kIn True.intro g1 (ka _ rfl) (fun z => nomatch z) fin
        | bl y => cases (show u = Value.bool y from h1); exact PySem.W.kia_tup PySem.W.kitx_bool I.kIn True.intro g1 (ka _ rfl) (fun z => nomatch z) fin
        | int i => obtain ⟨t, z⟩ := (show ∃ t, u = Value.int i t from h1); cases z; exact PySem.W.kia_tup PySem.W.kitx_int I.kIn True.intro g1 (ka _ rfl) (fun z => nomatch z) fin
        | str y => obtain ⟨t, z⟩ := (show ∃ t, u = Value.str y t from h1); cases z; exact PySem.W.kia_tup PySem.W.kitx_str I.kIn True.intro g1 (ka _ rfl) (fun z => nomatch z) fin
        | @tup a ys ds hq rr =>
          cases (show u = Value.ref a from h1)
          obtain ⟨its', _, ⟨o, q1, q2, _⟩, _⟩ := I.tuple hq
          exact PySem.W.kia_tup PySem.W.kitx_tuple I.kIn ⟨o, q1, q2⟩ g1 (ka _ rfl) (fun z => nomatch z) fin
        | @lst a ys ds hq rr =>
          cases (show u = Value.ref a from h1)
          obtain ⟨its', _, ⟨o, n, q1, q2, _⟩, _⟩ := I.list hq
          exact PySem.W.kia_tup PySem.W.kitx_list I.kIn ⟨o, q1, q2⟩ g1 (ka _ rfl) (fun z => nomatch z) fin
        | @exc a C n hn hq =>
          cases (show u = Value.ref a from h1)
          exact PySem.W.kia_tup (hE a C n (exc_knownT hcs e') hn) I.kIn (I.hok a _ hq).1 g1 (ka _ hn) (fun z => nomatch z) fin
        | _ =>
          cases cs with
          | nil => exact absurd rfl hcs
          | cons c r => obtain ⟨n, rfl | rfl⟩ := hk c (.head _) <;> cases e'
theorem evs_con {δ : Dt} : ∀ {cs : List D}, evs (cs.map con) δ = .ok cs
  | [] => rfl
  | c :: r => by rw [List.map_cons]; unfold evs; rw [evs_con (cs := r)]; rfl
theorem e_isiT {cs : List D} (hcs : cs ≠ []) (hk : ∀ c ∈ cs, ∃ n, c = .cls n ∨ c = .ty n) (hI : ∀ c ∈ cs, Isi X c) (hE : ExcKit X) (G : Gb X "isinstance") (hm : X.mg "isinstance" = none) (ha : SE X e g) (hb : SE X e2 (tupE (cs.map con)))
    (hs : starEach [e, e2] X.env = (false, eval e X.env) :: starEach [e2] X.env := by rfl) (hs2 : starEach [e2] X.env = [(false, eval e2 X.env)] := by rfl) (hpl : (backTo pos (starEach [e2] X.env)).any (·.1) = false := by rfl) :
    SE X (.Call (.Name "isinstance" p) [e, e2] [] pos) (EV.call bIsiT [g, con (.tup cs)]) :=
  PE.weak (pe_callB (c_isiT hcs hk hI hE) G.g hm PyProof.Rows.boot_isinstance (a_cons ha (a_cons hb a_nil hs2) hs) G.n G.d hs hpl) fun σ H Q ⟨δ, hσ, h⟩ => ⟨δ, hσ, by
    cases r : g δ with
    | ok d =>
      have e1 : evs [g, tupE (cs.map con)] δ = .ok [d, .tup cs] := by simp [evs, r, tupE, evs_con, R.bind]
      have e2 : evs [g, con (.tup cs)] δ = .ok [d, .tup cs] := by simp [evs, r, con, R.bind]
      unfold EV.call at h
      rw [e2] at h
      rw [e1]
      refine fun vs H' s rs => ?_
      have h' : RQ X σ H' (isiAny d cs) Q := RQ.mono s h
      rcases isiAny_ok (d := d) (cs := cs) with ⟨k, e'⟩ | e'
      · rw [e'] at h'; exact ⟨d, _, rs, e', h'⟩
      · rw [e'] at h'; exact False.elim h'
    | ex C =>
      have e1 : evs [g, tupE (cs.map con)] δ = .ex C := by simp [evs, r, R.bind]
      have e2 : evs [g, con (.tup cs)] δ = .ex C := by simp [evs, r, R.bind]
      unfold EV.call at h
      rw [e2] at h
      rw [e1]
      exact h
    | bad =>
      have e2 : evs [g, con (.tup cs)] δ = .bad := by simp [evs, r, R.bind]
      unfold EV.call at h
      rw [e2] at h
      exact False.elim h⟩
end
section
variable {X : Cx} {x y : Str} {ksn : List Str} {sc : Scope} {C : Addr} {fp : List Addr} {s : Shared} {H : Hp} {f : List D → R D} {cn m : String} {F : List D → R D}
end
noncomputable def clsBody : Stmt → List Stmt
  | .ClassDef _ _ _ b _ _ _ _ _ _ _ => b
  | _ => []
end ES
namespace ES
open EV
theorem isis_nil {X : L2.Cx} : ∀ c ∈ ([] : List D), Isi X c := fun _ h => nomatch h
theorem isis_cons {X : L2.Cx} {c : D} {cs : List D} (h : Isi X c) (hs : ∀ c ∈ cs, Isi X c) : ∀ c' ∈ c :: cs, Isi X c' := fun c' hc => (List.mem_cons.mp hc).elim (fun e => e ▸ h) (hs c')
end ES
namespace ES
open PySem PySem.Spec PyProof.Rows L2 EV
unseal SE ST SW SA SS SSs SI
noncomputable def ROp (X : Cx) (σ : L2.St) (H : Hp) (r : R (Option Int)) (Q : Option Int → Hp → Prop) : Prop := match r with
  | .ok o => ∀ H', Same H H' → Q o H'
  | .ex C => ∀ Ca, X.mg C = some (.ref Ca) → ∀ H', Same H H' → ew X Ca σ H'
  | .bad => False
noncomputable def tPo (X : Cx) (g : Option E) : TO := fun σ H Q => ∃ δ, Stt X.K X.mg H σ δ ∧ ROp X σ H (part g δ) Q
@[irreducible] noncomputable def SO (X : Cx) (e : Option Expr) (g : Option E) : Prop := PO X e (tPo X g)
unseal SO
section
variable {X : Cx} {tg e a : Expr} {lo hi : Option Expr} {g : E} {gl gu : Option E} {σ : L2.St} {H H1 : Hp} {pos p2 : Pos}
theorem PO.weak {o : Option Expr} {t t' : TO} (h : PO X o t) (w : ∀ σ H Q, t' σ H Q → t σ H Q) : PO X o t' := fun pins s σ H Q I q => h pins s σ H Q I (w σ H Q q)
theorem po_none' : SO X none none := PO.weak po_none fun σ H Q ⟨δ, hσ, q⟩ => q H (Same.refl _)
theorem po_some' (h : SE X e g) : SO X (some e) (some g) := PO.weak (po_some h) fun σ H Q ⟨δ, hσ, q⟩ => ⟨δ, hσ, by
  simp only [EV.part] at q
  cases r : g δ with
  | ok d =>
    rw [r] at q
    cases d with
    | int i => exact fun v H' s r => by cases r; exact ⟨i, rfl, q H' s⟩
    | _ => exact False.elim q
  | ex C => rw [r] at q; exact q
  | bad => rw [r] at q; exact q⟩
theorem ROp.bind {r : R (Option Int)} {f : Option Int → R D} {Q : VK} (h : RQ X σ H (r.bind f) Q) : ROp X σ H r (fun o H' => Same H H' ∧ RQ X σ H' (f o) Q) := by
  cases r with
  | ok d => exact fun H' s => ⟨s, h.mono s⟩
  | ex C => exact h
  | bad => exact h
theorem ROp.to {r : R (Option Int)} {Q Q' : Option Int → Hp → Prop} (h : ROp X σ H r Q) (g : ∀ o H', Same H H' → Q o H' → Q' o H') : ROp X σ H r Q' := by
  cases r with
  | ok d => exact fun H' s => g d H' s (h H' s)
  | ex C => exact h
  | bad => exact h
theorem i_any (h : SE X e g) : SI X tg e (itA g) := fun pins s σ H Q I ⟨δ, hσ, q⟩ => by
  unfold itA at q
  cases r : g δ with
  | ok d =>
    rw [r] at q
    cases d with
    | lst ds => exact i_list h pins s σ H Q I ⟨δ, hσ, by unfold itL; rw [r]; exact q⟩
    | tup ds => exact i_tup h pins s σ H Q I ⟨δ, hσ, by unfold itT; rw [r]; exact q⟩
    | _ => exact False.elim q
  | ex C => exact i_list h pins s σ H Q I ⟨δ, hσ, by unfold itL; rw [r] at q ⊢; exact q⟩
  | bad => rw [r] at q; exact False.elim q
end
theorem all16 {P : String → Prop} (h0 : P "MillError") (h1 : P "NoSize") (h2 : P "NoBits") (h3 : P "NoParts") (h4 : P "NoRank") (h5 : P "NotFinite") (h6 : P "NoWay") (h7 : P "NoFlags") (h8 : P "NoFraction") (h9 : P "Unlike") (h10 : P "Empty") (h11 : P "NoLeft") (h12 : P "NoText") (h13 : P "NoRow") (h14 : P "NoName") (h15 : P "Stopped") : ∀ n ∈ excNames, P n := by
  intro n hn
  simp only [excNames, List.mem_cons, List.not_mem_nil, or_false] at hn
  rcases hn with rfl | rfl | rfl | rfl | rfl | rfl | rfl | rfl | rfl | rfl | rfl | rfl | rfl | rfl | rfl | rfl
  all_goals assumption
end ES
namespace ES
open PySem PySem.Spec PyProof.Rows L2 EV
unseal SE ST SW SA SS SSs SI SO
section
variable {X : Cx} {tg : Expr} {H : Hp} {a b c : Expr} {ga gb gc : E}
end
theorem fn_bad {P : Program} {w : World} {K : PySem.W.Frag} {mg : Str → Option Value} {base : Heap} {CX : CXT} {k : Nat} {f : Addr} {fd : FuncData} {ps : List Str} : FnOk P w K mg base CX k f fd ps (spP K mg fun _ => .bad) :=
  ⟨fun vs H Q E ⟨ds, rs, h⟩ => False.elim h, fun A outer s H args us vs Q E hr he hb hv ⟨ds, rs, h⟩ => False.elim h⟩
theorem up1 {P : Program} {w : World} {K : PySem.W.Frag} {mg : Str → Option Value} {base : Heap} {CX : CXT} {i j : Nat} {f : Addr} {fd : FuncData} {ps : List Str} {sp : Sp} (F : FnOk P w K mg base CX (i + j + 1) f fd ps sp) : FnOk P w K mg base CX (i + 1 + j) f fd ps sp := F.mono (by omega)
end ES
namespace ES
open PySem PySem.Spec PyProof.Rows L2 EV
unseal SE ST SW SA SS SSs SI SO
section
variable {X : Cx} {N : List Str} {H : Hp} {σ : L2.St} {δ : Dt} {os : Os}
variable {e : Expr} {g : E} {pos : Pos} {st : Stmt} {gs : S}
end
end ES
namespace ES
open PySem PySem.Spec PyProof.Rows L2 EV
unseal SE ST SW SA SS SSs SI SO
section
variable {X : Cx} {N : List Str} {H : Hp} {σ : L2.St} {δ : Dt} {os : Os}
variable {e c k v : Expr} {g gc gk gv : E} {pos : Pos} {st : Stmt} {body els : List Stmt} {gs gb ge : S}
end
end ES
namespace ES
open PySem PySem.Spec PyProof.Rows L2 EV
unseal SE ST SW SA SS SSs SI SO
noncomputable def OQF (X : Cx) (D : Ends) (F : Hp) : O → Prop
  | .rt (.lst rs) => ∀ a xs H, Same F H → F a = none → H a = some (.lst xs) → Reps X.K X.mg H xs rs → EV.D.flats rs = true → D.rt (.ref a) H
  | .rt _ => False
  | o => OQ X D F o
noncomputable def tSF (X : Cx) (g : S) : TS := fun D σ H => ∃ δ os, StO X H σ δ os ∧ OQF X D (hide H os) (g δ)
@[irreducible] noncomputable def SSF (X : Cx) (st : List Stmt) (g : S) : Prop := PSs X st (tSF X g)
unseal SSF
section
variable {X : Cx} {N : List Str}
variable {st : Stmt} {rest : List Stmt} {gs gr : S} {e : Expr} {g : E} {pos : Pos}
end
noncomputable def spF (K : PySem.W.Frag) (mg : Str → Option Value) (f : List D → R D) : Sp := fun vs H Q E => ∃ ds, Reps K mg H vs ds ∧ match f ds with
  | .ok (.lst rs) => ∀ a xs H', Same H H' → H a = none → H' a = some (.lst xs) → Reps K mg H' xs rs → EV.D.flats rs = true → Q (.ref a) H'
  | .ex C => ∀ Ca, mg C = some (.ref Ca) → ∀ H', Same H H' → E (.ref Ca) none H'
  | _ => False
structure FnF (P : Program) (w : World) (K : PySem.W.Frag) (mg : Str → Option Value) (base : Heap) (x : Str) (k : Nat) (f : List D → R D) : Prop where
  ex : ∃ fa fd ps, FnOk P w K mg base (CXF P w) k fa fd ps (spF K mg f) ∧ mg x = some (.ref fa) ∧ PySem.W.keepIn K (.ref fa) = true ∧ Binds K fd ps []
structure CalleeF (X : Cx) (x : Str) (f : List D → R D) : Prop where
  ex : ∃ k fa fd ps, FnOk X.prog X.w X.K X.mg X.base (CXF X.prog X.w) k fa fd ps (spF X.K X.mg f) ∧ Room k X.A ∧ X.mg x = some (.ref fa) ∧ PySem.W.keepIn X.K (.ref fa) = true ∧ Binds X.K fd ps []
section
variable {X : Cx} {N : List Str} {x : Str} {f : List D → R D} {e : Expr} {es : List Expr} {gs : List E} {p pos : Pos} {g : E}
end
end ES
namespace EV
end EV
namespace ES
open PySem PySem.Spec PyProof.Rows L2 EV
unseal SE ST SW SA SS SSs SI SO
section
variable {X : Cx} {N : List Str} {e : Expr} {g : E} {pos : Pos}
end
end ES
namespace ES
open PySem PySem.Spec PyProof.Rows L2 EV
unseal SE ST SW SA SS SSs SI SO
section
variable {prog : Program} {w : World} {A : Around} {R : Result → Shared → Prop} {I : Addr} {fp wr : List Addr} {n : Nat} {P : Nat → Value → Prop} {St : Nat → Heap → Prop}
end
section
variable {prog : Program} {w : World} {A : Around} {E : Value → Shared → Prop} {s : Shared} {l : Addr} {xs : Array (Int × Tok)}
end
section
variable {X : Cx} {N : List Str} {e : Expr} {g : E} {pos : Pos}
end
end ES
namespace ES
open PySem PySem.Spec PyProof.Rows L2 EV
unseal SE ST SW SA SS SSs SI SO
section
variable {X : Cx} {N : List Str} {e : Expr} {g : E} {pos : Pos}
end
end ES
namespace ES
open PySem PySem.Spec PyProof.Rows L2 EV
structure DA (K : PySem.W.Frag) (n : Str) (st : Stmt) : Prop where
  ex : ∃ f fd, PySem.W.nsIn K mainGlobals n = some (some (.ref f)) ∧ Fun K n n st f fd
theorem da_mk {K : PySem.W.Frag} {n : Str} {st : Stmt} {f : Addr} {oc : Value} {od an : Option Addr} {osl : Array (Option Value)} {kV doc pm cdv ct : Value} (a : PySem.W.nsIn K mainGlobals n = some (some (.ref f))) (l : K.lookup f = some ⟨oc, od, .func (PySem.W.fnOf n n (defArgs st) (defBody st) (defScope st) .none kV doc pm an cdv ct), osl⟩)
    (c : PySem.W.codeIn K cdv n = true) (k : PySem.W.keepIn K (.ref f) = true) : DA K n st := ⟨_, _, a, fun_mk l c k⟩
theorem DA.fn {P : Program} {w : World} {K : PySem.W.Frag} {h : Heap} {mg : Str → Option Value} {base : Heap} {n : Str} {st : Stmt} {N G ps : List Str} {k a m : Nat} {g : S}
    (q : DA K n st) (KX : K.In h) (GG : h.Ns mainGlobals mg) (S : ScF N G ps (defScope st)) (hn : ps.length = a) (hm : N.length = m) (B : ∀ {f : Addr} {fd : FuncData}, Fun K n n st f fd → Binds K fd ps [])
    (hbody : ∀ X : Cx, Room k (at5 X P w K mg base).A → Lp (at5 X P w K mg base) → Own (at5 X P w K mg base) → Pl (at5 X P w K mg base) N G → (at5 X P w K mg base).env.scope = defScope st → SSs (at5 X P w K mg base) (defBody st) g) :
    FnP P w K mg base n (k + 1) (fn a m g) := by
  obtain ⟨f, fd, a, F⟩ := q.ex
  exact fn_def (fn_ok2 F S hn hm hbody) F.kp (PySem.W.mg_of KX GG a) (B F)
theorem FnP.c {X : Cx} {x : Str} {k j : Nat} {f : List D → R D} (F : FnP X.prog X.w X.K X.mg X.base x k f) (hr : Room j X.A) (h : k ≤ j := by decide) : Callee X x f := F.callee hr h
end ES
local macro_rules | `(tactic| walk_at "S") => `(tactic| exact ⟨⟨rfl, rfl, rfl, by decide +kernel, by decide +kernel, by decide +kernel, by decide +kernel⟩, by decide +kernel, by decide +kernel, by decide +kernel, by decide +kernel⟩)
namespace EV
noncomputable def putU : List Nat → Dt → List D → Option Dt
  | [], δ, [] => some δ
  | i :: is, δ, d :: ds => putU is (δ.set i (some d)) ds
  | _, _, _ => none
end EV
namespace ES
open PySem PySem.Spec PyProof.Rows L2 EV
unseal SE ST SW SA SS SSs SI SO
section
variable {X : Cx}
end
end ES
namespace ES
open PySem PySem.Spec PyProof.Rows L2 EV
unseal SE ST SW SA SS SSs SI SO
noncomputable def gIs : List Nat → TGs
  | [] => gNil
  | i :: is => gCons (gName i) (gIs is)
section
variable {X : Cx} {N : List Str} {e : Expr} {es : List Expr} {g : IT} {gb : S} {body : List Stmt} {is : List Nat} {pos : Pos}
theorem puts {H : Hp} {Q : L2.St → Hp → Prop} : ∀ {is : List Nat} {xs : List V} {ds : List D} {σ : L2.St} {δ δ2 : Dt} {os : List (Nat × Addr)}, StO X H σ δ os → Reps X.K X.mg (hide H os) xs ds → putU is δ ds = some δ2 → (∀ σ2 os2, StO X H σ2 δ2 os2 → Same (hide H os) (hide H os2) → Q σ2 H) → gIs is xs σ H Q
  | [], xs, ds, σ, δ, δ2, os, S, r, e, q => by
    cases r with
    | nil => cases e; exact ⟨rfl, q _ _ S (Same.refl _)⟩
    | cons _ _ => cases e
  | i :: is, xs, ds, σ, δ, δ2, os, S, r, e, q => by
    cases r with
    | nil => cases e
    | cons ra rr =>
      obtain ⟨S2, s2⟩ := S.set (i := i) ra
      exact ⟨_, _, rfl, puts S2 (rr.mono s2) e fun σ2 os2 S3 s3 => q σ2 os2 S3 (s2.trans s3)⟩
end
end ES
namespace ES
open PySem PySem.Spec PyProof.Rows L2 EV
section
variable {X : Cx} {N G : List Str} {e e1 e2 e3 e4 : Expr} {es : List Expr} {g g1 g2 g3 g4 : E} {gs : List E} {x : Str} {p pos : Pos} {f : List D → R D}
theorem Pl.v (P : Pl X N G) (i : Nat) (h : N[i]? = some x := by rfl) : SE X (.Name x pos) (var i) := e_var P.sc i h
theorem Pl.w (P : Pl X N G) (i : Nat) (h : G[i]? = some x := by rfl) : Gb X x := P.gb _ (mG i h)
theorem Pl.set (P : Pl X N G) (i : Nat) (h : SE X e g) (hN : N[i]? = some x := by rfl) (hsw : swapsWith e (some (.Name x p)) pos.line X.env = pure false := by rfl) : SS X (.Assign [.Name x p] e pos) (assign i g) := s_set P.toSx i hN (P.sto _ (mG i hN)) h hsw
theorem Pl.ret (P : Pl X N G) (h : SE X e g) : SS X (.Return (some e) pos) (ret g) := s_ret P.toSx h
theorem Pl.if_ {c : Expr} {gc : E} {body els : List Stmt} {gb ge : S} (P : Pl X N G) (hc : ST X c gc) (ha : SSs X body gb) (hb : SSs X els ge) : SS X (.If c body els pos) (ifs gc gb ge) := s_if P.toSx hc ha hb
theorem Pl.xp (P : Pl X N G) (h : SE X e g) (hs : swapsWith e none pos.line X.env = pure false := by rfl) : SS X (.Expr e pos) (expr g) := s_expr P.toSx h hs
theorem Pl.y {k : Int} {j} {p1 p2 : Pos} (P : Pl X N G) (i : Nat) (h : N[i]? = some x := by rfl) : SE X (.Subscript (.Name x p1) (.Constant (.int k) j p2) pos) (bin oIx (var i) (con (.int k))) := e_ix (e_var P.sc i h) e_int
theorem Pl.call (P : Pl X N G) (i : Nat) (c : Callee X x f) (ha : SA X (e :: es) gs) (h : G[i]? = some x := by rfl) (he : starEach (e :: es) X.env = (false, eval e X.env) :: starEach es X.env := by rfl) (hpl : (backTo pos (starEach es X.env)).any (·.1) = false := by rfl) :
    SE X (.Call (.Name x p) (e :: es) [] pos) (EV.call f gs) := e_call c (P.gb _ (mG i h)) ha he hpl
theorem a1 (h1 : SE X e1 g1) (s1 : starEach [e1] X.env = (false, eval e1 X.env) :: starEach [] X.env := by rfl) : SA X [e1] [g1] := a_cons h1 a_nil s1
theorem a2 (h1 : SE X e1 g1) (h2 : SE X e2 g2) (s1 : starEach [e1, e2] X.env = (false, eval e1 X.env) :: starEach [e2] X.env := by rfl) (s2 : starEach [e2] X.env = (false, eval e2 X.env) :: starEach [] X.env := by rfl) : SA X [e1, e2] [g1, g2] := a_cons h1 (a_cons h2 a_nil s2) s1
theorem a3 (h1 : SE X e1 g1) (h2 : SE X e2 g2) (h3 : SE X e3 g3) (s1 : starEach [e1, e2, e3] X.env = (false, eval e1 X.env) :: starEach [e2, e3] X.env := by rfl) (s2 : starEach [e2, e3] X.env = (false, eval e2 X.env) :: starEach [e3] X.env := by rfl) (s3 : starEach [e3] X.env = (false, eval e3 X.env) :: starEach [] X.env := by rfl) : SA X [e1, e2, e3] [g1, g2, g3] := a_cons h1 (a_cons h2 (a_cons h3 a_nil s3) s2) s1
end
end ES
local macro_rules | `(tactic| walk_at "C") => `(tactic| exact ⟨rfl, by decide +kernel, by decide +kernel, by decide +kernel, by decide +kernel, by decide +kernel, by decide +kernel, by decide +kernel, by decide +kernel, by decide +kernel⟩)
namespace ES
open PySem PySem.Spec PyProof.Rows L2 EV
unseal SE ST SW SA SS SSs SI SO
section
variable {X : Cx} {pos : Pos} {a b : Expr} {ga gb : E}
end
end ES
namespace EV
end EV
namespace ES
open PySem PySem.Spec PyProof.Rows L2 EV
unseal SE ST SW SA SS SSs SI SO
section
variable {X : Cx} {pos : Pos} {a b : Expr} {ga gb : E}
end
end ES
namespace EV
noncomputable def cutS (x : PySem.Str) (lo hi : Option Int) : PySem.Str := ⟨(cut x.cps.toList lo hi).toArray⟩
noncomputable def oSlS : D → Option Int → Option Int → R D
  | .str x, lo, hi => if x.cps.size ≤ 1000000 then .ok (.str (cutS x lo hi)) else .bad
  | _, _, _ => .bad
noncomputable def slcS (a : E) (lo hi : Option E) : E := fun δ => (a δ).bind fun d => (part lo δ).bind fun l => (part hi δ).bind fun h => oSlS d l h
theorem u_slcS {a : E} {lo hi : Option E} {δ : Dt} : slcS a lo hi δ = (a δ).bind fun d => (part lo δ).bind fun l => (part hi δ).bind fun h => oSlS d l h := rfl
theorem oSlS_str {x : PySem.Str} {lo hi : Option Int} (h : x.cps.size ≤ 1000000) : oSlS (.str x) lo hi = .ok (.str (cutS x lo hi)) := by unfold oSlS; simp only; rw [if_pos h]
theorem part_some {e : E} {δ : Dt} : part (some e) δ = (e δ).bind fun d => match d with | .int i => .ok (some i) | _ => .bad := rfl
end EV
namespace ES
open PySem PySem.Spec PyProof.Rows L2 EV
unseal SE ST SW SA SS SSs SI SO
section
variable {X : Cx} {pos p p2 : Pos} {a e : Expr} {g : E} {lo hi : Option Expr} {gl gu : Option E}
theorem sIx_in {n d : Nat} (h : d ≤ n) (i : Option Int) : sIx n d i ≤ n := by
  cases i with
  | none => exact h
  | some j =>
    unfold sIx
    by_cases q : j < 0
    · simp only [if_pos q]; omega
    · simp only [if_neg q]; exact Nat.min_le_right _ _
theorem ind_cut (n : Nat) (l u : Option Int) : PySem.Builtin.Str.strSliceIndices l u 1 n = (List.range (sIx n n u - sIx n 0 l)).map (sIx n 0 l + ·) := by
  rw [← PySem.sliceRange_one]
  unfold PySem.Builtin.Str.strSliceIndices
  simp only [show (1 : Int) > 0 by decide, if_true]
  congr 1
  · cases l with
    | none => rfl
    | some i => simp only [sIx]; by_cases h : i < 0 <;> simp only [h, if_true, if_false] <;> omega
  · cases u with
    | none => rfl
    | some i => simp only [sIx]; by_cases h : i < 0 <;> simp only [h, if_true, if_false] <;> omega
theorem slice_cut (x : Str) (l u : Option Int) : PySem.Txt.slice x l u = cutS x l u := by
  have hn : x.cps.toList.length = x.length := by simp [Str.length]
  have h1 := sIx_in (Nat.le_refl x.length) u
  unfold PySem.Txt.slice cutS EV.cut
  rw [ind_cut, PySem.pick_run, hn]
  split
  · rename_i h
    simp only [beq_self_eq_true, Bool.true_and, List.length_map, List.length_range, beq_iff_eq] at h
    by_cases z : x.length = 0
    · have : x.cps.toList = [] := List.length_eq_zero_iff.mp (by rw [hn]; exact z)
      rw [this]
      simp only [List.drop_nil, List.take_nil]
      cases x with | mk c => simp at this; rw [this]
    · have e0 : sIx x.length 0 l = 0 := by omega
      rw [e0, List.drop_zero, List.take_of_length_le (by rw [hn]; omega)]
  · rfl
noncomputable def rSS (X : Cx) : V → Option Int → Option Int → Hp → VK → Prop := fun x l u H Q => ∃ dx d, Rep X.K X.mg H x dx ∧ oSlS dx l u = .ok d ∧ ∀ v H', Same H H' → Rep X.K X.mg H' v d → Q v H'
theorem sl_S : SlR X (rSS X) := by
  intro pins s σ H x v vl vu l u sl Q I rx hs pl pu ⟨dx, d, r, e, q⟩
  cases dx with
  | str z =>
    unfold oSlS at e
    simp only at e
    split at e
    · rename_i hz
      cases e; cases r
      obtain ⟨t, rfl⟩ := rx
      have hsz : z.length ≤ sizeLine := Nat.le_trans hz (by decide)
      have fin : ∀ t' k, EP X pins σ Q (.str (PySem.Txt.slice z l u) t') { s with toks := k } := fun t' k => ⟨.str (PySem.Txt.slice z l u), H, I.tok k, ⟨_, rfl⟩, by rw [slice_cut]; exact q _ _ (Same.refl _) (.str _)⟩
      have hl := Nat.le_trans (PySem.Txt.slice_le z l u) hsz
      refine ⟨"str", _, F.slot_str_getitem.lookup, typeIs_str _ _ _, ?_⟩
      cases pl with
      | none =>
        cases pu with
        | none => exact wpAny_getItem_str_slice (l := none) (u := none) (st := none) hs rfl (post_val_or_str ⟨hl, fin⟩)
        | int j uj => exact wpAny_getItem_str_slice (l := none) (u := some (j, uj)) (st := none) hs rfl (post_val_or_str ⟨hl, fin⟩)
      | int i ui =>
        cases pu with
        | none => exact wpAny_getItem_str_slice (l := some (i, ui)) (u := none) (st := none) hs rfl (post_val_or_str ⟨hl, fin⟩)
        | int j uj => exact wpAny_getItem_str_slice (l := some (i, ui)) (u := some (j, uj)) (st := none) hs rfl (post_val_or_str ⟨hl, fin⟩)
    · cases e
  | _ => cases e
theorem e_slcS (ha : SE X a g) (hl : SO X lo gl) (hu : SO X hi gu) : SE X (.Subscript a (.Slice lo hi none p2) pos) (slcS g gl gu) :=
  PE.weak (pe_slice sl_S ha hl hu) fun σ H Q ⟨δ, hσ, q⟩ => ⟨δ, hσ, (RQ.bind q).to fun x H1 _ ⟨s1, d, r1, q1⟩ => ⟨δ, hσ.mono s1, (ROp.bind q1).to fun l H2 _ ⟨s2, q2⟩ => ⟨δ, hσ.mono (s1.trans s2), (ROp.bind q2).to fun u H3 _ ⟨s3, q3⟩ => by
    have r3 := r1.mono (s2.trans s3)
    cases e : oSlS d l u with
    | ok z => rw [e] at q3; exact ⟨d, z, r3, e, q3⟩
    | ex C =>
      exfalso
      unfold oSlS at e
      split at e
      · split at e <;> cases e
      · cases e
    | bad => rw [e] at q3; exact False.elim q3⟩⟩⟩
structure IsW (X : Cx) (n : String) (C : Addr) : Prop where
  mg : X.mg n = some (.ref C)
  cl : Cls X.K C
  ha : PySem.W.findIn X.K (.ref C) "__class__" = some (some (.builtin "object.__class__"))
  hn : PySem.W.specialIn X.K (.builtin "object.__class__") "__get__" = some (some (.builtin "getset_descriptor.__get__"))
  htk : PySem.W.takesIn X.K (.builtin "object.__class__") = some true
  hm : PySem.W.mroIn X.K C (.type "object") = some true
  kit : PySem.W.kitOne X.K (.ref C) (.ref C) = some true
end
end ES
namespace EV
noncomputable def mS (f : PySem.Str → D → R D) (a b : E) : E := fun δ => (a δ).bind fun d => match d with | .str z => (b δ).bind (f z) | _ => .bad
noncomputable def bStr : List D → R D
  | [.int i] => if nb i ≤ 1900 then .ok (.str (toString i)) else .bad
  | _ => .bad
noncomputable def oRepS : D → D → R D
  | .str x, .int n => if x.cps.size = 1 ∧ -100000 ≤ n ∧ n ≤ 100000 then .ok (.str ⟨(List.replicate n.toNat (x.cps.getD 0 0)).toArray⟩) else .bad
  | _, _ => .bad
theorem u_mS {f : PySem.Str → D → R D} {a b : E} {δ : Dt} : mS f a b δ = (a δ).bind fun d => match d with | .str z => (b δ).bind (f z) | _ => .bad := rfl
end EV
namespace ES
open PySem PySem.Spec PyProof.Rows L2 EV
open Builtin Builtin.Str Builtin.Int in
theorem long_no {n : Nat} (h : n ≤ 100000) : tooLong n = false := by
  unfold tooLong
  exact decide_eq_false (by have : sizeLine = 16777216 := rfl; omega)
unseal SE ST SW SA SS SSs SI SO
section
variable {X : Cx} {pos : Pos} {a b : Expr} {ga gb : E}
theorem nxStr : NoX bStr := fun ds C z => by unfold bStr at z; split at z <;> first | cases z | exact nx_ite z
theorem c_str : CallR X (.type "str") (rC X bStr) := by
  intro pins s σ H xs us Q I rs ⟨ds, d, r, e, q⟩
  unfold bStr at e
  split at e
  · rename_i i
    split at e
    · rename_i hz
      cases e
      obtain ⟨v, rfl, r1⟩ := reps1 r
      cases r1
      refine call_str_int pins s σ H _ us Q I rs ⟨i, rfl, ?_, q _ _ (Same.refl _) (.str _)⟩
      unfold nb at hz
      split at hz
      · rename_i z; subst z; decide
      · omega
    · cases e
  · cases e
noncomputable def rM (X : Cx) (f : Str → D → R D) : V → List V → Hp → VK → Prop := fun x vs H Q => ∃ z v dy d, x = .str z ∧ vs = [v] ∧ Rep X.K X.mg H v dy ∧ f z dy = .ok d ∧ ∀ w H', Same H H' → Rep X.K X.mg H' w d → Q w H'
noncomputable def NoXS (f : Str → D → R D) : Prop := ∀ x y C, f x y ≠ .ex C
theorem e_mS {f : Str → D → R D} {name : Str} {id : String} {apos cpos : Pos} (nx : NoXS f) (slot : Slot "str" name id) (hty : typeOf (.builtin id) = pure (.type "method_descriptor")) (hm : MtR X id (rM X f)) (ho : SE X a ga) (ha : SE X b gb)
    (hbase : attributeBase a name X.env (eval a X.env) = eval a X.env := by rfl)
    (hfew : ((backTo cpos (starEach [b] X.env)).all (fun x => !x.1) && (backToKw cpos (keywordEach [] X.env)).all (fun x => x.1.isSome)
      && decide ([b].length + ([] : List Keyword).length + (if ([] : List Keyword).isEmpty then 0 else 1) < 30)) = true := by rfl)
    (hline : (apos.endLine == cpos.line) = true := by rfl) (hs : starEach [b] X.env = [(false, eval b X.env)] := by rfl) :
    SE X (.Call (.Attribute a name apos) [b] [] cpos) (mS f ga gb) := by
  refine PE.weak (pe_bm F.plainAttrs_str slot hty hm ho (pa_cons ha pa_nil hs) hbase hfew hline hs (by rfl)) fun σ H Q ⟨δ, hσ, h⟩ => ⟨δ, hσ, (RQ.bind h).to fun x H1 s1 ⟨_, dx, r1, q1⟩ => ?_⟩
  cases dx with
  | str z =>
    cases r1
    refine ⟨rfl, δ, hσ.mono s1, (RQ.bind q1).to fun y H2 s2 ⟨_, dy, r2, q2⟩ => ?_⟩
    cases e : f z dy with
    | ok d => rw [e] at q2; exact ⟨z, y, dy, d, rfl, rfl, r2, e, q2⟩
    | ex C => exact absurd e (nx z dy C)
    | bad => rw [e] at q2; exact False.elim q2
  | _ => exact False.elim q1
theorem fold_rep {a : Nat} : ∀ (k : Nat) (acc : Array Nat), (List.replicate k #[a]).foldl (· ++ ·) acc = acc ++ (List.replicate k a).toArray
  | 0, acc => by simp
  | k + 1, acc => by
    rw [List.replicate_succ, List.foldl_cons, fold_rep k, List.replicate_succ, Array.append_assoc]
    exact congrArg (acc ++ ·) (by apply Array.ext'; simp [-List.toArray_replicate])
theorem nxRepS : NoX2 oRepS := fun x y C z => by unfold oRepS at z; split at z <;> first | cases z | exact nx_ite z
theorem op_repS : OpR X (binaryOp .Mult) (rD X oRepS) := by
  intro pins s σ H x y v u Q I rx ry h
  obtain ⟨dx, dy, d, r1, r2, e, q⟩ := h
  unfold oRepS at e
  split at e
  · rename_i z n
    split at e
    · rename_i hc
      cases e
      cases r1
      cases r2
      obtain ⟨t, rfl⟩ := rx
      obtain ⟨t', rfl⟩ := ry
      have fin : ∀ t' k (w : Str), w = ⟨(List.replicate n.toNat (z.cps.getD 0 0)).toArray⟩ → EP X pins σ Q (.str w t') { s with toks := k } := fun t' k w hw => ⟨.str w, H, I.tok k, ⟨_, rfl⟩, by rw [hw]; exact q _ _ (Same.refl _) (.str _)⟩
      have zz : z = ⟨#[z.cps.getD 0 0]⟩ := by
        cases z with
        | mk c =>
          have hs : c.size = 1 := hc.1
          congr 1
          apply Array.ext
          · simp [hs]
          · intro i h1 h2
            have : i = 0 := by omega
            subst this
            simp [Array.getD, hs]
      refine PySem.P.mul_str (by
        rw [decide_eq_false (show ¬ n < -(2 ^ 63 : Int) by omega), decide_eq_false (show ¬ n ≥ 2 ^ 63 by omega)]; rfl) (fun h1 h2 => ?_) (fun h1 h2 => ?_) ?_
      · have : (z.length : Int) = 1 := by show ((z.cps.size : Nat) : Int) = 1; rw [hc.1]; rfl
        rw [this]
        have : 1 ≤ (2 ^ 63 - 1) / n := (Int.le_ediv_iff_mul_le (by omega)).mpr (by omega)
        omega
      · have : z.length = 1 := hc.1
        exact long_no (by rw [this]; omega)
      · by_cases g : n < 1
        · rw [if_pos g]
          exact ⟨by decide, fin _ _ _ (by rw [show n.toNat = 0 by omega]; rfl)⟩
        · rw [if_neg g]
          by_cases g2 : n = 1
          · rw [if_pos (by simp [g2])]
            exact fin t s.toks z (by rw [g2]; exact zz)
          · rw [if_neg (by have : z.length = 1 := hc.1; simp [g2, this])]
            have ef : ∀ k : Nat, (List.replicate k z.cps).foldl (· ++ ·) (#[] : Array Nat) = (List.replicate k (z.cps.getD 0 0)).toArray := by
              intro k
              have zc : z.cps = #[z.cps.getD 0 0] := congrArg Str.cps zz
              generalize z.cps.getD 0 0 = a at zc ⊢
              rw [zc, fold_rep]
              simp
            refine ⟨?_, fin _ _ _ (by rw [ef])⟩
            rw [ef]
            show (List.replicate n.toNat (z.cps.getD 0 0)).toArray.size ≤ sizeLine
            simp
            have : sizeLine = 16777216 := rfl
            omega
    · cases e
  · cases e
theorem e_repS (ha : SE X a ga) (hb : SE X b gb) : SE X (.BinOp a .Mult b pos) (EV.bin oRepS ga gb) := e_bin nxRepS op_repS ha hb
end
end ES
namespace EV
noncomputable def cutBy (goes : Nat → Bool) (a b : Bool) (l : List Nat) : List Nat :=
  let lo := if a then (l.takeWhile goes).length else 0
  let hi := if b then l.length - ((l.drop lo).reverse.takeWhile goes).length else l.length
  (l.take hi).drop lo
noncomputable def mCut (a b : Bool) (x : PySem.Str) : D → R D
  | .str y => if x.cps.size ≤ 1000000 then .ok (.str ⟨(cutBy y.cps.contains a b x.cps.toList).toArray⟩) else .bad
  | _ => .bad
noncomputable def mRstrip := mCut false true
end EV
namespace ES
open PySem PySem.Spec PyProof.Rows L2 EV
unseal SE ST SW SA SS SSs SI SO
section
variable {X : Cx} {pos : Pos} {a b : Expr} {ga gb : E}
theorem nxCut {a b : Bool} : NoXS (mCut a b) := fun x y C z => by unfold mCut at z; split at z <;> first | cases z | exact nx_ite z
theorem nxRstrip : NoXS mRstrip := nxCut
theorem strip_is (goes : Nat → Bool) (a b : Bool) (x : Str) : Txt.stripBy goes a b x = ⟨(cutBy goes a b x.cps.toList).toArray⟩ := by
  have hn : x.cps.toList.length = x.length := by simp [Str.length]
  unfold Txt.stripBy cutBy
  split
  · rename_i h
    unfold stripSame at h
    rw [Bool.and_eq_true, beq_iff_eq, beq_iff_eq] at h
    obtain ⟨h1, h2⟩ := h
    rw [h1] at h2
    unfold stripLo at h1
    unfold stripHi at h2
    rw [← hn] at h2
    rw [List.drop_zero] at h2
    simp only [h1, List.drop_zero, h2, List.take_length]
  · unfold stripped Builtin.Str.strSub stripLo stripHi
    rw [← hn]
    congr 1
    apply Array.ext'
    simp [List.drop_take]
theorem mt_cut {id : String} {p q : Bool} (hc : ∀ (s : Shared) (x y : Str) (t u : Tok) (Q : Value → Shared → Prop) (E : Value → Shared → Prop), x.length ≤ sizeLine → (∀ t' k, Q (.str (Txt.stripBy y.cps.contains p q x) t') { s with toks := k }) → wpAny (model X.prog X.w) X.A (call (.builtin id) [.str x t, .str y u]) Q E s) :
    MtR X id (rM X (mCut p q)) := by
  intro pins s σ H x vs v us Q I rx rv h
  obtain ⟨z, w, dy, d, rfl, rfl, r, e, q⟩ := h
  unfold mCut at e
  split at e
  · split at e
    · rename_i hz
      cases e
      cases r
      obtain ⟨t, rfl⟩ := rx
      obtain ⟨u, rfl, t', rfl⟩ := vals1 rv
      refine hc s z _ t t' _ _ (Nat.le_trans hz (by decide)) fun t'' k => ?_
      rw [strip_is]
      exact ⟨.str _, H, I.tok _, ⟨_, rfl⟩, q _ _ (Same.refl _) (.str _)⟩
    · cases e
  · cases e
theorem mt_rstrip : MtR X "str.rstrip" (rM X mRstrip) := mt_cut fun s x y t u Q E hz h => SC.rstripChars h hz
end
end ES
namespace EV
noncomputable def dv (l : List Nat) : Nat := l.foldl (fun a c => a * 10 + (c - 48)) 0
end EV
namespace ES
open PySem PySem.Spec PyProof.Rows L2 EV
unseal SE ST SW SA SS SSs SI SO
section
variable {X : Cx} {pos : Pos} {tg e a b : Expr} {g ga gb : E}
end
end ES
namespace T
open EV
noncomputable def g_law_size_by : S :=
  seq (assign 1 (bin oMod (var 0) (con (.int 8))))
  (seq (assign 2 (bin oDiv (var 0) (con (.int 8))))
  (seq (ifs (bin oEq (var 1) (con (.int 0))) (ret (tupE [con (.int 5), con (.int 10)])) (pass_))
  (seq (ifs (bin oEq (var 1) (con (.int 1))) (ret (tupE [con (.int 8), con (.int 23)])) (pass_))
  (seq (ifs (bin oEq (var 1) (con (.int 2))) (ret (tupE [con (.int 11), con (.int 52)])) (pass_))
  (seq (ifs (bin oEq (var 1) (con (.int 3))) (ret (tupE [con (.int 15), con (.int 112)])) (pass_))
  (seq (ifs (bin oLt (var 1) (con (.int 6))) (ret (tupE [bin oAdd (con (.int 2)) (bin oMod (var 2) (con (.int 14))), bin oAdd (con (.int 1)) (bin oMod (bin oDiv (var 2) (con (.int 14))) (con (.int 112)))])) (pass_))
  (ret (tupE [bin oAdd (con (.int 2)) (bin oMod (var 2) (con (.int 4))), bin oAdd (con (.int 1)) (bin oMod (bin oDiv (var 2) (con (.int 4))) (con (.int 5)))]))))))))
noncomputable def p_law_size_by : List D → R D := fn 1 3 g_law_size_by
noncomputable def g_law_power (P0 : List D → R D) : S :=
  seq (ifs (bin oEq (var 0) (con (.int 0))) (ret (con (.int 1))) (pass_))
  (seq (assign 1 (call P0 [bin oDiv (var 0) (con (.int 2))]))
  (seq (ifs (bin oEq (bin oMod (var 0) (con (.int 2))) (con (.int 1))) (ret (bin oMul (bin oMul (var 1) (var 1)) (con (.int 10)))) (pass_))
  (ret (bin oMul (var 1) (var 1)))))
noncomputable def p_law_power : Nat → List D → R D
  | 0 => fun _ => .bad
  | j + 1 => fn 1 2 (g_law_power (p_law_power j))
noncomputable def g_law_number_by : S :=
  seq (assign 2 (bin oShl (con (.int 1)) (call bMin [bin oAdd (bin oIx (var 0) (con (.int 1))) (con (.int 1)), bin oShl (con (.int 1)) (bin oSub (bin oIx (var 0) (con (.int 0))) (con (.int 1)))])))
  (seq (assign 3 (bin oDiv (var 1) (con (.int 3))))
  (seq (ifs (bin oEq (bin oMod (var 1) (con (.int 3))) (con (.int 0))) (ret (bin oAdd (con (.int 1)) (bin oMod (var 3) (bin oSub (var 2) (con (.int 1)))))) (pass_))
  (seq (ifs (bin oEq (bin oMod (var 1) (con (.int 3))) (con (.int 1))) (ret (bin oAdd (con (.int 1)) (bin oMod (bin oSub (bin oAdd (call (p_law_power 20) [bin oMod (var 3) (con (.int 35))]) (bin oMod (bin oDiv (var 3) (con (.int 35))) (con (.int 21)))) (con (.int 11))) (bin oSub (var 2) (con (.int 1)))))) (pass_))
  (ret (bin oAdd (con (.int 1)) (bin oMod (bin oMul (var 3) (con (.int 73846150927364518273645509182736455091827))) (bin oSub (var 2) (con (.int 1)))))))))
noncomputable def p_law_number_by : List D → R D := fn 2 4 g_law_number_by
noncomputable def g_sign_bit : S :=
  ret (bin oShl (con (.int 1)) (bin oAdd (bin oIx (var 0) (con (.int 0))) (bin oIx (var 0) (con (.int 1)))))
noncomputable def p_sign_bit : List D → R D := fn 1 1 g_sign_bit
noncomputable def g_width : S :=
  ret (bin oAdd (bin oAdd (bin oIx (var 0) (con (.int 0))) (bin oIx (var 0) (con (.int 1)))) (con (.int 1)))
noncomputable def p_width : List D → R D := fn 1 1 g_width
noncomputable def g_parted : S :=
  seq (ifs (or_ (bin oLt (var 1) (con (.int 0))) (bin oGe (var 1) (bin oShl (con (.int 1)) (call p_width [var 0])))) (raise "NoBits") (pass_))
  (seq (assign 2 (bin oMod (var 1) (call p_sign_bit [var 0])))
  (seq (assign 3 (bin oShl (con (.int 1)) (bin oIx (var 0) (con (.int 1)))))
  (ret (tupE [bin oDiv (var 1) (call p_sign_bit [var 0]), bin oDiv (var 2) (var 3), bin oMod (var 2) (var 3)]))))
noncomputable def p_parted : List D → R D := fn 2 4 g_parted
noncomputable def g_last_field : S :=
  ret (bin oSub (bin oShl (con (.int 1)) (bin oIx (var 0) (con (.int 0)))) (con (.int 1)))
noncomputable def p_last_field : List D → R D := fn 1 1 g_last_field
noncomputable def g_kind : S :=
  seq (assign 2 (call p_parted [var 0, var 1]))
  (seq (assign 3 (bin oIx (var 2) (con (.int 1))))
  (seq (assign 4 (bin oIx (var 2) (con (.int 2))))
  (seq (ifs (bin oEq (var 3) (con (.int 0))) (ret (ife (bin oEq (var 4) (con (.int 0))) (con (.str "nought")) (con (.str "faint")))) (pass_))
  (seq (ifs (bin oEq (var 3) (call p_last_field [var 0])) (ret (ife (bin oEq (var 4) (con (.int 0))) (con (.str "endless")) (con (.str "none")))) (pass_))
  (ret (con (.str "plain")))))))
noncomputable def p_kind : List D → R D := fn 2 5 g_kind
noncomputable def g_worth_fraction : S :=
  seq (assign 1 (bin oIx (var 0) (con (.int 1))))
  (seq (assign 2 (bin oIx (var 0) (con (.int 2))))
  (seq (ifs (bin oGe (var 2) (con (.int 0))) (ret (tupE [bin oIx (var 0) (con (.int 0)), bin oShl (var 1) (var 2), con (.int 1)])) (pass_))
  (ret (tupE [bin oIx (var 0) (con (.int 0)), var 1, bin oShl (con (.int 1)) (un oNeg (var 2))]))))
noncomputable def p_worth_fraction : List D → R D := fn 1 3 g_worth_fraction
noncomputable def g_bias : S :=
  ret (bin oSub (bin oShl (con (.int 1)) (bin oSub (bin oIx (var 0) (con (.int 0))) (con (.int 1)))) (con (.int 1)))
noncomputable def p_bias : List D → R D := fn 1 1 g_bias
noncomputable def g_low : S :=
  ret (bin oSub (bin oSub (con (.int 1)) (call p_bias [var 0])) (bin oIx (var 0) (con (.int 1))))
noncomputable def p_low : List D → R D := fn 1 1 g_low
noncomputable def g_worth : S :=
  seq (assign 2 (call p_parted [var 0, var 1]))
  (seq (assign 3 (bin oIx (var 2) (con (.int 0))))
  (seq (assign 4 (bin oIx (var 2) (con (.int 1))))
  (seq (assign 5 (bin oIx (var 2) (con (.int 2))))
  (seq (ifs (bin oEq (var 4) (call p_last_field [var 0])) (raise "NotFinite") (pass_))
  (seq (ifs (bin oEq (var 4) (con (.int 0))) (ret (tupE [var 3, var 5, call p_low [var 0]])) (pass_))
  (ret (tupE [var 3, bin oAdd (bin oShl (con (.int 1)) (bin oIx (var 0) (con (.int 1)))) (var 5), bin oSub (bin oAdd (call p_low [var 0]) (var 4)) (con (.int 1))])))))))
noncomputable def p_worth : List D → R D := fn 2 6 g_worth
noncomputable def g_fraction : S :=
  ret (call p_worth_fraction [call p_worth [var 0, var 1]])
noncomputable def p_fraction : List D → R D := fn 2 2 g_fraction
noncomputable def g_ten_to (P0 : List D → R D) : S :=
  seq (ifs (bin oEq (var 0) (con (.int 0))) (ret (con (.int 1))) (pass_))
  (seq (assign 1 (call P0 [bin oDiv (var 0) (con (.int 2))]))
  (ret (ife (bin oEq (bin oBand (var 0) (con (.int 1))) (con (.int 1))) (bin oMul (bin oMul (var 1) (var 1)) (con (.int 10))) (bin oMul (var 1) (var 1)))))
noncomputable def p_ten_to : Nat → List D → R D
  | 0 => fun _ => .bad
  | j + 1 => fn 1 2 (g_ten_to (p_ten_to j))
noncomputable def g_tenfold : S :=
  seq (ifs (bin oGe (var 2) (con (.int 0))) (ret (tupE [bin oMul (var 0) (call (p_ten_to 20) [var 2]), var 1])) (pass_))
  (ret (tupE [var 0, bin oMul (var 1) (call (p_ten_to 20) [un oNeg (var 2)])]))
noncomputable def p_tenfold : List D → R D := fn 3 3 g_tenfold
noncomputable def g_below_ten_to : S :=
  seq (assign 3 (call p_tenfold [var 0, var 1, un oNeg (var 2)]))
  (ret (bin oLt (bin oIx (var 3) (con (.int 0))) (bin oIx (var 3) (con (.int 1)))))
noncomputable def p_below_ten_to : List D → R D := fn 3 4 g_below_ten_to
noncomputable def g_scaled : S :=
  seq (ifs (bin oGe (var 2) (con (.int 0))) (ret (tupE [var 0, bin oShl (var 1) (var 2)])) (pass_))
  (ret (tupE [bin oShl (var 0) (un oNeg (var 2)), var 1]))
noncomputable def p_scaled : List D → R D := fn 3 3 g_scaled
noncomputable def g_height : S :=
  seq (assign 2 (bin oSub (call bBitLen [var 0]) (call bBitLen [var 1])))
  (seq (assign 3 (call p_scaled [var 0, var 1, var 2]))
  (ret (ife (bin oLt (bin oIx (var 3) (con (.int 0))) (bin oIx (var 3) (con (.int 1)))) (var 2) (bin oAdd (var 2) (con (.int 1))))))
noncomputable def p_height : List D → R D := fn 2 4 g_height
noncomputable def g_ten_height : S :=
  seq (assign 2 (bin oDiv (bin oMul (call p_height [var 0, var 1]) (con (.int 30103))) (con (.int 100000))))
  (seq (while_ (not_ (call p_below_ten_to [var 0, var 1, var 2])) (assign 2 (bin oAdd (var 2) (con (.int 1)))))
  (ret (var 2)))
noncomputable def p_ten_height : List D → R D := fn 2 3 g_ten_height
noncomputable def g_bare_spelling : S :=
  seq (while_ (bin oEq (bin oMod (var 1) (con (.int 10))) (con (.int 0))) (seq (assign 1 (bin oDiv (var 1) (con (.int 10))))
  (assign 2 (bin oAdd (var 2) (con (.int 1))))))
  (ret (tupE [var 0, var 1, var 2]))
noncomputable def p_bare_spelling : List D → R D := fn 3 3 g_bare_spelling
noncomputable def g_way_of : S :=
  seq (ifs (bin oNotIn (var 0) (con (.tup [.str "even", .str "away", .str "nought", .str "up", .str "down"]))) (raise "NoWay") (pass_))
  (ret (call (mk1 "Way" "name") [var 0]))
noncomputable def p_way_of : List D → R D := fn 1 1 g_way_of
noncomputable def g_check_fraction : S :=
  ifs (or_ (bin oLt (var 0) (con (.int 0))) (bin oLt (var 1) (con (.int 1)))) (raise "NoFraction") (pass_)
noncomputable def p_check_fraction : List D → R D := fn 2 2 g_check_fraction
noncomputable def g_rest_by_middle : S :=
  seq (ifs (bin oEq (var 0) (con (.int 0))) (ret (con (.int 0))) (pass_))
  (seq (ifs (bin oLt (var 1) (var 2)) (ret (con (.int 1))) (pass_))
  (ret (ife (bin oEq (var 1) (var 2)) (con (.int 2)) (con (.int 3)))))
noncomputable def p_rest_by_middle : List D → R D := fn 3 3 g_rest_by_middle
noncomputable def g_rest_of : S :=
  ret (call p_rest_by_middle [var 0, bin oMul (con (.int 2)) (var 0), var 1])
noncomputable def p_rest_of : List D → R D := fn 2 2 g_rest_of
noncomputable def g_cut : S :=
  seq (expr (call p_check_fraction [var 1, var 2]))
  (seq (ifs (bin oEq (var 1) (con (.int 0))) (ret (tupE [con (.int 0), call p_low [var 0], con (.int 0)])) (pass_))
  (seq (assign 3 (call bMax [call p_low [var 0], bin oSub (bin oSub (call p_height [var 1, var 2]) (bin oIx (var 0) (con (.int 1)))) (con (.int 1))]))
  (seq (assign 4 (call p_scaled [var 1, var 2, var 3]))
  (ret (tupE [bin oDiv (bin oIx (var 4) (con (.int 0))) (bin oIx (var 4) (con (.int 1))), var 3, call p_rest_of [bin oMod (bin oIx (var 4) (con (.int 0))) (bin oIx (var 4) (con (.int 1))), bin oIx (var 4) (con (.int 1))]])))))
noncomputable def p_cut : List D → R D := fn 3 5 g_cut
noncomputable def g_endless : S :=
  ret (bin oShl (call p_last_field [var 0]) (bin oIx (var 0) (con (.int 1))))
noncomputable def p_endless : List D → R D := fn 1 1 g_endless
noncomputable def g_signed : S :=
  ret (bin oAdd (bin oMul (var 1) (call p_sign_bit [var 0])) (var 2))
noncomputable def p_signed : List D → R D := fn 3 3 g_signed
noncomputable def g_lost_flags : S :=
  seq (ifs (bin oEq (var 2) (call p_endless [var 0])) (ret (bin oAdd (con (.int 1)) (con (.int 4)))) (pass_))
  (seq (assign 3 (bin oLt (var 1) (bin oShl (con (.int 1)) (bin oIx (var 0) (con (.int 1))))))
  (ret (ife (var 3) (bin oAdd (con (.int 1)) (con (.int 2))) (con (.int 1)))))
noncomputable def p_lost_flags : List D → R D := fn 3 4 g_lost_flags
noncomputable def g_Way_flees_nought : S :=
  seq (ifs (bin oEq (un (oFld "Way" "name") (var 0)) (con (.str "up"))) (ret (bin oEq (var 1) (con (.int 0)))) (pass_))
  (ret (and_ (bin oEq (un (oFld "Way" "name") (var 0)) (con (.str "down"))) (bin oEq (var 1) (con (.int 1)))))
noncomputable def p_Way_flees_nought : List D → R D := fn 2 2 g_Way_flees_nought
noncomputable def g_Way_grows : S :=
  seq (ifs (bin oEq (var 3) (con (.int 0))) (ret (con (.bl false))) (pass_))
  (seq (ifs (bin oEq (un (oFld "Way" "name") (var 0)) (con (.str "even"))) (ret (or_ (bin oEq (var 3) (con (.int 3))) (and_ (bin oEq (var 3) (con (.int 2))) (var 2)))) (pass_))
  (seq (ifs (bin oEq (un (oFld "Way" "name") (var 0)) (con (.str "away"))) (ret (bin oGe (var 3) (con (.int 2)))) (pass_))
  (ret (meth "Way" "flees_nought" p_Way_flees_nought (var 0) [var 1]))))
noncomputable def p_Way_grows : List D → R D := fn 4 4 g_Way_grows
noncomputable def g_Way_bursts : S :=
  seq (ifs (bin oIn (un (oFld "Way" "name") (var 0)) (tupE [con (.str "even"), con (.str "away")])) (ret (con (.bl true))) (pass_))
  (ret (meth "Way" "flees_nought" p_Way_flees_nought (var 0) [var 1]))
noncomputable def p_Way_bursts : List D → R D := fn 2 2 g_Way_bursts
noncomputable def g_settled : S :=
  seq (assign 6 (call p_way_of [var 1]))
  (seq (assign 7 (bin oAdd (bin oShl (bin oSub (var 4) (call p_low [var 0])) (bin oIx (var 0) (con (.int 1)))) (var 3)))
  (seq (assign 8 (call p_endless [var 0]))
  (seq (ifs (bin oGe (var 7) (var 8)) (seq (assign 9 (ife (meth "Way" "bursts" p_Way_bursts (var 6) [var 2]) (var 8) (bin oSub (var 8) (con (.int 1)))))
  (ret (tupE [call p_signed [var 0, var 2, var 9], bin oAdd (con (.int 1)) (con (.int 4))]))) (pass_))
  (seq (ifs (bin oEq (var 5) (con (.int 0))) (ret (tupE [call p_signed [var 0, var 2, var 7], con (.int 0)])) (pass_))
  (seq (assign 9 (ife (meth "Way" "grows" p_Way_grows (var 6) [var 2, bin oEq (bin oBand (var 7) (con (.int 1))) (con (.int 1)), var 5]) (bin oAdd (var 7) (con (.int 1))) (var 7)))
  (ret (tupE [call p_signed [var 0, var 2, var 9], call p_lost_flags [var 0, var 7, var 9]])))))))
noncomputable def p_settled : List D → R D := fn 6 10 g_settled
noncomputable def g_rounded : S :=
  seq (expr (call p_way_of [var 1]))
  (seq (assign 5 (call p_cut [var 0, var 3, var 4]))
  (ret (call p_settled [var 0, var 1, var 2, bin oIx (var 5) (con (.int 0)), bin oIx (var 5) (con (.int 1)), bin oIx (var 5) (con (.int 2))])))
noncomputable def p_rounded : List D → R D := fn 5 6 g_rounded
noncomputable def g_reads_back : S :=
  seq (assign 4 (bin oIx (call p_worth [var 0, var 1]) (con (.int 0))))
  (seq (assign 5 (call p_tenfold [var 2, con (.int 1), var 3]))
  (ret (bin oEq (bin oIx (call p_rounded [var 0, con (.str "even"), var 4, bin oIx (var 5) (con (.int 0)), bin oIx (var 5) (con (.int 1))]) (con (.int 0))) (var 1))))
noncomputable def p_reads_back : List D → R D := fn 4 6 g_reads_back
noncomputable def g_nearest_back : S :=
  seq (assign 4 (bin oDiv (bin oIx (var 3) (con (.int 0))) (bin oIx (var 3) (con (.int 1)))))
  (seq (assign 5 (bin oMul (con (.int 2)) (bin oMod (bin oIx (var 3) (con (.int 0))) (bin oIx (var 3) (con (.int 1))))))
  (seq (assign 6 (or_ (bin oGt (var 5) (bin oIx (var 3) (con (.int 1)))) (and_ (bin oEq (var 5) (bin oIx (var 3) (con (.int 1)))) (bin oEq (bin oBand (var 4) (con (.int 1))) (con (.int 1))))))
  (seq (assign 7 (ife (var 6) (lstE [bin oAdd (var 4) (con (.int 1)), var 4]) (lstE [var 4, bin oAdd (var 4) (con (.int 1))])))
  (seq (forI 8 (itA (var 7)) (ifs (call p_reads_back [var 0, var 1, var 8, var 2]) (ret (var 8)) (pass_)))
  (ret (con .non))))))
noncomputable def p_nearest_back : List D → R D := fn 4 9 g_nearest_back
noncomputable def g_shortest : S :=
  seq (assign 2 (call p_fraction [var 0, var 1]))
  (seq (ifs (bin oEq (bin oIx (var 2) (con (.int 1))) (con (.int 0))) (ret (tupE [bin oIx (var 2) (con (.int 0)), con (.int 0), con (.int 0)])) (pass_))
  (seq (assign 3 (call p_ten_height [bin oIx (var 2) (con (.int 1)), bin oIx (var 2) (con (.int 2))]))
  (seq (assign 4 (con .non))
  (seq (while_ (un oIsN (var 4)) (seq (assign 3 (bin oSub (var 3) (con (.int 1))))
  (seq (assign 5 (call p_tenfold [bin oIx (var 2) (con (.int 1)), bin oIx (var 2) (con (.int 2)), un oNeg (var 3)]))
  (assign 4 (call p_nearest_back [var 0, var 1, var 3, var 5])))))
  (ret (call p_bare_spelling [bin oIx (var 2) (con (.int 0)), var 4, var 3]))))))
noncomputable def p_shortest : List D → R D := fn 2 6 g_shortest
noncomputable def g_laid_short : S :=
  seq (assign 2 (ife (bin oGt (call bLen [var 0]) (con (.int 1))) (bin oAdd (con (.str ".")) (slcS (var 0) (some (con (.int 1))) none)) (con (.str ""))))
  (ret (bin oAdd (bin oAdd (bin oAdd (bin oIx (var 0) (con (.int 0))) (var 2)) (con (.str "e"))) (call bStr [var 1])))
noncomputable def p_laid_short : List D → R D := fn 2 3 g_laid_short
noncomputable def g_laid_in_full : S :=
  seq (ifs (bin oGe (var 1) (con (.int 0))) (ret (bin oAdd (var 0) (bin oRepS (con (.str "0")) (var 1)))) (pass_))
  (seq (ifs (bin oGe (var 2) (con (.int 0))) (ret (bin oAdd (bin oAdd (slcS (var 0) none (some (bin oAdd (var 2) (con (.int 1))))) (con (.str "."))) (slcS (var 0) (some (bin oAdd (var 2) (con (.int 1)))) none))) (pass_))
  (ret (bin oAdd (bin oAdd (con (.str "0.")) (bin oRepS (con (.str "0")) (bin oSub (un oNeg (var 2)) (con (.int 1))))) (var 0))))
noncomputable def p_laid_in_full : List D → R D := fn 3 3 g_laid_in_full
noncomputable def g_laid : S :=
  seq (assign 3 (ife (bin oEq (var 0) (con (.int 1))) (con (.str "-")) (con (.str ""))))
  (seq (ifs (bin oEq (var 1) (con (.int 0))) (ret (bin oAdd (var 3) (con (.str "0")))) (pass_))
  (seq (assign 4 (call bStr [var 1]))
  (seq (assign 5 (bin oSub (bin oAdd (var 2) (call bLen [var 4])) (con (.int 1))))
  (seq (ifs (chain oLe oLe (un oNeg (con (.int 5))) (var 5) (con (.int 20))) (ret (bin oAdd (var 3) (call p_laid_in_full [var 4, var 2, var 5]))) (pass_))
  (ret (bin oAdd (var 3) (call p_laid_short [var 4, var 5])))))))
noncomputable def p_laid : List D → R D := fn 3 6 g_laid
noncomputable def g_shown : S :=
  seq (assign 2 (call p_kind [var 0, var 1]))
  (seq (ifs (bin oEq (var 2) (con (.str "none"))) (ret (con (.str "none"))) (pass_))
  (seq (ifs (bin oEq (var 2) (con (.str "endless"))) (ret (ife (bin oGt (var 1) (call p_endless [var 0])) (con (.str "-endless")) (con (.str "endless")))) (pass_))
  (seq (assign 3 (call p_shortest [var 0, var 1]))
  (ret (call p_laid [bin oIx (var 3) (con (.int 0)), bin oIx (var 3) (con (.int 1)), bin oIx (var 3) (con (.int 2))])))))
noncomputable def p_shown : List D → R D := fn 2 4 g_shown
noncomputable def g_law_is_text : S :=
  seq (assign 3 (call p_shown [var 0, var 1]))
  (ret (and_ (call bIsi [var 3, con (.ty "str")]) (bin oEq (var 3) (var 2))))
noncomputable def p_law_is_text : List D → R D := fn 3 4 g_law_is_text
noncomputable def g_law_cell_at : S :=
  seq (ifs (bin oLt (var 1) (call bLen [var 0])) (ret (bin oIx (var 0) (var 1))) (pass_))
  (ret (con (.int 0)))
noncomputable def p_law_cell_at : List D → R D := fn 2 2 g_law_cell_at
noncomputable def g_law_refused : S :=
  seq (assign 2 (con .non))
  (seq (try_ (expr (call p_shown [var 0, var 1])) "MillError" 3 (assign 2 (var 3)))
  (seq (ifs (or_ (un oIsN (var 2)) (or_ (not_ (call bIsi [var 2, con (.cls "NoBits")])) (not_ (call bIsi [var 2, con (.ty "ValueError")])))) (ret (con (.bl false))) (pass_))
  (ret (not_ (call bIsiT [var 2, con (.tup [.cls "NotFinite", .cls "NoText"])])))))
noncomputable def p_law_refused : List D → R D := fn 2 4 g_law_refused
noncomputable def g_law_code_of : S :=
  seq (assign 2 (bin oSub (call bBitLen [var 1]) (con (.int 1))))
  (seq (assign 3 (bin oAdd (bin oSub (bin oShl (con (.int 1)) (bin oSub (bin oIx (var 0) (con (.int 0))) (con (.int 1)))) (con (.int 1))) (var 2)))
  (ret (bin oSub (bin oAdd (bin oShl (var 3) (bin oIx (var 0) (con (.int 1)))) (bin oShr (bin oShl (var 1) (bin oIx (var 0) (con (.int 1)))) (var 2))) (bin oShl (con (.int 1)) (bin oIx (var 0) (con (.int 1)))))))
noncomputable def p_law_code_of : List D → R D := fn 2 4 g_law_code_of
noncomputable def g_law_text_of : S :=
  seq (assign 1 (call bStr [var 0]))
  (seq (ifs (bin oLe (call bLen [var 1]) (con (.int 21))) (ret (var 1)) (pass_))
  (seq (assign 2 (mS mRstrip (var 1) (con (.str "0"))))
  (seq (ifs (bin oEq (call bLen [var 2]) (con (.int 1))) (ret (bin oAdd (bin oAdd (var 2) (con (.str "e"))) (call bStr [bin oSub (call bLen [var 1]) (con (.int 1))]))) (pass_))
  (ret (bin oAdd (bin oAdd (bin oAdd (bin oAdd (bin oIx (var 2) (con (.int 0))) (con (.str "."))) (slcS (var 2) (some (con (.int 1))) none)) (con (.str "e"))) (call bStr [bin oSub (call bLen [var 1]) (con (.int 1))]))))))
noncomputable def p_law_text_of : List D → R D := fn 1 3 g_law_text_of
noncomputable def g_law : S :=
  seq (assign 1 (call p_law_size_by [call p_law_cell_at [var 0, con (.int 0)]]))
  (seq (assign 2 (bin oShl (con (.int 1)) (bin oAdd (bin oIx (var 1) (con (.int 0))) (bin oIx (var 1) (con (.int 1))))))
  (seq (assign 3 (bin oShl (bin oSub (bin oShl (con (.int 1)) (bin oIx (var 1) (con (.int 0)))) (con (.int 1))) (bin oIx (var 1) (con (.int 1)))))
  (seq (ifs (or_ (not_ (call p_law_is_text [var 1, var 3, con (.str "endless")])) (not_ (call p_law_is_text [var 1, bin oAdd (var 2) (var 3), con (.str "-endless")]))) (ret (con (.bl false))) (pass_))
  (seq (ifs (or_ (not_ (call p_law_is_text [var 1, con (.int 0), con (.str "0")])) (not_ (call p_law_is_text [var 1, var 2, con (.str "-0")]))) (ret (con (.bl false))) (pass_))
  (seq (assign 4 (bin oMod (call p_law_cell_at [var 0, con (.int 1)]) (con (.int 2))))
  (seq (assign 5 (bin oAdd (bin oAdd (var 3) (con (.int 1))) (bin oMod (call p_law_cell_at [var 0, con (.int 2)]) (bin oSub (bin oShl (con (.int 1)) (bin oIx (var 1) (con (.int 1)))) (con (.int 1))))))
  (seq (ifs (not_ (call p_law_is_text [var 1, bin oAdd (bin oMul (var 4) (var 2)) (var 5), con (.str "none")])) (ret (con (.bl false))) (pass_))
  (seq (assign 6 (bin oAdd (bin oMul (con (.int 2)) (var 2)) (bin oMod (call p_law_cell_at [var 0, con (.int 3)]) (bin oPow (con (.int 10)) (con (.int 60))))))
  (seq (ifs (or_ (not_ (call p_law_refused [var 1, var 6])) (not_ (call p_law_refused [var 1, bin oSub (un oNeg (con (.int 1))) (bin oMod (call p_law_cell_at [var 0, con (.int 3)]) (bin oPow (con (.int 10)) (con (.int 60))))]))) (ret (con (.bl false))) (pass_))
  (seq (assign 7 (call p_law_number_by [var 1, call p_law_cell_at [var 0, con (.int 4)]]))
  (ret (call p_law_is_text [var 1, bin oAdd (bin oMul (var 4) (var 2)) (call p_law_code_of [var 1, var 7]), bin oAdd (bin oIx (lstE [con (.str ""), con (.str "-")]) (var 4)) (call p_law_text_of [var 7])]))))))))))))
noncomputable def p_law : List D → R D := fn 1 8 g_law
end T
namespace T
open PySem PySem.Spec PyProof.Rows L2 EV ES
noncomputable def top (i : Nat) : Stmt := PySem.Challenge.pw_roundmill_k56_shown.main.body.getD i (.Pass ⟨0, 0, 0, 0⟩)
set_option maxHeartbeats 4000000
noncomputable def s_Way_init : Stmt := (clsBody (top 33)).getD 0 (.Pass ⟨0, 0, 0, 0⟩)
noncomputable def s_law_size_by : Stmt := top 55
noncomputable abbrev N_law_size_by : List Str := ["_law_cell", "_law_way", "_law_rest"]
noncomputable abbrev G_law_size_by : List Str := []
theorem sc_law_size_by : ScF N_law_size_by G_law_size_by ["_law_cell"] (defScope s_law_size_by) := by walk_at "S"
noncomputable def s_law_power : Stmt := top 56
noncomputable abbrev N_law_power : List Str := ["_law_n", "_law_half"]
noncomputable abbrev G_law_power : List Str := ["_law_power"]
theorem sc_law_power : ScF N_law_power G_law_power ["_law_n"] (defScope s_law_power) := by walk_at "S"
noncomputable def s_law_number_by : Stmt := top 57
noncomputable abbrev N_law_number_by : List Str := ["_law_size", "_law_cell", "_law_many", "_law_rest"]
noncomputable abbrev G_law_number_by : List Str := ["min", "_law_power"]
theorem sc_law_number_by : ScF N_law_number_by G_law_number_by ["_law_size", "_law_cell"] (defScope s_law_number_by) := by walk_at "S"
noncomputable def s_sign_bit : Stmt := top 11
noncomputable abbrev N_sign_bit : List Str := ["size"]
noncomputable abbrev G_sign_bit : List Str := []
theorem sc_sign_bit : ScF N_sign_bit G_sign_bit ["size"] (defScope s_sign_bit) := by walk_at "S"
noncomputable def s_width : Stmt := top 8
noncomputable abbrev N_width : List Str := ["size"]
noncomputable abbrev G_width : List Str := []
theorem sc_width : ScF N_width G_width ["size"] (defScope s_width) := by walk_at "S"
noncomputable def s_parted : Stmt := top 22
noncomputable abbrev N_parted : List Str := ["size", "bits", "code", "step"]
noncomputable abbrev G_parted : List Str := ["width", "NoBits", "sign_bit"]
theorem sc_parted : ScF N_parted G_parted ["size", "bits"] (defScope s_parted) := by walk_at "S"
noncomputable def s_last_field : Stmt := top 12
noncomputable abbrev N_last_field : List Str := ["size"]
noncomputable abbrev G_last_field : List Str := []
theorem sc_last_field : ScF N_last_field G_last_field ["size"] (defScope s_last_field) := by walk_at "S"
noncomputable def s_kind : Stmt := top 23
noncomputable abbrev N_kind : List Str := ["size", "bits", "parts", "field", "figures"]
noncomputable abbrev G_kind : List Str := ["parted", "last_field"]
theorem sc_kind : ScF N_kind G_kind ["size", "bits"] (defScope s_kind) := by walk_at "S"
noncomputable def s_worth_fraction : Stmt := top 25
noncomputable abbrev N_worth_fraction : List Str := ["value", "whole", "power"]
noncomputable abbrev G_worth_fraction : List Str := []
theorem sc_worth_fraction : ScF N_worth_fraction G_worth_fraction ["value"] (defScope s_worth_fraction) := by walk_at "S"
noncomputable def s_bias : Stmt := top 9
noncomputable abbrev N_bias : List Str := ["size"]
noncomputable abbrev G_bias : List Str := []
theorem sc_bias : ScF N_bias G_bias ["size"] (defScope s_bias) := by walk_at "S"
noncomputable def s_low : Stmt := top 10
noncomputable abbrev N_low : List Str := ["size"]
noncomputable abbrev G_low : List Str := ["bias"]
theorem sc_low : ScF N_low G_low ["size"] (defScope s_low) := by walk_at "S"
noncomputable def s_worth : Stmt := top 24
noncomputable abbrev N_worth : List Str := ["size", "bits", "parts", "sign", "field", "figures"]
noncomputable abbrev G_worth : List Str := ["parted", "last_field", "NotFinite", "low"]
theorem sc_worth : ScF N_worth G_worth ["size", "bits"] (defScope s_worth) := by walk_at "S"
noncomputable def s_fraction : Stmt := top 26
noncomputable abbrev N_fraction : List Str := ["size", "bits"]
noncomputable abbrev G_fraction : List Str := ["worth_fraction", "worth"]
theorem sc_fraction : ScF N_fraction G_fraction ["size", "bits"] (defScope s_fraction) := by walk_at "S"
noncomputable def s_ten_to : Stmt := top 40
noncomputable abbrev N_ten_to : List Str := ["number", "half"]
noncomputable abbrev G_ten_to : List Str := ["ten_to"]
theorem sc_ten_to : ScF N_ten_to G_ten_to ["number"] (defScope s_ten_to) := by walk_at "S"
noncomputable def s_tenfold : Stmt := top 41
noncomputable abbrev N_tenfold : List Str := ["top", "bottom", "place"]
noncomputable abbrev G_tenfold : List Str := ["ten_to"]
theorem sc_tenfold : ScF N_tenfold G_tenfold ["top", "bottom", "place"] (defScope s_tenfold) := by walk_at "S"
noncomputable def s_below_ten_to : Stmt := top 45
noncomputable abbrev N_below_ten_to : List Str := ["top", "bottom", "number", "parts"]
noncomputable abbrev G_below_ten_to : List Str := ["tenfold"]
theorem sc_below_ten_to : ScF N_below_ten_to G_below_ten_to ["top", "bottom", "number"] (defScope s_below_ten_to) := by walk_at "S"
noncomputable def s_scaled : Stmt := top 16
noncomputable abbrev N_scaled : List Str := ["top", "bottom", "power"]
noncomputable abbrev G_scaled : List Str := []
theorem sc_scaled : ScF N_scaled G_scaled ["top", "bottom", "power"] (defScope s_scaled) := by walk_at "S"
noncomputable def s_height : Stmt := top 17
noncomputable abbrev N_height : List Str := ["top", "bottom", "guess", "parts"]
noncomputable abbrev G_height : List Str := ["scaled"]
theorem sc_height : ScF N_height G_height ["top", "bottom"] (defScope s_height) := by walk_at "S"
noncomputable def s_ten_height : Stmt := top 44
noncomputable abbrev N_ten_height : List Str := ["top", "bottom", "guess"]
noncomputable abbrev G_ten_height : List Str := ["height", "below_ten_to"]
theorem sc_ten_height : ScF N_ten_height G_ten_height ["top", "bottom"] (defScope s_ten_height) := by walk_at "S"
noncomputable def s_bare_spelling : Stmt := top 48
noncomputable abbrev N_bare_spelling : List Str := ["sign", "figures", "place"]
noncomputable abbrev G_bare_spelling : List Str := []
theorem sc_bare_spelling : ScF N_bare_spelling G_bare_spelling ["sign", "figures", "place"] (defScope s_bare_spelling) := by walk_at "S"
noncomputable def s_way_of : Stmt := top 34
noncomputable abbrev N_way_of : List Str := ["name"]
noncomputable abbrev G_way_of : List Str := ["NAMES", "NoWay", "Way"]
theorem sc_way_of : ScF N_way_of G_way_of ["name"] (defScope s_way_of) := by walk_at "S"
noncomputable def s_check_fraction : Stmt := top 15
noncomputable abbrev N_check_fraction : List Str := ["top", "bottom"]
noncomputable abbrev G_check_fraction : List Str := ["NoFraction"]
theorem sc_check_fraction : ScF N_check_fraction G_check_fraction ["top", "bottom"] (defScope s_check_fraction) := by walk_at "S"
noncomputable def s_rest_by_middle : Stmt := top 18
noncomputable abbrev N_rest_by_middle : List Str := ["over", "number", "middle"]
noncomputable abbrev G_rest_by_middle : List Str := []
theorem sc_rest_by_middle : ScF N_rest_by_middle G_rest_by_middle ["over", "number", "middle"] (defScope s_rest_by_middle) := by walk_at "S"
noncomputable def s_rest_of : Stmt := top 19
noncomputable abbrev N_rest_of : List Str := ["over", "step"]
noncomputable abbrev G_rest_of : List Str := ["rest_by_middle"]
theorem sc_rest_of : ScF N_rest_of G_rest_of ["over", "step"] (defScope s_rest_of) := by walk_at "S"
noncomputable def s_cut : Stmt := top 20
noncomputable abbrev N_cut : List Str := ["size", "top", "bottom", "power", "parts"]
noncomputable abbrev G_cut : List Str := ["check_fraction", "low", "max", "height", "scaled", "rest_of"]
theorem sc_cut : ScF N_cut G_cut ["size", "top", "bottom"] (defScope s_cut) := by walk_at "S"
noncomputable def s_endless : Stmt := top 13
noncomputable abbrev N_endless : List Str := ["size"]
noncomputable abbrev G_endless : List Str := ["last_field"]
theorem sc_endless : ScF N_endless G_endless ["size"] (defScope s_endless) := by walk_at "S"
noncomputable def s_signed : Stmt := top 27
noncomputable abbrev N_signed : List Str := ["size", "sign", "code"]
noncomputable abbrev G_signed : List Str := ["sign_bit"]
theorem sc_signed : ScF N_signed G_signed ["size", "sign", "code"] (defScope s_signed) := by walk_at "S"
noncomputable def s_lost_flags : Stmt := top 37
noncomputable abbrev N_lost_flags : List Str := ["size", "code", "taken", "faint"]
noncomputable abbrev G_lost_flags : List Str := ["endless", "INEXACT", "GREAT", "SMALL"]
theorem sc_lost_flags : ScF N_lost_flags G_lost_flags ["size", "code", "taken"] (defScope s_lost_flags) := by walk_at "S"
noncomputable def s_Way_flees_nought : Stmt := (clsBody (top 33)).getD 3 (.Pass ⟨0, 0, 0, 0⟩)
noncomputable abbrev N_Way_flees_nought : List Str := ["self", "sign"]
noncomputable abbrev G_Way_flees_nought : List Str := []
theorem sc_Way_flees_nought : ScF N_Way_flees_nought G_Way_flees_nought ["self", "sign"] (defScope s_Way_flees_nought) := by walk_at "S"
noncomputable def s_Way_grows : Stmt := (clsBody (top 33)).getD 1 (.Pass ⟨0, 0, 0, 0⟩)
noncomputable abbrev N_Way_grows : List Str := ["self", "sign", "odd", "rest"]
noncomputable abbrev G_Way_grows : List Str := []
theorem sc_Way_grows : ScF N_Way_grows G_Way_grows ["self", "sign", "odd", "rest"] (defScope s_Way_grows) := by walk_at "S"
noncomputable def s_Way_bursts : Stmt := (clsBody (top 33)).getD 2 (.Pass ⟨0, 0, 0, 0⟩)
noncomputable abbrev N_Way_bursts : List Str := ["self", "sign"]
noncomputable abbrev G_Way_bursts : List Str := []
theorem sc_Way_bursts : ScF N_Way_bursts G_Way_bursts ["self", "sign"] (defScope s_Way_bursts) := by walk_at "S"
noncomputable def s_settled : Stmt := top 36
noncomputable abbrev N_settled : List Str := ["size", "way", "sign", "whole", "power", "rest", "chosen", "code", "end", "taken"]
noncomputable abbrev G_settled : List Str := ["way_of", "low", "endless", "signed", "INEXACT", "GREAT", "lost_flags"]
theorem sc_settled : ScF N_settled G_settled ["size", "way", "sign", "whole", "power", "rest"] (defScope s_settled) := by walk_at "S"
noncomputable def s_rounded : Stmt := top 38
noncomputable abbrev N_rounded : List Str := ["size", "way", "sign", "top", "bottom", "parts"]
noncomputable abbrev G_rounded : List Str := ["way_of", "cut", "settled"]
theorem sc_rounded : ScF N_rounded G_rounded ["size", "way", "sign", "top", "bottom"] (defScope s_rounded) := by walk_at "S"
noncomputable def s_reads_back : Stmt := top 43
noncomputable abbrev N_reads_back : List Str := ["size", "bits", "figures", "place", "sign", "value"]
noncomputable abbrev G_reads_back : List Str := ["worth", "tenfold", "rounded"]
theorem sc_reads_back : ScF N_reads_back G_reads_back ["size", "bits", "figures", "place"] (defScope s_reads_back) := by walk_at "S"
noncomputable def s_nearest_back : Stmt := top 47
noncomputable abbrev N_nearest_back : List Str := ["size", "bits", "place", "parts", "lower", "double_over", "greater_first", "choices", "figures"]
noncomputable abbrev G_nearest_back : List Str := ["reads_back"]
theorem sc_nearest_back : ScF N_nearest_back G_nearest_back ["size", "bits", "place", "parts"] (defScope s_nearest_back) := by walk_at "S"
noncomputable def s_shortest : Stmt := top 46
noncomputable abbrev N_shortest : List Str := ["size", "bits", "value", "place", "figures", "parts"]
noncomputable abbrev G_shortest : List Str := ["fraction", "ten_height", "tenfold", "nearest_back", "bare_spelling"]
theorem sc_shortest : ScF N_shortest G_shortest ["size", "bits"] (defScope s_shortest) := by walk_at "S"
noncomputable def s_laid_short : Stmt := top 51
noncomputable abbrev N_laid_short : List Str := ["written", "top_place", "behind"]
noncomputable abbrev G_laid_short : List Str := ["len", "str"]
theorem sc_laid_short : ScF N_laid_short G_laid_short ["written", "top_place"] (defScope s_laid_short) := by walk_at "S"
noncomputable def s_laid_in_full : Stmt := top 50
noncomputable abbrev N_laid_in_full : List Str := ["written", "place", "top_place"]
noncomputable abbrev G_laid_in_full : List Str := []
theorem sc_laid_in_full : ScF N_laid_in_full G_laid_in_full ["written", "place", "top_place"] (defScope s_laid_in_full) := by walk_at "S"
noncomputable def s_laid : Stmt := top 49
noncomputable abbrev N_laid : List Str := ["sign", "figures", "place", "ahead", "written", "top_place"]
noncomputable abbrev G_laid : List Str := ["str", "len", "laid_in_full", "laid_short"]
theorem sc_laid : ScF N_laid G_laid ["sign", "figures", "place"] (defScope s_laid) := by walk_at "S"
noncomputable def s_shown : Stmt := top 52
noncomputable abbrev N_shown : List Str := ["size", "bits", "found", "spelling"]
noncomputable abbrev G_shown : List Str := ["kind", "endless", "shortest", "laid"]
theorem sc_shown : ScF N_shown G_shown ["size", "bits"] (defScope s_shown) := by walk_at "S"
noncomputable def s_law_is_text : Stmt := top 60
noncomputable abbrev N_law_is_text : List Str := ["_law_size", "_law_bits", "_law_text", "_law_found"]
noncomputable abbrev G_law_is_text : List Str := ["shown", "isinstance", "str"]
theorem sc_law_is_text : ScF N_law_is_text G_law_is_text ["_law_size", "_law_bits", "_law_text"] (defScope s_law_is_text) := by walk_at "S"
noncomputable def s_law_cell_at : Stmt := top 54
noncomputable abbrev N_law_cell_at : List Str := ["_law_script", "_law_k"]
noncomputable abbrev G_law_cell_at : List Str := ["len"]
theorem sc_law_cell_at : ScF N_law_cell_at G_law_cell_at ["_law_script", "_law_k"] (defScope s_law_cell_at) := by walk_at "S"
noncomputable def s_law_refused : Stmt := top 61
noncomputable abbrev N_law_refused : List Str := ["_law_size", "_law_bits", "_law_caught", "e"]
noncomputable abbrev G_law_refused : List Str := ["shown", "MillError", "isinstance", "NoBits", "ValueError", "NotFinite", "NoText"]
theorem sc_law_refused : ScF N_law_refused G_law_refused ["_law_size", "_law_bits"] (defScope s_law_refused) := by walk_at "S"
noncomputable def s_law_code_of : Stmt := top 58
noncomputable abbrev N_law_code_of : List Str := ["_law_size", "_law_number", "_law_at", "_law_field"]
noncomputable abbrev G_law_code_of : List Str := []
theorem sc_law_code_of : ScF N_law_code_of G_law_code_of ["_law_size", "_law_number"] (defScope s_law_code_of) := by walk_at "S"
noncomputable def s_law_text_of : Stmt := top 59
noncomputable abbrev N_law_text_of : List Str := ["_law_number", "_law_digits", "_law_some"]
noncomputable abbrev G_law_text_of : List Str := ["str", "len"]
theorem sc_law_text_of : ScF N_law_text_of G_law_text_of ["_law_number"] (defScope s_law_text_of) := by walk_at "S"
noncomputable def s_law : Stmt := top 62
noncomputable abbrev N_law : List Str := ["_law_script", "_law_size", "_law_minus", "_law_last", "_law_sign", "_law_odd", "_law_far", "_law_number"]
noncomputable abbrev G_law : List Str := ["_law_size_by", "_law_cell_at", "_law_is_text", "_law_refused", "_law_number_by", "_law_code_of", "_law_text_of"]
theorem sc_law : ScF N_law G_law ["_law_script"] (defScope s_law) := by walk_at "S"
section
variable {X : Cx} {k : Nat} (hr : Room k X.A) (L : Lp X) (O : Own X)
include hr L O
theorem b_law_size_by (P : Pl X N_law_size_by G_law_size_by) (hS : X.env.scope = defScope s_law_size_by)
     : SSs X (defBody s_law_size_by) g_law_size_by := by
  unfold g_law_size_by
  exact (s_cons (P.set 1 (e_mod (P.v 0) e_int))
  (s_cons (P.set 2 (e_div (P.v 0) e_int))
  (s_cons (P.if_ (t_eq hr (P.v 1) e_int) (s_one (P.ret (e_tup (a2 e_int e_int) (by decide)))) s_nil)
  (s_cons (P.if_ (t_eq hr (P.v 1) e_int) (s_one (P.ret (e_tup (a2 e_int e_int) (by decide)))) s_nil)
  (s_cons (P.if_ (t_eq hr (P.v 1) e_int) (s_one (P.ret (e_tup (a2 e_int e_int) (by decide)))) s_nil)
  (s_cons (P.if_ (t_eq hr (P.v 1) e_int) (s_one (P.ret (e_tup (a2 e_int e_int) (by decide)))) s_nil)
  (s_cons (P.if_ (t_lt (P.v 1) e_int) (s_one (P.ret (e_tup (a2 (e_add e_int (e_mod (P.v 2) e_int)) (e_add e_int (e_mod (e_div (P.v 2) e_int) e_int))) (by decide)))) s_nil)
  (s_one (P.ret (e_tup (a2 (e_add e_int (e_mod (P.v 2) e_int)) (e_add e_int (e_mod (e_div (P.v 2) e_int) e_int))) (by decide)))))))))))
theorem b_law_power {P0 : List D → R D} (P : Pl X N_law_power G_law_power) (hS : X.env.scope = defScope s_law_power)
    (c_law_power : Callee X "_law_power" P0) : SSs X (defBody s_law_power) (g_law_power P0) := by
  unfold g_law_power
  exact (s_cons (P.if_ (t_eq hr (P.v 0) e_int) (s_one (P.ret e_int)) s_nil)
  (s_cons (P.set 1 (P.call 0 c_law_power (a1 (e_div (P.v 0) e_int))))
  (s_cons (P.if_ (t_eq hr (e_mod (P.v 0) e_int) e_int) (s_one (P.ret (e_mul (e_mul (P.v 1) (P.v 1)) e_int))) s_nil)
  (s_one (P.ret (e_mul (P.v 1) (P.v 1)))))))
theorem b_law_number_by (P : Pl X N_law_number_by G_law_number_by) (hS : X.env.scope = defScope s_law_number_by)
    (m_min : X.mg "min" = none) (c_law_power : Callee X "_law_power" (p_law_power 20)) : SSs X (defBody s_law_number_by) g_law_number_by := by
  unfold g_law_number_by
  exact (s_cons (P.set 2 (e_shl e_int (e_bltn (c_min L.calm) nxMin (P.w 0) m_min boot_min (a2 (e_add (P.y 0) e_int) (e_shl e_int (e_sub (P.y 0) e_int))))))
  (s_cons (P.set 3 (e_div (P.v 1) e_int))
  (s_cons (P.if_ (t_eq hr (e_mod (P.v 1) e_int) e_int) (s_one (P.ret (e_add e_int (e_mod (P.v 3) (e_sub (P.v 2) e_int))))) s_nil)
  (s_cons (P.if_ (t_eq hr (e_mod (P.v 1) e_int) e_int) (s_one (P.ret (e_add e_int (e_mod (e_sub (e_add (P.call 1 c_law_power (a1 (e_mod (P.v 3) e_int))) (e_mod (e_div (P.v 3) e_int) e_int)) e_int) (e_sub (P.v 2) e_int))))) s_nil)
  (s_one (P.ret (e_add e_int (e_mod (e_mul (P.v 3) e_int) (e_sub (P.v 2) e_int)))))))))
theorem b_sign_bit (P : Pl X N_sign_bit G_sign_bit) (hS : X.env.scope = defScope s_sign_bit)
     : SSs X (defBody s_sign_bit) g_sign_bit := by
  unfold g_sign_bit
  exact (s_one (P.ret (e_shl e_int (e_add (P.y 0) (P.y 0)))))
theorem b_width (P : Pl X N_width G_width) (hS : X.env.scope = defScope s_width)
     : SSs X (defBody s_width) g_width := by
  unfold g_width
  exact (s_one (P.ret (e_add (e_add (P.y 0) (P.y 0)) e_int)))
theorem b_parted (P : Pl X N_parted G_parted) (hS : X.env.scope = defScope s_parted) {C_NoBits : Addr}
    (c_width : Callee X "width" p_width) (q_NoBits : X.mg "NoBits" = some (.ref  C_NoBits)) (xi_NoBits : PySem.W.excIn X.K C_NoBits bmV "ValueError.__new__" = true) (c_sign_bit : Callee X "sign_bit" p_sign_bit) : SSs X (defBody s_parted) g_parted := by
  unfold g_parted
  exact (s_cons (P.if_ (t_w (w_or (t_lt (P.v 1) e_int) (w_or1 (t_ge (P.v 1) (e_shl e_int (P.call 0 c_width (a1 (P.v 0)))))))) (s_one (s_raise (x := "NoBits") L.calm (P.w 1) q_NoBits xi_NoBits)) s_nil)
  (s_cons (P.set 2 (e_mod (P.v 1) (P.call 2 c_sign_bit (a1 (P.v 0)))))
  (s_cons (P.set 3 (e_shl e_int (P.y 0)))
  (s_one (P.ret (e_tup (a3 (e_div (P.v 1) (P.call 2 c_sign_bit (a1 (P.v 0)))) (e_div (P.v 2) (P.v 3)) (e_mod (P.v 2) (P.v 3))) (by decide)))))))
theorem b_last_field (P : Pl X N_last_field G_last_field) (hS : X.env.scope = defScope s_last_field)
     : SSs X (defBody s_last_field) g_last_field := by
  unfold g_last_field
  exact (s_one (P.ret (e_sub (e_shl e_int (P.y 0)) e_int)))
theorem b_kind (P : Pl X N_kind G_kind) (hS : X.env.scope = defScope s_kind)
    (c_parted : Callee X "parted" p_parted) (c_last_field : Callee X "last_field" p_last_field) : SSs X (defBody s_kind) g_kind := by
  unfold g_kind
  exact (s_cons (P.set 2 (P.call 0 c_parted (a2 (P.v 0) (P.v 1))))
  (s_cons (P.set 3 (P.y 2))
  (s_cons (P.set 4 (P.y 2))
  (s_cons (P.if_ (t_eq hr (P.v 3) e_int) (s_one (P.ret (e_if (t_eq hr (P.v 4) e_int) e_str e_str))) s_nil)
  (s_cons (P.if_ (t_eq hr (P.v 3) (P.call 1 c_last_field (a1 (P.v 0)))) (s_one (P.ret (e_if (t_eq hr (P.v 4) e_int) e_str e_str))) s_nil)
  (s_one (P.ret e_str)))))))
theorem b_worth_fraction (P : Pl X N_worth_fraction G_worth_fraction) (hS : X.env.scope = defScope s_worth_fraction)
     : SSs X (defBody s_worth_fraction) g_worth_fraction := by
  unfold g_worth_fraction
  exact (s_cons (P.set 1 (P.y 0))
  (s_cons (P.set 2 (P.y 0))
  (s_cons (P.if_ (t_ge (P.v 2) e_int) (s_one (P.ret (e_tup (a3 (P.y 0) (e_shl (P.v 1) (P.v 2)) e_int) (by decide)))) s_nil)
  (s_one (P.ret (e_tup (a3 (P.y 0) (P.v 1) (e_shl e_int (e_neg (P.v 2)))) (by decide)))))))
theorem b_bias (P : Pl X N_bias G_bias) (hS : X.env.scope = defScope s_bias)
     : SSs X (defBody s_bias) g_bias := by
  unfold g_bias
  exact (s_one (P.ret (e_sub (e_shl e_int (e_sub (P.y 0) e_int)) e_int)))
theorem b_low (P : Pl X N_low G_low) (hS : X.env.scope = defScope s_low)
    (c_bias : Callee X "bias" p_bias) : SSs X (defBody s_low) g_low := by
  unfold g_low
  exact (s_one (P.ret (e_sub (e_sub e_int (P.call 0 c_bias (a1 (P.v 0)))) (P.y 0))))
theorem b_worth (P : Pl X N_worth G_worth) (hS : X.env.scope = defScope s_worth) {C_NotFinite : Addr}
    (c_parted : Callee X "parted" p_parted) (c_last_field : Callee X "last_field" p_last_field) (q_NotFinite : X.mg "NotFinite" = some (.ref  C_NotFinite)) (xi_NotFinite : PySem.W.excIn X.K C_NotFinite bmV "ValueError.__new__" = true) (c_low : Callee X "low" p_low) : SSs X (defBody s_worth) g_worth := by
  unfold g_worth
  exact (s_cons (P.set 2 (P.call 0 c_parted (a2 (P.v 0) (P.v 1))))
  (s_cons (P.set 3 (P.y 2))
  (s_cons (P.set 4 (P.y 2))
  (s_cons (P.set 5 (P.y 2))
  (s_cons (P.if_ (t_eq hr (P.v 4) (P.call 1 c_last_field (a1 (P.v 0)))) (s_one (s_raise (x := "NotFinite") L.calm (P.w 2) q_NotFinite xi_NotFinite)) s_nil)
  (s_cons (P.if_ (t_eq hr (P.v 4) e_int) (s_one (P.ret (e_tup (a3 (P.v 3) (P.v 5) (P.call 3 c_low (a1 (P.v 0)))) (by decide)))) s_nil)
  (s_one (P.ret (e_tup (a3 (P.v 3) (e_add (e_shl e_int (P.y 0)) (P.v 5)) (e_sub (e_add (P.call 3 c_low (a1 (P.v 0))) (P.v 4)) e_int)) (by decide))))))))))
theorem b_fraction (P : Pl X N_fraction G_fraction) (hS : X.env.scope = defScope s_fraction)
    (c_worth_fraction : Callee X "worth_fraction" p_worth_fraction) (c_worth : Callee X "worth" p_worth) : SSs X (defBody s_fraction) g_fraction := by
  unfold g_fraction
  exact (s_one (P.ret (P.call 0 c_worth_fraction (a1 (P.call 1 c_worth (a2 (P.v 0) (P.v 1)))))))
theorem b_ten_to {P0 : List D → R D} (P : Pl X N_ten_to G_ten_to) (hS : X.env.scope = defScope s_ten_to)
    (c_ten_to : Callee X "ten_to" P0) : SSs X (defBody s_ten_to) (g_ten_to P0) := by
  unfold g_ten_to
  exact (s_cons (P.if_ (t_eq hr (P.v 0) e_int) (s_one (P.ret e_int)) s_nil)
  (s_cons (P.set 1 (P.call 0 c_ten_to (a1 (e_div (P.v 0) e_int))))
  (s_one (P.ret (e_if (t_eq hr (e_band (P.v 0) e_int) e_int) (e_mul (e_mul (P.v 1) (P.v 1)) e_int) (e_mul (P.v 1) (P.v 1)))))))
theorem b_tenfold (P : Pl X N_tenfold G_tenfold) (hS : X.env.scope = defScope s_tenfold)
    (c_ten_to : Callee X "ten_to" (p_ten_to 20)) : SSs X (defBody s_tenfold) g_tenfold := by
  unfold g_tenfold
  exact (s_cons (P.if_ (t_ge (P.v 2) e_int) (s_one (P.ret (e_tup (a2 (e_mul (P.v 0) (P.call 0 c_ten_to (a1 (P.v 2)))) (P.v 1)) (by decide)))) s_nil)
  (s_one (P.ret (e_tup (a2 (P.v 0) (e_mul (P.v 1) (P.call 0 c_ten_to (a1 (e_neg (P.v 2)))))) (by decide)))))
theorem b_below_ten_to (P : Pl X N_below_ten_to G_below_ten_to) (hS : X.env.scope = defScope s_below_ten_to)
    (c_tenfold : Callee X "tenfold" p_tenfold) : SSs X (defBody s_below_ten_to) g_below_ten_to := by
  unfold g_below_ten_to
  exact (s_cons (P.set 3 (P.call 0 c_tenfold (a3 (P.v 0) (P.v 1) (e_neg (P.v 2)))))
  (s_one (P.ret (e_lt (P.y 3) (P.y 3)))))
theorem b_scaled (P : Pl X N_scaled G_scaled) (hS : X.env.scope = defScope s_scaled)
     : SSs X (defBody s_scaled) g_scaled := by
  unfold g_scaled
  exact (s_cons (P.if_ (t_ge (P.v 2) e_int) (s_one (P.ret (e_tup (a2 (P.v 0) (e_shl (P.v 1) (P.v 2))) (by decide)))) s_nil)
  (s_one (P.ret (e_tup (a2 (e_shl (P.v 0) (e_neg (P.v 2))) (P.v 1)) (by decide)))))
theorem b_height (P : Pl X N_height G_height) (hS : X.env.scope = defScope s_height)
    (c_scaled : Callee X "scaled" p_scaled) : SSs X (defBody s_height) g_height := by
  unfold g_height
  exact (s_cons (P.set 2 (e_sub (e_bitlen (P.v 0)) (e_bitlen (P.v 1))))
  (s_cons (P.set 3 (P.call 0 c_scaled (a3 (P.v 0) (P.v 1) (P.v 2))))
  (s_one (P.ret (e_if (t_lt (P.y 3) (P.y 3)) (P.v 2) (e_add (P.v 2) e_int))))))
theorem b_ten_height (P : Pl X N_ten_height G_ten_height) (hS : X.env.scope = defScope s_ten_height)
    (c_height : Callee X "height" p_height) (c_below_ten_to : Callee X "below_ten_to" p_below_ten_to) : SSs X (defBody s_ten_height) g_ten_height := by
  unfold g_ten_height
  exact (s_cons (P.set 2 (e_div (e_mul (P.call 0 c_height (a2 (P.v 0) (P.v 1))) e_int) e_int))
  (s_cons (s_while P.toSx L.own (t_not (t_val (P.call 1 c_below_ten_to (a3 (P.v 0) (P.v 1) (P.v 2))))) (s_one (P.set 2 (e_add (P.v 2) e_int))))
  (s_one (P.ret (P.v 2)))))
theorem b_bare_spelling (P : Pl X N_bare_spelling G_bare_spelling) (hS : X.env.scope = defScope s_bare_spelling)
     : SSs X (defBody s_bare_spelling) g_bare_spelling := by
  unfold g_bare_spelling
  exact (s_cons (s_while P.toSx L.own (t_eq hr (e_mod (P.v 1) e_int) e_int) (s_cons (P.set 1 (e_div (P.v 1) e_int))
  (s_one (P.set 2 (e_add (P.v 2) e_int)))))
  (s_one (P.ret (e_tup (a3 (P.v 0) (P.v 1) (P.v 2)) (by decide)))))
theorem b_way_of (P : Pl X N_way_of G_way_of) (hS : X.env.scope = defScope s_way_of) {C_NoWay : Addr}
    (g_NAMES : GC X "NAMES" (.tup [.str "even", .str "away", .str "nought", .str "up", .str "down"])) (q_NoWay : X.mg "NoWay" = some (.ref  C_NoWay)) (xi_NoWay : PySem.W.excIn X.K C_NoWay bmV "ValueError.__new__" = true) (mk_Way : MakeOk X "Way" "name") : SSs X (defBody s_way_of) g_way_of := by
  unfold g_way_of
  exact (s_cons (P.if_ (t_notIn (P.v 0) (e_gC (P.w 0) g_NAMES)) (s_one (s_raise (x := "NoWay") L.calm (P.w 1) q_NoWay xi_NoWay)) s_nil)
  (s_one (P.ret (e_make1 (cn := "Way") (f := "name") mk_Way (P.w 2) (a1 (P.v 0))))))
theorem b_check_fraction (P : Pl X N_check_fraction G_check_fraction) (hS : X.env.scope = defScope s_check_fraction) {C_NoFraction : Addr}
    (q_NoFraction : X.mg "NoFraction" = some (.ref  C_NoFraction)) (xi_NoFraction : PySem.W.excIn X.K C_NoFraction bmV "ValueError.__new__" = true) : SSs X (defBody s_check_fraction) g_check_fraction := by
  unfold g_check_fraction
  exact (s_one (P.if_ (t_w (w_or (t_lt (P.v 0) e_int) (w_or1 (t_lt (P.v 1) e_int)))) (s_one (s_raise (x := "NoFraction") L.calm (P.w 0) q_NoFraction xi_NoFraction)) s_nil))
theorem b_rest_by_middle (P : Pl X N_rest_by_middle G_rest_by_middle) (hS : X.env.scope = defScope s_rest_by_middle)
     : SSs X (defBody s_rest_by_middle) g_rest_by_middle := by
  unfold g_rest_by_middle
  exact (s_cons (P.if_ (t_eq hr (P.v 0) e_int) (s_one (P.ret e_int)) s_nil)
  (s_cons (P.if_ (t_lt (P.v 1) (P.v 2)) (s_one (P.ret e_int)) s_nil)
  (s_one (P.ret (e_if (t_eq hr (P.v 1) (P.v 2)) e_int e_int)))))
theorem b_rest_of (P : Pl X N_rest_of G_rest_of) (hS : X.env.scope = defScope s_rest_of)
    (c_rest_by_middle : Callee X "rest_by_middle" p_rest_by_middle) : SSs X (defBody s_rest_of) g_rest_of := by
  unfold g_rest_of
  exact (s_one (P.ret (P.call 0 c_rest_by_middle (a3 (P.v 0) (e_mul e_int (P.v 0)) (P.v 1)))))
theorem b_cut (P : Pl X N_cut G_cut) (hS : X.env.scope = defScope s_cut)
    (c_check_fraction : Callee X "check_fraction" p_check_fraction) (c_low : Callee X "low" p_low) (c_height : Callee X "height" p_height) (m_max : X.mg "max" = none) (c_scaled : Callee X "scaled" p_scaled) (c_rest_of : Callee X "rest_of" p_rest_of) : SSs X (defBody s_cut) g_cut := by
  unfold g_cut
  exact (s_cons (P.xp (P.call 0 c_check_fraction (a2 (P.v 1) (P.v 2))))
  (s_cons (P.if_ (t_eq hr (P.v 1) e_int) (s_one (P.ret (e_tup (a3 e_int (P.call 1 c_low (a1 (P.v 0))) e_int) (by decide)))) s_nil)
  (s_cons (P.set 3 (e_bltn (c_max L.calm) nxMax (P.w 2) m_max boot_max (a2 (P.call 1 c_low (a1 (P.v 0))) (e_sub (e_sub (P.call 3 c_height (a2 (P.v 1) (P.v 2))) (P.y 0)) e_int))))
  (s_cons (P.set 4 (P.call 4 c_scaled (a3 (P.v 1) (P.v 2) (P.v 3))))
  (s_one (P.ret (e_tup (a3 (e_div (P.y 4) (P.y 4)) (P.v 3) (P.call 5 c_rest_of (a2 (e_mod (P.y 4) (P.y 4)) (P.y 4)))) (by decide))))))))
theorem b_endless (P : Pl X N_endless G_endless) (hS : X.env.scope = defScope s_endless)
    (c_last_field : Callee X "last_field" p_last_field) : SSs X (defBody s_endless) g_endless := by
  unfold g_endless
  exact (s_one (P.ret (e_shl (P.call 0 c_last_field (a1 (P.v 0))) (P.y 0))))
theorem b_signed (P : Pl X N_signed G_signed) (hS : X.env.scope = defScope s_signed)
    (c_sign_bit : Callee X "sign_bit" p_sign_bit) : SSs X (defBody s_signed) g_signed := by
  unfold g_signed
  exact (s_one (P.ret (e_add (e_mul (P.v 1) (P.call 0 c_sign_bit (a1 (P.v 0)))) (P.v 2))))
theorem b_lost_flags (P : Pl X N_lost_flags G_lost_flags) (hS : X.env.scope = defScope s_lost_flags)
    (c_endless : Callee X "endless" p_endless) (g_INEXACT : ∃ t, X.mg "INEXACT" = some (.int 1 t)) (g_GREAT : ∃ t, X.mg "GREAT" = some (.int 4 t)) (g_SMALL : ∃ t, X.mg "SMALL" = some (.int 2 t)) : SSs X (defBody s_lost_flags) g_lost_flags := by
  unfold g_lost_flags
  exact (s_cons (P.if_ (t_eq hr (P.v 2) (P.call 0 c_endless (a1 (P.v 0)))) (s_one (P.ret (e_add (e_gInt (P.w 1) g_INEXACT) (e_gInt (P.w 2) g_GREAT)))) s_nil)
  (s_cons (P.set 3 (e_lt (P.v 1) (e_shl e_int (P.y 0))))
  (s_one (P.ret (e_if (t_val (P.v 3)) (e_add (e_gInt (P.w 1) g_INEXACT) (e_gInt (P.w 3) g_SMALL)) (e_gInt (P.w 1) g_INEXACT))))))
theorem b_Way_flees_nought (P : Pl X N_Way_flees_nought G_Way_flees_nought) (hS : X.env.scope = defScope s_Way_flees_nought)
    (fl_Way_name : FldOk X "Way" "name") : SSs X (defBody s_Way_flees_nought) g_Way_flees_nought := by
  unfold g_Way_flees_nought
  exact (s_cons (P.if_ (t_eq hr (e_fld (cn := "Way") (f := "name") fl_Way_name (P.v 0)) e_str) (s_one (P.ret (e_eq hr (P.v 1) e_int))) s_nil)
  (s_one (P.ret (e_and (e_eq hr (e_fld (cn := "Way") (f := "name") fl_Way_name (P.v 0)) e_str) (e_one (e_eq hr (P.v 1) e_int))))))
theorem b_Way_grows (P : Pl X N_Way_grows G_Way_grows) (hS : X.env.scope = defScope s_Way_grows)
    (fl_Way_name : FldOk X "Way" "name") (mt_Way_flees_nought : MethOk X "Way" "flees_nought" p_Way_flees_nought) : SSs X (defBody s_Way_grows) g_Way_grows := by
  unfold g_Way_grows
  exact (s_cons (P.if_ (t_eq hr (P.v 3) e_int) (s_one (P.ret e_bl)) s_nil)
  (s_cons (P.if_ (t_eq hr (e_fld (cn := "Way") (f := "name") fl_Way_name (P.v 0)) e_str) (s_one (P.ret (e_or (e_eq hr (P.v 3) e_int) (e_one (e_and (e_eq hr (P.v 3) e_int) (e_one (P.v 2))))))) s_nil)
  (s_cons (P.if_ (t_eq hr (e_fld (cn := "Way") (f := "name") fl_Way_name (P.v 0)) e_str) (s_one (P.ret (e_ge (P.v 3) e_int))) s_nil)
  (s_one (P.ret (e_meth (cn := "Way") (m := "flees_nought") mt_Way_flees_nought (P.v 0) (a1 (P.v 1))))))))
theorem b_Way_bursts (P : Pl X N_Way_bursts G_Way_bursts) (hS : X.env.scope = defScope s_Way_bursts)
    (fl_Way_name : FldOk X "Way" "name") (mt_Way_flees_nought : MethOk X "Way" "flees_nought" p_Way_flees_nought) : SSs X (defBody s_Way_bursts) g_Way_bursts := by
  unfold g_Way_bursts
  exact (s_cons (P.if_ (t_in (e_fld (cn := "Way") (f := "name") fl_Way_name (P.v 0)) (e_tup (a2 e_str e_str) (by decide))) (s_one (P.ret e_bl)) s_nil)
  (s_one (P.ret (e_meth (cn := "Way") (m := "flees_nought") mt_Way_flees_nought (P.v 0) (a1 (P.v 1))))))
theorem b_settled (P : Pl X N_settled G_settled) (hS : X.env.scope = defScope s_settled)
    (c_way_of : Callee X "way_of" p_way_of) (c_low : Callee X "low" p_low) (c_endless : Callee X "endless" p_endless) (mt_Way_bursts : MethOk X "Way" "bursts" p_Way_bursts) (c_signed : Callee X "signed" p_signed) (g_INEXACT : ∃ t, X.mg "INEXACT" = some (.int 1 t)) (g_GREAT : ∃ t, X.mg "GREAT" = some (.int 4 t)) (mt_Way_grows : MethOk X "Way" "grows" p_Way_grows) (c_lost_flags : Callee X "lost_flags" p_lost_flags) : SSs X (defBody s_settled) g_settled := by
  unfold g_settled
  exact (s_cons (P.set 6 (P.call 0 c_way_of (a1 (P.v 1))))
  (s_cons (P.set 7 (e_add (e_shl (e_sub (P.v 4) (P.call 1 c_low (a1 (P.v 0)))) (P.y 0)) (P.v 3)))
  (s_cons (P.set 8 (P.call 2 c_endless (a1 (P.v 0))))
  (s_cons (P.if_ (t_ge (P.v 7) (P.v 8)) (s_cons (P.set 9 (e_if (t_val (e_meth (cn := "Way") (m := "bursts") mt_Way_bursts (P.v 6) (a1 (P.v 2)))) (P.v 8) (e_sub (P.v 8) e_int)))
  (s_one (P.ret (e_tup (a2 (P.call 3 c_signed (a3 (P.v 0) (P.v 2) (P.v 9))) (e_add (e_gInt (P.w 4) g_INEXACT) (e_gInt (P.w 5) g_GREAT))) (by decide))))) s_nil)
  (s_cons (P.if_ (t_eq hr (P.v 5) e_int) (s_one (P.ret (e_tup (a2 (P.call 3 c_signed (a3 (P.v 0) (P.v 2) (P.v 7))) e_int) (by decide)))) s_nil)
  (s_cons (P.set 9 (e_if (t_val (e_meth (cn := "Way") (m := "grows") mt_Way_grows (P.v 6) (a3 (P.v 2) (e_eq hr (e_band (P.v 7) e_int) e_int) (P.v 5)))) (e_add (P.v 7) e_int) (P.v 7)))
  (s_one (P.ret (e_tup (a2 (P.call 3 c_signed (a3 (P.v 0) (P.v 2) (P.v 9))) (P.call 6 c_lost_flags (a3 (P.v 0) (P.v 7) (P.v 9)))) (by decide))))))))))
theorem b_rounded (P : Pl X N_rounded G_rounded) (hS : X.env.scope = defScope s_rounded)
    (c_way_of : Callee X "way_of" p_way_of) (c_cut : Callee X "cut" p_cut) (c_settled : Callee X "settled" p_settled) : SSs X (defBody s_rounded) g_rounded := by
  unfold g_rounded
  exact (s_cons (P.xp (P.call 0 c_way_of (a1 (P.v 1))))
  (s_cons (P.set 5 (P.call 1 c_cut (a3 (P.v 0) (P.v 3) (P.v 4))))
  (s_one (P.ret (P.call 2 c_settled (a_cons (P.v 0) (a_cons (P.v 1) (a_cons (P.v 2) (a_cons (P.y 5) (a_cons (P.y 5) (a_cons (P.y 5) a_nil)))))))))))
theorem b_reads_back (P : Pl X N_reads_back G_reads_back) (hS : X.env.scope = defScope s_reads_back)
    (c_worth : Callee X "worth" p_worth) (c_tenfold : Callee X "tenfold" p_tenfold) (c_rounded : Callee X "rounded" p_rounded) : SSs X (defBody s_reads_back) g_reads_back := by
  unfold g_reads_back
  exact (s_cons (P.set 4 (e_ix (P.call 0 c_worth (a2 (P.v 0) (P.v 1))) e_int))
  (s_cons (P.set 5 (P.call 1 c_tenfold (a3 (P.v 2) e_int (P.v 3))))
  (s_one (P.ret (e_eq hr (e_ix (P.call 2 c_rounded (a_cons (P.v 0) (a_cons e_str (a_cons (P.v 4) (a_cons (P.y 5) (a_cons (P.y 5) a_nil)))))) e_int) (P.v 1))))))
theorem b_nearest_back (P : Pl X N_nearest_back G_nearest_back) (hS : X.env.scope = defScope s_nearest_back)
    (c_reads_back : Callee X "reads_back" p_reads_back) : SSs X (defBody s_nearest_back) g_nearest_back := by
  unfold g_nearest_back
  exact (s_cons (P.set 4 (e_div (P.y 3) (P.y 3)))
  (s_cons (P.set 5 (e_mul e_int (e_mod (P.y 3) (P.y 3))))
  (s_cons (P.set 6 (e_or (e_gt (P.v 5) (P.y 3)) (e_one (e_and (e_eq hr (P.v 5) (P.y 3)) (e_one (e_eq hr (e_band (P.v 4) e_int) e_int))))))
  (s_cons (P.set 7 (e_if (t_val (P.v 6)) (e_lst (a2 (e_add (P.v 4) e_int) (P.v 4)) (by decide)) (e_lst (a2 (P.v 4) (e_add (P.v 4) e_int)) (by decide))))
  (s_cons (s_forI P.toSx L 8 rfl (P.sto _ (mG 8)) (i_any (P.v 7)) (s_one (P.if_ (t_val (P.call 0 c_reads_back (a_cons (P.v 0) (a_cons (P.v 1) (a_cons (P.v 8) (a_cons (P.v 2) a_nil)))))) (s_one (P.ret (P.v 8))) s_nil)))
  (s_one (P.ret e_non)))))))
theorem b_shortest (P : Pl X N_shortest G_shortest) (hS : X.env.scope = defScope s_shortest)
    (c_fraction : Callee X "fraction" p_fraction) (c_ten_height : Callee X "ten_height" p_ten_height) (c_tenfold : Callee X "tenfold" p_tenfold) (c_nearest_back : Callee X "nearest_back" p_nearest_back) (c_bare_spelling : Callee X "bare_spelling" p_bare_spelling) : SSs X (defBody s_shortest) g_shortest := by
  unfold g_shortest
  exact (s_cons (P.set 2 (P.call 0 c_fraction (a2 (P.v 0) (P.v 1))))
  (s_cons (P.if_ (t_eq hr (P.y 2) e_int) (s_one (P.ret (e_tup (a3 (P.y 2) e_int e_int) (by decide)))) s_nil)
  (s_cons (P.set 3 (P.call 1 c_ten_height (a2 (P.y 2) (P.y 2))))
  (s_cons (P.set 4 e_non)
  (s_cons (s_while P.toSx L.own (t_isN (P.v 4)) (s_cons (P.set 3 (e_sub (P.v 3) e_int))
  (s_cons (P.set 5 (P.call 2 c_tenfold (a3 (P.y 2) (P.y 2) (e_neg (P.v 3)))))
  (s_one (P.set 4 (P.call 3 c_nearest_back (a_cons (P.v 0) (a_cons (P.v 1) (a_cons (P.v 3) (a_cons (P.v 5) a_nil))))))))))
  (s_one (P.ret (P.call 4 c_bare_spelling (a3 (P.y 2) (P.v 4) (P.v 3))))))))))
theorem b_laid_short (P : Pl X N_laid_short G_laid_short) (hS : X.env.scope = defScope s_laid_short)
    (m_len : X.mg "len" = none) (m_str : X.mg "str" = none) : SSs X (defBody s_laid_short) g_laid_short := by
  unfold g_laid_short
  exact (s_cons (P.set 2 (e_if (t_gt (e_bltn c_len nxLen (P.w 0) m_len PySem.boot_len (a1 (P.v 0))) e_int) (e_add e_str (e_slcS (P.v 0) (po_some' e_int) po_none')) e_str))
  (s_one (P.ret (e_add (e_add (e_add (P.y 0) (P.v 2)) e_str) (e_btyp c_str nxStr (P.w 1) m_str boot_str (a1 (P.v 1)))))))
theorem b_laid_in_full (P : Pl X N_laid_in_full G_laid_in_full) (hS : X.env.scope = defScope s_laid_in_full)
     : SSs X (defBody s_laid_in_full) g_laid_in_full := by
  unfold g_laid_in_full
  exact (s_cons (P.if_ (t_ge (P.v 1) e_int) (s_one (P.ret (e_add (P.v 0) (e_repS e_str (P.v 1))))) s_nil)
  (s_cons (P.if_ (t_ge (P.v 2) e_int) (s_one (P.ret (e_add (e_add (e_slcS (P.v 0) po_none' (po_some' (e_add (P.v 2) e_int))) e_str) (e_slcS (P.v 0) (po_some' (e_add (P.v 2) e_int)) po_none')))) s_nil)
  (s_one (P.ret (e_add (e_add e_str (e_repS e_str (e_sub (e_neg (P.v 2)) e_int))) (P.v 0))))))
theorem b_laid (P : Pl X N_laid G_laid) (hS : X.env.scope = defScope s_laid)
    (m_str : X.mg "str" = none) (m_len : X.mg "len" = none) (c_laid_in_full : Callee X "laid_in_full" p_laid_in_full) (c_laid_short : Callee X "laid_short" p_laid_short) : SSs X (defBody s_laid) g_laid := by
  unfold g_laid
  exact (s_cons (P.set 3 (e_if (t_eq hr (P.v 0) e_int) e_str e_str))
  (s_cons (P.if_ (t_eq hr (P.v 1) e_int) (s_one (P.ret (e_add (P.v 3) e_str))) s_nil)
  (s_cons (P.set 4 (e_btyp c_str nxStr (P.w 0) m_str boot_str (a1 (P.v 1))))
  (s_cons (P.set 5 (e_sub (e_add (P.v 2) (e_bltn c_len nxLen (P.w 1) m_len PySem.boot_len (a1 (P.v 4)))) e_int))
  (s_cons (P.if_ (t_chain nxLe nxLe op_leD op_leD (e_neg e_int) (P.v 5) e_int) (s_one (P.ret (e_add (P.v 3) (P.call 2 c_laid_in_full (a3 (P.v 4) (P.v 2) (P.v 5)))))) s_nil)
  (s_one (P.ret (e_add (P.v 3) (P.call 3 c_laid_short (a2 (P.v 4) (P.v 5)))))))))))
theorem b_shown (P : Pl X N_shown G_shown) (hS : X.env.scope = defScope s_shown)
    (c_kind : Callee X "kind" p_kind) (c_endless : Callee X "endless" p_endless) (c_shortest : Callee X "shortest" p_shortest) (c_laid : Callee X "laid" p_laid) : SSs X (defBody s_shown) g_shown := by
  unfold g_shown
  exact (s_cons (P.set 2 (P.call 0 c_kind (a2 (P.v 0) (P.v 1))))
  (s_cons (P.if_ (t_eq hr (P.v 2) e_str) (s_one (P.ret e_str)) s_nil)
  (s_cons (P.if_ (t_eq hr (P.v 2) e_str) (s_one (P.ret (e_if (t_gt (P.v 1) (P.call 1 c_endless (a1 (P.v 0)))) e_str e_str))) s_nil)
  (s_cons (P.set 3 (P.call 2 c_shortest (a2 (P.v 0) (P.v 1))))
  (s_one (P.ret (P.call 3 c_laid (a3 (P.y 3) (P.y 3) (P.y 3)))))))))
theorem b_law_is_text (P : Pl X N_law_is_text G_law_is_text) (hS : X.env.scope = defScope s_law_is_text)
    (c_shown : Callee X "shown" p_shown) (m_str : X.mg "str" = none) (isi_str : Isi X (.ty "str")) (hE : ExcKit X) (m_isinstance : X.mg "isinstance" = none) : SSs X (defBody s_law_is_text) g_law_is_text := by
  unfold g_law_is_text
  exact (s_cons (P.set 3 (P.call 0 c_shown (a2 (P.v 0) (P.v 1))))
  (s_one (P.ret (e_and (e_isi isi_str hE (P.w 1) m_isinstance (P.v 3) (e_ty (n := "str") (P.w 2) m_str boot_str)) (e_one (e_eq hr (P.v 3) (P.v 2)))))))
theorem b_law_cell_at (P : Pl X N_law_cell_at G_law_cell_at) (hS : X.env.scope = defScope s_law_cell_at)
    (m_len : X.mg "len" = none) : SSs X (defBody s_law_cell_at) g_law_cell_at := by
  unfold g_law_cell_at
  exact (s_cons (P.if_ (t_lt (P.v 1) (e_bltn c_len nxLen (P.w 0) m_len PySem.boot_len (a1 (P.v 0)))) (s_one (P.ret (e_ix (P.v 0) (P.v 1)))) s_nil)
  (s_one (P.ret e_int)))
theorem b_law_refused (P : Pl X N_law_refused G_law_refused) (hS : X.env.scope = defScope s_law_refused) {C_MillError C_NoBits C_NoText C_NotFinite : Addr}
    (c_shown : Callee X "shown" p_shown) (lc_3 : X.env.scope.names.lookup ("e" : Str) = some .local) (q_MillError : X.mg "MillError" = some (.ref  C_MillError)) (ct_MillError : Catches X "MillError" C_MillError) (q_NoBits : X.mg "NoBits" = some (.ref  C_NoBits)) (isi_NoBits : Isi X (.cls "NoBits")) (hE : ExcKit X) (m_isinstance : X.mg "isinstance" = none) (m_ValueError : X.mg "ValueError" = none) (isi_ValueError : Isi X (.ty "ValueError")) (q_NotFinite : X.mg "NotFinite" = some (.ref  C_NotFinite)) (q_NoText : X.mg "NoText" = some (.ref  C_NoText)) (isi_NotFinite : Isi X (.cls "NotFinite")) (isi_NoText : Isi X (.cls "NoText")) : SSs X (defBody s_law_refused) g_law_refused := by
  unfold g_law_refused
  exact (s_cons (P.set 2 e_non)
  (s_cons (s_try (cls := "MillError") P O 3 rfl lc_3 (P.w 1) q_MillError ct_MillError (fun pins W => (s_one (s_expr (P.try pins W).toSx (e_call ⟨c_shown.ex⟩ ((P.try pins W).gb _ (mG 0)) (a2 (e_var (P.try pins W).sc 0 rfl) (e_var (P.try pins W).sc 1 rfl)))))) (fun ea => (s_one (s_set (P.inn ea).toSx 2 rfl ((P.inn ea).sto _ (mG 2)) (e_var (P.inn ea).sc 3 rfl)))))
  (s_cons (P.if_ (t_w (w_or (t_isN (P.v 2)) (w_or (t_not (t_val (e_isi isi_NoBits hE (P.w 2) m_isinstance (P.v 2) (e_cls (x := "NoBits") (P.w 3) q_NoBits)))) (w_or1 (t_not (t_val (e_isi isi_ValueError hE (P.w 2) m_isinstance (P.v 2) (e_ty (n := "ValueError") (P.w 4) m_ValueError boot_ValueError)))))))) (s_one (P.ret e_bl)) s_nil)
  (s_one (P.ret (e_not (e_isiT (cs := [.cls "NotFinite", .cls "NoText"]) (by simp) (by simp) (isis_cons isi_NotFinite (isis_cons isi_NoText isis_nil)) hE (P.w 2) m_isinstance (P.v 2) (e_tup (a2 (e_cls (x := "NotFinite") (P.w 5) q_NotFinite) (e_cls (x := "NoText") (P.w 6) q_NoText)) (by decide)))))))))
theorem b_law_code_of (P : Pl X N_law_code_of G_law_code_of) (hS : X.env.scope = defScope s_law_code_of)
     : SSs X (defBody s_law_code_of) g_law_code_of := by
  unfold g_law_code_of
  exact (s_cons (P.set 2 (e_sub (e_bitlen (P.v 1)) e_int))
  (s_cons (P.set 3 (e_add (e_sub (e_shl e_int (e_sub (P.y 0) e_int)) e_int) (P.v 2)))
  (s_one (P.ret (e_sub (e_add (e_shl (P.v 3) (P.y 0)) (e_shr (e_shl (P.v 1) (P.y 0)) (P.v 2))) (e_shl e_int (P.y 0)))))))
theorem b_law_text_of (P : Pl X N_law_text_of G_law_text_of) (hS : X.env.scope = defScope s_law_text_of)
    (m_str : X.mg "str" = none) (m_len : X.mg "len" = none) : SSs X (defBody s_law_text_of) g_law_text_of := by
  unfold g_law_text_of
  exact (s_cons (P.set 1 (e_btyp c_str nxStr (P.w 0) m_str boot_str (a1 (P.v 0))))
  (s_cons (P.if_ (t_le (e_bltn c_len nxLen (P.w 1) m_len PySem.boot_len (a1 (P.v 1))) e_int) (s_one (P.ret (P.v 1))) s_nil)
  (s_cons (P.set 2 (e_mS nxRstrip PySem.F.slot_str_rstrip PySem.F.type_str_rstrip mt_rstrip (P.v 1) e_str))
  (s_cons (P.if_ (t_eq hr (e_bltn c_len nxLen (P.w 1) m_len PySem.boot_len (a1 (P.v 2))) e_int) (s_one (P.ret (e_add (e_add (P.v 2) e_str) (e_btyp c_str nxStr (P.w 0) m_str boot_str (a1 (e_sub (e_bltn c_len nxLen (P.w 1) m_len PySem.boot_len (a1 (P.v 1))) e_int)))))) s_nil)
  (s_one (P.ret (e_add (e_add (e_add (e_add (P.y 2) e_str) (e_slcS (P.v 2) (po_some' e_int) po_none')) e_str) (e_btyp c_str nxStr (P.w 0) m_str boot_str (a1 (e_sub (e_bltn c_len nxLen (P.w 1) m_len PySem.boot_len (a1 (P.v 1))) e_int))))))))))
theorem b_law (P : Pl X N_law G_law) (hS : X.env.scope = defScope s_law)
    (c_law_size_by : Callee X "_law_size_by" p_law_size_by) (c_law_cell_at : Callee X "_law_cell_at" p_law_cell_at) (c_law_is_text : Callee X "_law_is_text" p_law_is_text) (c_law_refused : Callee X "_law_refused" p_law_refused) (c_law_number_by : Callee X "_law_number_by" p_law_number_by) (c_law_code_of : Callee X "_law_code_of" p_law_code_of) (c_law_text_of : Callee X "_law_text_of" p_law_text_of) : SSs X (defBody s_law) g_law := by
  unfold g_law
  exact (s_cons (P.set 1 (P.call 0 c_law_size_by (a1 (P.call 1 c_law_cell_at (a2 (P.v 0) e_int)))))
  (s_cons (P.set 2 (e_shl e_int (e_add (P.y 1) (P.y 1))))
  (s_cons (P.set 3 (e_shl (e_sub (e_shl e_int (P.y 1)) e_int) (P.y 1)))
  (s_cons (P.if_ (t_w (w_or (t_not (t_val (P.call 2 c_law_is_text (a3 (P.v 1) (P.v 3) e_str)))) (w_or1 (t_not (t_val (P.call 2 c_law_is_text (a3 (P.v 1) (e_add (P.v 2) (P.v 3)) e_str))))))) (s_one (P.ret e_bl)) s_nil)
  (s_cons (P.if_ (t_w (w_or (t_not (t_val (P.call 2 c_law_is_text (a3 (P.v 1) e_int e_str)))) (w_or1 (t_not (t_val (P.call 2 c_law_is_text (a3 (P.v 1) (P.v 2) e_str))))))) (s_one (P.ret e_bl)) s_nil)
  (s_cons (P.set 4 (e_mod (P.call 1 c_law_cell_at (a2 (P.v 0) e_int)) e_int))
  (s_cons (P.set 5 (e_add (e_add (P.v 3) e_int) (e_mod (P.call 1 c_law_cell_at (a2 (P.v 0) e_int)) (e_sub (e_shl e_int (P.y 1)) e_int))))
  (s_cons (P.if_ (t_not (t_val (P.call 2 c_law_is_text (a3 (P.v 1) (e_add (e_mul (P.v 4) (P.v 2)) (P.v 5)) e_str)))) (s_one (P.ret e_bl)) s_nil)
  (s_cons (P.set 6 (e_add (e_mul e_int (P.v 2)) (e_mod (P.call 1 c_law_cell_at (a2 (P.v 0) e_int)) (e_pow e_int e_int))))
  (s_cons (P.if_ (t_w (w_or (t_not (t_val (P.call 3 c_law_refused (a2 (P.v 1) (P.v 6))))) (w_or1 (t_not (t_val (P.call 3 c_law_refused (a2 (P.v 1) (e_sub (e_neg e_int) (e_mod (P.call 1 c_law_cell_at (a2 (P.v 0) e_int)) (e_pow e_int e_int)))))))))) (s_one (P.ret e_bl)) s_nil)
  (s_cons (P.set 7 (P.call 4 c_law_number_by (a2 (P.v 1) (P.call 1 c_law_cell_at (a2 (P.v 0) e_int)))))
  (s_one (P.ret (P.call 2 c_law_is_text (a3 (P.v 1) (e_add (e_mul (P.v 4) (P.v 2)) (P.call 5 c_law_code_of (a2 (P.v 1) (P.v 7)))) (e_add (e_ix (e_lst (a2 e_str e_str) (by decide)) (P.v 4)) (P.call 6 c_law_text_of (a1 (P.v 7)))))))))))))))))))
end
theorem all_mk {P : Program} {w : World} {K : PySem.W.Frag} {h : Heap} {mg : Str → Option Value} {fa : Addr} (KX : K.In h) (GG : h.Ns mainGlobals mg) (hfa : mg "law" = some (.ref fa))
    {C_Way : Addr} (n_Way : PySem.W.nsIn K mainGlobals "Way" = some (some (.ref C_Way)))
    (pg_Way : PySem.W.plainGet K C_Way Str.empty = true) (hd_Way : PySem.W.hasDictIn K C_Way = true) (po_Way : PySem.W.plainOver K C_Way = true) (sa_Way : PySem.W.findIn K (.ref C_Way) "__setattr__" = some (some (.builtin "object.__setattr__")))
    (na_Way : PySem.W.findIn K (.ref C_Way) "name" = some none)
    {fIWay : Addr} {odIWay anIWay : Option Addr} {slIWay : Array (Option Value)} {ocIWay kVIWay dcIWay pmIWay cdIWay ctIWay : Value}
    (aIWay : PySem.W.findIn K (.ref C_Way) "__init__" = some (some (.ref fIWay))) (uIWay : PySem.W.isFn K (.ref fIWay) = true) (mm_Way : PySem.W.makesIn K C_Way = true) (kc_Way : PySem.W.keepIn K (.ref C_Way) = true)
    (lIWay : K.lookup fIWay = some ⟨ocIWay, odIWay, .func (PySem.W.fnOf "__init__" "Way.__init__" (defArgs s_Way_init) (defBody s_Way_init) (defScope s_Way_init) .none kVIWay dcIWay pmIWay anIWay cdIWay ctIWay), slIWay⟩)
    (eIWay : PySem.W.codeIn K cdIWay "Way.__init__" = true) (kIWay : PySem.W.keepIn K (.ref fIWay) = true)
    (q1 : DA K "_law_size_by" s_law_size_by)
    {f2 : Addr} {od2 an2 : Option Addr} {sl2 : Array (Option Value)} {oc2 kV2 dc2 pm2 cd2 ct2 : Value}
    (a2 : PySem.W.nsIn K mainGlobals "_law_power" = some (some (.ref f2)))
    (l2 : K.lookup f2 = some ⟨oc2, od2, .func (PySem.W.fnOf "_law_power" "_law_power" (defArgs s_law_power) (defBody s_law_power) (defScope s_law_power) .none kV2 dc2 pm2 an2 cd2 ct2), sl2⟩)
    (e2 : PySem.W.codeIn K cd2 "_law_power" = true) (k2 : PySem.W.keepIn K (.ref f2) = true)
    (q3 : DA K "_law_number_by" s_law_number_by)
    (q4 : DA K "sign_bit" s_sign_bit)
    (q5 : DA K "width" s_width)
    (q6 : DA K "parted" s_parted)
    (q7 : DA K "last_field" s_last_field)
    (q8 : DA K "kind" s_kind)
    (q9 : DA K "worth_fraction" s_worth_fraction)
    (q10 : DA K "bias" s_bias)
    (q11 : DA K "low" s_low)
    (q12 : DA K "worth" s_worth)
    (q13 : DA K "fraction" s_fraction)
    {f14 : Addr} {od14 an14 : Option Addr} {sl14 : Array (Option Value)} {oc14 kV14 dc14 pm14 cd14 ct14 : Value}
    (a14 : PySem.W.nsIn K mainGlobals "ten_to" = some (some (.ref f14)))
    (l14 : K.lookup f14 = some ⟨oc14, od14, .func (PySem.W.fnOf "ten_to" "ten_to" (defArgs s_ten_to) (defBody s_ten_to) (defScope s_ten_to) .none kV14 dc14 pm14 an14 cd14 ct14), sl14⟩)
    (e14 : PySem.W.codeIn K cd14 "ten_to" = true) (k14 : PySem.W.keepIn K (.ref f14) = true)
    (q15 : DA K "tenfold" s_tenfold)
    (q16 : DA K "below_ten_to" s_below_ten_to)
    (q17 : DA K "scaled" s_scaled)
    (q18 : DA K "height" s_height)
    (q19 : DA K "ten_height" s_ten_height)
    (q20 : DA K "bare_spelling" s_bare_spelling)
    (q21 : DA K "way_of" s_way_of)
    (q22 : DA K "check_fraction" s_check_fraction)
    (q23 : DA K "rest_by_middle" s_rest_by_middle)
    (q24 : DA K "rest_of" s_rest_of)
    (q25 : DA K "cut" s_cut)
    (q26 : DA K "endless" s_endless)
    (q27 : DA K "signed" s_signed)
    (q28 : DA K "lost_flags" s_lost_flags)
    {f29 : Addr} {od29 an29 : Option Addr} {sl29 : Array (Option Value)} {oc29 kV29 dc29 pm29 cd29 ct29 : Value}
    (a29 : PySem.W.findIn K (.ref C_Way) "flees_nought" = some (some (.ref f29))) (u29 : PySem.W.isFn K (.ref f29) = true)
    (l29 : K.lookup f29 = some ⟨oc29, od29, .func (PySem.W.fnOf "flees_nought" "Way.flees_nought" (defArgs s_Way_flees_nought) (defBody s_Way_flees_nought) (defScope s_Way_flees_nought) .none kV29 dc29 pm29 an29 cd29 ct29), sl29⟩)
    (e29 : PySem.W.codeIn K cd29 "Way.flees_nought" = true) (k29 : PySem.W.keepIn K (.ref f29) = true)
    {f30 : Addr} {od30 an30 : Option Addr} {sl30 : Array (Option Value)} {oc30 kV30 dc30 pm30 cd30 ct30 : Value}
    (a30 : PySem.W.findIn K (.ref C_Way) "grows" = some (some (.ref f30))) (u30 : PySem.W.isFn K (.ref f30) = true)
    (l30 : K.lookup f30 = some ⟨oc30, od30, .func (PySem.W.fnOf "grows" "Way.grows" (defArgs s_Way_grows) (defBody s_Way_grows) (defScope s_Way_grows) .none kV30 dc30 pm30 an30 cd30 ct30), sl30⟩)
    (e30 : PySem.W.codeIn K cd30 "Way.grows" = true) (k30 : PySem.W.keepIn K (.ref f30) = true)
    {f31 : Addr} {od31 an31 : Option Addr} {sl31 : Array (Option Value)} {oc31 kV31 dc31 pm31 cd31 ct31 : Value}
    (a31 : PySem.W.findIn K (.ref C_Way) "bursts" = some (some (.ref f31))) (u31 : PySem.W.isFn K (.ref f31) = true)
    (l31 : K.lookup f31 = some ⟨oc31, od31, .func (PySem.W.fnOf "bursts" "Way.bursts" (defArgs s_Way_bursts) (defBody s_Way_bursts) (defScope s_Way_bursts) .none kV31 dc31 pm31 an31 cd31 ct31), sl31⟩)
    (e31 : PySem.W.codeIn K cd31 "Way.bursts" = true) (k31 : PySem.W.keepIn K (.ref f31) = true)
    (q32 : DA K "settled" s_settled)
    (q33 : DA K "rounded" s_rounded)
    (q34 : DA K "reads_back" s_reads_back)
    (q35 : DA K "nearest_back" s_nearest_back)
    (q36 : DA K "shortest" s_shortest)
    (q37 : DA K "laid_short" s_laid_short)
    (q38 : DA K "laid_in_full" s_laid_in_full)
    (q39 : DA K "laid" s_laid)
    (q40 : DA K "shown" s_shown)
    (q41 : DA K "_law_is_text" s_law_is_text)
    (q42 : DA K "_law_cell_at" s_law_cell_at)
    (q43 : DA K "_law_refused" s_law_refused)
    (q44 : DA K "_law_code_of" s_law_code_of)
    (q45 : DA K "_law_text_of" s_law_text_of)
    {f46 : Addr} {od46 an46 : Option Addr} {sl46 : Array (Option Value)} {oc46 kV46 dc46 pm46 cd46 ct46 : Value}
    (a46 : PySem.W.nsIn K mainGlobals "law" = some (some (.ref f46)))
    (l46 : K.lookup f46 = some ⟨oc46, od46, .func (PySem.W.fnOf "law" "law" (defArgs s_law) (defBody s_law) (defScope s_law) .none kV46 dc46 pm46 an46 cd46 ct46), sl46⟩)
    (e46 : PySem.W.codeIn K cd46 "law" = true) (k46 : PySem.W.keepIn K (.ref f46) = true)
    (z_min : PySem.W.nsIn K mainGlobals "min" = some none)
    (z_max : PySem.W.nsIn K mainGlobals "max" = some none)
    (z_len : PySem.W.nsIn K mainGlobals "len" = some none)
    (z_str : PySem.W.nsIn K mainGlobals "str" = some none)
    (z_isinstance : PySem.W.nsIn K mainGlobals "isinstance" = some none)
    (z_ValueError : PySem.W.nsIn K mainGlobals "ValueError" = some none)
    {A_NAMES : Addr} {dd_NAMES : Option Addr} {nn_NAMES : Nat} {ss_NAMES : Array (Option Value)} {t0_NAMES t1_NAMES t2_NAMES t3_NAMES t4_NAMES : Tok} (y_NAMES : PySem.W.nsIn K mainGlobals "NAMES" = some (some (.ref A_NAMES)))
    (yl_NAMES : K.lookup A_NAMES = some ⟨.type "tuple", dd_NAMES, .seq #[.str "even" t0_NAMES, .str "away" t1_NAMES, .str "nought" t2_NAMES, .str "up" t3_NAMES, .str "down" t4_NAMES] nn_NAMES, ss_NAMES⟩)
    {t_INEXACT : Tok} (y_INEXACT : PySem.W.nsIn K mainGlobals "INEXACT" = some (some (.int 1 t_INEXACT)))
    {t_GREAT : Tok} (y_GREAT : PySem.W.nsIn K mainGlobals "GREAT" = some (some (.int 4 t_GREAT)))
    {t_SMALL : Tok} (y_SMALL : PySem.W.nsIn K mainGlobals "SMALL" = some (some (.int 2 t_SMALL)))
    {C_MillError : Addr} (n_MillError : PySem.W.nsIn K mainGlobals "MillError" = some (some (.ref C_MillError)))
    {C_NoBits : Addr} (n_NoBits : PySem.W.nsIn K mainGlobals "NoBits" = some (some (.ref C_NoBits)))
    {C_NotFinite : Addr} (n_NotFinite : PySem.W.nsIn K mainGlobals "NotFinite" = some (some (.ref C_NotFinite)))
    {C_NoWay : Addr} (n_NoWay : PySem.W.nsIn K mainGlobals "NoWay" = some (some (.ref C_NoWay)))
    {C_NoFraction : Addr} (n_NoFraction : PySem.W.nsIn K mainGlobals "NoFraction" = some (some (.ref C_NoFraction)))
    {C_NoText : Addr} (n_NoText : PySem.W.nsIn K mainGlobals "NoText" = some (some (.ref C_NoText)))
    (xi_NoBits : PySem.W.excIn K C_NoBits bmV "ValueError.__new__" = true)
    (xi_NotFinite : PySem.W.excIn K C_NotFinite bmV "ValueError.__new__" = true)
    (xi_NoWay : PySem.W.excIn K C_NoWay bmV "ValueError.__new__" = true)
    (xi_NoFraction : PySem.W.excIn K C_NoFraction bmV "ValueError.__new__" = true)
    (v_MillError : XCls K C_MillError)
    (w_NoSize : PySem.W.nsIn K mainGlobals "NoSize" = some none)
    (v_NoBits : XCls K C_NoBits)
    (w_NoParts : PySem.W.nsIn K mainGlobals "NoParts" = some none)
    (w_NoRank : PySem.W.nsIn K mainGlobals "NoRank" = some none)
    (v_NotFinite : XCls K C_NotFinite)
    (v_NoWay : XCls K C_NoWay)
    (w_NoFlags : PySem.W.nsIn K mainGlobals "NoFlags" = some none)
    (v_NoFraction : XCls K C_NoFraction)
    (w_Unlike : PySem.W.nsIn K mainGlobals "Unlike" = some none)
    (w_Empty : PySem.W.nsIn K mainGlobals "Empty" = some none)
    (w_NoLeft : PySem.W.nsIn K mainGlobals "NoLeft" = some none)
    (v_NoText : XCls K C_NoText)
    (w_NoRow : PySem.W.nsIn K mainGlobals "NoRow" = some none)
    (w_NoName : PySem.W.nsIn K mainGlobals "NoName" = some none)
    (w_Stopped : PySem.W.nsIn K mainGlobals "Stopped" = some none)
    (cb_MillError : CB K C_MillError)
    (r_MillError_MillError : PySem.W.mroIn K C_MillError (.ref C_MillError) = some true)
    (r_MillError_NoBits : PySem.W.mroIn K C_NoBits (.ref C_MillError) = some true)
    (r_MillError_NotFinite : PySem.W.mroIn K C_NotFinite (.ref C_MillError) = some true)
    (r_MillError_NoWay : PySem.W.mroIn K C_NoWay (.ref C_MillError) = some true)
    (r_MillError_NoFraction : PySem.W.mroIn K C_NoFraction (.ref C_MillError) = some true)
    (r_MillError_NoText : PySem.W.mroIn K C_NoText (.ref C_MillError) = some true)
    (i_str_NoneType : PySem.W.kitOne K (.type "NoneType") (.type "str") = some false)
    (i_str_bool : PySem.W.kitOne K (.type "bool") (.type "str") = some false)
    (i_str_int : PySem.W.kitOne K (.type "int") (.type "str") = some false)
    (i_str_str : PySem.W.kitOne K (.type "str") (.type "str") = some true)
    (i_str_tuple : PySem.W.kitOne K (.type "tuple") (.type "str") = some false)
    (i_str_list : PySem.W.kitOne K (.type "list") (.type "str") = some false)
    (i0_NoBits : PySem.W.kitOne K (.type "NoneType") (.ref C_NoBits) = some false)
    (i_NoBits_MillError : PySem.W.kitOne K (.ref C_MillError) (.ref C_NoBits) = some false)
    (i_NoBits_NoBits : PySem.W.kitOne K (.ref C_NoBits) (.ref C_NoBits) = some true)
    (i_NoBits_NotFinite : PySem.W.kitOne K (.ref C_NotFinite) (.ref C_NoBits) = some false)
    (i_NoBits_NoWay : PySem.W.kitOne K (.ref C_NoWay) (.ref C_NoBits) = some false)
    (i_NoBits_NoFraction : PySem.W.kitOne K (.ref C_NoFraction) (.ref C_NoBits) = some false)
    (i_NoBits_NoText : PySem.W.kitOne K (.ref C_NoText) (.ref C_NoBits) = some false)
    (i_VE_NoneType : PySem.W.kitOne K (.type "NoneType") (.type "ValueError") = some false)
    (i_VE_bool : PySem.W.kitOne K (.type "bool") (.type "ValueError") = some false)
    (i_VE_int : PySem.W.kitOne K (.type "int") (.type "ValueError") = some false)
    (i_VE_str : PySem.W.kitOne K (.type "str") (.type "ValueError") = some false)
    (i_VE_tuple : PySem.W.kitOne K (.type "tuple") (.type "ValueError") = some false)
    (i_VE_list : PySem.W.kitOne K (.type "list") (.type "ValueError") = some false)
    (i_ValueError_MillError : PySem.W.kitOne K (.ref C_MillError) (.type "ValueError") = some true)
    (i_ValueError_NoBits : PySem.W.kitOne K (.ref C_NoBits) (.type "ValueError") = some true)
    (i_ValueError_NotFinite : PySem.W.kitOne K (.ref C_NotFinite) (.type "ValueError") = some true)
    (i_ValueError_NoWay : PySem.W.kitOne K (.ref C_NoWay) (.type "ValueError") = some true)
    (i_ValueError_NoFraction : PySem.W.kitOne K (.ref C_NoFraction) (.type "ValueError") = some true)
    (i_ValueError_NoText : PySem.W.kitOne K (.ref C_NoText) (.type "ValueError") = some true)
    (i0_NotFinite : PySem.W.kitOne K (.type "NoneType") (.ref C_NotFinite) = some false)
    (i_NotFinite_MillError : PySem.W.kitOne K (.ref C_MillError) (.ref C_NotFinite) = some false)
    (i_NotFinite_NoBits : PySem.W.kitOne K (.ref C_NoBits) (.ref C_NotFinite) = some false)
    (i_NotFinite_NotFinite : PySem.W.kitOne K (.ref C_NotFinite) (.ref C_NotFinite) = some true)
    (i_NotFinite_NoWay : PySem.W.kitOne K (.ref C_NoWay) (.ref C_NotFinite) = some false)
    (i_NotFinite_NoFraction : PySem.W.kitOne K (.ref C_NoFraction) (.ref C_NotFinite) = some false)
    (i_NotFinite_NoText : PySem.W.kitOne K (.ref C_NoText) (.ref C_NotFinite) = some false)
    (i0_NoText : PySem.W.kitOne K (.type "NoneType") (.ref C_NoText) = some false)
    (i_NoText_MillError : PySem.W.kitOne K (.ref C_MillError) (.ref C_NoText) = some false)
    (i_NoText_NoBits : PySem.W.kitOne K (.ref C_NoBits) (.ref C_NoText) = some false)
    (i_NoText_NotFinite : PySem.W.kitOne K (.ref C_NotFinite) (.ref C_NoText) = some false)
    (i_NoText_NoWay : PySem.W.kitOne K (.ref C_NoWay) (.ref C_NoText) = some false)
    (i_NoText_NoFraction : PySem.W.kitOne K (.ref C_NoFraction) (.ref C_NoText) = some false)
    (i_NoText_NoText : PySem.W.kitOne K (.ref C_NoText) (.ref C_NoText) = some true)
    : ∃ fd : FuncData, (∀ (s : Shared) (v : Value), BindsTo s fd ⟨[v], []⟩ [("_law_script", v)]) ∧ ∀ base : Heap, K.In base → base.Ns mainGlobals mg → FnOk P w K mg base (CXF P w) 28 fa fd ["_law_script"] (spP K mg p_law) := by
  have e := hfa.symm.trans (PySem.W.mg_of KX GG a46)
  cases e
  have q_Way := PySem.W.mg_of KX GG n_Way
  have cl_Way : Cls K C_Way := ⟨pg_Way, hd_Way, po_Way, sa_Way⟩
  have m_min := PySem.W.mg_none_of KX GG z_min
  have m_max := PySem.W.mg_none_of KX GG z_max
  have m_len := PySem.W.mg_none_of KX GG z_len
  have m_str := PySem.W.mg_none_of KX GG z_str
  have m_isinstance := PySem.W.mg_none_of KX GG z_isinstance
  have m_ValueError := PySem.W.mg_none_of KX GG z_ValueError
  have g_INEXACT : ∃ t, mg "INEXACT" = some (.int 1 t) := ⟨_, PySem.W.mg_of KX GG y_INEXACT⟩
  have g_GREAT : ∃ t, mg "GREAT" = some (.int 4 t) := ⟨_, PySem.W.mg_of KX GG y_GREAT⟩
  have g_SMALL : ∃ t, mg "SMALL" = some (.int 2 t) := ⟨_, PySem.W.mg_of KX GG y_SMALL⟩
  have q_MillError := PySem.W.mg_of KX GG n_MillError
  have q_NoBits := PySem.W.mg_of KX GG n_NoBits
  have q_NotFinite := PySem.W.mg_of KX GG n_NotFinite
  have q_NoWay := PySem.W.mg_of KX GG n_NoWay
  have q_NoFraction := PySem.W.mg_of KX GG n_NoFraction
  have q_NoText := PySem.W.mg_of KX GG n_NoText
  have hXF : ∀ n ∈ excNames, XF K mg n := all16
    ⟨.inr ⟨_, q_MillError, v_MillError⟩⟩
    ⟨.inl (PySem.W.mg_none_of KX GG w_NoSize)⟩
    ⟨.inr ⟨_, q_NoBits, v_NoBits⟩⟩
    ⟨.inl (PySem.W.mg_none_of KX GG w_NoParts)⟩
    ⟨.inl (PySem.W.mg_none_of KX GG w_NoRank)⟩
    ⟨.inr ⟨_, q_NotFinite, v_NotFinite⟩⟩
    ⟨.inr ⟨_, q_NoWay, v_NoWay⟩⟩
    ⟨.inl (PySem.W.mg_none_of KX GG w_NoFlags)⟩
    ⟨.inr ⟨_, q_NoFraction, v_NoFraction⟩⟩
    ⟨.inl (PySem.W.mg_none_of KX GG w_Unlike)⟩
    ⟨.inl (PySem.W.mg_none_of KX GG w_Empty)⟩
    ⟨.inl (PySem.W.mg_none_of KX GG w_NoLeft)⟩
    ⟨.inr ⟨_, q_NoText, v_NoText⟩⟩
    ⟨.inl (PySem.W.mg_none_of KX GG w_NoRow)⟩
    ⟨.inl (PySem.W.mg_none_of KX GG w_NoName)⟩
    ⟨.inl (PySem.W.mg_none_of KX GG w_Stopped)⟩
  have hct_MillError : ∀ n ∈ excNames, exSub n "MillError" = true → CF K mg C_MillError n := all16 (P := fun n => exSub n "MillError" = true → CF K mg C_MillError n)
    (fun _ => ⟨.inr ⟨_, q_MillError, r_MillError_MillError⟩⟩)
    (fun _ => ⟨.inl (PySem.W.mg_none_of KX GG w_NoSize)⟩)
    (fun _ => ⟨.inr ⟨_, q_NoBits, r_MillError_NoBits⟩⟩)
    (fun _ => ⟨.inl (PySem.W.mg_none_of KX GG w_NoParts)⟩)
    (fun _ => ⟨.inl (PySem.W.mg_none_of KX GG w_NoRank)⟩)
    (fun _ => ⟨.inr ⟨_, q_NotFinite, r_MillError_NotFinite⟩⟩)
    (fun _ => ⟨.inr ⟨_, q_NoWay, r_MillError_NoWay⟩⟩)
    (fun _ => ⟨.inl (PySem.W.mg_none_of KX GG w_NoFlags)⟩)
    (fun _ => ⟨.inr ⟨_, q_NoFraction, r_MillError_NoFraction⟩⟩)
    (fun _ => ⟨.inl (PySem.W.mg_none_of KX GG w_Unlike)⟩)
    (fun _ => ⟨.inl (PySem.W.mg_none_of KX GG w_Empty)⟩)
    (fun _ => ⟨.inl (PySem.W.mg_none_of KX GG w_NoLeft)⟩)
    (fun _ => ⟨.inr ⟨_, q_NoText, r_MillError_NoText⟩⟩)
    (fun _ => ⟨.inl (PySem.W.mg_none_of KX GG w_NoRow)⟩)
    (fun _ => ⟨.inl (PySem.W.mg_none_of KX GG w_NoName)⟩)
    (fun _ => ⟨.inl (PySem.W.mg_none_of KX GG w_Stopped)⟩)
  have hisi_NoBits : ∀ n ∈ excNames, IF K mg (.ref C_NoBits) (n == "NoBits" || "NoBits" == "MillError") n := all16 (P := fun n => IF K mg (.ref C_NoBits) (n == "NoBits" || "NoBits" == "MillError") n)
    ⟨.inr ⟨_, q_MillError, i_NoBits_MillError⟩⟩
    ⟨.inl (PySem.W.mg_none_of KX GG w_NoSize)⟩
    ⟨.inr ⟨_, q_NoBits, i_NoBits_NoBits⟩⟩
    ⟨.inl (PySem.W.mg_none_of KX GG w_NoParts)⟩
    ⟨.inl (PySem.W.mg_none_of KX GG w_NoRank)⟩
    ⟨.inr ⟨_, q_NotFinite, i_NoBits_NotFinite⟩⟩
    ⟨.inr ⟨_, q_NoWay, i_NoBits_NoWay⟩⟩
    ⟨.inl (PySem.W.mg_none_of KX GG w_NoFlags)⟩
    ⟨.inr ⟨_, q_NoFraction, i_NoBits_NoFraction⟩⟩
    ⟨.inl (PySem.W.mg_none_of KX GG w_Unlike)⟩
    ⟨.inl (PySem.W.mg_none_of KX GG w_Empty)⟩
    ⟨.inl (PySem.W.mg_none_of KX GG w_NoLeft)⟩
    ⟨.inr ⟨_, q_NoText, i_NoBits_NoText⟩⟩
    ⟨.inl (PySem.W.mg_none_of KX GG w_NoRow)⟩
    ⟨.inl (PySem.W.mg_none_of KX GG w_NoName)⟩
    ⟨.inl (PySem.W.mg_none_of KX GG w_Stopped)⟩
  have hisi_ValueError : ∀ n ∈ excNames, IF K mg (.type "ValueError") true n := all16
    ⟨.inr ⟨_, q_MillError, i_ValueError_MillError⟩⟩
    ⟨.inl (PySem.W.mg_none_of KX GG w_NoSize)⟩
    ⟨.inr ⟨_, q_NoBits, i_ValueError_NoBits⟩⟩
    ⟨.inl (PySem.W.mg_none_of KX GG w_NoParts)⟩
    ⟨.inl (PySem.W.mg_none_of KX GG w_NoRank)⟩
    ⟨.inr ⟨_, q_NotFinite, i_ValueError_NotFinite⟩⟩
    ⟨.inr ⟨_, q_NoWay, i_ValueError_NoWay⟩⟩
    ⟨.inl (PySem.W.mg_none_of KX GG w_NoFlags)⟩
    ⟨.inr ⟨_, q_NoFraction, i_ValueError_NoFraction⟩⟩
    ⟨.inl (PySem.W.mg_none_of KX GG w_Unlike)⟩
    ⟨.inl (PySem.W.mg_none_of KX GG w_Empty)⟩
    ⟨.inl (PySem.W.mg_none_of KX GG w_NoLeft)⟩
    ⟨.inr ⟨_, q_NoText, i_ValueError_NoText⟩⟩
    ⟨.inl (PySem.W.mg_none_of KX GG w_NoRow)⟩
    ⟨.inl (PySem.W.mg_none_of KX GG w_NoName)⟩
    ⟨.inl (PySem.W.mg_none_of KX GG w_Stopped)⟩
  have hisi_NotFinite : ∀ n ∈ excNames, IF K mg (.ref C_NotFinite) (n == "NotFinite" || "NotFinite" == "MillError") n := all16 (P := fun n => IF K mg (.ref C_NotFinite) (n == "NotFinite" || "NotFinite" == "MillError") n)
    ⟨.inr ⟨_, q_MillError, i_NotFinite_MillError⟩⟩
    ⟨.inl (PySem.W.mg_none_of KX GG w_NoSize)⟩
    ⟨.inr ⟨_, q_NoBits, i_NotFinite_NoBits⟩⟩
    ⟨.inl (PySem.W.mg_none_of KX GG w_NoParts)⟩
    ⟨.inl (PySem.W.mg_none_of KX GG w_NoRank)⟩
    ⟨.inr ⟨_, q_NotFinite, i_NotFinite_NotFinite⟩⟩
    ⟨.inr ⟨_, q_NoWay, i_NotFinite_NoWay⟩⟩
    ⟨.inl (PySem.W.mg_none_of KX GG w_NoFlags)⟩
    ⟨.inr ⟨_, q_NoFraction, i_NotFinite_NoFraction⟩⟩
    ⟨.inl (PySem.W.mg_none_of KX GG w_Unlike)⟩
    ⟨.inl (PySem.W.mg_none_of KX GG w_Empty)⟩
    ⟨.inl (PySem.W.mg_none_of KX GG w_NoLeft)⟩
    ⟨.inr ⟨_, q_NoText, i_NotFinite_NoText⟩⟩
    ⟨.inl (PySem.W.mg_none_of KX GG w_NoRow)⟩
    ⟨.inl (PySem.W.mg_none_of KX GG w_NoName)⟩
    ⟨.inl (PySem.W.mg_none_of KX GG w_Stopped)⟩
  have hisi_NoText : ∀ n ∈ excNames, IF K mg (.ref C_NoText) (n == "NoText" || "NoText" == "MillError") n := all16 (P := fun n => IF K mg (.ref C_NoText) (n == "NoText" || "NoText" == "MillError") n)
    ⟨.inr ⟨_, q_MillError, i_NoText_MillError⟩⟩
    ⟨.inl (PySem.W.mg_none_of KX GG w_NoSize)⟩
    ⟨.inr ⟨_, q_NoBits, i_NoText_NoBits⟩⟩
    ⟨.inl (PySem.W.mg_none_of KX GG w_NoParts)⟩
    ⟨.inl (PySem.W.mg_none_of KX GG w_NoRank)⟩
    ⟨.inr ⟨_, q_NotFinite, i_NoText_NotFinite⟩⟩
    ⟨.inr ⟨_, q_NoWay, i_NoText_NoWay⟩⟩
    ⟨.inl (PySem.W.mg_none_of KX GG w_NoFlags)⟩
    ⟨.inr ⟨_, q_NoFraction, i_NoText_NoFraction⟩⟩
    ⟨.inl (PySem.W.mg_none_of KX GG w_Unlike)⟩
    ⟨.inl (PySem.W.mg_none_of KX GG w_Empty)⟩
    ⟨.inl (PySem.W.mg_none_of KX GG w_NoLeft)⟩
    ⟨.inr ⟨_, q_NoText, i_NoText_NoText⟩⟩
    ⟨.inl (PySem.W.mg_none_of KX GG w_NoRow)⟩
    ⟨.inl (PySem.W.mg_none_of KX GG w_NoName)⟩
    ⟨.inl (PySem.W.mg_none_of KX GG w_Stopped)⟩
  refine ⟨PySem.W.fnOf "law" "law" (defArgs s_law) (defBody s_law) (defScope s_law) .none kV46 dc46 pm46 an46 cd46 ct46, fun s v => .of_eq rfl, fun base _ _ => ?_⟩
  have FIWay := fun_mk (st := s_Way_init) lIWay eIWay kIWay
  have BIWay := binds2 (ps := ["self", "name"]) FIWay rfl fun _ _ _ _ _ _ _ _ => rfl
  have JIWay : FnOk P w K mg base CX0 1 fIWay _ ["self", "name"] (spI K "name") := init_ok (k := 0) FIWay ⟨rfl, rfl, rfl, by decide +kernel, by decide +kernel, by decide +kernel, by decide +kernel⟩ (by decide +kernel) (by decide +kernel) (by decide +kernel) (by decide +kernel) rfl (fun _ => rfl)
  have D1 : FnP P w K mg base "_law_size_by" 1 p_law_size_by := q1.fn KX GG sc_law_size_by rfl rfl (binds1 · rfl fun _ _ _ _ _ _ _ => rfl) fun X hr L O Pl hS =>
    b_law_size_by (X := at5 X P w K mg base) hr L O Pl hS
  have F2 := fun_mk (st := s_law_power) l2 e2 k2
  have B2 := binds1 (ps := ["_law_n"]) F2 rfl fun _ _ _ _ _ _ _ => rfl
  have D2 : ∀ j, FnP P w K mg base "_law_power" (j + 1) (p_law_power j) := fun j => by
    induction j with
    | zero => exact fn_def fn_bad k2 (PySem.W.mg_of KX GG a2) B2
    | succ j ih =>
    refine fn_def (up1 (fn_ok2 (k := j + 1) F2 sc_law_power rfl rfl fun X hr L O Pl hS => ?_)) k2 (PySem.W.mg_of KX GG a2) B2
    exact b_law_power (X := at5 X P w K mg base) hr L O Pl hS (ih.callee hr (Nat.le_refl _))
  have D3 : FnP P w K mg base "_law_number_by" 22 p_law_number_by := q3.fn KX GG sc_law_number_by rfl rfl (binds2 · rfl fun _ _ _ _ _ _ _ _ => rfl) fun X hr L O Pl hS =>
    b_law_number_by (X := at5 X P w K mg base) hr L O Pl hS m_min ((D2 20).callee hr (by decide))
  have D4 : FnP P w K mg base "sign_bit" 1 p_sign_bit := q4.fn KX GG sc_sign_bit rfl rfl (binds1 · rfl fun _ _ _ _ _ _ _ => rfl) fun X hr L O Pl hS =>
    b_sign_bit (X := at5 X P w K mg base) hr L O Pl hS
  have D5 : FnP P w K mg base "width" 1 p_width := q5.fn KX GG sc_width rfl rfl (binds1 · rfl fun _ _ _ _ _ _ _ => rfl) fun X hr L O Pl hS =>
    b_width (X := at5 X P w K mg base) hr L O Pl hS
  have D6 : FnP P w K mg base "parted" 2 p_parted := q6.fn KX GG sc_parted rfl rfl (binds2 · rfl fun _ _ _ _ _ _ _ _ => rfl) fun X hr L O Pl hS =>
    b_parted (X := at5 X P w K mg base) hr L O Pl hS (D5.c hr) q_NoBits xi_NoBits (D4.c hr)
  have D7 : FnP P w K mg base "last_field" 1 p_last_field := q7.fn KX GG sc_last_field rfl rfl (binds1 · rfl fun _ _ _ _ _ _ _ => rfl) fun X hr L O Pl hS =>
    b_last_field (X := at5 X P w K mg base) hr L O Pl hS
  have D8 : FnP P w K mg base "kind" 3 p_kind := q8.fn KX GG sc_kind rfl rfl (binds2 · rfl fun _ _ _ _ _ _ _ _ => rfl) fun X hr L O Pl hS =>
    b_kind (X := at5 X P w K mg base) hr L O Pl hS (D6.c hr) (D7.c hr)
  have D9 : FnP P w K mg base "worth_fraction" 1 p_worth_fraction := q9.fn KX GG sc_worth_fraction rfl rfl (binds1 · rfl fun _ _ _ _ _ _ _ => rfl) fun X hr L O Pl hS =>
    b_worth_fraction (X := at5 X P w K mg base) hr L O Pl hS
  have D10 : FnP P w K mg base "bias" 1 p_bias := q10.fn KX GG sc_bias rfl rfl (binds1 · rfl fun _ _ _ _ _ _ _ => rfl) fun X hr L O Pl hS =>
    b_bias (X := at5 X P w K mg base) hr L O Pl hS
  have D11 : FnP P w K mg base "low" 2 p_low := q11.fn KX GG sc_low rfl rfl (binds1 · rfl fun _ _ _ _ _ _ _ => rfl) fun X hr L O Pl hS =>
    b_low (X := at5 X P w K mg base) hr L O Pl hS (D10.c hr)
  have D12 : FnP P w K mg base "worth" 3 p_worth := q12.fn KX GG sc_worth rfl rfl (binds2 · rfl fun _ _ _ _ _ _ _ _ => rfl) fun X hr L O Pl hS =>
    b_worth (X := at5 X P w K mg base) hr L O Pl hS (D6.c hr) (D7.c hr) q_NotFinite xi_NotFinite (D11.c hr)
  have D13 : FnP P w K mg base "fraction" 4 p_fraction := q13.fn KX GG sc_fraction rfl rfl (binds2 · rfl fun _ _ _ _ _ _ _ _ => rfl) fun X hr L O Pl hS =>
    b_fraction (X := at5 X P w K mg base) hr L O Pl hS (D9.c hr) (D12.c hr)
  have F14 := fun_mk (st := s_ten_to) l14 e14 k14
  have B14 := binds1 (ps := ["number"]) F14 rfl fun _ _ _ _ _ _ _ => rfl
  have D14 : ∀ j, FnP P w K mg base "ten_to" (j + 1) (p_ten_to j) := fun j => by
    induction j with
    | zero => exact fn_def fn_bad k14 (PySem.W.mg_of KX GG a14) B14
    | succ j ih =>
    refine fn_def (up1 (fn_ok2 (k := j + 1) F14 sc_ten_to rfl rfl fun X hr L O Pl hS => ?_)) k14 (PySem.W.mg_of KX GG a14) B14
    exact b_ten_to (X := at5 X P w K mg base) hr L O Pl hS (ih.callee hr (Nat.le_refl _))
  have D15 : FnP P w K mg base "tenfold" 22 p_tenfold := q15.fn KX GG sc_tenfold rfl rfl (binds3 · rfl fun _ _ _ _ _ _ _ _ _ => rfl) fun X hr L O Pl hS =>
    b_tenfold (X := at5 X P w K mg base) hr L O Pl hS ((D14 20).callee hr (by decide))
  have D16 : FnP P w K mg base "below_ten_to" 23 p_below_ten_to := q16.fn KX GG sc_below_ten_to rfl rfl (binds3 · rfl fun _ _ _ _ _ _ _ _ _ => rfl) fun X hr L O Pl hS =>
    b_below_ten_to (X := at5 X P w K mg base) hr L O Pl hS (D15.c hr)
  have D17 : FnP P w K mg base "scaled" 1 p_scaled := q17.fn KX GG sc_scaled rfl rfl (binds3 · rfl fun _ _ _ _ _ _ _ _ _ => rfl) fun X hr L O Pl hS =>
    b_scaled (X := at5 X P w K mg base) hr L O Pl hS
  have D18 : FnP P w K mg base "height" 2 p_height := q18.fn KX GG sc_height rfl rfl (binds2 · rfl fun _ _ _ _ _ _ _ _ => rfl) fun X hr L O Pl hS =>
    b_height (X := at5 X P w K mg base) hr L O Pl hS (D17.c hr)
  have D19 : FnP P w K mg base "ten_height" 24 p_ten_height := q19.fn KX GG sc_ten_height rfl rfl (binds2 · rfl fun _ _ _ _ _ _ _ _ => rfl) fun X hr L O Pl hS =>
    b_ten_height (X := at5 X P w K mg base) hr L O Pl hS (D18.c hr) (D16.c hr)
  have D20 : FnP P w K mg base "bare_spelling" 1 p_bare_spelling := q20.fn KX GG sc_bare_spelling rfl rfl (binds3 · rfl fun _ _ _ _ _ _ _ _ _ => rfl) fun X hr L O Pl hS =>
    b_bare_spelling (X := at5 X P w K mg base) hr L O Pl hS
  have D21 : FnP P w K mg base "way_of" 3 p_way_of := q21.fn KX GG sc_way_of rfl rfl (binds1 · rfl fun _ _ _ _ _ _ _ => rfl) fun X hr L O Pl hS =>
    b_way_of (X := at5 X P w K mg base) hr L O Pl hS (gc_strs (ss := ["even", "away", "nought", "up", "down"]) (PySem.W.mg_of KX GG y_NAMES) yl_NAMES (vals_strs (ts := [t0_NAMES, t1_NAMES, t2_NAMES, t3_NAMES, t4_NAMES]) rfl rfl) (Nat.le_of_ble_eq_true rfl)) q_NoWay xi_NoWay ⟨⟨C_Way, _, 1, _, _, q_Way, cl_Way, na_Way, ⟨mm_Way, aIWay, uIWay, kc_Way⟩, JIWay, hr.mono (by decide), BIWay⟩⟩
  have D22 : FnP P w K mg base "check_fraction" 1 p_check_fraction := q22.fn KX GG sc_check_fraction rfl rfl (binds2 · rfl fun _ _ _ _ _ _ _ _ => rfl) fun X hr L O Pl hS =>
    b_check_fraction (X := at5 X P w K mg base) hr L O Pl hS q_NoFraction xi_NoFraction
  have D23 : FnP P w K mg base "rest_by_middle" 1 p_rest_by_middle := q23.fn KX GG sc_rest_by_middle rfl rfl (binds3 · rfl fun _ _ _ _ _ _ _ _ _ => rfl) fun X hr L O Pl hS =>
    b_rest_by_middle (X := at5 X P w K mg base) hr L O Pl hS
  have D24 : FnP P w K mg base "rest_of" 2 p_rest_of := q24.fn KX GG sc_rest_of rfl rfl (binds2 · rfl fun _ _ _ _ _ _ _ _ => rfl) fun X hr L O Pl hS =>
    b_rest_of (X := at5 X P w K mg base) hr L O Pl hS (D23.c hr)
  have D25 : FnP P w K mg base "cut" 3 p_cut := q25.fn KX GG sc_cut rfl rfl (binds3 · rfl fun _ _ _ _ _ _ _ _ _ => rfl) fun X hr L O Pl hS =>
    b_cut (X := at5 X P w K mg base) hr L O Pl hS (D22.c hr) (D11.c hr) (D18.c hr) m_max (D17.c hr) (D24.c hr)
  have D26 : FnP P w K mg base "endless" 2 p_endless := q26.fn KX GG sc_endless rfl rfl (binds1 · rfl fun _ _ _ _ _ _ _ => rfl) fun X hr L O Pl hS =>
    b_endless (X := at5 X P w K mg base) hr L O Pl hS (D7.c hr)
  have D27 : FnP P w K mg base "signed" 2 p_signed := q27.fn KX GG sc_signed rfl rfl (binds3 · rfl fun _ _ _ _ _ _ _ _ _ => rfl) fun X hr L O Pl hS =>
    b_signed (X := at5 X P w K mg base) hr L O Pl hS (D4.c hr)
  have D28 : FnP P w K mg base "lost_flags" 3 p_lost_flags := q28.fn KX GG sc_lost_flags rfl rfl (binds3 · rfl fun _ _ _ _ _ _ _ _ _ => rfl) fun X hr L O Pl hS =>
    b_lost_flags (X := at5 X P w K mg base) hr L O Pl hS (D26.c hr) g_INEXACT g_GREAT g_SMALL
  have F29 := fun_mk (st := s_Way_flees_nought) l29 e29 k29
  have B29 := binds2 (ps := ["self", "sign"]) F29 rfl fun _ _ _ _ _ _ _ _ => rfl
  have D29 := fn_ok2 (P := P) (w := w) (mg := mg) (base := base) (n := 2) (m := 2) (g := g_Way_flees_nought) (k := 0) F29 sc_Way_flees_nought rfl rfl fun X hr L O Pl hS => by
    exact b_Way_flees_nought (X := at5 X P w K mg base) hr L O Pl hS ⟨⟨C_Way, q_Way, cl_Way, na_Way⟩⟩
  have F30 := fun_mk (st := s_Way_grows) l30 e30 k30
  have B30 := binds4 (ps := ["self", "sign", "odd", "rest"]) F30 rfl fun _ _ _ _ _ _ _ _ _ _ => rfl
  have D30 := fn_ok2 (P := P) (w := w) (mg := mg) (base := base) (n := 4) (m := 4) (g := g_Way_grows) (k := 1) F30 sc_Way_grows rfl rfl fun X hr L O Pl hS => by
    exact b_Way_grows (X := at5 X P w K mg base) hr L O Pl hS ⟨⟨C_Way, q_Way, cl_Way, na_Way⟩⟩ ⟨⟨C_Way, f29, 1, _, _, q_Way, cl_Way, ⟨a29, u29, k29⟩, D29, hr.mono (by decide), B29⟩⟩
  have F31 := fun_mk (st := s_Way_bursts) l31 e31 k31
  have B31 := binds2 (ps := ["self", "sign"]) F31 rfl fun _ _ _ _ _ _ _ _ => rfl
  have D31 := fn_ok2 (P := P) (w := w) (mg := mg) (base := base) (n := 2) (m := 2) (g := g_Way_bursts) (k := 1) F31 sc_Way_bursts rfl rfl fun X hr L O Pl hS => by
    exact b_Way_bursts (X := at5 X P w K mg base) hr L O Pl hS ⟨⟨C_Way, q_Way, cl_Way, na_Way⟩⟩ ⟨⟨C_Way, f29, 1, _, _, q_Way, cl_Way, ⟨a29, u29, k29⟩, D29, hr.mono (by decide), B29⟩⟩
  have D32 : FnP P w K mg base "settled" 4 p_settled := q32.fn KX GG sc_settled rfl rfl (binds6 · rfl fun _ _ _ _ _ _ _ _ _ _ _ _ => rfl) fun X hr L O Pl hS =>
    b_settled (X := at5 X P w K mg base) hr L O Pl hS (D21.c hr) (D11.c hr) (D26.c hr) ⟨⟨C_Way, f31, 2, _, _, q_Way, cl_Way, ⟨a31, u31, k31⟩, D31, hr.mono (by decide), B31⟩⟩ (D27.c hr) g_INEXACT g_GREAT ⟨⟨C_Way, f30, 2, _, _, q_Way, cl_Way, ⟨a30, u30, k30⟩, D30, hr.mono (by decide), B30⟩⟩ (D28.c hr)
  have D33 : FnP P w K mg base "rounded" 5 p_rounded := q33.fn KX GG sc_rounded rfl rfl (binds5 · rfl fun _ _ _ _ _ _ _ _ _ _ _ => rfl) fun X hr L O Pl hS =>
    b_rounded (X := at5 X P w K mg base) hr L O Pl hS (D21.c hr) (D25.c hr) (D32.c hr)
  have D34 : FnP P w K mg base "reads_back" 23 p_reads_back := q34.fn KX GG sc_reads_back rfl rfl (binds4 · rfl fun _ _ _ _ _ _ _ _ _ _ => rfl) fun X hr L O Pl hS =>
    b_reads_back (X := at5 X P w K mg base) hr L O Pl hS (D12.c hr) (D15.c hr) (D33.c hr)
  have D35 : FnP P w K mg base "nearest_back" 24 p_nearest_back := q35.fn KX GG sc_nearest_back rfl rfl (binds4 · rfl fun _ _ _ _ _ _ _ _ _ _ => rfl) fun X hr L O Pl hS =>
    b_nearest_back (X := at5 X P w K mg base) hr L O Pl hS (D34.c hr)
  have D36 : FnP P w K mg base "shortest" 25 p_shortest := q36.fn KX GG sc_shortest rfl rfl (binds2 · rfl fun _ _ _ _ _ _ _ _ => rfl) fun X hr L O Pl hS =>
    b_shortest (X := at5 X P w K mg base) hr L O Pl hS (D13.c hr) (D19.c hr) (D15.c hr) (D35.c hr) (D20.c hr)
  have D37 : FnP P w K mg base "laid_short" 1 p_laid_short := q37.fn KX GG sc_laid_short rfl rfl (binds2 · rfl fun _ _ _ _ _ _ _ _ => rfl) fun X hr L O Pl hS =>
    b_laid_short (X := at5 X P w K mg base) hr L O Pl hS m_len m_str
  have D38 : FnP P w K mg base "laid_in_full" 1 p_laid_in_full := q38.fn KX GG sc_laid_in_full rfl rfl (binds3 · rfl fun _ _ _ _ _ _ _ _ _ => rfl) fun X hr L O Pl hS =>
    b_laid_in_full (X := at5 X P w K mg base) hr L O Pl hS
  have D39 : FnP P w K mg base "laid" 2 p_laid := q39.fn KX GG sc_laid rfl rfl (binds3 · rfl fun _ _ _ _ _ _ _ _ _ => rfl) fun X hr L O Pl hS =>
    b_laid (X := at5 X P w K mg base) hr L O Pl hS m_str m_len (D38.c hr) (D37.c hr)
  have D40 : FnP P w K mg base "shown" 26 p_shown := q40.fn KX GG sc_shown rfl rfl (binds2 · rfl fun _ _ _ _ _ _ _ _ => rfl) fun X hr L O Pl hS =>
    b_shown (X := at5 X P w K mg base) hr L O Pl hS (D8.c hr) (D26.c hr) (D36.c hr) (D39.c hr)
  have D41 : FnP P w K mg base "_law_is_text" 27 p_law_is_text := q41.fn KX GG sc_law_is_text rfl rfl (binds3 · rfl fun _ _ _ _ _ _ _ _ _ => rfl) fun X hr L O Pl hS =>
    b_law_is_text (X := at5 X P w K mg base) hr L O Pl hS (D40.c hr) m_str (isi_ty (by decide) i_str_NoneType i_str_bool i_str_int i_str_str i_str_tuple i_str_list) (excKit_of (xcls_of hXF)) m_isinstance
  have D42 : FnP P w K mg base "_law_cell_at" 1 p_law_cell_at := q42.fn KX GG sc_law_cell_at rfl rfl (binds2 · rfl fun _ _ _ _ _ _ _ _ => rfl) fun X hr L O Pl hS =>
    b_law_cell_at (X := at5 X P w K mg base) hr L O Pl hS m_len
  have D43 : FnP P w K mg base "_law_refused" 27 p_law_refused := q43.fn KX GG sc_law_refused rfl rfl (binds2 · rfl fun _ _ _ _ _ _ _ _ => rfl) fun X hr L O Pl hS =>
    b_law_refused (X := at5 X P w K mg base) hr L O Pl hS (D40.c hr) (by rw [hS]; decide +kernel) q_MillError (catches_of cb_MillError hct_MillError) q_NoBits (isi_cls q_NoBits (ref_of hXF) i0_NoBits hisi_NoBits) (excKit_of (xcls_of hXF)) m_isinstance m_ValueError (isi_ve (fun _ _ _ _ => trivial) (ref_of hXF) i_VE_NoneType i_VE_bool i_VE_int i_VE_str i_VE_tuple i_VE_list hisi_ValueError) q_NotFinite q_NoText (isi_cls q_NotFinite (ref_of hXF) i0_NotFinite hisi_NotFinite) (isi_cls q_NoText (ref_of hXF) i0_NoText hisi_NoText)
  have D44 : FnP P w K mg base "_law_code_of" 1 p_law_code_of := q44.fn KX GG sc_law_code_of rfl rfl (binds2 · rfl fun _ _ _ _ _ _ _ _ => rfl) fun X hr L O Pl hS =>
    b_law_code_of (X := at5 X P w K mg base) hr L O Pl hS
  have D45 : FnP P w K mg base "_law_text_of" 1 p_law_text_of := q45.fn KX GG sc_law_text_of rfl rfl (binds1 · rfl fun _ _ _ _ _ _ _ => rfl) fun X hr L O Pl hS =>
    b_law_text_of (X := at5 X P w K mg base) hr L O Pl hS m_str m_len
  have F46 := fun_mk (st := s_law) l46 e46 k46
  · refine fn_ok2 (k := 27) F46 sc_law rfl rfl fun X hr L O Pl hS => ?_
    exact b_law (X := at5 X P w K mg base) hr L O Pl hS (D1.c hr) (D42.c hr) (D41.c hr) (D43.c hr) (D3.c hr) (D44.c hr) (D45.c hr)
end T
namespace H
open PySem PySem.W PySem.Spec PyProof.Rows L2 EV ES
noncomputable section
noncomputable abbrev vS (x : Str) (n : Nat) : Value := .str x n
noncomputable abbrev vI (x : Int) (n : Nat) : Value := .int x n
noncomputable abbrev r (n : Addr) : Value := .ref n
noncomputable abbrev z (x : Int) : Value := .int x 0
noncomputable abbrev c (n : Nat) : Value := .str "/claim/cut.py" n
noncomputable abbrev en (P : Params) (x : Str) (n : Nat) (v : Value) : DictEntry := ⟨PyData.keyHash P x, .str x n, v⟩
noncomputable abbrev sqO (c : Value) (a : Array Value) : Obj := ⟨c, none, .seq a 0, #[]⟩
noncomputable abbrev fiO (c : Value) (a : Array Value) : Obj := ⟨c, none, .fields a, #[]⟩
noncomputable abbrev diO (c : Value) (a : Array DictEntry) (n : Nat) : Obj := ⟨c, none, .dict a n, #[]⟩
noncomputable abbrev fnO (c : Value) (x q : Str) (s : Stmt) (g : Addr) (cl : List (Str × Addr)) (d k dc m : Value) (an : Option Addr) (cd ct : Value) (b : Addr) : Obj := ⟨c, none, .func ⟨x, q, defArgs s, .stmts (defBody s), defScope s, g, cl, d, k, dc, m, an, cd, ct, b⟩, #[]⟩
noncomputable abbrev N : BT := .nil
noncomputable abbrev L (o : Obj) : BT := .node o .nil .nil
noncomputable abbrev B (o : Obj) (l r : BT) : BT := .node o l r
noncomputable def cut (n : Nat) (t : BT) : Nat → Nat → BT := @BT.rec (fun _ => Nat → Nat → BT) (fun _ _ => .nil) (fun v _ _ l r a b => @Bool.rec (fun _ => BT) .nil (.node v (l (Nat.mul 2 a) (Nat.add a b)) (r (Nat.mul 2 a) (Nat.add (Nat.mul 2 a) b))) (Nat.blt b n)) t
noncomputable def o0 : Obj := sqO (.type "tuple") #[]
noncomputable def o1 : Obj := fiO .none #[]
noncomputable def o2 : Obj := fiO (.type "code") #[(vS "<module>" 182), (vS "<module>" 183), (c 184), (z 1), (z 0), (z 0), (z 0), (z 0), (r 11), (.bool false), (z 181), (r 12), .none, .none, .none, .none, (z 185), (z 1), (c 186)]
noncomputable def o3 : Obj := (Obj.mk (.type "frame") none Data.plain #[(some (r 13)), (some (r 3)), (some (r 3)), none, (some (vS "__main__" 164)), none, (some (r 0))])
noncomputable def o4 (P : Params) : Obj := diO (.type "dict") #[(en P "__name__" 165 (vS "roundmill.errors" 187)), (en P "__doc__" 166 .none), (en P "__package__" 167 .none), (en P "__loader__" 168 (.builtin "__main__.__loader__#opaque")), (en P "__spec__" 169 .none), (en P "__annotations__" 170 (r 6)), (en P "__builtins__" 171 (r 4)), (en P "__file__" 173 (c 172)), (en P "__cached__" 174 .none), (en P "MillError" 206 (r 24))] 10
noncomputable def o5 : Obj := fiO .none #[(z 2), (z 0), (r 20)]
noncomputable def o6 : Obj := sqO (.type "tuple") #[(.type "ValueError")]
noncomputable def o7 : Obj := fiO (.type "builtin_function_or_method") #[(.builtin "type.__prepare__"), (.type "type")]
noncomputable def o8 (P : Params) : Obj := diO (.type "dict") #[(en P "__module__" 196 (vS "roundmill.errors" 187)), (en P "__qualname__" 198 (vS "MillError" 197)), (en P "__firstlineno__" 200 (vI 2 199)), (en P "__static_attributes__" 201 (r 22))] 4
noncomputable def o9 : Obj := fiO (.type "code") #[(vS "MillError" 191), (vS "MillError" 192), (c 193), (z 2), (z 0), (z 0), (z 0), (z 0), (r 18), (.bool false), (z 181), (r 19), .none, .none, .none, .none, (z 194), (z 2), (c 195)]
noncomputable def o10 : Obj := (Obj.mk (.type "frame") none Data.plain #[(some (r 20)), (some (r 3)), (some (r 17)), none, (some (vS "roundmill.errors" 187)), none, (some (r 0))])
noncomputable def o11 (P : Params) : Obj := diO (.type "dict") #[(en P "__module__" 196 (vS "roundmill.errors" 187)), (en P "__firstlineno__" 200 (vI 2 199)), (en P "__static_attributes__" 201 (r 22)), (en P "__weakref__" 203 (r 25)), (en P "__doc__" 204 .none)] 3
noncomputable def o12 : Obj := (Obj.mk (.type "type") none (Data.cls (ClassData.mk "MillError" [(.type "ValueError")] [(r 24), (.type "ValueError"), (.type "Exception"), (.type "BaseException"), (.type "object")] 23 "MillError" true [] [] false none false)) #[(some (r 15)), none, (some (vS "MillError" 189)), (some (vS "MillError" 197)), (some (.builtin "ValueError.__new__")), (some (.bool true))])
noncomputable def o13 : Obj := fiO (.type "getset_descriptor") #[(vS "__weakref__" 202), (r 24), (.builtin "ExceptionGroup.__weakref__"), .none]
noncomputable def o14 : Obj := fiO (.type "super") #[(r 24), (r 24), (r 24)]
noncomputable def o15 : Obj := fiO (.type "builtin_function_or_method") #[(.builtin "object.__init_subclass__"), (r 24)]
noncomputable def o16 (P : Params) : Obj := diO (.type "dict") #[(en P "__name__" 165 (vS "roundmill.errors" 187)), (en P "__doc__" 166 .none), (en P "__package__" 167 .none), (en P "__loader__" 168 (.builtin "__main__.__loader__#opaque")), (en P "__spec__" 169 .none), (en P "__annotations__" 170 (r 6)), (en P "__builtins__" 171 (r 4)), (en P "__file__" 173 (c 172)), (en P "__cached__" 174 .none), (en P "MillError" 206 (r 24)), (en P "NoBits" 222 (r 37))] 11
noncomputable def o17 : Obj := fiO .none #[(z 2), (z 0), (r 20), (z 4), (z 0), (r 33)]
noncomputable def o18 : Obj := (Obj.mk (.type "type") none (Data.cls (ClassData.mk "MillError" [(.type "ValueError")] [(r 24), (.type "ValueError"), (.type "Exception"), (.type "BaseException"), (.type "object")] 23 "MillError" true [] [(r 37)] false none false)) #[(some (r 15)), none, (some (vS "MillError" 189)), (some (vS "MillError" 197)), (some (.builtin "ValueError.__new__")), (some (.bool true))])
noncomputable def o19 : Obj := sqO (.type "tuple") #[(r 24)]
noncomputable def o20 (P : Params) : Obj := diO (.type "dict") #[(en P "__module__" 214 (vS "roundmill.errors" 187)), (en P "__qualname__" 216 (vS "NoBits" 215)), (en P "__firstlineno__" 218 (vI 4 217)), (en P "__static_attributes__" 219 (r 35))] 4
noncomputable def o21 : Obj := fiO (.type "code") #[(vS "NoBits" 209), (vS "NoBits" 210), (c 211), (z 4), (z 0), (z 0), (z 0), (z 0), (r 31), (.bool false), (z 181), (r 32), .none, .none, .none, .none, (z 212), (z 4), (c 213)]
noncomputable def o22 : Obj := (Obj.mk (.type "frame") none Data.plain #[(some (r 33)), (some (r 3)), (some (r 30)), none, (some (vS "roundmill.errors" 187)), none, (some (r 0))])
noncomputable def o23 (P : Params) : Obj := diO (.type "dict") #[(en P "__module__" 214 (vS "roundmill.errors" 187)), (en P "__firstlineno__" 218 (vI 4 217)), (en P "__static_attributes__" 219 (r 35)), (en P "__doc__" 220 .none)] 2
noncomputable def o24 : Obj := (Obj.mk (.type "type") none (Data.cls (ClassData.mk "NoBits" [(r 24)] [(r 37), (r 24), (.type "ValueError"), (.type "Exception"), (.type "BaseException"), (.type "object")] 36 "NoBits" true [] [] false none false)) #[(some (r 28)), none, (some (vS "NoBits" 207)), (some (vS "NoBits" 215)), (some (.builtin "ValueError.__new__")), (some (.bool true))])
noncomputable def o25 : Obj := fiO (.type "super") #[(r 37), (r 37), (r 37)]
noncomputable def o26 : Obj := fiO (.type "builtin_function_or_method") #[(.builtin "object.__init_subclass__"), (r 37)]
noncomputable def o27 (P : Params) : Obj := diO (.type "dict") #[(en P "__name__" 165 (vS "roundmill.errors" 187)), (en P "__doc__" 166 .none), (en P "__package__" 167 .none), (en P "__loader__" 168 (.builtin "__main__.__loader__#opaque")), (en P "__spec__" 169 .none), (en P "__annotations__" 170 (r 6)), (en P "__builtins__" 171 (r 4)), (en P "__file__" 173 (c 172)), (en P "__cached__" 174 .none), (en P "MillError" 206 (r 24)), (en P "NoBits" 222 (r 37)), (en P "NotFinite" 238 (r 49))] 12
noncomputable def o28 : Obj := fiO .none #[(z 2), (z 0), (r 20), (z 4), (z 0), (r 33), (z 6), (z 0), (r 45)]
noncomputable def o29 : Obj := (Obj.mk (.type "type") none (Data.cls (ClassData.mk "MillError" [(.type "ValueError")] [(r 24), (.type "ValueError"), (.type "Exception"), (.type "BaseException"), (.type "object")] 23 "MillError" true [] [(r 37), (r 49)] false none false)) #[(some (r 15)), none, (some (vS "MillError" 189)), (some (vS "MillError" 197)), (some (.builtin "ValueError.__new__")), (some (.bool true))])
noncomputable def o30 (P : Params) : Obj := diO (.type "dict") #[(en P "__module__" 230 (vS "roundmill.errors" 187)), (en P "__qualname__" 232 (vS "NotFinite" 231)), (en P "__firstlineno__" 234 (vI 6 233)), (en P "__static_attributes__" 235 (r 47))] 4
noncomputable def o31 : Obj := fiO (.type "code") #[(vS "NotFinite" 225), (vS "NotFinite" 226), (c 227), (z 6), (z 0), (z 0), (z 0), (z 0), (r 43), (.bool false), (z 181), (r 44), .none, .none, .none, .none, (z 228), (z 6), (c 229)]
noncomputable def o32 : Obj := (Obj.mk (.type "frame") none Data.plain #[(some (r 45)), (some (r 3)), (some (r 42)), none, (some (vS "roundmill.errors" 187)), none, (some (r 0))])
noncomputable def o33 (P : Params) : Obj := diO (.type "dict") #[(en P "__module__" 230 (vS "roundmill.errors" 187)), (en P "__firstlineno__" 234 (vI 6 233)), (en P "__static_attributes__" 235 (r 47)), (en P "__doc__" 236 .none)] 2
noncomputable def o34 : Obj := (Obj.mk (.type "type") none (Data.cls (ClassData.mk "NotFinite" [(r 24)] [(r 49), (r 24), (.type "ValueError"), (.type "Exception"), (.type "BaseException"), (.type "object")] 48 "NotFinite" true [] [] false none false)) #[(some (r 40)), none, (some (vS "NotFinite" 223)), (some (vS "NotFinite" 231)), (some (.builtin "ValueError.__new__")), (some (.bool true))])
noncomputable def o35 : Obj := fiO (.type "super") #[(r 49), (r 49), (r 49)]
noncomputable def o36 : Obj := fiO (.type "builtin_function_or_method") #[(.builtin "object.__init_subclass__"), (r 49)]
noncomputable def o37 (P : Params) : Obj := diO (.type "dict") #[(en P "__name__" 165 (vS "roundmill.errors" 187)), (en P "__doc__" 166 .none), (en P "__package__" 167 .none), (en P "__loader__" 168 (.builtin "__main__.__loader__#opaque")), (en P "__spec__" 169 .none), (en P "__annotations__" 170 (r 6)), (en P "__builtins__" 171 (r 4)), (en P "__file__" 173 (c 172)), (en P "__cached__" 174 .none), (en P "MillError" 206 (r 24)), (en P "NoBits" 222 (r 37)), (en P "NotFinite" 238 (r 49)), (en P "NoWay" 254 (r 61))] 13
noncomputable def o38 : Obj := fiO .none #[(z 2), (z 0), (r 20), (z 4), (z 0), (r 33), (z 6), (z 0), (r 45), (z 8), (z 0), (r 57)]
noncomputable def o39 : Obj := (Obj.mk (.type "type") none (Data.cls (ClassData.mk "MillError" [(.type "ValueError")] [(r 24), (.type "ValueError"), (.type "Exception"), (.type "BaseException"), (.type "object")] 23 "MillError" true [] [(r 37), (r 49), (r 61)] false none false)) #[(some (r 15)), none, (some (vS "MillError" 189)), (some (vS "MillError" 197)), (some (.builtin "ValueError.__new__")), (some (.bool true))])
noncomputable def o40 (P : Params) : Obj := diO (.type "dict") #[(en P "__module__" 246 (vS "roundmill.errors" 187)), (en P "__qualname__" 248 (vS "NoWay" 247)), (en P "__firstlineno__" 250 (vI 8 249)), (en P "__static_attributes__" 251 (r 59))] 4
noncomputable def o41 : Obj := fiO (.type "code") #[(vS "NoWay" 241), (vS "NoWay" 242), (c 243), (z 8), (z 0), (z 0), (z 0), (z 0), (r 55), (.bool false), (z 181), (r 56), .none, .none, .none, .none, (z 244), (z 8), (c 245)]
noncomputable def o42 : Obj := (Obj.mk (.type "frame") none Data.plain #[(some (r 57)), (some (r 3)), (some (r 54)), none, (some (vS "roundmill.errors" 187)), none, (some (r 0))])
noncomputable def o43 (P : Params) : Obj := diO (.type "dict") #[(en P "__module__" 246 (vS "roundmill.errors" 187)), (en P "__firstlineno__" 250 (vI 8 249)), (en P "__static_attributes__" 251 (r 59)), (en P "__doc__" 252 .none)] 2
noncomputable def o44 : Obj := (Obj.mk (.type "type") none (Data.cls (ClassData.mk "NoWay" [(r 24)] [(r 61), (r 24), (.type "ValueError"), (.type "Exception"), (.type "BaseException"), (.type "object")] 60 "NoWay" true [] [] false none false)) #[(some (r 52)), none, (some (vS "NoWay" 239)), (some (vS "NoWay" 247)), (some (.builtin "ValueError.__new__")), (some (.bool true))])
noncomputable def o45 : Obj := fiO (.type "super") #[(r 61), (r 61), (r 61)]
noncomputable def o46 : Obj := fiO (.type "builtin_function_or_method") #[(.builtin "object.__init_subclass__"), (r 61)]
noncomputable def o47 (P : Params) : Obj := diO (.type "dict") #[(en P "__name__" 165 (vS "roundmill.errors" 187)), (en P "__doc__" 166 .none), (en P "__package__" 167 .none), (en P "__loader__" 168 (.builtin "__main__.__loader__#opaque")), (en P "__spec__" 169 .none), (en P "__annotations__" 170 (r 6)), (en P "__builtins__" 171 (r 4)), (en P "__file__" 173 (c 172)), (en P "__cached__" 174 .none), (en P "MillError" 206 (r 24)), (en P "NoBits" 222 (r 37)), (en P "NotFinite" 238 (r 49)), (en P "NoWay" 254 (r 61)), (en P "NoFraction" 270 (r 73))] 14
noncomputable def o48 : Obj := fiO .none #[(z 2), (z 0), (r 20), (z 4), (z 0), (r 33), (z 6), (z 0), (r 45), (z 8), (z 0), (r 57), (z 10), (z 0), (r 69)]
noncomputable def o49 : Obj := (Obj.mk (.type "type") none (Data.cls (ClassData.mk "MillError" [(.type "ValueError")] [(r 24), (.type "ValueError"), (.type "Exception"), (.type "BaseException"), (.type "object")] 23 "MillError" true [] [(r 37), (r 49), (r 61), (r 73)] false none false)) #[(some (r 15)), none, (some (vS "MillError" 189)), (some (vS "MillError" 197)), (some (.builtin "ValueError.__new__")), (some (.bool true))])
noncomputable def o50 (P : Params) : Obj := diO (.type "dict") #[(en P "__module__" 262 (vS "roundmill.errors" 187)), (en P "__qualname__" 264 (vS "NoFraction" 263)), (en P "__firstlineno__" 266 (vI 10 265)), (en P "__static_attributes__" 267 (r 71))] 4
noncomputable def o51 : Obj := fiO (.type "code") #[(vS "NoFraction" 257), (vS "NoFraction" 258), (c 259), (z 10), (z 0), (z 0), (z 0), (z 0), (r 67), (.bool false), (z 181), (r 68), .none, .none, .none, .none, (z 260), (z 10), (c 261)]
noncomputable def o52 : Obj := (Obj.mk (.type "frame") none Data.plain #[(some (r 69)), (some (r 3)), (some (r 66)), none, (some (vS "roundmill.errors" 187)), none, (some (r 0))])
noncomputable def o53 (P : Params) : Obj := diO (.type "dict") #[(en P "__module__" 262 (vS "roundmill.errors" 187)), (en P "__firstlineno__" 266 (vI 10 265)), (en P "__static_attributes__" 267 (r 71)), (en P "__doc__" 268 .none)] 2
noncomputable def o54 : Obj := (Obj.mk (.type "type") none (Data.cls (ClassData.mk "NoFraction" [(r 24)] [(r 73), (r 24), (.type "ValueError"), (.type "Exception"), (.type "BaseException"), (.type "object")] 72 "NoFraction" true [] [] false none false)) #[(some (r 64)), none, (some (vS "NoFraction" 255)), (some (vS "NoFraction" 263)), (some (.builtin "ValueError.__new__")), (some (.bool true))])
noncomputable def o55 : Obj := fiO (.type "super") #[(r 73), (r 73), (r 73)]
noncomputable def o56 : Obj := fiO (.type "builtin_function_or_method") #[(.builtin "object.__init_subclass__"), (r 73)]
noncomputable def o57 (P : Params) : Obj := diO (.type "dict") #[(en P "__name__" 165 (vS "roundmill.sizes" 287)), (en P "__doc__" 166 .none), (en P "__package__" 167 .none), (en P "__loader__" 168 (.builtin "__main__.__loader__#opaque")), (en P "__spec__" 169 .none), (en P "__annotations__" 170 (r 6)), (en P "__builtins__" 171 (r 4)), (en P "__file__" 173 (c 172)), (en P "__cached__" 174 .none), (en P "MillError" 206 (r 24)), (en P "NoBits" 222 (r 37)), (en P "NotFinite" 238 (r 49)), (en P "NoWay" 254 (r 61)), (en P "NoFraction" 270 (r 73)), (en P "NoText" 286 (r 85)), (en P "width" 295 (r 94)), (en P "bias" 302 (r 101)), (en P "low" 309 (r 108)), (en P "sign_bit" 316 (r 115)), (en P "last_field" 323 (r 122)), (en P "endless" 330 (r 129))] 21
noncomputable def o58 : Obj := fiO .none #[(z 2), (z 0), (r 20), (z 4), (z 0), (r 33), (z 6), (z 0), (r 45), (z 8), (z 0), (r 57), (z 10), (z 0), (r 69), (z 12), (z 0), (r 81), (z 15), (z 0), (r 93), (z 17), (z 0), (r 100), (z 19), (z 0), (r 107), (z 21), (z 0), (r 114), (z 23), (z 0), (r 121), (z 25), (z 0), (r 128)]
noncomputable def o59 : Obj := (Obj.mk (.type "type") none (Data.cls (ClassData.mk "MillError" [(.type "ValueError")] [(r 24), (.type "ValueError"), (.type "Exception"), (.type "BaseException"), (.type "object")] 23 "MillError" true [] [(r 37), (r 49), (r 61), (r 73), (r 85)] false none false)) #[(some (r 15)), none, (some (vS "MillError" 189)), (some (vS "MillError" 197)), (some (.builtin "ValueError.__new__")), (some (.bool true))])
noncomputable def o60 (P : Params) : Obj := diO (.type "dict") #[(en P "__module__" 278 (vS "roundmill.errors" 187)), (en P "__qualname__" 280 (vS "NoText" 279)), (en P "__firstlineno__" 282 (vI 12 281)), (en P "__static_attributes__" 283 (r 83))] 4
noncomputable def o61 : Obj := fiO (.type "code") #[(vS "NoText" 273), (vS "NoText" 274), (c 275), (z 12), (z 0), (z 0), (z 0), (z 0), (r 79), (.bool false), (z 181), (r 80), .none, .none, .none, .none, (z 276), (z 12), (c 277)]
noncomputable def o62 : Obj := (Obj.mk (.type "frame") none Data.plain #[(some (r 81)), (some (r 3)), (some (r 78)), none, (some (vS "roundmill.errors" 187)), none, (some (r 0))])
noncomputable def o63 (P : Params) : Obj := diO (.type "dict") #[(en P "__module__" 278 (vS "roundmill.errors" 187)), (en P "__firstlineno__" 282 (vI 12 281)), (en P "__static_attributes__" 283 (r 83)), (en P "__doc__" 284 .none)] 2
noncomputable def o64 : Obj := (Obj.mk (.type "type") none (Data.cls (ClassData.mk "NoText" [(r 24)] [(r 85), (r 24), (.type "ValueError"), (.type "Exception"), (.type "BaseException"), (.type "object")] 84 "NoText" true [] [] false none false)) #[(some (r 76)), none, (some (vS "NoText" 271)), (some (vS "NoText" 279)), (some (.builtin "ValueError.__new__")), (some (.bool true))])
noncomputable def o65 : Obj := fiO (.type "super") #[(r 85), (r 85), (r 85)]
noncomputable def o66 : Obj := fiO (.type "builtin_function_or_method") #[(.builtin "object.__init_subclass__"), (r 85)]
noncomputable def o67 : Obj := sqO (.type "tuple") #[(vS "size" 292)]
noncomputable def o68 : Obj := fnO .none "width" "width" (T.top 8) 0 [] .none .none .none .none none .none .none 0
noncomputable def o69 : Obj := fiO (.type "code") #[(vS "width" 289), (vS "width" 290), (c 291), (z 15), (z 1), (z 0), (z 0), (z 3), (r 88), (.bool true), (z 181), (r 89), .none, (r 90), (r 91), (r 92), (z 293), (z 15), (c 294)]
noncomputable def o70 : Obj := fnO (.type "function") "width" "width" (T.top 8) 3 [] .none .none .none (vS "roundmill.sizes" 287) none (r 93) .none 0
noncomputable def o71 : Obj := sqO (.type "tuple") #[(vS "size" 299)]
noncomputable def o72 : Obj := fnO .none "bias" "bias" (T.top 9) 0 [] .none .none .none .none none .none .none 0
noncomputable def o73 : Obj := fiO (.type "code") #[(vS "bias" 296), (vS "bias" 297), (c 298), (z 17), (z 1), (z 0), (z 0), (z 3), (r 95), (.bool true), (z 181), (r 96), .none, (r 97), (r 98), (r 99), (z 300), (z 17), (c 301)]
noncomputable def o74 : Obj := fnO (.type "function") "bias" "bias" (T.top 9) 3 [] .none .none .none (vS "roundmill.sizes" 287) none (r 100) .none 0
noncomputable def o75 : Obj := sqO (.type "tuple") #[(vS "size" 306)]
noncomputable def o76 : Obj := fnO .none "low" "low" (T.top 10) 0 [] .none .none .none .none none .none .none 0
noncomputable def o77 : Obj := fiO (.type "code") #[(vS "low" 303), (vS "low" 304), (c 305), (z 19), (z 1), (z 0), (z 0), (z 3), (r 102), (.bool true), (z 181), (r 103), .none, (r 104), (r 105), (r 106), (z 307), (z 19), (c 308)]
noncomputable def o78 : Obj := fnO (.type "function") "low" "low" (T.top 10) 3 [] .none .none .none (vS "roundmill.sizes" 287) none (r 107) .none 0
noncomputable def o79 : Obj := sqO (.type "tuple") #[(vS "size" 313)]
noncomputable def o80 : Obj := fnO .none "sign_bit" "sign_bit" (T.top 11) 0 [] .none .none .none .none none .none .none 0
noncomputable def o81 : Obj := fiO (.type "code") #[(vS "sign_bit" 310), (vS "sign_bit" 311), (c 312), (z 21), (z 1), (z 0), (z 0), (z 3), (r 109), (.bool true), (z 181), (r 110), .none, (r 111), (r 112), (r 113), (z 314), (z 21), (c 315)]
noncomputable def o82 : Obj := fnO (.type "function") "sign_bit" "sign_bit" (T.top 11) 3 [] .none .none .none (vS "roundmill.sizes" 287) none (r 114) .none 0
noncomputable def o83 : Obj := sqO (.type "tuple") #[(vS "size" 320)]
noncomputable def o84 : Obj := fnO .none "last_field" "last_field" (T.top 12) 0 [] .none .none .none .none none .none .none 0
noncomputable def o85 : Obj := fiO (.type "code") #[(vS "last_field" 317), (vS "last_field" 318), (c 319), (z 23), (z 1), (z 0), (z 0), (z 3), (r 116), (.bool true), (z 181), (r 117), .none, (r 118), (r 119), (r 120), (z 321), (z 23), (c 322)]
noncomputable def o86 : Obj := fnO (.type "function") "last_field" "last_field" (T.top 12) 3 [] .none .none .none (vS "roundmill.sizes" 287) none (r 121) .none 0
noncomputable def o87 : Obj := sqO (.type "tuple") #[(vS "size" 327)]
noncomputable def o88 : Obj := fnO .none "endless" "endless" (T.top 13) 0 [] .none .none .none .none none .none .none 0
noncomputable def o89 : Obj := fiO (.type "code") #[(vS "endless" 324), (vS "endless" 325), (c 326), (z 25), (z 1), (z 0), (z 0), (z 3), (r 123), (.bool true), (z 181), (r 124), .none, (r 125), (r 126), (r 127), (z 328), (z 25), (c 329)]
noncomputable def o90 : Obj := fnO (.type "function") "endless" "endless" (T.top 13) 3 [] .none .none .none (vS "roundmill.sizes" 287) none (r 128) .none 0
noncomputable def o91 (P : Params) : Obj := diO (.type "dict") #[(en P "__name__" 165 (vS "roundmill.parts" 388)), (en P "__doc__" 166 .none), (en P "__package__" 167 .none), (en P "__loader__" 168 (.builtin "__main__.__loader__#opaque")), (en P "__spec__" 169 .none), (en P "__annotations__" 170 (r 6)), (en P "__builtins__" 171 (r 4)), (en P "__file__" 173 (c 172)), (en P "__cached__" 174 .none), (en P "MillError" 206 (r 24)), (en P "NoBits" 222 (r 37)), (en P "NotFinite" 238 (r 49)), (en P "NoWay" 254 (r 61)), (en P "NoFraction" 270 (r 73)), (en P "NoText" 286 (r 85)), (en P "width" 295 (r 94)), (en P "bias" 302 (r 101)), (en P "low" 309 (r 108)), (en P "sign_bit" 316 (r 115)), (en P "last_field" 323 (r 122)), (en P "endless" 330 (r 129)), (en P "check_fraction" 340 (r 136)), (en P "scaled" 349 (r 143)), (en P "height" 359 (r 150)), (en P "rest_by_middle" 368 (r 157)), (en P "rest_of" 376 (r 164)), (en P "cut" 387 (r 171)), (en P "parted" 399 (r 178)), (en P "kind" 410 (r 185)), (en P "worth" 422 (r 192)), (en P "worth_fraction" 431 (r 199)), (en P "fraction" 439 (r 206)), (en P "signed" 448 (r 213))] 33
noncomputable def o92 : Obj := fiO .none #[(z 2), (z 0), (r 20), (z 4), (z 0), (r 33), (z 6), (z 0), (r 45), (z 8), (z 0), (r 57), (z 10), (z 0), (r 69), (z 12), (z 0), (r 81), (z 15), (z 0), (r 93), (z 17), (z 0), (r 100), (z 19), (z 0), (r 107), (z 21), (z 0), (r 114), (z 23), (z 0), (r 121), (z 25), (z 0), (r 128), (z 28), (z 0), (r 135), (z 31), (z 0), (r 142), (z 35), (z 0), (r 149), (z 39), (z 0), (r 156), (z 45), (z 0), (r 163), (z 47), (z 0), (r 170), (z 55), (z 0), (r 177), (z 61), (z 0), (r 184), (z 70), (z 0), (r 191), (z 80), (z 0), (r 198), (z 86), (z 0), (r 205), (z 88), (z 0), (r 212)]
noncomputable def o93 : Obj := sqO (.type "tuple") #[(vS "top" 336), (vS "bottom" 337)]
noncomputable def o94 : Obj := fnO .none "check_fraction" "check_fraction" (T.top 15) 0 [] .none .none .none .none none .none .none 0
noncomputable def o95 : Obj := fiO (.type "code") #[(vS "check_fraction" 333), (vS "check_fraction" 334), (c 335), (z 28), (z 2), (z 0), (z 0), (z 3), (r 130), (.bool true), (z 181), (r 131), .none, (r 132), (r 133), (r 134), (z 338), (z 28), (c 339)]
noncomputable def o96 : Obj := fnO (.type "function") "check_fraction" "check_fraction" (T.top 15) 3 [] .none .none .none (vS "roundmill.cutting" 331) none (r 135) .none 0
noncomputable def o97 : Obj := sqO (.type "tuple") #[(vS "top" 344), (vS "bottom" 345), (vS "power" 346)]
noncomputable def o98 : Obj := fnO .none "scaled" "scaled" (T.top 16) 0 [] .none .none .none .none none .none .none 0
noncomputable def o99 : Obj := fiO (.type "code") #[(vS "scaled" 341), (vS "scaled" 342), (c 343), (z 31), (z 3), (z 0), (z 0), (z 3), (r 137), (.bool true), (z 181), (r 138), .none, (r 139), (r 140), (r 141), (z 347), (z 31), (c 348)]
noncomputable def o100 : Obj := fnO (.type "function") "scaled" "scaled" (T.top 16) 3 [] .none .none .none (vS "roundmill.cutting" 331) none (r 142) .none 0
noncomputable def o101 : Obj := sqO (.type "tuple") #[(vS "top" 353), (vS "bottom" 354), (vS "guess" 355), (vS "parts" 356)]
noncomputable def o102 : Obj := fnO .none "height" "height" (T.top 17) 0 [] .none .none .none .none none .none .none 0
noncomputable def o103 : Obj := fiO (.type "code") #[(vS "height" 350), (vS "height" 351), (c 352), (z 35), (z 2), (z 0), (z 0), (z 3), (r 144), (.bool true), (z 181), (r 145), .none, (r 146), (r 147), (r 148), (z 357), (z 35), (c 358)]
noncomputable def o104 : Obj := fnO (.type "function") "height" "height" (T.top 17) 3 [] .none .none .none (vS "roundmill.cutting" 331) none (r 149) .none 0
noncomputable def o105 : Obj := sqO (.type "tuple") #[(vS "over" 363), (vS "number" 364), (vS "middle" 365)]
noncomputable def o106 : Obj := fnO .none "rest_by_middle" "rest_by_middle" (T.top 18) 0 [] .none .none .none .none none .none .none 0
noncomputable def o107 : Obj := fiO (.type "code") #[(vS "rest_by_middle" 360), (vS "rest_by_middle" 361), (c 362), (z 39), (z 3), (z 0), (z 0), (z 3), (r 151), (.bool true), (z 181), (r 152), .none, (r 153), (r 154), (r 155), (z 366), (z 39), (c 367)]
noncomputable def o108 : Obj := fnO (.type "function") "rest_by_middle" "rest_by_middle" (T.top 18) 3 [] .none .none .none (vS "roundmill.cutting" 331) none (r 156) .none 0
noncomputable def o109 : Obj := sqO (.type "tuple") #[(vS "over" 372), (vS "step" 373)]
noncomputable def o110 : Obj := fnO .none "rest_of" "rest_of" (T.top 19) 0 [] .none .none .none .none none .none .none 0
noncomputable def o111 : Obj := fiO (.type "code") #[(vS "rest_of" 369), (vS "rest_of" 370), (c 371), (z 45), (z 2), (z 0), (z 0), (z 3), (r 158), (.bool true), (z 181), (r 159), .none, (r 160), (r 161), (r 162), (z 374), (z 45), (c 375)]
noncomputable def o112 : Obj := fnO (.type "function") "rest_of" "rest_of" (T.top 19) 3 [] .none .none .none (vS "roundmill.cutting" 331) none (r 163) .none 0
noncomputable def o113 : Obj := sqO (.type "tuple") #[(vS "size" 380), (vS "top" 381), (vS "bottom" 382), (vS "power" 383), (vS "parts" 384)]
noncomputable def o114 : Obj := fnO .none "cut" "cut" (T.top 20) 0 [] .none .none .none .none none .none .none 0
noncomputable def o115 : Obj := fiO (.type "code") #[(vS "cut" 377), (vS "cut" 378), (c 379), (z 47), (z 3), (z 0), (z 0), (z 3), (r 165), (.bool true), (z 181), (r 166), .none, (r 167), (r 168), (r 169), (z 385), (z 47), (c 386)]
noncomputable def o116 : Obj := fnO (.type "function") "cut" "cut" (T.top 20) 3 [] .none .none .none (vS "roundmill.cutting" 331) none (r 170) .none 0
noncomputable def o117 : Obj := sqO (.type "tuple") #[(vS "size" 393), (vS "bits" 394), (vS "code" 395), (vS "step" 396)]
noncomputable def o118 : Obj := fnO .none "parted" "parted" (T.top 22) 0 [] .none .none .none .none none .none .none 0
noncomputable def o119 : Obj := fiO (.type "code") #[(vS "parted" 390), (vS "parted" 391), (c 392), (z 55), (z 2), (z 0), (z 0), (z 3), (r 172), (.bool true), (z 181), (r 173), .none, (r 174), (r 175), (r 176), (z 397), (z 55), (c 398)]
noncomputable def o120 : Obj := fnO (.type "function") "parted" "parted" (T.top 22) 3 [] .none .none .none (vS "roundmill.parts" 388) none (r 177) .none 0
noncomputable def o121 : Obj := sqO (.type "tuple") #[(vS "size" 403), (vS "bits" 404), (vS "parts" 405), (vS "field" 406), (vS "figures" 407)]
noncomputable def o122 : Obj := fnO .none "kind" "kind" (T.top 23) 0 [] .none .none .none .none none .none .none 0
noncomputable def o123 : Obj := fiO (.type "code") #[(vS "kind" 400), (vS "kind" 401), (c 402), (z 61), (z 2), (z 0), (z 0), (z 3), (r 179), (.bool true), (z 181), (r 180), .none, (r 181), (r 182), (r 183), (z 408), (z 61), (c 409)]
noncomputable def o124 : Obj := fnO (.type "function") "kind" "kind" (T.top 23) 3 [] .none .none .none (vS "roundmill.parts" 388) none (r 184) .none 0
noncomputable def o125 : Obj := sqO (.type "tuple") #[(vS "size" 414), (vS "bits" 415), (vS "parts" 416), (vS "sign" 417), (vS "field" 418), (vS "figures" 419)]
noncomputable def o126 : Obj := fnO .none "worth" "worth" (T.top 24) 0 [] .none .none .none .none none .none .none 0
noncomputable def o127 : Obj := fiO (.type "code") #[(vS "worth" 411), (vS "worth" 412), (c 413), (z 70), (z 2), (z 0), (z 0), (z 3), (r 186), (.bool true), (z 181), (r 187), .none, (r 188), (r 189), (r 190), (z 420), (z 70), (c 421)]
noncomputable def o128 : Obj := fnO (.type "function") "worth" "worth" (T.top 24) 3 [] .none .none .none (vS "roundmill.parts" 388) none (r 191) .none 0
noncomputable def o129 : Obj := sqO (.type "tuple") #[(vS "value" 426), (vS "whole" 427), (vS "power" 428)]
noncomputable def o130 : Obj := fnO .none "worth_fraction" "worth_fraction" (T.top 25) 0 [] .none .none .none .none none .none .none 0
noncomputable def o131 : Obj := fiO (.type "code") #[(vS "worth_fraction" 423), (vS "worth_fraction" 424), (c 425), (z 80), (z 1), (z 0), (z 0), (z 3), (r 193), (.bool true), (z 181), (r 194), .none, (r 195), (r 196), (r 197), (z 429), (z 80), (c 430)]
noncomputable def o132 : Obj := fnO (.type "function") "worth_fraction" "worth_fraction" (T.top 25) 3 [] .none .none .none (vS "roundmill.parts" 388) none (r 198) .none 0
noncomputable def o133 : Obj := sqO (.type "tuple") #[(vS "size" 435), (vS "bits" 436)]
noncomputable def o134 : Obj := fnO .none "fraction" "fraction" (T.top 26) 0 [] .none .none .none .none none .none .none 0
noncomputable def o135 : Obj := fiO (.type "code") #[(vS "fraction" 432), (vS "fraction" 433), (c 434), (z 86), (z 2), (z 0), (z 0), (z 3), (r 200), (.bool true), (z 181), (r 201), .none, (r 202), (r 203), (r 204), (z 437), (z 86), (c 438)]
noncomputable def o136 : Obj := fnO (.type "function") "fraction" "fraction" (T.top 26) 3 [] .none .none .none (vS "roundmill.parts" 388) none (r 205) .none 0
noncomputable def o137 : Obj := sqO (.type "tuple") #[(vS "size" 443), (vS "sign" 444), (vS "code" 445)]
noncomputable def o138 : Obj := fnO .none "signed" "signed" (T.top 27) 0 [] .none .none .none .none none .none .none 0
noncomputable def o139 : Obj := fiO (.type "code") #[(vS "signed" 440), (vS "signed" 441), (c 442), (z 88), (z 3), (z 0), (z 0), (z 3), (r 207), (.bool true), (z 181), (r 208), .none, (r 209), (r 210), (r 211), (z 446), (z 88), (c 447)]
noncomputable def o140 : Obj := fnO (.type "function") "signed" "signed" (T.top 27) 3 [] .none .none .none (vS "roundmill.parts" 388) none (r 212) .none 0
noncomputable def o141 (P : Params) : Obj := diO (.type "dict") #[(en P "__name__" 165 (vS "roundmill.ways" 455)), (en P "__doc__" 166 .none), (en P "__package__" 167 .none), (en P "__loader__" 168 (.builtin "__main__.__loader__#opaque")), (en P "__spec__" 169 .none), (en P "__annotations__" 170 (r 6)), (en P "__builtins__" 171 (r 4)), (en P "__file__" 173 (c 172)), (en P "__cached__" 174 .none), (en P "MillError" 206 (r 24)), (en P "NoBits" 222 (r 37)), (en P "NotFinite" 238 (r 49)), (en P "NoWay" 254 (r 61)), (en P "NoFraction" 270 (r 73)), (en P "NoText" 286 (r 85)), (en P "width" 295 (r 94)), (en P "bias" 302 (r 101)), (en P "low" 309 (r 108)), (en P "sign_bit" 316 (r 115)), (en P "last_field" 323 (r 122)), (en P "endless" 330 (r 129)), (en P "check_fraction" 340 (r 136)), (en P "scaled" 349 (r 143)), (en P "height" 359 (r 150)), (en P "rest_by_middle" 368 (r 157)), (en P "rest_of" 376 (r 164)), (en P "cut" 387 (r 171)), (en P "parted" 399 (r 178)), (en P "kind" 410 (r 185)), (en P "worth" 422 (r 192)), (en P "worth_fraction" 431 (r 199)), (en P "fraction" 439 (r 206)), (en P "signed" 448 (r 213)), (en P "INEXACT" 450 (vI 1 449)), (en P "SMALL" 452 (vI 2 451)), (en P "GREAT" 454 (vI 4 453)), (en P "NAMES" 462 (r 214)), (en P "Way" 517 (r 252)), (en P "way_of" 524 (r 263))] 39
noncomputable def o142 : Obj := fiO .none #[(z 2), (z 0), (r 20), (z 4), (z 0), (r 33), (z 6), (z 0), (r 45), (z 8), (z 0), (r 57), (z 10), (z 0), (r 69), (z 12), (z 0), (r 81), (z 15), (z 0), (r 93), (z 17), (z 0), (r 100), (z 19), (z 0), (r 107), (z 21), (z 0), (r 114), (z 23), (z 0), (r 121), (z 25), (z 0), (r 128), (z 28), (z 0), (r 135), (z 31), (z 0), (r 142), (z 35), (z 0), (r 149), (z 39), (z 0), (r 156), (z 45), (z 0), (r 163), (z 47), (z 0), (r 170), (z 55), (z 0), (r 177), (z 61), (z 0), (r 184), (z 70), (z 0), (r 191), (z 80), (z 0), (r 198), (z 86), (z 0), (r 205), (z 88), (z 0), (r 212), (z 95), (z 0), (r 220), (z 118), (z 0), (r 262)]
noncomputable def o143 : Obj := sqO (.type "tuple") #[(vS "even" 457), (vS "away" 458), (vS "nought" 459), (vS "up" 460), (vS "down" 461)]
noncomputable def o144 (P : Params) : Obj := diO (.type "dict") #[(en P "__module__" 470 (vS "roundmill.ways" 455)), (en P "__qualname__" 472 (vS "Way" 471)), (en P "__firstlineno__" 474 (vI 95 473)), (en P "__init__" 482 (r 228)), (en P "grows" 492 (r 235)), (en P "bursts" 500 (r 242)), (en P "flees_nought" 508 (r 249)), (en P "__static_attributes__" 510 (r 250))] 8
noncomputable def o145 : Obj := fiO .none #[(z 97), (z 4), (r 227), (z 100), (z 4), (r 234), (z 109), (z 4), (r 241), (z 114), (z 4), (r 248)]
noncomputable def o146 : Obj := fiO (.type "code") #[(vS "Way" 465), (vS "Way" 466), (c 467), (z 95), (z 0), (z 0), (z 0), (z 0), (r 218), (.bool false), (z 181), (r 219), .none, .none, .none, .none, (z 468), (z 95), (c 469)]
noncomputable def o147 : Obj := (Obj.mk (.type "frame") none Data.plain #[(some (r 220)), (some (r 3)), (some (r 217)), none, (some (vS "roundmill.ways" 455)), none, (some (r 0))])
noncomputable def o148 : Obj := sqO (.type "tuple") #[(vS "self" 478), (vS "name" 479)]
noncomputable def o149 : Obj := fnO .none "__init__" "Way.__init__" ((clsBody (T.top 33)).getD 0 (.Pass ⟨0, 0, 0, 0⟩)) 0 [] .none .none .none .none none .none .none 0
noncomputable def o150 : Obj := fiO (.type "code") #[(vS "__init__" 475), (vS "Way.__init__" 476), (c 477), (z 97), (z 2), (z 0), (z 0), (z 3), (r 222), (.bool true), (z 181), (r 223), .none, (r 224), (r 225), (r 226), (z 480), (z 97), (c 481)]
noncomputable def o151 : Obj := fnO (.type "function") "__init__" "Way.__init__" ((clsBody (T.top 33)).getD 0 (.Pass ⟨0, 0, 0, 0⟩)) 3 [] .none .none .none (vS "roundmill.ways" 455) none (r 227) .none 0
noncomputable def o152 : Obj := sqO (.type "tuple") #[(vS "self" 486), (vS "sign" 487), (vS "odd" 488), (vS "rest" 489)]
noncomputable def o153 : Obj := fnO .none "grows" "Way.grows" ((clsBody (T.top 33)).getD 1 (.Pass ⟨0, 0, 0, 0⟩)) 0 [] .none .none .none .none none .none .none 0
noncomputable def o154 : Obj := fiO (.type "code") #[(vS "grows" 483), (vS "Way.grows" 484), (c 485), (z 100), (z 4), (z 0), (z 0), (z 3), (r 229), (.bool true), (z 181), (r 230), .none, (r 231), (r 232), (r 233), (z 490), (z 100), (c 491)]
noncomputable def o155 : Obj := fnO (.type "function") "grows" "Way.grows" ((clsBody (T.top 33)).getD 1 (.Pass ⟨0, 0, 0, 0⟩)) 3 [] .none .none .none (vS "roundmill.ways" 455) none (r 234) .none 0
noncomputable def o156 : Obj := sqO (.type "tuple") #[(vS "self" 496), (vS "sign" 497)]
noncomputable def o157 : Obj := fnO .none "bursts" "Way.bursts" ((clsBody (T.top 33)).getD 2 (.Pass ⟨0, 0, 0, 0⟩)) 0 [] .none .none .none .none none .none .none 0
noncomputable def o158 : Obj := fiO (.type "code") #[(vS "bursts" 493), (vS "Way.bursts" 494), (c 495), (z 109), (z 2), (z 0), (z 0), (z 3), (r 236), (.bool true), (z 181), (r 237), .none, (r 238), (r 239), (r 240), (z 498), (z 109), (c 499)]
noncomputable def o159 : Obj := fnO (.type "function") "bursts" "Way.bursts" ((clsBody (T.top 33)).getD 2 (.Pass ⟨0, 0, 0, 0⟩)) 3 [] .none .none .none (vS "roundmill.ways" 455) none (r 241) .none 0
noncomputable def o160 : Obj := sqO (.type "tuple") #[(vS "self" 504), (vS "sign" 505)]
noncomputable def o161 : Obj := fnO .none "flees_nought" "Way.flees_nought" ((clsBody (T.top 33)).getD 3 (.Pass ⟨0, 0, 0, 0⟩)) 0 [] .none .none .none .none none .none .none 0
noncomputable def o162 : Obj := fiO (.type "code") #[(vS "flees_nought" 501), (vS "Way.flees_nought" 502), (c 503), (z 114), (z 2), (z 0), (z 0), (z 3), (r 243), (.bool true), (z 181), (r 244), .none, (r 245), (r 246), (r 247), (z 506), (z 114), (c 507)]
noncomputable def o163 : Obj := fnO (.type "function") "flees_nought" "Way.flees_nought" ((clsBody (T.top 33)).getD 3 (.Pass ⟨0, 0, 0, 0⟩)) 3 [] .none .none .none (vS "roundmill.ways" 455) none (r 248) .none 0
noncomputable def o164 : Obj := sqO (.type "tuple") #[(vS "name" 509)]
noncomputable def o165 (P : Params) : Obj := diO (.type "dict") #[(en P "__module__" 470 (vS "roundmill.ways" 455)), (en P "__firstlineno__" 474 (vI 95 473)), (en P "__init__" 482 (r 228)), (en P "grows" 492 (r 235)), (en P "bursts" 500 (r 242)), (en P "flees_nought" 508 (r 249)), (en P "__static_attributes__" 510 (r 250)), (en P "__dict__" 512 (r 253)), (en P "__weakref__" 514 (r 254)), (en P "__doc__" 515 .none)] 4
noncomputable def o166 : Obj := (Obj.mk (.type "type") none (Data.cls (ClassData.mk "Way" [(.type "object")] [(r 252), (.type "object")] 251 "Way" true [] [] false none false)) #[none, none, (some (vS "Way" 463)), (some (vS "Way" 471)), (some (.builtin "object.__new__")), (some (.bool true))])
noncomputable def o167 : Obj := fiO (.type "getset_descriptor") #[(vS "__dict__" 511), (r 252), (.builtin "function.__dict__"), (.builtin "function.__dict__#set")]
noncomputable def o168 : Obj := fiO (.type "getset_descriptor") #[(vS "__weakref__" 513), (r 252), (.builtin "ExceptionGroup.__weakref__"), .none]
noncomputable def o169 : Obj := fiO (.type "super") #[(r 252), (r 252), (r 252)]
noncomputable def o170 : Obj := fiO (.type "builtin_function_or_method") #[(.builtin "object.__init_subclass__"), (r 252)]
noncomputable def o171 : Obj := sqO (.type "tuple") #[(vS "name" 521)]
noncomputable def o172 : Obj := fnO .none "way_of" "way_of" (T.top 34) 0 [] .none .none .none .none none .none .none 0
noncomputable def o173 : Obj := fiO (.type "code") #[(vS "way_of" 518), (vS "way_of" 519), (c 520), (z 118), (z 1), (z 0), (z 0), (z 3), (r 257), (.bool true), (z 181), (r 258), .none, (r 259), (r 260), (r 261), (z 522), (z 118), (c 523)]
noncomputable def o174 : Obj := fnO (.type "function") "way_of" "way_of" (T.top 34) 3 [] .none .none .none (vS "roundmill.ways" 455) none (r 262) .none 0
noncomputable def o175 (P : Params) : Obj := diO (.type "dict") #[(en P "__name__" 165 (vS "roundmill.writing" 584)), (en P "__doc__" 166 .none), (en P "__package__" 167 .none), (en P "__loader__" 168 (.builtin "__main__.__loader__#opaque")), (en P "__spec__" 169 .none), (en P "__annotations__" 170 (r 6)), (en P "__builtins__" 171 (r 4)), (en P "__file__" 173 (c 172)), (en P "__cached__" 174 .none), (en P "MillError" 206 (r 24)), (en P "NoBits" 222 (r 37)), (en P "NotFinite" 238 (r 49)), (en P "NoWay" 254 (r 61)), (en P "NoFraction" 270 (r 73)), (en P "NoText" 286 (r 85)), (en P "width" 295 (r 94)), (en P "bias" 302 (r 101)), (en P "low" 309 (r 108)), (en P "sign_bit" 316 (r 115)), (en P "last_field" 323 (r 122)), (en P "endless" 330 (r 129)), (en P "check_fraction" 340 (r 136)), (en P "scaled" 349 (r 143)), (en P "height" 359 (r 150)), (en P "rest_by_middle" 368 (r 157)), (en P "rest_of" 376 (r 164)), (en P "cut" 387 (r 171)), (en P "parted" 399 (r 178)), (en P "kind" 410 (r 185)), (en P "worth" 422 (r 192)), (en P "worth_fraction" 431 (r 199)), (en P "fraction" 439 (r 206)), (en P "signed" 448 (r 213)), (en P "INEXACT" 450 (vI 1 449)), (en P "SMALL" 452 (vI 2 451)), (en P "GREAT" 454 (vI 4 453)), (en P "NAMES" 462 (r 214)), (en P "Way" 517 (r 252)), (en P "way_of" 524 (r 263)), (en P "settled" 542 (r 270)), (en P "lost_flags" 552 (r 277)), (en P "rounded" 564 (r 284)), (en P "ten_to" 574 (r 291)), (en P "tenfold" 583 (r 298)), (en P "reads_back" 597 (r 305)), (en P "ten_height" 606 (r 312)), (en P "below_ten_to" 616 (r 319)), (en P "shortest" 628 (r 326)), (en P "nearest_back" 643 (r 333)), (en P "bare_spelling" 652 (r 340))] 50
noncomputable def o176 : Obj := fiO .none #[(z 2), (z 0), (r 20), (z 4), (z 0), (r 33), (z 6), (z 0), (r 45), (z 8), (z 0), (r 57), (z 10), (z 0), (r 69), (z 12), (z 0), (r 81), (z 15), (z 0), (r 93), (z 17), (z 0), (r 100), (z 19), (z 0), (r 107), (z 21), (z 0), (r 114), (z 23), (z 0), (r 121), (z 25), (z 0), (r 128), (z 28), (z 0), (r 135), (z 31), (z 0), (r 142), (z 35), (z 0), (r 149), (z 39), (z 0), (r 156), (z 45), (z 0), (r 163), (z 47), (z 0), (r 170), (z 55), (z 0), (r 177), (z 61), (z 0), (r 184), (z 70), (z 0), (r 191), (z 80), (z 0), (r 198), (z 86), (z 0), (r 205), (z 88), (z 0), (r 212), (z 95), (z 0), (r 220), (z 118), (z 0), (r 262), (z 123), (z 0), (r 269), (z 134), (z 0), (r 276), (z 139), (z 0), (r 283), (z 144), (z 0), (r 290), (z 149), (z 0), (r 297), (z 154), (z 0), (r 304), (z 158), (z 0), (r 311), (z 163), (z 0), (r 318), (z 166), (z 0), (r 325), (z 177), (z 0), (r 332), (z 186), (z 0), (r 339)]
noncomputable def o177 : Obj := sqO (.type "tuple") #[(vS "size" 530), (vS "way" 531), (vS "sign" 532), (vS "whole" 533), (vS "power" 534), (vS "rest" 535), (vS "chosen" 536), (vS "code" 537), (vS "end" 538), (vS "taken" 539)]
noncomputable def o178 : Obj := fnO .none "settled" "settled" (T.top 36) 0 [] .none .none .none .none none .none .none 0
noncomputable def o179 : Obj := fiO (.type "code") #[(vS "settled" 527), (vS "settled" 528), (c 529), (z 123), (z 6), (z 0), (z 0), (z 3), (r 264), (.bool true), (z 181), (r 265), .none, (r 266), (r 267), (r 268), (z 540), (z 123), (c 541)]
noncomputable def o180 : Obj := fnO (.type "function") "settled" "settled" (T.top 36) 3 [] .none .none .none (vS "roundmill.rounding" 525) none (r 269) .none 0
noncomputable def o181 : Obj := sqO (.type "tuple") #[(vS "size" 546), (vS "code" 547), (vS "taken" 548), (vS "faint" 549)]
noncomputable def o182 : Obj := fnO .none "lost_flags" "lost_flags" (T.top 37) 0 [] .none .none .none .none none .none .none 0
noncomputable def o183 : Obj := fiO (.type "code") #[(vS "lost_flags" 543), (vS "lost_flags" 544), (c 545), (z 134), (z 3), (z 0), (z 0), (z 3), (r 271), (.bool true), (z 181), (r 272), .none, (r 273), (r 274), (r 275), (z 550), (z 134), (c 551)]
noncomputable def o184 : Obj := fnO (.type "function") "lost_flags" "lost_flags" (T.top 37) 3 [] .none .none .none (vS "roundmill.rounding" 525) none (r 276) .none 0
noncomputable def o185 : Obj := sqO (.type "tuple") #[(vS "size" 556), (vS "way" 557), (vS "sign" 558), (vS "top" 559), (vS "bottom" 560), (vS "parts" 561)]
noncomputable def o186 : Obj := fnO .none "rounded" "rounded" (T.top 38) 0 [] .none .none .none .none none .none .none 0
noncomputable def o187 : Obj := fiO (.type "code") #[(vS "rounded" 553), (vS "rounded" 554), (c 555), (z 139), (z 5), (z 0), (z 0), (z 3), (r 278), (.bool true), (z 181), (r 279), .none, (r 280), (r 281), (r 282), (z 562), (z 139), (c 563)]
noncomputable def o188 : Obj := fnO (.type "function") "rounded" "rounded" (T.top 38) 3 [] .none .none .none (vS "roundmill.rounding" 525) none (r 283) .none 0
noncomputable def o189 : Obj := sqO (.type "tuple") #[(vS "number" 570), (vS "half" 571)]
noncomputable def o190 : Obj := fnO .none "ten_to" "ten_to" (T.top 40) 0 [] .none .none .none .none none .none .none 0
noncomputable def o191 : Obj := fiO (.type "code") #[(vS "ten_to" 567), (vS "ten_to" 568), (c 569), (z 144), (z 1), (z 0), (z 0), (z 3), (r 285), (.bool true), (z 181), (r 286), .none, (r 287), (r 288), (r 289), (z 572), (z 144), (c 573)]
noncomputable def o192 : Obj := fnO (.type "function") "ten_to" "ten_to" (T.top 40) 3 [] .none .none .none (vS "roundmill.reading" 565) none (r 290) .none 0
noncomputable def o193 : Obj := sqO (.type "tuple") #[(vS "top" 578), (vS "bottom" 579), (vS "place" 580)]
noncomputable def o194 : Obj := fnO .none "tenfold" "tenfold" (T.top 41) 0 [] .none .none .none .none none .none .none 0
noncomputable def o195 : Obj := fiO (.type "code") #[(vS "tenfold" 575), (vS "tenfold" 576), (c 577), (z 149), (z 3), (z 0), (z 0), (z 3), (r 292), (.bool true), (z 181), (r 293), .none, (r 294), (r 295), (r 296), (z 581), (z 149), (c 582)]
noncomputable def o196 : Obj := fnO (.type "function") "tenfold" "tenfold" (T.top 41) 3 [] .none .none .none (vS "roundmill.reading" 565) none (r 297) .none 0
noncomputable def o197 : Obj := sqO (.type "tuple") #[(vS "size" 589), (vS "bits" 590), (vS "figures" 591), (vS "place" 592), (vS "sign" 593), (vS "value" 594)]
noncomputable def o198 : Obj := fnO .none "reads_back" "reads_back" (T.top 43) 0 [] .none .none .none .none none .none .none 0
noncomputable def o199 : Obj := fiO (.type "code") #[(vS "reads_back" 586), (vS "reads_back" 587), (c 588), (z 154), (z 4), (z 0), (z 0), (z 3), (r 299), (.bool true), (z 181), (r 300), .none, (r 301), (r 302), (r 303), (z 595), (z 154), (c 596)]
noncomputable def o200 : Obj := fnO (.type "function") "reads_back" "reads_back" (T.top 43) 3 [] .none .none .none (vS "roundmill.writing" 584) none (r 304) .none 0
noncomputable def o201 : Obj := sqO (.type "tuple") #[(vS "top" 601), (vS "bottom" 602), (vS "guess" 603)]
noncomputable def o202 : Obj := fnO .none "ten_height" "ten_height" (T.top 44) 0 [] .none .none .none .none none .none .none 0
noncomputable def o203 : Obj := fiO (.type "code") #[(vS "ten_height" 598), (vS "ten_height" 599), (c 600), (z 158), (z 2), (z 0), (z 0), (z 3), (r 306), (.bool true), (z 181), (r 307), .none, (r 308), (r 309), (r 310), (z 604), (z 158), (c 605)]
noncomputable def o204 : Obj := fnO (.type "function") "ten_height" "ten_height" (T.top 44) 3 [] .none .none .none (vS "roundmill.writing" 584) none (r 311) .none 0
noncomputable def o205 : Obj := sqO (.type "tuple") #[(vS "top" 610), (vS "bottom" 611), (vS "number" 612), (vS "parts" 613)]
noncomputable def o206 : Obj := fnO .none "below_ten_to" "below_ten_to" (T.top 45) 0 [] .none .none .none .none none .none .none 0
noncomputable def o207 : Obj := fiO (.type "code") #[(vS "below_ten_to" 607), (vS "below_ten_to" 608), (c 609), (z 163), (z 3), (z 0), (z 0), (z 3), (r 313), (.bool true), (z 181), (r 314), .none, (r 315), (r 316), (r 317), (z 614), (z 163), (c 615)]
noncomputable def o208 : Obj := fnO (.type "function") "below_ten_to" "below_ten_to" (T.top 45) 3 [] .none .none .none (vS "roundmill.writing" 584) none (r 318) .none 0
noncomputable def o209 : Obj := sqO (.type "tuple") #[(vS "size" 620), (vS "bits" 621), (vS "value" 622), (vS "place" 623), (vS "figures" 624), (vS "parts" 625)]
noncomputable def o210 : Obj := fnO .none "shortest" "shortest" (T.top 46) 0 [] .none .none .none .none none .none .none 0
noncomputable def o211 : Obj := fiO (.type "code") #[(vS "shortest" 617), (vS "shortest" 618), (c 619), (z 166), (z 2), (z 0), (z 0), (z 3), (r 320), (.bool true), (z 181), (r 321), .none, (r 322), (r 323), (r 324), (z 626), (z 166), (c 627)]
noncomputable def o212 : Obj := fnO (.type "function") "shortest" "shortest" (T.top 46) 3 [] .none .none .none (vS "roundmill.writing" 584) none (r 325) .none 0
noncomputable def o213 : Obj := sqO (.type "tuple") #[(vS "size" 632), (vS "bits" 633), (vS "place" 634), (vS "parts" 635), (vS "lower" 636), (vS "double_over" 637), (vS "greater_first" 638), (vS "choices" 639), (vS "figures" 640)]
noncomputable def o214 : Obj := fnO .none "nearest_back" "nearest_back" (T.top 47) 0 [] .none .none .none .none none .none .none 0
noncomputable def o215 : Obj := fiO (.type "code") #[(vS "nearest_back" 629), (vS "nearest_back" 630), (c 631), (z 177), (z 4), (z 0), (z 0), (z 3), (r 327), (.bool true), (z 181), (r 328), .none, (r 329), (r 330), (r 331), (z 641), (z 177), (c 642)]
noncomputable def o216 : Obj := fnO (.type "function") "nearest_back" "nearest_back" (T.top 47) 3 [] .none .none .none (vS "roundmill.writing" 584) none (r 332) .none 0
noncomputable def o217 : Obj := sqO (.type "tuple") #[(vS "sign" 647), (vS "figures" 648), (vS "place" 649)]
noncomputable def o218 : Obj := fnO .none "bare_spelling" "bare_spelling" (T.top 48) 0 [] .none .none .none .none none .none .none 0
noncomputable def o219 : Obj := fiO (.type "code") #[(vS "bare_spelling" 644), (vS "bare_spelling" 645), (c 646), (z 186), (z 3), (z 0), (z 0), (z 3), (r 334), (.bool true), (z 181), (r 335), .none, (r 336), (r 337), (r 338), (z 650), (z 186), (c 651)]
noncomputable def o220 : Obj := fnO (.type "function") "bare_spelling" "bare_spelling" (T.top 48) 3 [] .none .none .none (vS "roundmill.writing" 584) none (r 339) .none 0
noncomputable def o221 (P : Params) : Obj := diO (.type "dict") #[(en P "__name__" 165 (vS "law_roundmill_k56_shown" 693)), (en P "__doc__" 166 .none), (en P "__package__" 167 .none), (en P "__loader__" 168 (.builtin "__main__.__loader__#opaque")), (en P "__spec__" 169 .none), (en P "__annotations__" 170 (r 6)), (en P "__builtins__" 171 (r 4)), (en P "__file__" 173 (c 172)), (en P "__cached__" 174 .none), (en P "MillError" 206 (r 24)), (en P "NoBits" 222 (r 37)), (en P "NotFinite" 238 (r 49)), (en P "NoWay" 254 (r 61)), (en P "NoFraction" 270 (r 73)), (en P "NoText" 286 (r 85)), (en P "width" 295 (r 94)), (en P "bias" 302 (r 101)), (en P "low" 309 (r 108)), (en P "sign_bit" 316 (r 115)), (en P "last_field" 323 (r 122)), (en P "endless" 330 (r 129)), (en P "check_fraction" 340 (r 136)), (en P "scaled" 349 (r 143)), (en P "height" 359 (r 150)), (en P "rest_by_middle" 368 (r 157)), (en P "rest_of" 376 (r 164)), (en P "cut" 387 (r 171)), (en P "parted" 399 (r 178)), (en P "kind" 410 (r 185)), (en P "worth" 422 (r 192)), (en P "worth_fraction" 431 (r 199)), (en P "fraction" 439 (r 206)), (en P "signed" 448 (r 213)), (en P "INEXACT" 450 (vI 1 449)), (en P "SMALL" 452 (vI 2 451)), (en P "GREAT" 454 (vI 4 453)), (en P "NAMES" 462 (r 214)), (en P "Way" 517 (r 252)), (en P "way_of" 524 (r 263)), (en P "settled" 542 (r 270)), (en P "lost_flags" 552 (r 277)), (en P "rounded" 564 (r 284)), (en P "ten_to" 574 (r 291)), (en P "tenfold" 583 (r 298)), (en P "reads_back" 597 (r 305)), (en P "ten_height" 606 (r 312)), (en P "below_ten_to" 616 (r 319)), (en P "shortest" 628 (r 326)), (en P "nearest_back" 643 (r 333)), (en P "bare_spelling" 652 (r 340)), (en P "laid" 664 (r 347)), (en P "laid_in_full" 673 (r 354)), (en P "laid_short" 682 (r 361)), (en P "shown" 692 (r 368)), (en P "_law_cell_at" 702 (r 375)), (en P "_law_size_by" 711 (r 382)), (en P "_law_power" 719 (r 389)), (en P "_law_number_by" 729 (r 396)), (en P "_law_code_of" 739 (r 403)), (en P "_law_text_of" 748 (r 410)), (en P "_law_is_text" 758 (r 417)), (en P "_law_refused" 768 (r 424))] 62
noncomputable def o222 : Obj := fiO .none #[(z 2), (z 0), (r 20), (z 4), (z 0), (r 33), (z 6), (z 0), (r 45), (z 8), (z 0), (r 57), (z 10), (z 0), (r 69), (z 12), (z 0), (r 81), (z 15), (z 0), (r 93), (z 17), (z 0), (r 100), (z 19), (z 0), (r 107), (z 21), (z 0), (r 114), (z 23), (z 0), (r 121), (z 25), (z 0), (r 128), (z 28), (z 0), (r 135), (z 31), (z 0), (r 142), (z 35), (z 0), (r 149), (z 39), (z 0), (r 156), (z 45), (z 0), (r 163), (z 47), (z 0), (r 170), (z 55), (z 0), (r 177), (z 61), (z 0), (r 184), (z 70), (z 0), (r 191), (z 80), (z 0), (r 198), (z 86), (z 0), (r 205), (z 88), (z 0), (r 212), (z 95), (z 0), (r 220), (z 118), (z 0), (r 262), (z 123), (z 0), (r 269), (z 134), (z 0), (r 276), (z 139), (z 0), (r 283), (z 144), (z 0), (r 290), (z 149), (z 0), (r 297), (z 154), (z 0), (r 304), (z 158), (z 0), (r 311), (z 163), (z 0), (r 318), (z 166), (z 0), (r 325), (z 177), (z 0), (r 332), (z 186), (z 0), (r 339), (z 191), (z 0), (r 346), (z 200), (z 0), (r 353), (z 206), (z 0), (r 360), (z 209), (z 0), (r 367), (z 218), (z 0), (r 374), (z 222), (z 0), (r 381), (z 236), (z 0), (r 388), (z 243), (z 0), (r 395), (z 251), (z 0), (r 402), (z 255), (z 0), (r 409), (z 263), (z 0), (r 416), (z 266), (z 0), (r 423)]
noncomputable def o223 : Obj := sqO (.type "tuple") #[(vS "sign" 656), (vS "figures" 657), (vS "place" 658), (vS "ahead" 659), (vS "written" 660), (vS "top_place" 661)]
noncomputable def o224 : Obj := fnO .none "laid" "laid" (T.top 49) 0 [] .none .none .none .none none .none .none 0
noncomputable def o225 : Obj := fiO (.type "code") #[(vS "laid" 653), (vS "laid" 654), (c 655), (z 191), (z 3), (z 0), (z 0), (z 3), (r 341), (.bool true), (z 181), (r 342), .none, (r 343), (r 344), (r 345), (z 662), (z 191), (c 663)]
noncomputable def o226 : Obj := fnO (.type "function") "laid" "laid" (T.top 49) 3 [] .none .none .none (vS "roundmill.writing" 584) none (r 346) .none 0
noncomputable def o227 : Obj := sqO (.type "tuple") #[(vS "written" 668), (vS "place" 669), (vS "top_place" 670)]
noncomputable def o228 : Obj := fnO .none "laid_in_full" "laid_in_full" (T.top 50) 0 [] .none .none .none .none none .none .none 0
noncomputable def o229 : Obj := fiO (.type "code") #[(vS "laid_in_full" 665), (vS "laid_in_full" 666), (c 667), (z 200), (z 3), (z 0), (z 0), (z 3), (r 348), (.bool true), (z 181), (r 349), .none, (r 350), (r 351), (r 352), (z 671), (z 200), (c 672)]
noncomputable def o230 : Obj := fnO (.type "function") "laid_in_full" "laid_in_full" (T.top 50) 3 [] .none .none .none (vS "roundmill.writing" 584) none (r 353) .none 0
noncomputable def o231 : Obj := sqO (.type "tuple") #[(vS "written" 677), (vS "top_place" 678), (vS "behind" 679)]
noncomputable def o232 : Obj := fnO .none "laid_short" "laid_short" (T.top 51) 0 [] .none .none .none .none none .none .none 0
noncomputable def o233 : Obj := fiO (.type "code") #[(vS "laid_short" 674), (vS "laid_short" 675), (c 676), (z 206), (z 2), (z 0), (z 0), (z 3), (r 355), (.bool true), (z 181), (r 356), .none, (r 357), (r 358), (r 359), (z 680), (z 206), (c 681)]
noncomputable def o234 : Obj := fnO (.type "function") "laid_short" "laid_short" (T.top 51) 3 [] .none .none .none (vS "roundmill.writing" 584) none (r 360) .none 0
noncomputable def o235 : Obj := sqO (.type "tuple") #[(vS "size" 686), (vS "bits" 687), (vS "found" 688), (vS "spelling" 689)]
noncomputable def o236 : Obj := fnO .none "shown" "shown" (T.top 52) 0 [] .none .none .none .none none .none .none 0
noncomputable def o237 : Obj := fiO (.type "code") #[(vS "shown" 683), (vS "shown" 684), (c 685), (z 209), (z 2), (z 0), (z 0), (z 3), (r 362), (.bool true), (z 181), (r 363), .none, (r 364), (r 365), (r 366), (z 690), (z 209), (c 691)]
noncomputable def o238 : Obj := fnO (.type "function") "shown" "shown" (T.top 52) 3 [] .none .none .none (vS "roundmill.writing" 584) none (r 367) .none 0
noncomputable def o239 : Obj := sqO (.type "tuple") #[(vS "_law_script" 698), (vS "_law_k" 699)]
noncomputable def o240 : Obj := fnO .none "_law_cell_at" "_law_cell_at" (T.top 54) 0 [] .none .none .none .none none .none .none 0
noncomputable def o241 : Obj := fiO (.type "code") #[(vS "_law_cell_at" 695), (vS "_law_cell_at" 696), (c 697), (z 218), (z 2), (z 0), (z 0), (z 3), (r 369), (.bool true), (z 181), (r 370), .none, (r 371), (r 372), (r 373), (z 700), (z 218), (c 701)]
noncomputable def o242 : Obj := fnO (.type "function") "_law_cell_at" "_law_cell_at" (T.top 54) 3 [] .none .none .none (vS "law_roundmill_k56_shown" 693) none (r 374) .none 0
noncomputable def o243 : Obj := sqO (.type "tuple") #[(vS "_law_cell" 706), (vS "_law_way" 707), (vS "_law_rest" 708)]
noncomputable def o244 : Obj := fnO .none "_law_size_by" "_law_size_by" (T.top 55) 0 [] .none .none .none .none none .none .none 0
noncomputable def o245 : Obj := fiO (.type "code") #[(vS "_law_size_by" 703), (vS "_law_size_by" 704), (c 705), (z 222), (z 1), (z 0), (z 0), (z 3), (r 376), (.bool true), (z 181), (r 377), .none, (r 378), (r 379), (r 380), (z 709), (z 222), (c 710)]
noncomputable def o246 : Obj := fnO (.type "function") "_law_size_by" "_law_size_by" (T.top 55) 3 [] .none .none .none (vS "law_roundmill_k56_shown" 693) none (r 381) .none 0
noncomputable def o247 : Obj := sqO (.type "tuple") #[(vS "_law_n" 715), (vS "_law_half" 716)]
noncomputable def o248 : Obj := fnO .none "_law_power" "_law_power" (T.top 56) 0 [] .none .none .none .none none .none .none 0
noncomputable def o249 : Obj := fiO (.type "code") #[(vS "_law_power" 712), (vS "_law_power" 713), (c 714), (z 236), (z 1), (z 0), (z 0), (z 3), (r 383), (.bool true), (z 181), (r 384), .none, (r 385), (r 386), (r 387), (z 717), (z 236), (c 718)]
noncomputable def o250 : Obj := fnO (.type "function") "_law_power" "_law_power" (T.top 56) 3 [] .none .none .none (vS "law_roundmill_k56_shown" 693) none (r 388) .none 0
noncomputable def o251 : Obj := sqO (.type "tuple") #[(vS "_law_size" 723), (vS "_law_cell" 724), (vS "_law_many" 725), (vS "_law_rest" 726)]
noncomputable def o252 : Obj := fnO .none "_law_number_by" "_law_number_by" (T.top 57) 0 [] .none .none .none .none none .none .none 0
noncomputable def o253 : Obj := fiO (.type "code") #[(vS "_law_number_by" 720), (vS "_law_number_by" 721), (c 722), (z 243), (z 2), (z 0), (z 0), (z 3), (r 390), (.bool true), (z 181), (r 391), .none, (r 392), (r 393), (r 394), (z 727), (z 243), (c 728)]
noncomputable def o254 : Obj := fnO (.type "function") "_law_number_by" "_law_number_by" (T.top 57) 3 [] .none .none .none (vS "law_roundmill_k56_shown" 693) none (r 395) .none 0
noncomputable def o255 : Obj := sqO (.type "tuple") #[(vS "_law_size" 733), (vS "_law_number" 734), (vS "_law_at" 735), (vS "_law_field" 736)]
noncomputable def o256 : Obj := fnO .none "_law_code_of" "_law_code_of" (T.top 58) 0 [] .none .none .none .none none .none .none 0
noncomputable def o257 : Obj := fiO (.type "code") #[(vS "_law_code_of" 730), (vS "_law_code_of" 731), (c 732), (z 251), (z 2), (z 0), (z 0), (z 3), (r 397), (.bool true), (z 181), (r 398), .none, (r 399), (r 400), (r 401), (z 737), (z 251), (c 738)]
noncomputable def o258 : Obj := fnO (.type "function") "_law_code_of" "_law_code_of" (T.top 58) 3 [] .none .none .none (vS "law_roundmill_k56_shown" 693) none (r 402) .none 0
noncomputable def o259 : Obj := sqO (.type "tuple") #[(vS "_law_number" 743), (vS "_law_digits" 744), (vS "_law_some" 745)]
noncomputable def o260 : Obj := fnO .none "_law_text_of" "_law_text_of" (T.top 59) 0 [] .none .none .none .none none .none .none 0
noncomputable def o261 : Obj := fiO (.type "code") #[(vS "_law_text_of" 740), (vS "_law_text_of" 741), (c 742), (z 255), (z 1), (z 0), (z 0), (z 3), (r 404), (.bool true), (z 181), (r 405), .none, (r 406), (r 407), (r 408), (z 746), (z 255), (c 747)]
noncomputable def o262 : Obj := fnO (.type "function") "_law_text_of" "_law_text_of" (T.top 59) 3 [] .none .none .none (vS "law_roundmill_k56_shown" 693) none (r 409) .none 0
noncomputable def o263 : Obj := sqO (.type "tuple") #[(vS "_law_size" 752), (vS "_law_bits" 753), (vS "_law_text" 754), (vS "_law_found" 755)]
noncomputable def o264 : Obj := fnO .none "_law_is_text" "_law_is_text" (T.top 60) 0 [] .none .none .none .none none .none .none 0
noncomputable def o265 : Obj := fiO (.type "code") #[(vS "_law_is_text" 749), (vS "_law_is_text" 750), (c 751), (z 263), (z 3), (z 0), (z 0), (z 3), (r 411), (.bool true), (z 181), (r 412), .none, (r 413), (r 414), (r 415), (z 756), (z 263), (c 757)]
noncomputable def o266 : Obj := fnO (.type "function") "_law_is_text" "_law_is_text" (T.top 60) 3 [] .none .none .none (vS "law_roundmill_k56_shown" 693) none (r 416) .none 0
noncomputable def o267 : Obj := sqO (.type "tuple") #[(vS "_law_size" 762), (vS "_law_bits" 763), (vS "_law_caught" 764), (vS "e" 765)]
noncomputable def o268 : Obj := fnO .none "_law_refused" "_law_refused" (T.top 61) 0 [] .none .none .none .none none .none .none 0
noncomputable def o269 : Obj := fiO (.type "code") #[(vS "_law_refused" 759), (vS "_law_refused" 760), (c 761), (z 266), (z 2), (z 0), (z 0), (z 3), (r 418), (.bool true), (z 181), (r 419), .none, (r 420), (r 421), (r 422), (z 766), (z 266), (c 767)]
noncomputable def o270 : Obj := fnO (.type "function") "_law_refused" "_law_refused" (T.top 61) 3 [] .none .none .none (vS "law_roundmill_k56_shown" 693) none (r 423) .none 0
noncomputable def o271 (P : Params) : Obj := diO (.type "dict") #[(en P "__name__" 165 (vS "law_roundmill_k56_shown" 693)), (en P "__doc__" 166 .none), (en P "__package__" 167 .none), (en P "__loader__" 168 (.builtin "__main__.__loader__#opaque")), (en P "__spec__" 169 .none), (en P "__annotations__" 170 (r 6)), (en P "__builtins__" 171 (r 4)), (en P "__file__" 173 (c 172)), (en P "__cached__" 174 .none), (en P "MillError" 206 (r 24)), (en P "NoBits" 222 (r 37)), (en P "NotFinite" 238 (r 49)), (en P "NoWay" 254 (r 61)), (en P "NoFraction" 270 (r 73)), (en P "NoText" 286 (r 85)), (en P "width" 295 (r 94)), (en P "bias" 302 (r 101)), (en P "low" 309 (r 108)), (en P "sign_bit" 316 (r 115)), (en P "last_field" 323 (r 122)), (en P "endless" 330 (r 129)), (en P "check_fraction" 340 (r 136)), (en P "scaled" 349 (r 143)), (en P "height" 359 (r 150)), (en P "rest_by_middle" 368 (r 157)), (en P "rest_of" 376 (r 164)), (en P "cut" 387 (r 171)), (en P "parted" 399 (r 178)), (en P "kind" 410 (r 185)), (en P "worth" 422 (r 192)), (en P "worth_fraction" 431 (r 199)), (en P "fraction" 439 (r 206)), (en P "signed" 448 (r 213)), (en P "INEXACT" 450 (vI 1 449)), (en P "SMALL" 452 (vI 2 451)), (en P "GREAT" 454 (vI 4 453)), (en P "NAMES" 462 (r 214)), (en P "Way" 517 (r 252)), (en P "way_of" 524 (r 263)), (en P "settled" 542 (r 270)), (en P "lost_flags" 552 (r 277)), (en P "rounded" 564 (r 284)), (en P "ten_to" 574 (r 291)), (en P "tenfold" 583 (r 298)), (en P "reads_back" 597 (r 305)), (en P "ten_height" 606 (r 312)), (en P "below_ten_to" 616 (r 319)), (en P "shortest" 628 (r 326)), (en P "nearest_back" 643 (r 333)), (en P "bare_spelling" 652 (r 340)), (en P "laid" 664 (r 347)), (en P "laid_in_full" 673 (r 354)), (en P "laid_short" 682 (r 361)), (en P "shown" 692 (r 368)), (en P "_law_cell_at" 702 (r 375)), (en P "_law_size_by" 711 (r 382)), (en P "_law_power" 719 (r 389)), (en P "_law_number_by" 729 (r 396)), (en P "_law_code_of" 739 (r 403)), (en P "_law_text_of" 748 (r 410)), (en P "_law_is_text" 758 (r 417)), (en P "_law_refused" 768 (r 424)), (en P "law" 782 (r 431))] 63
noncomputable def o272 : Obj := fiO .none #[(z 2), (z 0), (r 20), (z 4), (z 0), (r 33), (z 6), (z 0), (r 45), (z 8), (z 0), (r 57), (z 10), (z 0), (r 69), (z 12), (z 0), (r 81), (z 15), (z 0), (r 93), (z 17), (z 0), (r 100), (z 19), (z 0), (r 107), (z 21), (z 0), (r 114), (z 23), (z 0), (r 121), (z 25), (z 0), (r 128), (z 28), (z 0), (r 135), (z 31), (z 0), (r 142), (z 35), (z 0), (r 149), (z 39), (z 0), (r 156), (z 45), (z 0), (r 163), (z 47), (z 0), (r 170), (z 55), (z 0), (r 177), (z 61), (z 0), (r 184), (z 70), (z 0), (r 191), (z 80), (z 0), (r 198), (z 86), (z 0), (r 205), (z 88), (z 0), (r 212), (z 95), (z 0), (r 220), (z 118), (z 0), (r 262), (z 123), (z 0), (r 269), (z 134), (z 0), (r 276), (z 139), (z 0), (r 283), (z 144), (z 0), (r 290), (z 149), (z 0), (r 297), (z 154), (z 0), (r 304), (z 158), (z 0), (r 311), (z 163), (z 0), (r 318), (z 166), (z 0), (r 325), (z 177), (z 0), (r 332), (z 186), (z 0), (r 339), (z 191), (z 0), (r 346), (z 200), (z 0), (r 353), (z 206), (z 0), (r 360), (z 209), (z 0), (r 367), (z 218), (z 0), (r 374), (z 222), (z 0), (r 381), (z 236), (z 0), (r 388), (z 243), (z 0), (r 395), (z 251), (z 0), (r 402), (z 255), (z 0), (r 409), (z 263), (z 0), (r 416), (z 266), (z 0), (r 423), (z 275), (z 0), (r 430)]
noncomputable def o273 : Obj := sqO (.type "tuple") #[(vS "_law_script" 772), (vS "_law_size" 773), (vS "_law_minus" 774), (vS "_law_last" 775), (vS "_law_sign" 776), (vS "_law_odd" 777), (vS "_law_far" 778), (vS "_law_number" 779)]
noncomputable def o274 : Obj := fnO .none "law" "law" (T.top 62) 0 [] .none .none .none .none none .none .none 0
noncomputable def o275 : Obj := fiO (.type "code") #[(vS "law" 769), (vS "law" 770), (c 771), (z 275), (z 1), (z 0), (z 0), (z 3), (r 425), (.bool true), (z 181), (r 426), .none, (r 427), (r 428), (r 429), (z 780), (z 275), (c 781)]
noncomputable def o276 : Obj := fnO (.type "function") "law" "law" (T.top 62) 3 [] .none .none .none (vS "law_roundmill_k56_shown" 693) none (r 430) .none 0
noncomputable def full (P : Params) : BT := (B (boot_o_0 P) (B (boot_o_1 P) (B (o271 P) (B (boot_o_7 P) (B o6 (B o0 (B o46 (B o88 (L o169) (L o0)) (B o127 (L o208) N)) (B o0 (B o1 (L o189) (L o264)) (B o1 (L o0) N))) (B o0 (B o0 (B o100 (L o0) (L o255)) (B o0 (L o1) N)) (B o79 (B o0 (L o198) (L o276)) (B o0 (L o237) N)))) (B (o11 P) (B o26 (B o0 (B o95 (L o174) (L o1)) (B o132 (L o0) N)) (B o1 (B o113 (L o0) (L o269)) (B o152 (L o232) N))) (B o0 (B o66 (B o0 (L o1) (L o0)) (B o0 (L o223) N)) (B o0 (B o122 (L o203) N) (B o161 (L o242) N))))) (B o0 (B o1 (B o0 (B o0 (B o1 (L o171) (L o248)) (B o129 (L o0) N)) (B o72 (B o111 (L o192) (L o1)) (B o150 (L o0) N))) (B o36 (B o0 (B o0 (L o182) (L o258)) (B o138 (L o219) N)) (B o82 (B o0 (L o1) N) (B o0 (L o239) N)))) (B o15 (B o0 (B o56 (B o97 (L o0) (L o253)) (B o0 (L o214) N)) (B o77 (B o116 (L o0) (L o273)) (B o155 (L o1) N))) (B o0 (B o0 (B o106 (L o187) (L o0)) (B o145 (L o226) N)) (B o0 (B o1 (L o205) N) (B (o165 P) (L o0) N)))))) (B (boot_o_5 P) (B (boot_o_9 P) (B (o8 P) (B o21 (B o7 (B o90 (L o0) (L o247)) (B o0 (L o1) N)) (B o71 (B o0 (L o190) (L o266)) (B o0 (L o229) N))) (B o34 (B o61 (B o1 (L o181) (L o256)) (B o137 (L o0) N)) (B o80 (B o119 (L o200) N) (B o158 (L o0) N)))) (B o13 (B o7 (B o54 (B o0 (L o1) (L o0)) (B o1 (L o213) N)) (B o0 (B o114 (L o195) (L o0)) (B o153 (L o234) N))) (B o41 (B o1 (B o105 (L o0) (L o261)) (B (o144 P) (L o224) N)) (B o85 (B o124 (L o0) N) (B o163 (L o1) N))))) (B o2 (B o10 (B o24 (B o51 (B o0 (L o172) (L o250)) (B o130 (L o211) N)) (B o74 (B o0 (L o1) (L o0)) (B o0 (L o231) N))) (B o7 (B o64 (B o103 (L o184) (L o1)) (B o140 (L o0) N)) (B o1 (B o121 (L o0) N) (B o160 (L o240) N)))) (B o7 (B o31 (B o7 (B o98 (L o179) (L o0)) (B o135 (L o216) N)) (B o0 (B o1 (L o197) (L o274)) (B o1 (L o0) N))) (B o44 (B o69 (B o108 (L o0) (L o263)) (B o147 (L o1) N)) (B o87 (B o0 (L o206) N) (B o167 (L o245) N))))))) (B (boot_o_2 P) (B (boot_o_4 P) (B (boot_o_8 P) (B o7 (B o1 (B o19 (B o89 (L o170) (L o1)) (B o128 (L o0) N)) (B o1 (B o109 (L o0) (L o265)) (B o148 (L o228) N))) (B (o33 P) (B o1 (B o0 (L o1) (L o0)) (B o1 (L o217) N)) (B o0 (B o118 (L o199) N) (B o157 (L o238) N)))) (B o59 (B o19 (B (o53 P) (B o96 (L o0) (L o251)) (B o0 (L o1) N)) (B o75 (B o0 (L o194) (L o270)) (B o0 (L o233) N))) (B o1 (B o0 (B o1 (L o185) (L o260)) (B o7 (L o0) N)) (B o84 (B o123 (L o204) N) (B o162 (L o0) N))))) (B o272 (B o9 (B (o23 P) (B o1 (B o93 (L o0) (L o249)) (B o0 (L o210) N)) (B o73 (B o112 (L o0) (L o267)) (B o151 (L o1) N))) (B o19 (B (o63 P) (B o102 (L o183) (L o0)) (B o139 (L o220) N)) (B o0 (B o1 (L o201) N) (B o1 (L o0) N)))) (B o19 (B o1 (B o19 (B o0 (L o178) (L o254)) (B o134 (L o215) N)) (B o78 (B o0 (L o1) (L o0)) (B o0 (L o235) N))) (B (o43 P) (B o68 (B o107 (L o188) (L o1)) (B o146 (L o0) N)) (B o1 (B o125 (L o0) N) (B o166 (L o244) N)))))) (B (boot_o_6 P) (B (boot_o_10 P) (B o0 (B o22 (B (o50 P) (B o0 (L o1) (L o0)) (B o1 (L o209) N)) (B o0 (B o110 (L o191) (L o0)) (B o149 (L o230) N))) (B o35 (B o62 (B o101 (L o0) (L o257)) (B o0 (L o218) N)) (B o81 (B o120 (L o0) N) (B o159 (L o1) N)))) (B o14 (B (o30 P) (B o55 (B o1 (L o177) (L o252)) (B o133 (L o0) N)) (B o76 (B o115 (L o196) (L o1)) (B o154 (L o0) N))) (B o42 (B o67 (B o0 (L o186) (L o262)) (B o0 (L o225) N)) (B o86 (B o0 (L o1) N) (B o164 (L o243) N))))) (B o3 (B o0 (B o25 (B o52 (B o94 (L o173) (L o0)) (B o131 (L o212) N)) (B o0 (B o1 (L o193) (L o268)) (B o1 (L o0) N))) (B (o40 P) (B o65 (B o104 (L o0) (L o259)) (B o143 (L o1) N)) (B o83 (B o0 (L o202) N) (B o0 (L o241) N)))) (B (o20 P) (B o32 (B (o60 P) (B o99 (L o180) (L o1)) (B o136 (L o0) N)) (B o1 (B o117 (L o0) (L o275)) (B o156 (L o236) N))) (B o45 (B o70 (B o0 (L o1) (L o0)) (B o0 (L o227) N)) (B o0 (B o126 (L o207) N) (B o168 (L o246) N))))))))
noncomputable def t_0 (P : Params) : BT := (((cut 15 (full P) 1 0).ins 3 (boot_o_3 P)).ins 12 (o1))
noncomputable def t_1 (P : Params) : BT := ((((cut 28 (full P) 1 0).ins 3 (o4 P)).ins 12 (o5)).ins 24 (o12))
noncomputable def t_2 (P : Params) : BT := ((((cut 40 (full P) 1 0).ins 3 (o16 P)).ins 12 (o17)).ins 24 (o18))
noncomputable def t_3 (P : Params) : BT := ((((cut 52 (full P) 1 0).ins 3 (o27 P)).ins 12 (o28)).ins 24 (o29))
noncomputable def t_4 (P : Params) : BT := ((((cut 64 (full P) 1 0).ins 3 (o37 P)).ins 12 (o38)).ins 24 (o39))
noncomputable def t_5 (P : Params) : BT := ((((cut 76 (full P) 1 0).ins 3 (o47 P)).ins 12 (o48)).ins 24 (o49))
noncomputable def t_6 (P : Params) : BT := (((cut 130 (full P) 1 0).ins 3 (o57 P)).ins 12 (o58))
noncomputable def t_7 (P : Params) : BT := (((cut 214 (full P) 1 0).ins 3 (o91 P)).ins 12 (o92))
noncomputable def t_8 (P : Params) : BT := (((cut 264 (full P) 1 0).ins 3 (o141 P)).ins 12 (o142))
noncomputable def t_9 (P : Params) : BT := (((cut 341 (full P) 1 0).ins 3 (o175 P)).ins 12 (o176))
noncomputable def t_10 (P : Params) : BT := (((cut 425 (full P) 1 0).ins 3 (o221 P)).ins 12 (o222))
noncomputable def t_11 (P : Params) : BT := (cut 432 (full P) 1 0)
noncomputable def ha (P : Params) : Heap := ⟨⟨[boot_o_0 P, boot_o_1 P, boot_o_2 P, boot_o_3 P, boot_o_4 P, boot_o_5 P, boot_o_6 P, boot_o_7 P, boot_o_8 P, boot_o_9 P, boot_o_10 P, o0, o1, o2, o3]⟩, (Life.mk [] [] [] 0 [] [] false #[] [] 0 false false false 0 [2000, 10, 10] false 0 true [] [] 0 false)⟩
noncomputable def hf (P : Params) : Heap := absHeap (full P) 432 (Life.mk [] [] [] 0 [] [] false #[] [] 0 false false false 0 [2000, 10, 10] false 0 true [] [] 0 false)
noncomputable def K (P : Params) : Frag := (nat_lit 2, boot_o_2 P) :: (nat_lit 3, o271 P) :: (nat_lit 15, o6) :: (nat_lit 22, o0) :: (nat_lit 23, o11 P) :: (nat_lit 24, o59) :: (nat_lit 25, o13) :: (nat_lit 28, o19) :: (nat_lit 35, o0) :: (nat_lit 36, o23 P) :: (nat_lit 37, o24) :: (nat_lit 40, o19) :: (nat_lit 47, o0) :: (nat_lit 48, o33 P) :: (nat_lit 49, o34) :: (nat_lit 52, o19) :: (nat_lit 59, o0) :: (nat_lit 60, o43 P) :: (nat_lit 61, o44) :: (nat_lit 64, o19) :: (nat_lit 71, o0) :: (nat_lit 72, o53 P) :: (nat_lit 73, o54) :: (nat_lit 76, o19) :: (nat_lit 83, o0) :: (nat_lit 84, o63 P) :: (nat_lit 85, o64) :: (nat_lit 88, o0) :: (nat_lit 90, o67) :: (nat_lit 91, o0) :: (nat_lit 93, o69) :: (nat_lit 94, o70) :: (nat_lit 95, o0) :: (nat_lit 97, o71) :: (nat_lit 98, o0) :: (nat_lit 100, o73) :: (nat_lit 101, o74) :: (nat_lit 102, o0) :: (nat_lit 104, o75) :: (nat_lit 105, o0) :: (nat_lit 107, o77) :: (nat_lit 108, o78) :: (nat_lit 109, o0) :: (nat_lit 111, o79) :: (nat_lit 112, o0) :: (nat_lit 114, o81) :: (nat_lit 115, o82) :: (nat_lit 116, o0) :: (nat_lit 118, o83) :: (nat_lit 119, o0) :: (nat_lit 121, o85) :: (nat_lit 122, o86) :: (nat_lit 123, o0) :: (nat_lit 125, o87) :: (nat_lit 126, o0) :: (nat_lit 128, o89) :: (nat_lit 129, o90) :: (nat_lit 130, o0) :: (nat_lit 132, o93) :: (nat_lit 133, o0) :: (nat_lit 135, o95) :: (nat_lit 136, o96) :: (nat_lit 137, o0) :: (nat_lit 139, o97) :: (nat_lit 140, o0) :: (nat_lit 142, o99) :: (nat_lit 143, o100) :: (nat_lit 144, o0) :: (nat_lit 146, o101) :: (nat_lit 147, o0) :: (nat_lit 149, o103) :: (nat_lit 150, o104) :: (nat_lit 151, o0) :: (nat_lit 153, o105) :: (nat_lit 154, o0) :: (nat_lit 156, o107) :: (nat_lit 157, o108) :: (nat_lit 158, o0) :: (nat_lit 160, o109) :: (nat_lit 161, o0) :: (nat_lit 163, o111) :: (nat_lit 164, o112) :: (nat_lit 165, o0) :: (nat_lit 167, o113) :: (nat_lit 168, o0) :: (nat_lit 170, o115) :: (nat_lit 171, o116) :: (nat_lit 172, o0) :: (nat_lit 174, o117) :: (nat_lit 175, o0) :: (nat_lit 177, o119) :: (nat_lit 178, o120) :: (nat_lit 179, o0) :: (nat_lit 181, o121) :: (nat_lit 182, o0) :: (nat_lit 184, o123) :: (nat_lit 185, o124) :: (nat_lit 186, o0) :: (nat_lit 188, o125) :: (nat_lit 189, o0) :: (nat_lit 191, o127) :: (nat_lit 192, o128) :: (nat_lit 193, o0) :: (nat_lit 195, o129) :: (nat_lit 196, o0) :: (nat_lit 198, o131) :: (nat_lit 199, o132) :: (nat_lit 200, o0) :: (nat_lit 202, o133) :: (nat_lit 203, o0) :: (nat_lit 205, o135) :: (nat_lit 206, o136) :: (nat_lit 207, o0) :: (nat_lit 209, o137) :: (nat_lit 210, o0) :: (nat_lit 212, o139) :: (nat_lit 213, o140) :: (nat_lit 214, o143) :: (nat_lit 222, o0) :: (nat_lit 224, o148) :: (nat_lit 225, o0) :: (nat_lit 227, o150) :: (nat_lit 228, o151) :: (nat_lit 229, o0) :: (nat_lit 231, o152) :: (nat_lit 232, o0) :: (nat_lit 234, o154) :: (nat_lit 235, o155) :: (nat_lit 236, o0) :: (nat_lit 238, o156) :: (nat_lit 239, o0) :: (nat_lit 241, o158) :: (nat_lit 242, o159) :: (nat_lit 243, o0) :: (nat_lit 245, o160) :: (nat_lit 246, o0) :: (nat_lit 248, o162) :: (nat_lit 249, o163) :: (nat_lit 250, o164) :: (nat_lit 251, o165 P) :: (nat_lit 252, o166) :: (nat_lit 253, o167) :: (nat_lit 254, o168) :: (nat_lit 257, o0) :: (nat_lit 259, o171) :: (nat_lit 260, o0) :: (nat_lit 262, o173) :: (nat_lit 263, o174) :: (nat_lit 264, o0) :: (nat_lit 266, o177) :: (nat_lit 267, o0) :: (nat_lit 269, o179) :: (nat_lit 270, o180) :: (nat_lit 271, o0) :: (nat_lit 273, o181) :: (nat_lit 274, o0) :: (nat_lit 276, o183) :: (nat_lit 277, o184) :: (nat_lit 278, o0) :: (nat_lit 280, o185) :: (nat_lit 281, o0) :: (nat_lit 283, o187) :: (nat_lit 284, o188) :: (nat_lit 285, o0) :: (nat_lit 287, o189) :: (nat_lit 288, o0) :: (nat_lit 290, o191) :: (nat_lit 291, o192) :: (nat_lit 292, o0) :: (nat_lit 294, o193) :: (nat_lit 295, o0) :: (nat_lit 297, o195) :: (nat_lit 298, o196) :: (nat_lit 299, o0) :: (nat_lit 301, o197) :: (nat_lit 302, o0) :: (nat_lit 304, o199) :: (nat_lit 305, o200) :: (nat_lit 306, o0) :: (nat_lit 308, o201) :: (nat_lit 309, o0) :: (nat_lit 311, o203) :: (nat_lit 312, o204) :: (nat_lit 313, o0) :: (nat_lit 315, o205) :: (nat_lit 316, o0) :: (nat_lit 318, o207) :: (nat_lit 319, o208) :: (nat_lit 320, o0) :: (nat_lit 322, o209) :: (nat_lit 323, o0) :: (nat_lit 325, o211) :: (nat_lit 326, o212) :: (nat_lit 327, o0) :: (nat_lit 329, o213) :: (nat_lit 330, o0) :: (nat_lit 332, o215) :: (nat_lit 333, o216) :: (nat_lit 334, o0) :: (nat_lit 336, o217) :: (nat_lit 337, o0) :: (nat_lit 339, o219) :: (nat_lit 340, o220) :: (nat_lit 341, o0) :: (nat_lit 343, o223) :: (nat_lit 344, o0) :: (nat_lit 346, o225) :: (nat_lit 347, o226) :: (nat_lit 348, o0) :: (nat_lit 350, o227) :: (nat_lit 351, o0) :: (nat_lit 353, o229) :: (nat_lit 354, o230) :: (nat_lit 355, o0) :: (nat_lit 357, o231) :: (nat_lit 358, o0) :: (nat_lit 360, o233) :: (nat_lit 361, o234) :: (nat_lit 362, o0) :: (nat_lit 364, o235) :: (nat_lit 365, o0) :: (nat_lit 367, o237) :: (nat_lit 368, o238) :: (nat_lit 369, o0) :: (nat_lit 371, o239) :: (nat_lit 372, o0) :: (nat_lit 374, o241) :: (nat_lit 375, o242) :: (nat_lit 376, o0) :: (nat_lit 378, o243) :: (nat_lit 379, o0) :: (nat_lit 381, o245) :: (nat_lit 382, o246) :: (nat_lit 383, o0) :: (nat_lit 385, o247) :: (nat_lit 386, o0) :: (nat_lit 388, o249) :: (nat_lit 389, o250) :: (nat_lit 390, o0) :: (nat_lit 392, o251) :: (nat_lit 393, o0) :: (nat_lit 395, o253) :: (nat_lit 396, o254) :: (nat_lit 397, o0) :: (nat_lit 399, o255) :: (nat_lit 400, o0) :: (nat_lit 402, o257) :: (nat_lit 403, o258) :: (nat_lit 404, o0) :: (nat_lit 406, o259) :: (nat_lit 407, o0) :: (nat_lit 409, o261) :: (nat_lit 410, o262) :: (nat_lit 411, o0) :: (nat_lit 413, o263) :: (nat_lit 414, o0) :: (nat_lit 416, o265) :: (nat_lit 417, o266) :: (nat_lit 418, o0) :: (nat_lit 420, o267) :: (nat_lit 421, o0) :: (nat_lit 423, o269) :: (nat_lit 424, o270) :: (nat_lit 425, o0) :: (nat_lit 427, o273) :: (nat_lit 428, o0) :: (nat_lit 430, o275) :: (nat_lit 431, o276) :: []
noncomputable def as : List Addr := [2, 3, 15, 22, 23, 24, 25, 28, 35, 36, 37, 40, 47, 48, 49, 52, 59, 60, 61, 64, 71, 72, 73, 76, 83, 84, 85, 88, 90, 91, 93, 94, 95, 97, 98, 100, 101, 102, 104, 105, 107, 108, 109, 111, 112, 114, 115, 116, 118, 119, 121, 122, 123, 125, 126, 128, 129, 130, 132, 133, 135, 136, 137, 139, 140, 142, 143, 144, 146, 147, 149, 150, 151, 153, 154, 156, 157, 158, 160, 161, 163, 164, 165, 167, 168, 170, 171, 172, 174, 175, 177, 178, 179, 181, 182, 184, 185, 186, 188, 189, 191, 192, 193, 195, 196, 198, 199, 200, 202, 203, 205, 206, 207, 209, 210, 212, 213, 214, 222, 224, 225, 227, 228, 229, 231, 232, 234, 235, 236, 238, 239, 241, 242, 243, 245, 246, 248, 249, 250, 251, 252, 253, 254, 257, 259, 260, 262, 263, 264, 266, 267, 269, 270, 271, 273, 274, 276, 277, 278, 280, 281, 283, 284, 285, 287, 288, 290, 291, 292, 294, 295, 297, 298, 299, 301, 302, 304, 305, 306, 308, 309, 311, 312, 313, 315, 316, 318, 319, 320, 322, 323, 325, 326, 327, 329, 330, 332, 333, 334, 336, 337, 339, 340, 341, 343, 344, 346, 347, 348, 350, 351, 353, 354, 355, 357, 358, 360, 361, 362, 364, 365, 367, 368, 369, 371, 372, 374, 375, 376, 378, 379, 381, 382, 383, 385, 386, 388, 389, 390, 392, 393, 395, 396, 397, 399, 400, 402, 403, 404, 406, 407, 409, 410, 411, 413, 414, 416, 417, 418, 420, 421, 423, 424, 425, 427, 428, 430, 431]
noncomputable def env : Env := { scope := PySem.Challenge.pw_roundmill_k56_shown.main.scope, locals := mainNs, globals := mainNs, cells := [], code := (.ref 13), frame := some 14 }
noncomputable def sts_1 : List Stmt := [T.top 0, T.top 1]
noncomputable def sts_2 : List Stmt := [T.top 2]
noncomputable def sts_3 : List Stmt := [T.top 3]
noncomputable def sts_4 : List Stmt := [T.top 4]
noncomputable def sts_5 : List Stmt := [T.top 5]
noncomputable def sts_6 : List Stmt := [T.top 6, T.top 7, T.top 8, T.top 9, T.top 10, T.top 11, T.top 12, T.top 13]
noncomputable def sts_7 : List Stmt := [T.top 14, T.top 15, T.top 16, T.top 17, T.top 18, T.top 19, T.top 20, T.top 21, T.top 22, T.top 23, T.top 24, T.top 25, T.top 26, T.top 27]
noncomputable def sts_8 : List Stmt := [T.top 28, T.top 29, T.top 30, T.top 31, T.top 32, T.top 33, T.top 34]
noncomputable def sts_9 : List Stmt := [T.top 35, T.top 36, T.top 37, T.top 38, T.top 39, T.top 40, T.top 41, T.top 42, T.top 43, T.top 44, T.top 45, T.top 46, T.top 47, T.top 48]
noncomputable def sts_10 : List Stmt := [T.top 49, T.top 50, T.top 51, T.top 52, T.top 53, T.top 54, T.top 55, T.top 56, T.top 57, T.top 58, T.top 59, T.top 60, T.top 61]
noncomputable def sts_11 : List Stmt := [T.top 62]
noncomputable def q : Program := PySem.W.view PySem.Challenge.pw_roundmill_k56_shown [1, 2, 3, 4, 5, 6, 8, 9, 10, 11, 12, 13, 15, 16, 17, 18, 19, 20, 22, 23, 24, 25, 26, 27, 28, 29, 30, 32, 33, 34, 36, 37, 38, 40, 41, 43, 44, 45, 46, 47, 48, 49, 50, 51, 52, 54, 55, 56, 57, 58, 59, 60, 61, 62]
end
end H
namespace H
open PySem PySem.W PySem.Calls PySem.Spec PyProof.Rows L2 EV ES
noncomputable section
noncomputable def cB : Code := Code.body (behindTheImports PySem.Challenge.pw_roundmill_k56_shown) env
noncomputable def row : RowW := OpenRow.toRowW (OpenLaw.row PySem.Challenge.rw_roundmill_k56_shown)
noncomputable def Xt (s : Shared) : Bool := xlAt q [] s && recOk (RowW.records row) s
end
theorem cw_tws : (fun (_ : Program) (_ : Program) (_ : Env) (_ : Code) (_ : Shared → Bool) => true) PySem.Challenge.pw_roundmill_k56_shown q env cB Xt = true := by k_qdec
set_option maxHeartbeats 0 in
theorem t_pre : ∀ w : World, (fun os : OsState => topGo treeTable PySem.Challenge.pw_roundmill_k56_shown w 11 (some (.ref 6)) 12 (Shared.mk (boot_heap w.params) (Array.mk []) boot_drawn boot_toks os) (topStub PySem.Challenge.pw_roundmill_k56_shown)) = fun os : OsState => some ((Shared.mk (ha w.params) ⟨[]⟩ (Drawn.mk 0 0 0 0) 187 os), Thread.mk (denote treeTable cB) cB (Pos.mk 0 0 0 0) [topFrame (Pos.mk 0 0 0 0)]) := by
  rewrite [PySem.W.Fast.te15667345088766844465, PySem.W.Fast.te14364793385576792824, PySem.W.Fast.te8914293166213619473, PySem.W.Fast.te11892475500146522536, PySem.W.Fast.te2060423359788512156]
  intro w
  kernel_rfl
set_option maxHeartbeats 0 in
theorem t_block : ∀ w : World, (fun os : OsState => segRun treeTable PySem.Challenge.pw_roundmill_k56_shown w 11 (some (.ref 6)) 1 1 (Shared.mk (ha w.params) ⟨[]⟩ (Drawn.mk 0 0 0 0) 187 os) (blockOf (behindTheImports PySem.Challenge.pw_roundmill_k56_shown) env cB (Pos.mk 0 0 0 0) [topFrame (Pos.mk 0 0 0 0)])) = fun os : OsState => some (Flow.next, (SharedT.abs (SharedT.mk (t_0 w.params) 15 (Life.mk [] [] [] 0 [] [] false #[] [] 0 false false false 0 [2000, 10, 10] false 0 true [] [] 0 false) ⟨[]⟩ (Drawn.mk 0 0 0 0) 187 os)), cB, (Pos.mk 0 0 0 0)) := by
  rewrite [PySem.W.Fast.te14374325043358763698, PySem.W.Fast.te14364793385576792824, PySem.W.Fast.te8914293166213619473, PySem.W.Fast.te2060423359788512156]
  intro w
  kernel_rfl
set_option maxHeartbeats 0 in
theorem t_p1 : ∀ w : World, (fun os : OsState => segRunT treeTable PySem.Challenge.pw_roundmill_k56_shown w 11 (some (.ref 6)) 1 196 (SharedT.mk (t_0 w.params) 15 (Life.mk [] [] [] 0 [] [] false #[] [] 0 false false false 0 [2000, 10, 10] false 0 true [] [] 0 false) ⟨[]⟩ (Drawn.mk 0 0 0 0) 187 os) (piecesOf sts_1 env cB (Pos.mk 0 0 0 0) [topFrame (Pos.mk 0 0 0 0)])) = fun os : OsState => some (Flow.next, (SharedT.mk (t_1 w.params) 28 (Life.mk [] [] [] 0 [] [] false #[] [] 0 false false false 0 [2000, 10, 10] false 0 true [] [] 0 false) ⟨[]⟩ (Drawn.mk 0 0 0 0) 207 os), cB, (Pos.mk 2 0 3 8)) := by
  rewrite [PySem.W.Fast.te10110043849684766642, PySem.W.Fast.te14364793385576792824, PySem.W.Fast.te8914293166213619473, PySem.W.Fast.te2060423359788512156]
  intro w
  kernel_rfl
set_option maxHeartbeats 0 in
theorem t_p2 : ∀ w : World, (fun os : OsState => segRunT treeTable PySem.Challenge.pw_roundmill_k56_shown w 11 (some (.ref 6)) 1 214 (SharedT.mk (t_1 w.params) 28 (Life.mk [] [] [] 0 [] [] false #[] [] 0 false false false 0 [2000, 10, 10] false 0 true [] [] 0 false) ⟨[]⟩ (Drawn.mk 0 0 0 0) 207 os) (piecesOf sts_2 env cB (Pos.mk 2 0 3 8) [topFrame (Pos.mk 0 0 0 0)])) = fun os : OsState => some (Flow.next, (SharedT.mk (t_2 w.params) 40 (Life.mk [] [] [] 0 [] [] false #[] [] 0 false false false 0 [2000, 10, 10] false 0 true [] [] 0 false) ⟨[]⟩ (Drawn.mk 0 0 0 0) 223 os), cB, (Pos.mk 4 0 5 8)) := by
  rewrite [PySem.W.Fast.te10110043849684766642, PySem.W.Fast.te14364793385576792824, PySem.W.Fast.te8914293166213619473, PySem.W.Fast.te2060423359788512156]
  intro w
  kernel_rfl
set_option maxHeartbeats 0 in
theorem t_p3 : ∀ w : World, (fun os : OsState => segRunT treeTable PySem.Challenge.pw_roundmill_k56_shown w 11 (some (.ref 6)) 1 214 (SharedT.mk (t_2 w.params) 40 (Life.mk [] [] [] 0 [] [] false #[] [] 0 false false false 0 [2000, 10, 10] false 0 true [] [] 0 false) ⟨[]⟩ (Drawn.mk 0 0 0 0) 223 os) (piecesOf sts_3 env cB (Pos.mk 4 0 5 8) [topFrame (Pos.mk 0 0 0 0)])) = fun os : OsState => some (Flow.next, (SharedT.mk (t_3 w.params) 52 (Life.mk [] [] [] 0 [] [] false #[] [] 0 false false false 0 [2000, 10, 10] false 0 true [] [] 0 false) ⟨[]⟩ (Drawn.mk 0 0 0 0) 239 os), cB, (Pos.mk 6 0 7 8)) := by
  rewrite [PySem.W.Fast.te10110043849684766642, PySem.W.Fast.te14364793385576792824, PySem.W.Fast.te8914293166213619473, PySem.W.Fast.te2060423359788512156]
  intro w
  kernel_rfl
set_option maxHeartbeats 0 in
theorem t_p4 : ∀ w : World, (fun os : OsState => segRunT treeTable PySem.Challenge.pw_roundmill_k56_shown w 11 (some (.ref 6)) 1 214 (SharedT.mk (t_3 w.params) 52 (Life.mk [] [] [] 0 [] [] false #[] [] 0 false false false 0 [2000, 10, 10] false 0 true [] [] 0 false) ⟨[]⟩ (Drawn.mk 0 0 0 0) 239 os) (piecesOf sts_4 env cB (Pos.mk 6 0 7 8) [topFrame (Pos.mk 0 0 0 0)])) = fun os : OsState => some (Flow.next, (SharedT.mk (t_4 w.params) 64 (Life.mk [] [] [] 0 [] [] false #[] [] 0 false false false 0 [2000, 10, 10] false 0 true [] [] 0 false) ⟨[]⟩ (Drawn.mk 0 0 0 0) 255 os), cB, (Pos.mk 8 0 9 8)) := by
  rewrite [PySem.W.Fast.te10110043849684766642, PySem.W.Fast.te14364793385576792824, PySem.W.Fast.te8914293166213619473, PySem.W.Fast.te2060423359788512156]
  intro w
  kernel_rfl
set_option maxHeartbeats 0 in
theorem t_p5 : ∀ w : World, (fun os : OsState => segRunT treeTable PySem.Challenge.pw_roundmill_k56_shown w 11 (some (.ref 6)) 1 214 (SharedT.mk (t_4 w.params) 64 (Life.mk [] [] [] 0 [] [] false #[] [] 0 false false false 0 [2000, 10, 10] false 0 true [] [] 0 false) ⟨[]⟩ (Drawn.mk 0 0 0 0) 255 os) (piecesOf sts_5 env cB (Pos.mk 8 0 9 8) [topFrame (Pos.mk 0 0 0 0)])) = fun os : OsState => some (Flow.next, (SharedT.mk (t_5 w.params) 76 (Life.mk [] [] [] 0 [] [] false #[] [] 0 false false false 0 [2000, 10, 10] false 0 true [] [] 0 false) ⟨[]⟩ (Drawn.mk 0 0 0 0) 271 os), cB, (Pos.mk 10 0 11 8)) := by
  rewrite [PySem.W.Fast.te10110043849684766642, PySem.W.Fast.te14364793385576792824, PySem.W.Fast.te8914293166213619473, PySem.W.Fast.te2060423359788512156]
  intro w
  kernel_rfl
set_option maxHeartbeats 0 in
theorem t_p6 : ∀ w : World, (fun os : OsState => segRunT treeTable PySem.Challenge.pw_roundmill_k56_shown w 11 (some (.ref 6)) 1 397 (SharedT.mk (t_5 w.params) 76 (Life.mk [] [] [] 0 [] [] false #[] [] 0 false false false 0 [2000, 10, 10] false 0 true [] [] 0 false) ⟨[]⟩ (Drawn.mk 0 0 0 0) 271 os) (piecesOf sts_6 env cB (Pos.mk 10 0 11 8) [topFrame (Pos.mk 0 0 0 0)])) = fun os : OsState => some (Flow.next, (SharedT.mk (t_6 w.params) 130 (Life.mk [] [] [] 0 [] [] false #[] [] 0 false false false 0 [2000, 10, 10] false 0 true [] [] 0 false) ⟨[]⟩ (Drawn.mk 0 0 0 0) 331 os), cB, (Pos.mk 25 0 26 38)) := by
  rewrite [PySem.W.Fast.te10110043849684766642, PySem.W.Fast.te14364793385576792824, PySem.W.Fast.te8914293166213619473, PySem.W.Fast.te2060423359788512156]
  intro w
  kernel_rfl
set_option maxHeartbeats 0 in
theorem t_p7 : ∀ w : World, (fun os : OsState => segRunT treeTable PySem.Challenge.pw_roundmill_k56_shown w 11 (some (.ref 6)) 1 397 (SharedT.mk (t_6 w.params) 130 (Life.mk [] [] [] 0 [] [] false #[] [] 0 false false false 0 [2000, 10, 10] false 0 true [] [] 0 false) ⟨[]⟩ (Drawn.mk 0 0 0 0) 331 os) (piecesOf sts_7 env cB (Pos.mk 25 0 26 38) [topFrame (Pos.mk 0 0 0 0)])) = fun os : OsState => some (Flow.next, (SharedT.mk (t_7 w.params) 214 (Life.mk [] [] [] 0 [] [] false #[] [] 0 false false false 0 [2000, 10, 10] false 0 true [] [] 0 false) ⟨[]⟩ (Drawn.mk 0 0 0 0) 449 os), cB, (Pos.mk 88 0 89 39)) := by
  rewrite [PySem.W.Fast.te10110043849684766642, PySem.W.Fast.te14364793385576792824, PySem.W.Fast.te8914293166213619473, PySem.W.Fast.te2060423359788512156]
  intro w
  kernel_rfl
set_option maxHeartbeats 0 in
theorem t_p8 : ∀ w : World, (fun os : OsState => segRunT treeTable PySem.Challenge.pw_roundmill_k56_shown w 11 (some (.ref 6)) 1 401 (SharedT.mk (t_7 w.params) 214 (Life.mk [] [] [] 0 [] [] false #[] [] 0 false false false 0 [2000, 10, 10] false 0 true [] [] 0 false) ⟨[]⟩ (Drawn.mk 0 0 0 0) 449 os) (piecesOf sts_8 env cB (Pos.mk 88 0 89 39) [topFrame (Pos.mk 0 0 0 0)])) = fun os : OsState => some (Flow.next, (SharedT.mk (t_8 w.params) 264 (Life.mk [] [] [] 0 [] [] false #[] [] 0 false false false 0 [2000, 10, 10] false 0 true [] [] 0 false) ⟨[]⟩ (Drawn.mk 0 0 0 0) 525 os), cB, (Pos.mk 118 0 121 20)) := by
  rewrite [PySem.W.Fast.te10110043849684766642, PySem.W.Fast.te14364793385576792824, PySem.W.Fast.te8914293166213619473, PySem.W.Fast.te2060423359788512156]
  intro w
  kernel_rfl
set_option maxHeartbeats 0 in
theorem t_p9 : ∀ w : World, (fun os : OsState => segRunT treeTable PySem.Challenge.pw_roundmill_k56_shown w 11 (some (.ref 6)) 1 392 (SharedT.mk (t_8 w.params) 264 (Life.mk [] [] [] 0 [] [] false #[] [] 0 false false false 0 [2000, 10, 10] false 0 true [] [] 0 false) ⟨[]⟩ (Drawn.mk 0 0 0 0) 525 os) (piecesOf sts_9 env cB (Pos.mk 118 0 121 20) [topFrame (Pos.mk 0 0 0 0)])) = fun os : OsState => some (Flow.next, (SharedT.mk (t_9 w.params) 341 (Life.mk [] [] [] 0 [] [] false #[] [] 0 false false false 0 [2000, 10, 10] false 0 true [] [] 0 false) ⟨[]⟩ (Drawn.mk 0 0 0 0) 653 os), cB, (Pos.mk 186 0 190 33)) := by
  rewrite [PySem.W.Fast.te10110043849684766642, PySem.W.Fast.te14364793385576792824, PySem.W.Fast.te8914293166213619473, PySem.W.Fast.te2060423359788512156]
  intro w
  kernel_rfl
set_option maxHeartbeats 0 in
theorem t_p10 : ∀ w : World, (fun os : OsState => segRunT treeTable PySem.Challenge.pw_roundmill_k56_shown w 11 (some (.ref 6)) 1 388 (SharedT.mk (t_9 w.params) 341 (Life.mk [] [] [] 0 [] [] false #[] [] 0 false false false 0 [2000, 10, 10] false 0 true [] [] 0 false) ⟨[]⟩ (Drawn.mk 0 0 0 0) 653 os) (piecesOf sts_10 env cB (Pos.mk 186 0 190 33) [topFrame (Pos.mk 0 0 0 0)])) = fun os : OsState => some (Flow.next, (SharedT.mk (t_10 w.params) 425 (Life.mk [] [] [] 0 [] [] false #[] [] 0 false false false 0 [2000, 10, 10] false 0 true [] [] 0 false) ⟨[]⟩ (Drawn.mk 0 0 0 0) 769 os), cB, (Pos.mk 266 0 274 59)) := by
  rewrite [PySem.W.Fast.te10110043849684766642, PySem.W.Fast.te14364793385576792824, PySem.W.Fast.te8914293166213619473, PySem.W.Fast.te2060423359788512156]
  intro w
  kernel_rfl
set_option maxHeartbeats 0 in
theorem t_p11 : ∀ w : World, (fun os : OsState => segRunT treeTable PySem.Challenge.pw_roundmill_k56_shown w 11 (some (.ref 6)) 1 37 (SharedT.mk (t_10 w.params) 425 (Life.mk [] [] [] 0 [] [] false #[] [] 0 false false false 0 [2000, 10, 10] false 0 true [] [] 0 false) ⟨[]⟩ (Drawn.mk 0 0 0 0) 769 os) (piecesOf sts_11 env cB (Pos.mk 266 0 274 59) [topFrame (Pos.mk 0 0 0 0)])) = fun os : OsState => some (Flow.next, (SharedT.mk (t_11 w.params) 432 (Life.mk [] [] [] 0 [] [] false #[] [] 0 false false false 0 [2000, 10, 10] false 0 true [] [] 0 false) ⟨[]⟩ (Drawn.mk 0 0 0 0) 783 os), cB, (Pos.mk 275 0 291 147)) := by
  rewrite [PySem.W.Fast.te10110043849684766642, PySem.W.Fast.te14364793385576792824, PySem.W.Fast.te8914293166213619473, PySem.W.Fast.te2060423359788512156]
  intro w
  kernel_rfl
set_option maxHeartbeats 0 in
theorem t_fin : ∀ w : World, (fun os : OsState => topRun treeTable PySem.Challenge.pw_roundmill_k56_shown w 11 (some (.ref 6)) 2 (SharedT.abs (SharedT.mk (t_11 w.params) 432 (Life.mk [] [] [] 0 [] [] false #[] [] 0 false false false 0 [2000, 10, 10] false 0 true [] [] 0 false) ⟨[]⟩ (Drawn.mk 0 0 0 0) 783 os)) (Thread.mk (doneF Flow.next) cB (Pos.mk 275 0 291 147) [topFrame (Pos.mk 0 0 0 0)])) = fun os : OsState => some (Shared.mk (hf w.params) ⟨[]⟩ (Drawn.mk 0 0 0 0) 783 os) := by
  rewrite [PySem.W.Fast.te14082659384304107361, PySem.W.Fast.te14364793385576792824, PySem.W.Fast.te8914293166213619473, PySem.W.Fast.te2060423359788512156]
  intro w
  kernel_rfl
set_option maxHeartbeats 0 in
theorem t_size : ∀ w : World, ((boot_heap w.params).isNs mainGlobals && (Array.mk [] : Array GenState).size == 0, (boot_heap w.params).objs.size, (boot_heap w.params).nsMap mainGlobals "__annotations__") = (true, 11, (some (.ref 6))) := by
  rewrite [PySem.W.Fast.te8920871248978507458]
  intro w
  kernel_rfl
set_option maxHeartbeats 0 in
theorem l_1 : ∀ w : World, (fun os : OsState => staticsOk (importedModules (Program.main PySem.Challenge.pw_roundmill_k56_shown).body) (boot_heap w.params) (hf w.params) && namesBound PySem.Challenge.pw_roundmill_k56_shown (hf w.params) && gensDone (Shared.mk (hf w.params) ⟨[]⟩ (Drawn.mk 0 0 0 0) 783 os) && laidKept (boot_heap w.params) (hf w.params)) = fun os : OsState => true := by
  rewrite [PySem.W.Fast.te5923862056798008813, PySem.W.Fast.te8914293166213619473]
  intro w
  kernel_rfl
set_option maxHeartbeats 0 in
theorem l_s0 : ∀ w : World, (fun os : OsState => (openSeen q [] (importedModules (Program.main PySem.Challenge.pw_roundmill_k56_shown).body) Xt true (Shared.mk (hf w.params) ⟨[]⟩ (Drawn.mk 0 0 0 0) 783 os)).1) = fun os : OsState => (openGood q []).1 := by
  unfold openSeen openGood
  dsimp only
  rewrite [PySem.W.Fast.te5160383126252970620, PySem.W.R.mapR_eq, PySem.W.Fast.te3399658132070893891, PySem.W.Fast.te5991557255702980513]
  intro w
  kernel_rfl
set_option maxHeartbeats 0 in
theorem l_s1 : ∀ w : World, (fun os : OsState => (openSeen q [] (importedModules (Program.main PySem.Challenge.pw_roundmill_k56_shown).body) Xt true (Shared.mk (hf w.params) ⟨[]⟩ (Drawn.mk 0 0 0 0) 783 os)).2.1) = fun os : OsState => (openGood q []).2.1 := by
  unfold openSeen openGood
  dsimp only
  intro w
  kernel_rfl
set_option maxHeartbeats 0 in
theorem l_s2 : ∀ w : World, (fun os : OsState => (openSeen q [] (importedModules (Program.main PySem.Challenge.pw_roundmill_k56_shown).body) Xt true (Shared.mk (hf w.params) ⟨[]⟩ (Drawn.mk 0 0 0 0) 783 os)).2.2.1) = fun os : OsState => (openGood q []).2.2.1 := by
  unfold openSeen openGood
  dsimp only
  rewrite [PySem.W.Fast.te10880121769531294198, PySem.W.Fast.te821141287760084731, PySem.W.R.mapR_eq, PySem.W.Fast.te3399658132070893891, PySem.W.Fast.te7409074990110511671, PySem.W.Fast.te13664370479719496447, PySem.W.Fast.te14722251495701143533, PySem.W.Fast.te5923862056798008813, PySem.W.Fast.te8914293166213619473, PySem.W.Fast.te10994771534591457954, PySem.W.Fast.te18408535023408442824]
  intro w
  kernel_rfl
set_option maxHeartbeats 0 in
theorem l_s3 : ∀ w : World, (fun os : OsState => (openSeen q [] (importedModules (Program.main PySem.Challenge.pw_roundmill_k56_shown).body) Xt true (Shared.mk (hf w.params) ⟨[]⟩ (Drawn.mk 0 0 0 0) 783 os)).2.2.2.1) = fun os : OsState => (openGood q []).2.2.2.1 := by
  unfold openSeen openGood
  dsimp only
  rewrite [PySem.W.Fast.te479339242167458305]
  intro w
  kernel_rfl
set_option maxHeartbeats 0 in
theorem l_s4 : ∀ w : World, (fun os : OsState => (openSeen q [] (importedModules (Program.main PySem.Challenge.pw_roundmill_k56_shown).body) Xt true (Shared.mk (hf w.params) ⟨[]⟩ (Drawn.mk 0 0 0 0) 783 os)).2.2.2.2.1) = fun os : OsState => (openGood q []).2.2.2.2.1 := by
  unfold openSeen openGood
  dsimp only
  rewrite [PySem.W.Fast.te16090120013241838585, PySem.W.Fast.te3247288618530077131]
  intro w
  kernel_rfl
set_option maxHeartbeats 0 in
theorem l_s5 : ∀ w : World, (fun os : OsState => (openSeen q [] (importedModules (Program.main PySem.Challenge.pw_roundmill_k56_shown).body) Xt true (Shared.mk (hf w.params) ⟨[]⟩ (Drawn.mk 0 0 0 0) 783 os)).2.2.2.2.2.1) = fun os : OsState => (openGood q []).2.2.2.2.2.1 := by
  unfold openSeen openGood
  dsimp only
  rewrite [PySem.W.Fast.te2386780881361962483, PySem.W.Fast.te821141287760084731]
  intro w
  kernel_rfl
set_option maxHeartbeats 0 in
theorem l_s6 : ∀ w : World, (fun os : OsState => (openSeen q [] (importedModules (Program.main PySem.Challenge.pw_roundmill_k56_shown).body) Xt true (Shared.mk (hf w.params) ⟨[]⟩ (Drawn.mk 0 0 0 0) 783 os)).2.2.2.2.2.2.1) = fun os : OsState => (openGood q []).2.2.2.2.2.2.1 := by
  unfold openSeen openGood
  dsimp only
  rewrite [PySem.W.Fast.te11698064438423848299]
  intro w
  kernel_rfl
set_option maxHeartbeats 0 in
theorem l_s7 : ∀ w : World, (fun os : OsState => (openSeen q [] (importedModules (Program.main PySem.Challenge.pw_roundmill_k56_shown).body) Xt true (Shared.mk (hf w.params) ⟨[]⟩ (Drawn.mk 0 0 0 0) 783 os)).2.2.2.2.2.2.2.1) = fun os : OsState => (openGood q []).2.2.2.2.2.2.2.1 := by
  unfold openSeen openGood
  dsimp only
  rewrite [PySem.W.Fast.te7317090234206586261]
  intro w
  kernel_rfl
set_option maxHeartbeats 0 in
theorem l_s8 : ∀ w : World, (fun os : OsState => (openSeen q [] (importedModules (Program.main PySem.Challenge.pw_roundmill_k56_shown).body) Xt true (Shared.mk (hf w.params) ⟨[]⟩ (Drawn.mk 0 0 0 0) 783 os)).2.2.2.2.2.2.2.2) = fun os : OsState => (openGood q []).2.2.2.2.2.2.2.2 := by
  unfold openSeen openGood
  dsimp only
  rewrite [PySem.W.Fast.te7369524293546568484]
  intro w
  kernel_rfl
set_option maxHeartbeats 0 in
theorem l_k : ∀ w : World, (fun os : OsState => as.map (Shared.heap (Shared.mk (hf w.params) ⟨[]⟩ (Drawn.mk 0 0 0 0) 783 os)).get?) = fun os : OsState => (K w.params).map fun x => some x.2 := by
  rewrite [PySem.W.R.mapR_eq]
  intro w
  kernel_rfl
theorem h_b : behindTheImports PySem.Challenge.pw_roundmill_k56_shown = sts_1 ++ (sts_2 ++ (sts_3 ++ (sts_4 ++ (sts_5 ++ (sts_6 ++ (sts_7 ++ (sts_8 ++ (sts_9 ++ (sts_10 ++ (sts_11 ++ [])))))))))) := by kernel_rfl
theorem run_b (w : World) (os : OsState) : topRun treeTable PySem.Challenge.pw_roundmill_k56_shown w 11 (some (.ref 6)) (196 + (214 + (214 + (214 + (214 + (397 + (397 + (401 + (392 + (388 + (37 + (2)))))))))))) (SharedT.abs (SharedT.mk (t_0 w.params) 15 (Life.mk [] [] [] 0 [] [] false #[] [] 0 false false false 0 [2000, 10, 10] false 0 true [] [] 0 false) ⟨[]⟩ (Drawn.mk 0 0 0 0) 187 os)) (restOf (sts_1 ++ (sts_2 ++ (sts_3 ++ (sts_4 ++ (sts_5 ++ (sts_6 ++ (sts_7 ++ (sts_8 ++ (sts_9 ++ (sts_10 ++ (sts_11 ++ []))))))))))) env cB (Pos.mk 0 0 0 0) [topFrame (Pos.mk 0 0 0 0)]) = some (Shared.mk (hf w.params) ⟨[]⟩ (Drawn.mk 0 0 0 0) 783 os) :=
  piece_app (segRun_of (congrFun (t_p1 w) os)) (piece_app (segRun_of (congrFun (t_p2 w) os)) (piece_app (segRun_of (congrFun (t_p3 w) os)) (piece_app (segRun_of (congrFun (t_p4 w) os)) (piece_app (segRun_of (congrFun (t_p5 w) os)) (piece_app (segRun_of (congrFun (t_p6 w) os)) (piece_app (segRun_of (congrFun (t_p7 w) os)) (piece_app (segRun_of (congrFun (t_p8 w) os)) (piece_app (segRun_of (congrFun (t_p9 w) os)) (piece_app (segRun_of (congrFun (t_p10 w) os)) (piece_app (segRun_of (congrFun (t_p11 w) os)) (piece_nil (congrFun (t_fin w) os))))))))))))
theorem run (w : World) (os : OsState) : topRun treeTable PySem.Challenge.pw_roundmill_k56_shown w 11 (some (.ref 6)) (12 + (1 + (196 + (214 + (214 + (214 + (214 + (397 + (397 + (401 + (392 + (388 + (37 + (2)))))))))))))) (Shared.mk (boot_heap w.params) (Array.mk []) boot_drawn boot_toks os) (topStub PySem.Challenge.pw_roundmill_k56_shown) = some (Shared.mk (hf w.params) ⟨[]⟩ (Drawn.mk 0 0 0 0) 783 os) :=
  go_top (congrFun (t_pre w) os) (piece_block (congrFun (t_block w) os) ((congrArg (fun b => topRun treeTable PySem.Challenge.pw_roundmill_k56_shown w 11 (some (.ref 6)) (196 + (214 + (214 + (214 + (214 + (397 + (397 + (401 + (392 + (388 + (37 + (2)))))))))))) (SharedT.abs (SharedT.mk (t_0 w.params) 15 (Life.mk [] [] [] 0 [] [] false #[] [] 0 false false false 0 [2000, 10, 10] false 0 true [] [] 0 false) ⟨[]⟩ (Drawn.mk 0 0 0 0) 187 os)) (restOf b env cB (Pos.mk 0 0 0 0) [topFrame (Pos.mk 0 0 0 0)])) h_b).trans (run_b w os)))
theorem opened : ∀ w : World, (fencedOpening treeTable PySem.Challenge.pw_roundmill_k56_shown w 6232).map (fun s => (s.heap, s.gens, s.drawn, s.toks)) = some (boot_heap w.params, Array.mk [], boot_drawn, boot_toks) := boot_open (by kernel_rfl) (by decide) (fun s => by kernel_rfl)
theorem he : ∀ P, as = (K P).map (·.1) := fun _ => by kernel_rfl
theorem left : LeftO PySem.Challenge.pw_roundmill_k56_shown q [] Xt (kHook K as he).obs (kHook K as he).val 6232 :=
  LeftO.of_pieces opened t_size run (by decide) fun w => funext fun os => Prod.ext (congrFun (l_1 w) os) (Prod.ext (Prod.ext (congrFun (l_s0 w) os) (Prod.ext (congrFun (l_s1 w) os) (Prod.ext (congrFun (l_s2 w) os) (Prod.ext (congrFun (l_s3 w) os) (Prod.ext (congrFun (l_s4 w) os) (Prod.ext (congrFun (l_s5 w) os) (Prod.ext (congrFun (l_s6 w) os) (Prod.ext (congrFun (l_s7 w) os) (congrFun (l_s8 w) os))))))))) (congrFun (l_k w) os))
end H
namespace EV
open PySem (Str)
theorem pw_pos (k : Int) : 0 < pw k := Int.pow_pos (by decide)
theorem pw_add {a b : Int} (ha : 0 ≤ a) (hb : 0 ≤ b) : pw (a + b) = pw a * pw b := by
  unfold pw
  rw [Int.toNat_add ha hb, Int.pow_add]
theorem pw_succ {a : Int} (ha : 0 ≤ a) : pw (a + 1) = 2 * pw a := by
  rw [pw_add ha (by decide), Int.mul_comm]
  rfl
theorem pw_mono {a b : Int} (h : a ≤ b) : pw a ≤ pw b := by
  unfold pw
  have e1 : ((2 ^ a.toNat : Nat) : Int) = (2 : Int) ^ a.toNat := by simp
  have e2 : ((2 ^ b.toNat : Nat) : Int) = (2 : Int) ^ b.toNat := by simp
  rw [← e1, ← e2]
  exact Int.ofNat_le.mpr (Nat.pow_le_pow_right (by decide) (by omega))
theorem nb_le {i : Int} {k : Nat} : nb i ≤ k ↔ i.natAbs < 2 ^ k := by
  unfold nb
  by_cases h : i = 0
  · subst h
    simp
    exact Nat.two_pow_pos k
  · rw [if_neg h]
    have h0 : i.natAbs ≠ 0 := by omega
    rw [← Nat.log2_lt h0]
    omega
theorem nb_le_self (i : Int) : i.natAbs < 2 ^ nb i := nb_le.mp (Nat.le_refl _)
theorem nb_mono {i j : Int} (h : i.natAbs ≤ j.natAbs) : nb i ≤ nb j := nb_le.mpr (Nat.lt_of_le_of_lt h (nb_le_self j))
theorem nb_add {i j : Int} {a b : Nat} (hi : nb i ≤ a) (hj : nb j ≤ b) : nb (i + j) ≤ max a b + 1 := by
  rw [nb_le] at hi hj ⊢
  have h1 : 2 ^ a ≤ 2 ^ max a b := Nat.pow_le_pow_right (by decide) (Nat.le_max_left a b)
  have h2 : 2 ^ b ≤ 2 ^ max a b := Nat.pow_le_pow_right (by decide) (Nat.le_max_right a b)
  rw [Nat.pow_succ]
  omega
theorem nb_neg (i : Int) : nb (-i) = nb i := Nat.le_antisymm (nb_mono (by omega)) (nb_mono (by omega))
theorem nb_sub {i j : Int} {a b : Nat} (hi : nb i ≤ a) (hj : nb j ≤ b) : nb (i - j) ≤ max a b + 1 := by
  rw [Int.sub_eq_add_neg]
  exact nb_add hi (by rw [nb_neg]; exact hj)
theorem nb_mul {i j : Int} {a b : Nat} (hi : nb i ≤ a) (hj : nb j ≤ b) : nb (i * j) ≤ a + b := by
  rw [nb_le] at hi hj ⊢
  rw [Int.natAbs_mul, Nat.pow_add]
  rcases Nat.eq_zero_or_pos i.natAbs with h0 | h0
  · rw [h0, Nat.zero_mul]; exact Nat.mul_pos (Nat.two_pow_pos a) (Nat.two_pow_pos b)
  · exact Nat.lt_of_lt_of_le (Nat.mul_lt_mul_of_pos_left hj h0) (Nat.mul_le_mul_right _ (Nat.le_of_lt hi))
theorem nb_mod {i j : Int} {b : Nat} (h : 0 < j) (hj : nb j ≤ b) : nb (i % j) ≤ b := by
  refine Nat.le_trans (nb_mono ?_) hj
  have h1 := Int.emod_nonneg i (by omega : j ≠ 0)
  have h2 := Int.emod_lt_of_pos i h
  omega
theorem natAbs_div {i j : Int} (h : 0 < j) : (i / j).natAbs ≤ i.natAbs := by
  have h3 : i = j * (i / j) + i % j := (Int.mul_ediv_add_emod i j).symm
  have h1 := Int.emod_nonneg i (by omega : j ≠ 0)
  have h2 := Int.emod_lt_of_pos i h
  by_cases hi : 0 ≤ i
  · have := Int.ediv_nonneg hi (by omega : (0 : Int) ≤ j)
    have := Int.ediv_le_self j hi
    omega
  · have h4 : i / j < 0 := Int.ediv_neg_of_neg_of_pos (by omega) h
    have h5 : (j - 1) * (i / j) ≤ (j - 1) * (-1) := Int.mul_le_mul_of_nonneg_left (by omega) (by omega)
    rw [Int.sub_mul, Int.one_mul] at h5
    generalize j * (i / j) = z at *
    omega
theorem nb_div {i j : Int} {a : Nat} (h : 0 < j) (hi : nb i ≤ a) : nb (i / j) ≤ a := Nat.le_trans (nb_mono (natAbs_div h)) hi
theorem nb_pw {k : Int} {c : Nat} (hk : k ≤ c) : nb (pw k) ≤ c + 1 := by
  rw [nb_le]
  unfold pw
  rw [Int.natAbs_pow]
  exact Nat.pow_lt_pow_right (a := 2) (by decide) (by omega)
theorem nb_of_lt {i : Int} {k : Int} (h0 : 0 ≤ i) (h : i < pw k) (hk : 0 ≤ k) : (nb i : Int) ≤ k := by
  have : nb i ≤ k.toNat := by
    rw [nb_le]
    unfold pw at h
    have e : ((2 ^ k.toNat : Nat) : Int) = (2 : Int) ^ k.toNat := by simp
    rw [← e] at h
    omega
  omega
theorem nb_lt_self {i : Int} (h0 : 0 ≤ i) : i < pw (nb i) := by
  have := nb_le_self i
  unfold pw
  have e : ((2 ^ ((nb i : Int)).toNat : Nat) : Int) = (2 : Int) ^ ((nb i : Int)).toNat := by simp
  rw [← e, show ((nb i : Int)).toNat = nb i by omega]
  omega
theorem MulOk.of {i j : Int} {a b : Nat} (hi : nb i ≤ a) (hj : nb j ≤ b) (h : a + b ≤ 134217728) : MulOk i j := by
  unfold MulOk
  omega
theorem DivOk.small {i j : Int} (h : 0 < j) (hj : nb j ≤ 9000) : DivOk i j := ⟨h, .inl hj⟩
theorem nb_self {i : Int} : nb i ≤ nb i := Nat.le_refl _
theorem nb_le_of {i : Int} {a b : Nat} (h : nb i ≤ a) (h2 : a ≤ b) : nb i ≤ b := Nat.le_trans h h2
theorem oMul_ok {i j : Int} (h : MulOk i j) : oMul (.int i) (.int j) = .ok (.int (i * j)) := by unfold oMul; simp only; rw [if_pos h]
theorem oDiv_ok {i j : Int} (h : DivOk i j) : oDiv (.int i) (.int j) = .ok (.int (i / j)) := by unfold oDiv; simp only; rw [if_pos h]
theorem oMod_ok {i j : Int} (h : 0 < j) : oMod (.int i) (.int j) = .ok (.int (i % j)) := by unfold oMod; simp only; rw [if_pos h]
theorem oDiv_lit {i j : Int} (h : 0 < j) (h2 : j < 18446744073709551616) : oDiv (.int i) (.int j) = .ok (.int (i / j)) := oDiv_ok (DivOk.small h (by
  have : nb j ≤ 64 := nb_le.mpr (by omega)
  omega))
theorem oShl_ok {i j : Int} (h : 0 ≤ j) (h2 : (nb i : Int) + j ≤ 134217728) : oShl (.int i) (.int j) = .ok (.int (i * pw j)) := by unfold oShl; simp only; rw [if_pos ⟨h, h2⟩]
theorem oShr_ok {i j : Int} (h : 0 ≤ j) : oShr (.int i) (.int j) = .ok (.int (i / pw j)) := by unfold oShr; simp only; rw [if_pos h]
theorem oPow_ok {i j : Int} (h : 0 ≤ j) (h2 : (nb i : Int) * j ≤ 134217728) : oPow (.int i) (.int j) = .ok (.int (i ^ j.toNat)) := by unfold oPow; simp only; rw [if_pos ⟨h, h2⟩]
section
variable {α β : Type} {d d' : D} {δ : Dt} {C : String} {f : α → R β} {c : Option D}
theorem bind_ok (a : α) : (R.ok a).bind f = f a := rfl
theorem bind_ex : (R.ex C : R α).bind f = .ex C := rfl
theorem bind_bad : (R.bad : R α).bind f = .bad := rfl
theorem bind_ite {p : Prop} [Decidable p] (x y : R α) : (if p then x else y).bind f = if p then x.bind f else y.bind f := by split <;> rfl
theorem then_nx {s : S} : (O.nx δ).then s = s δ := rfl
theorem then_rt {s : S} : (O.rt d).then s = .rt d := rfl
theorem then_ex {s : S} : (O.ex C δ).then s = .ex C δ := rfl
theorem then_mk {s : S} : (O.mk C δ).then s = .mk C δ := rfl
theorem then_bk {s : S} : (O.bk δ).then s = .bk δ := rfl
theorem then_ct {s : S} : (O.ct δ).then s = .ct δ := rfl
theorem then_bad {s : S} : (O.bad).then s = .bad := rfl
theorem then_ite {p : Prop} [Decidable p] (x y : O) {s : S} : (if p then x else y).then s = if p then x.then s else y.then s := by split <;> rfl
theorem res_rt : (O.rt d).res = .ok d := rfl
theorem res_nx : (O.nx δ).res = .ok .non := rfl
theorem res_ex : (O.ex C δ).res = .ex C := rfl
theorem res_mk : (O.mk C δ).res = .ex C := rfl
theorem res_bad : O.bad.res = .bad := rfl
theorem res_ite {p : Prop} [Decidable p] (x y : O) : (if p then x else y).res = if p then x.res else y.res := by split <;> rfl
theorem asg_ok {i : Nat} : asg i δ (.ok d) = .nx (δ.set i (some d)) := rfl
theorem asg_ex {i : Nat} : asg i δ (.ex C) = .ex C (noOwn δ) := rfl
theorem asg_ite {i : Nat} {p : Prop} [Decidable p] (x y : R D) : asg i δ (if p then x else y) = if p then asg i δ x else asg i δ y := by split <;> rfl
theorem xpr_ok : xpr δ (.ok d) = .nx δ := rfl
theorem xpr_ex : xpr δ (.ex C) = .ex C (noOwn δ) := rfl
theorem xpr_ite {p : Prop} [Decidable p] (x y : R D) : xpr δ (if p then x else y) = if p then xpr δ x else xpr δ y := by split <;> rfl
theorem rtn_ok : rtn δ (.ok d) = .rt d := rfl
theorem rtn_ex : rtn δ (.ex C) = .ex C (noOwn δ) := rfl
theorem rtn_ite {p : Prop} [Decidable p] (x y : R D) : rtn δ (if p then x else y) = if p then rtn δ x else rtn δ y := by split <;> rfl
theorem ifO_bl {b : Bool} {x y : O} : ifO δ (.ok (.bl b)) x y = if b = true then x else y := by cases b <;> rfl
theorem ifO_ex {x y : O} : ifO δ (.ex C) x y = .ex C (noOwn δ) := rfl
theorem ifO_ite {p : Prop} [Decidable p] (u v : R D) {x y : O} : ifO δ (if p then u else v) x y = if p then ifO δ u x y else ifO δ v x y := by split <;> rfl
theorem truth_bl {b : Bool} {x y : R β} : truth (.bl b) x y = if b = true then x else y := by cases b <;> rfl
theorem ite_bl {p : Prop} [Decidable p] {a b : Bool} : (if p then R.ok (D.bl a) else R.ok (D.bl b)) = R.ok (D.bl (if p then a else b)) := by split <;> rfl
theorem ite_int {p : Prop} [Decidable p] {a b : Int} : (if p then R.ok (D.int a) else R.ok (D.int b)) = R.ok (D.int (if p then a else b)) := by split <;> rfl
theorem ite_b1 {p : Prop} [Decidable p] {b : Bool} : ((if p then b else false) = true) = (p ∧ b = true) := by by_cases h : p <;> simp [h]
theorem ite_b2 {p : Prop} [Decidable p] {b : Bool} : ((if p then true else b) = true) = (p ∨ b = true) := by by_cases h : p <;> simp [h]
theorem ite_b3 {p : Prop} [Decidable p] : ((if p then false else true) = true) = ¬ p := by by_cases h : p <;> simp [h]
theorem var_0n : var 0 (none :: δ) = .bad := rfl
theorem var_int {i : Int} : var 0 (some (.int i) :: δ) = .ok (.int i) := rfl
theorem var_bl {b : Bool} : var 0 (some (.bl b) :: δ) = .ok (.bl b) := rfl
theorem var_str {x : PySem.Str} : var 0 (some (.str x) :: δ) = .ok (.str x) := rfl
theorem var_non : var 0 (some .non :: δ) = .ok .non := rfl
theorem var_tup {ds : List D} : var 0 (some (.tup ds) :: δ) = .ok (.tup ds) := rfl
theorem var_lst {ds : List D} : var 0 (some (.lst ds) :: δ) = .ok (.lst ds) := rfl
theorem var_own {ds : List D} : var 0 (some (.own ds) :: δ) = .bad := rfl
theorem var_exc : var 0 (some (.exc C) :: δ) = .ok (.exc C) := rfl
theorem var_cls : var 0 (some (.cls C) :: δ) = .ok (.cls C) := rfl
theorem var_ins {fs : List (String × D)} : var 0 (some (.ins C fs) :: δ) = .ok (.ins C fs) := rfl
theorem var_succ {n : Nat} : var (n + 1) (c :: δ) = var n δ := rfl
theorem evs_nil : evs [] δ = .ok [] := rfl
theorem evs_cons {e : E} {es : List E} : evs (e :: es) δ = (e δ).bind fun d => (evs es δ).bind fun ds => .ok (d :: ds) := rfl
theorem oAdd_int {i j : Int} : oAdd (.int i) (.int j) = .ok (.int (i + j)) := rfl
theorem oSub_int {i j : Int} : oSub (.int i) (.int j) = .ok (.int (i - j)) := rfl
theorem oNeg_int {i : Int} : oNeg (.int i) = .ok (.int (-i)) := rfl
theorem oLt_int {i j : Int} : oLt (.int i) (.int j) = .ok (.bl (decide (i < j))) := rfl
theorem oLe_int {i j : Int} : oLe (.int i) (.int j) = .ok (.bl (decide (i ≤ j))) := rfl
theorem oGt_int {i j : Int} : oGt (.int i) (.int j) = .ok (.bl (decide (j < i))) := rfl
theorem oGe_int {i j : Int} : oGe (.int i) (.int j) = .ok (.bl (decide (j ≤ i))) := rfl
theorem oEq_int {i j : Int} : oEq (.int i) (.int j) = .ok (.bl (decide (i = j))) := by simp [oEq, D.cmp, D.sc, D.beq, Bool.beq_eq_decide_eq]
theorem oNe_int {i j : Int} : oNe (.int i) (.int j) = .ok (.bl (decide (i ≠ j))) := by simp [oNe, D.cmp, D.sc, D.beq, Bool.beq_eq_decide_eq]
theorem oEq_str {i j : PySem.Str} : oEq (.str i) (.str j) = .ok (.bl (decide (i = j))) := by simp [oEq, D.cmp, D.sc, D.beq, Bool.beq_eq_decide_eq]
theorem oNe_str {i j : PySem.Str} : oNe (.str i) (.str j) = .ok (.bl (decide (i ≠ j))) := by simp [oNe, D.cmp, D.sc, D.beq, Bool.beq_eq_decide_eq]
theorem oEq_bl {i j : Bool} : oEq (.bl i) (.bl j) = .ok (.bl (decide (i = j))) := by simp [oEq, D.cmp, D.sc, D.beq, Bool.beq_eq_decide_eq]
theorem oIsN_non : oIsN .non = .ok (.bl true) := rfl
theorem oNotN_non : oNotN .non = .ok (.bl false) := rfl
theorem oIsN_exc : oIsN (.exc C) = .ok (.bl false) := rfl
theorem oNotN_exc : oNotN (.exc C) = .ok (.bl true) := rfl
theorem oIsN_int {i : Int} : oIsN (.int i) = .ok (.bl false) := rfl
theorem oNotN_int {i : Int} : oNotN (.int i) = .ok (.bl true) := rfl
theorem bMax_int {i j : Int} : bMax [.int i, .int j] = .ok (.int (max i j)) := by
  unfold bMax; simp only; congr 2; omega
theorem bMin_int {i j : Int} : bMin [.int i, .int j] = .ok (.int (min i j)) := by
  unfold bMin; simp only; congr 2; omega
theorem bAbs_int {i : Int} : bAbs [.int i] = .ok (.int (if i < 0 then -i else i)) := rfl
theorem bLen_lst {ds : List D} : bLen [.lst ds] = .ok (.int ds.length) := rfl
theorem bLen_tup {ds : List D} : bLen [.tup ds] = .ok (.int ds.length) := rfl
theorem bInt_int {i : Int} : bInt [.int i] = .ok (.int i) := rfl
theorem bInt_bl {k : Bool} : bInt [.bl k] = .ok (.int (if k then 1 else 0)) := rfl
theorem bBitLen_int {i : Int} : bBitLen [.int i] = .ok (.int (nb i)) := rfl
theorem bList_lst {ds : List D} : bList [.lst ds] = .ok (.lst ds) := rfl
theorem bList_tup {ds : List D} : bList [.tup ds] = .ok (.lst ds) := rfl
theorem isi_int_int {i : Int} : bIsi [.int i, .ty "int"] = .ok (.bl true) := by simp [bIsi]
theorem isi_int_bool {i : Int} : bIsi [.int i, .ty "bool"] = .ok (.bl false) := by simp [bIsi]
theorem isi_tup_tup {ds : List D} : bIsi [.tup ds, .ty "tuple"] = .ok (.bl true) := by simp [bIsi]
theorem isi_lst_lst {ds : List D} : bIsi [.lst ds, .ty "list"] = .ok (.bl true) := by simp [bIsi]
theorem isi_exc_ve : bIsi [.exc C, .ty "ValueError"] = if excNames.contains C then .ok (.bl true) else .bad := by simp [bIsi]
theorem isi_exc_cls {B : String} : bIsi [.exc C, .cls B] = if excNames.contains C && excNames.contains B then .ok (.bl (C == B || B == "MillError")) else .bad := rfl
theorem isi_non_cls {B : String} : bIsi [.non, .cls B] = if excNames.contains B then .ok (.bl false) else .bad := rfl
theorem trn_nx {k : S} : trn (.nx δ) k = k δ := rfl
theorem trn_ct {k : S} : trn (.ct δ) k = k δ := rfl
theorem trn_bk {k : S} : trn (.bk δ) k = .nx δ := rfl
theorem trn_rt {k : S} : trn (.rt d) k = .rt d := rfl
theorem trn_ex {k : S} : trn (.ex C δ) k = .ex C δ := rfl
theorem trn_mk {k : S} : trn (.mk C δ) k = .mk C δ := rfl
theorem trn_ite {p : Prop} [Decidable p] (x y : O) {k : S} : trn (if p then x else y) k = if p then trn x k else trn y k := by split <;> rfl
theorem forL_nil {i : Nat} {b : S} : forL i b [] δ = .nx δ := rfl
theorem forL_cons {i : Nat} {b : S} {ds : List D} : forL i b (d :: ds) δ = trn (b (δ.set i (some d))) (forL i b ds) := rfl
theorem ovL_ok {ds : List D} {k : List D → O} : ovL δ (.ok (.lst ds)) k = k ds := rfl
theorem ovT_ok {ds : List D} {k : List D → O} : ovT δ (.ok (.tup ds)) k = k ds := rfl
theorem tryO_nx {B : String} {i : Nat} {s : S} : tryO (.nx δ) B i s = .nx δ := rfl
theorem tryO_ex {B : String} {i : Nat} {s : S} : tryO (.ex C δ) B i s = if exSub C B then forget i (s ((noOwn δ).set i (some (.exc C)))) else .bad := rfl
theorem tryO_ite {p : Prop} [Decidable p] (x y : O) {B : String} {i : Nat} {s : S} : tryO (if p then x else y) B i s = if p then tryO x B i s else tryO y B i s := by split <;> rfl
theorem forget_nx {i : Nat} : forget i (.nx δ) = .nx (δ.set i none) := rfl
theorem noOwn_nil : noOwn [] = [] := rfl
theorem noOwn_none : noOwn (none :: δ) = none :: noOwn δ := rfl
theorem noOwn_int {i : Int} : noOwn (some (.int i) :: δ) = some (.int i) :: noOwn δ := rfl
theorem noOwn_bl {i : Bool} : noOwn (some (.bl i) :: δ) = some (.bl i) :: noOwn δ := rfl
theorem noOwn_str {i : PySem.Str} : noOwn (some (.str i) :: δ) = some (.str i) :: noOwn δ := rfl
theorem noOwn_non : noOwn (some .non :: δ) = some .non :: noOwn δ := rfl
theorem noOwn_tup {ds : List D} : noOwn (some (.tup ds) :: δ) = some (.tup ds) :: noOwn δ := rfl
theorem noOwn_lst {ds : List D} : noOwn (some (.lst ds) :: δ) = some (.lst ds) :: noOwn δ := rfl
theorem noOwn_exc : noOwn (some (.exc C) :: δ) = some (.exc C) :: noOwn δ := rfl
theorem exSub_mill {C : String} : exSub C "MillError" = excNames.contains C := by simp [exSub]
end
theorem ix_tup {ds : List D} {k : Nat} {d : D} (h : ds[k]? = some d) : oIx (.tup ds) (.int k) = .ok d := by
  obtain ⟨hk, he⟩ := List.getElem?_eq_some_iff.mp h
  unfold oIx ixN
  simp [he, hk]
theorem ix_lst {ds : List D} {k : Nat} {d : D} (h : ds[k]? = some d) : oIx (.lst ds) (.int k) = .ok d := by
  obtain ⟨hk, he⟩ := List.getElem?_eq_some_iff.mp h
  unfold oIx ixN
  simp [he, hk]
section
variable {a b c d e : D} {r : List D}
theorem ix0 : oIx (.tup (a :: r)) (.int 0) = .ok a := ix_tup (k := 0) rfl
theorem ix1 : oIx (.tup (a :: b :: r)) (.int 1) = .ok b := ix_tup (k := 1) rfl
theorem ix2 : oIx (.tup (a :: b :: c :: r)) (.int 2) = .ok c := ix_tup (k := 2) rfl
theorem ix3 : oIx (.tup (a :: b :: c :: d :: r)) (.int 3) = .ok d := ix_tup (k := 3) rfl
theorem ixl0 : oIx (.lst (a :: r)) (.int 0) = .ok a := ix_lst (k := 0) rfl
theorem ixl1 : oIx (.lst (a :: b :: r)) (.int 1) = .ok b := ix_lst (k := 1) rfl
theorem ixl2 : oIx (.lst (a :: b :: c :: r)) (.int 2) = .ok c := ix_lst (k := 2) rfl
end
theorem fn_0 {m : Nat} {gg : S} : fn 0 m gg [] = (gg (List.replicate m none)).res := rfl
theorem fn_1 {m : Nat} {gg : S} {a : D} : fn 1 m gg [a] = (gg (some a :: List.replicate (m - 1) none)).res := rfl
theorem fn_2 {m : Nat} {gg : S} {a b : D} : fn 2 m gg [a, b] = (gg (some a :: some b :: List.replicate (m - 2) none)).res := rfl
theorem fn_3 {m : Nat} {gg : S} {a b c : D} : fn 3 m gg [a, b, c] = (gg (some a :: some b :: some c :: List.replicate (m - 3) none)).res := rfl
theorem fn_4 {m : Nat} {gg : S} {a b c d : D} : fn 4 m gg [a, b, c, d] = (gg (some a :: some b :: some c :: some d :: List.replicate (m - 4) none)).res := rfl
theorem fn_5 {m : Nat} {gg : S} {a b c d e : D} : fn 5 m gg [a, b, c, d, e] = (gg (some a :: some b :: some c :: some d :: some e :: List.replicate (m - 5) none)).res := rfl
theorem fn_6 {m : Nat} {gg : S} {a b c d e f : D} : fn 6 m gg [a, b, c, d, e, f] = (gg (some a :: some b :: some c :: some d :: some e :: some f :: List.replicate (m - 6) none)).res := rfl
theorem fn_7 {m : Nat} {gg : S} {a b c d e f g : D} : fn 7 m gg [a, b, c, d, e, f, g] = (gg (some a :: some b :: some c :: some d :: some e :: some f :: some g :: List.replicate (m - 7) none)).res := rfl
theorem fn_8 {m : Nat} {gg : S} {a b c d e f g h : D} : fn 8 m gg [a, b, c, d, e, f, g, h] = (gg (some a :: some b :: some c :: some d :: some e :: some f :: some g :: some h :: List.replicate (m - 8) none)).res := rfl
section
variable {α β : Type} {a : α} {l : List α} {n : Nat} {p : Prop} {x y : α}
theorem z_len_cons : (a :: l).length = l.length + 1 := rfl
theorem z_len_nil : ([] : List α).length = 0 := rfl
theorem z_len_map {f : α → β} : (l.map f).length = l.length := List.length_map f
theorem z_map_cons {f : α → β} : (a :: l).map f = f a :: l.map f := rfl
theorem z_map_nil {f : α → β} : ([] : List α).map f = [] := rfl
theorem z_set_0 : (a :: l).set 0 x = x :: l := rfl
theorem z_set_s : (a :: l).set (n + 1) x = a :: l.set n x := rfl
theorem z_rep_0 : List.replicate 0 a = [] := rfl
theorem z_rep_s : List.replicate (n + 1) a = a :: List.replicate n a := rfl
theorem z_add0 : 0 + n = n := Nat.zero_add n
theorem z_if_t : (if True then x else y) = x := if_pos trivial
theorem z_if_f : (if False then x else y) = y := if_neg id
theorem z_ft : (false = true) = False := by simp
theorem z_tt : (true = true) = True := by simp
theorem z_not_t : (!true) = false := rfl
theorem z_not_f : (!false) = true := rfl
theorem z_dec [Decidable p] : (decide p = true) = p := decide_eq_true_eq
theorem z_dec_t [Decidable True] : decide True = true := by simp
theorem z_dec_f [Decidable False] : decide False = false := by simp
theorem z_and_t : (p ∧ True) = p := by simp
theorem z_t_and : (True ∧ p) = p := by simp
theorem z_and_f : (p ∧ False) = False := by simp
theorem z_f_and : (False ∧ p) = False := by simp
theorem z_or_t : (p ∨ True) = True := by simp
theorem z_t_or : (True ∨ p) = True := by simp
theorem z_or_f : (p ∨ False) = p := by simp
theorem z_f_or : (False ∨ p) = p := by simp
theorem z_nt : (¬ True) = False := by simp
theorem z_nf : (¬ False) = True := by simp
end
section
variable {a b c : E} {s t : S} {δ : Dt} {i : Nat} {f h : D → D → R D} {k : D → R D} {es : List E} {F : List D → R D} {d : D} {C : String}
theorem u_seq : seq s t δ = (s δ).then t := rfl
theorem u_assign : assign i a δ = asg i δ (a δ) := rfl
theorem u_ret : ret a δ = rtn δ (a δ) := rfl
theorem u_retV : retV a δ = rtn δ (a (view δ)) := rfl
theorem u_ifs : ifs a s t δ = ifO δ (a δ) (s δ) (t δ) := rfl
theorem u_expr : expr a δ = xpr δ (a δ) := rfl
theorem u_raise : raise C δ = .mk C δ := rfl
theorem u_pass : pass_ δ = .nx δ := rfl
theorem u_retN : retN δ = .rt .non := rfl
theorem u_brk : brk δ = .bk δ := rfl
theorem u_cont : cont δ = .ct δ := rfl
theorem u_con : con d δ = .ok d := rfl
theorem u_bin : bin f a b δ = (a δ).bind fun x => (b δ).bind fun y => f x y := rfl
theorem u_un : un k a δ = (a δ).bind k := rfl
theorem u_and : and_ a b δ = (a δ).bind fun d => truth d (b δ) (.ok (.bl false)) := rfl
theorem u_or : or_ a b δ = (a δ).bind fun d => truth d (.ok (.bl true)) (b δ) := rfl
theorem u_not : not_ a δ = (a δ).bind fun d => truth d (.ok (.bl false)) (.ok (.bl true)) := rfl
theorem u_ife : ife c a b δ = (c δ).bind fun d => truth d (a δ) (b δ) := rfl
theorem u_chain : chain f h a b c δ = (a δ).bind fun x => (b δ).bind fun y => (f x y).bind fun d => truth d ((c δ).bind fun z => h y z) (.ok (.bl false)) := rfl
theorem u_tup : tupE es δ = (evs es δ).bind fun ds => .ok (.tup ds) := rfl
theorem u_lst : lstE es δ = (evs es δ).bind fun ds => .ok (.lst ds) := rfl
theorem u_call : call F es δ = (evs es δ).bind F := rfl
theorem u_try : try_ s C i t δ = tryO (s δ) C i t := rfl
theorem u_forsL : forsL i a s δ = ovL δ (a δ) fun ds => forL i s ds δ := rfl
theorem u_forsT : forsT i a s δ = ovT δ (a δ) fun ds => forL i s ds δ := rfl
theorem u_forR1 : forR1 i a s δ = ovR δ (a δ) fun ds => forL i s ds δ := rfl
end
theorem xn_MillError : excNames.contains "MillError" = true := by decide
theorem xn_NoSize : excNames.contains "NoSize" = true := by decide
theorem xn_NoBits : excNames.contains "NoBits" = true := by decide
theorem xn_NoParts : excNames.contains "NoParts" = true := by decide
theorem xn_NoRank : excNames.contains "NoRank" = true := by decide
theorem xn_NotFinite : excNames.contains "NotFinite" = true := by decide
theorem xn_NoWay : excNames.contains "NoWay" = true := by decide
theorem xn_NoFlags : excNames.contains "NoFlags" = true := by decide
theorem xn_NoFraction : excNames.contains "NoFraction" = true := by decide
theorem xn_Unlike : excNames.contains "Unlike" = true := by decide
theorem xn_Empty : excNames.contains "Empty" = true := by decide
theorem xn_NoLeft : excNames.contains "NoLeft" = true := by decide
theorem xn_NoText : excNames.contains "NoText" = true := by decide
theorem xn_NoRow : excNames.contains "NoRow" = true := by decide
theorem xn_NoName : excNames.contains "NoName" = true := by decide
theorem xn_Stopped : excNames.contains "Stopped" = true := by decide
section
variable {α : Type} {b : Bool} {ds es : List D} {i : Nat} {it : IT} {g h : E} {s : S} {δ : Dt} {C : String} {ks : List Nat} {k : List D → O} {x : D} {fs : List (String × D)} {F : List D → R D} {gs : List E} {cn m f : String}
theorem y_and_t : (b && true) = b := by simp
theorem y_t_and : (true && b) = b := by simp
theorem y_f_and : (false && b) = false := by simp
theorem y_and_f : (b && false) = false := by simp
theorem y_or_f : (b || false) = b := by simp
theorem y_f_or : (false || b) = b := by simp
theorem y_t_or : (true || b) = true := by simp
theorem y_or_t : (b || true) = true := by simp
theorem u_forI : forI i it s δ = ovI δ (it δ) fun ds => forL i s ds δ := rfl
theorem ovI_ok : ovI δ (.ok ds) k = k ds := rfl
theorem ovI_ex : ovI δ (.ex C) k = .ex C (noOwn δ) := rfl
theorem u_itL : itL g δ = (g δ).bind asL := rfl
theorem u_itT : itT g δ = (g δ).bind asT := rfl
theorem u_itR1 : itR1 g δ = (g δ).bind asR1 := rfl
theorem u_itR2 : itR2 g h δ = (evs [g, h] δ).bind asR2 := rfl
theorem asL_lst : asL (.lst ds) = .ok ds := rfl
theorem asT_tup : asT (.tup ds) = .ok ds := rfl
theorem asR1_int {n : Int} (h0 : -4611686018427387904 ≤ n) (h1 : n < 4611686018427387904) : asR1 (.int n) = .ok (rngD 0 n) := by unfold asR1; simp only; rw [if_pos ⟨h0, h1⟩]
theorem asR2_int {n m : Int} (h0 : -4611686018427387904 ≤ n) (h1 : n < 4611686018427387904) (h2 : -4611686018427387904 ≤ m) (h3 : m < 4611686018427387904) : asR2 [.int n, .int m] = .ok (rngD n m) := by unfold asR2; simp only; rw [if_pos ⟨h0, h1, h2, h3⟩]
theorem u_comp : comp it ks g δ = (it δ).bind fun ds => if ds.length ≤ 100000 then (runC (stC (con (.bl true)) g ks δ) ds).bind flatR else .bad := rfl
theorem u_compIf : compIf it ks g h δ = (it δ).bind fun ds => if ds.length ≤ 100000 then (runC (stC g h ks δ) ds).bind flatR else .bad := rfl
theorem u_meth : meth cn m F g gs δ = (g δ).bind fun d => if isMeth cn m d then (evs gs δ).bind fun ds => F (d :: ds) else .bad := rfl
theorem u_mk1 : mk1 cn f [x] = .ok (.ins cn [(f, x)]) := rfl
theorem fld1 : oFld cn f (.ins cn ((f, x) :: fs)) = .ok x := by simp [oFld]
theorem im1 : isMeth cn m (.ins cn [(f, x)]) = (m != f) := by
  have : isMeth cn m (.ins cn [(f, x)]) = ((cn == cn) && (List.lookup m [(f, x)]).isNone) := rfl
  rw [this, List.lookup_cons]
  cases e : (m == f) <;> simp [e, bne]
theorem noOwn_ins : noOwn (some (.ins C fs) :: δ) = some (.ins C fs) :: noOwn δ := rfl
theorem bIsiT_tup {d : D} : bIsiT [d, .tup ds] = isiAny d ds := rfl
theorem isiAny_nil {d : D} : isiAny d [] = .ok (.bl false) := rfl
theorem isiAny_cons {d c : D} : isiAny d (c :: ds) = (bIsi [d, c]).bind fun x => truth x (.ok (.bl true)) (isiAny d ds) := rfl
theorem isi_non_ty {n : String} : bIsi [.non, .ty n] = if ["int", "bool", "str", "tuple", "list", "ValueError"].contains n then .ok (.bl false) else .bad := rfl
theorem oIsN_tup : oIsN (.tup ds) = .ok (.bl false) := rfl
theorem oNotN_tup : oNotN (.tup ds) = .ok (.bl true) := rfl
theorem oIsN_lst : oIsN (.lst ds) = .ok (.bl false) := rfl
theorem oNotN_lst : oNotN (.lst ds) = .ok (.bl true) := rfl
theorem oIsN_str {z : PySem.Str} : oIsN (.str z) = .ok (.bl false) := rfl
theorem oNotN_str {z : PySem.Str} : oNotN (.str z) = .ok (.bl true) := rfl
end
theorem ofStr_inj {x y : String} (h : (PySem.Str.ofString x) = PySem.Str.ofString y) : x = y := by
  rw [PySem.Str.ofString_eq_toList, PySem.Str.ofString_eq_toList] at h
  have h1 : (x.toList.map Char.toNat).toArray = (y.toList.map Char.toNat).toArray := congrArg PySem.Str.cps h
  have h2 : x.toList.map Char.toNat = y.toList.map Char.toNat := by simpa using h1
  have h3 : ∀ (l m : List Char), l.map Char.toNat = m.map Char.toNat → l = m := by
    intro l
    induction l with
    | nil => intro m e; cases m with | nil => rfl | cons _ _ => cases e
    | cons c r ih =>
      intro m e
      cases m with
      | nil => cases e
      | cons c' r' =>
        rw [List.map_cons, List.map_cons, List.cons.injEq] at e
        rw [Char.ext (UInt32.toNat_inj.mp e.1), ih r' e.2]
  exact String.toList_inj.mp (h3 _ _ h2)
theorem ofStr_eq {x y : String} : ((PySem.Str.ofString x) = PySem.Str.ofString y) = (x = y) := propext ⟨ofStr_inj, fun e => by rw [e]⟩
theorem oEq_tup2 {a b c d : Int} : oEq (.tup [.int a, .int b]) (.tup [.int c, .int d]) = .ok (.bl (decide (a = c ∧ b = d))) := by
  simp [oEq, D.cmp, D.sc, D.pl, D.beq, D.beqs, Bool.beq_eq_decide_eq]
theorem oNe_tup2 {a b c d : Int} : oNe (.tup [.int a, .int b]) (.tup [.int c, .int d]) = .ok (.bl (!decide (a = c ∧ b = d))) := by
  simp [oNe, D.cmp, D.sc, D.pl, D.beq, D.beqs, Bool.beq_eq_decide_eq]
theorem oEq_tup3 {a b c d e f : Int} : oEq (.tup [.int a, .int b, .int e]) (.tup [.int c, .int d, .int f]) = .ok (.bl (decide (a = c ∧ b = d ∧ e = f))) := by
  simp [oEq, D.cmp, D.sc, D.pl, D.beq, D.beqs, Bool.beq_eq_decide_eq]
theorem oNe_tup3 {a b c d e f : Int} : oNe (.tup [.int a, .int b, .int e]) (.tup [.int c, .int d, .int f]) = .ok (.bl (!decide (a = c ∧ b = d ∧ e = f))) := by
  simp [oNe, D.cmp, D.sc, D.pl, D.beq, D.beqs, Bool.beq_eq_decide_eq]
theorem not_dec {p : Prop} [Decidable p] : ((!decide p) = true) = ¬ p := by simp
theorem u_itA {g : E} {δ : Dt} : itA g δ = (g δ).bind asA := rfl
theorem asA_lst {ds : List D} : asA (.lst ds) = .ok ds := rfl
theorem asA_tup {ds : List D} : asA (.tup ds) = .ok ds := rfl
theorem u_slc {a : E} {lo hi : Option E} {δ : Dt} : slc a lo hi δ = (a δ).bind fun d => (part lo δ).bind fun l => (part hi δ).bind fun h => oSl d l h := rfl
theorem part_none {δ : Dt} : part none δ = .ok none := rfl
theorem part_con {i : Int} {δ : Dt} : part (some (con (.int i))) δ = .ok (some i) := rfl
theorem oSl_lst {ds : List D} {lo hi : Option Int} : oSl (.lst ds) lo hi = .ok (.lst (cut ds lo hi)) := rfl
theorem isi_str_str {x : PySem.Str} : bIsi [.str x, .ty "str"] = .ok (.bl true) := rfl
theorem oNe_tups {a b c x y z : Int} : oNe (.tup [.int a, .int b, .int c]) (.tup [.int x, .int y, .int z]) = .ok (.bl (decide (¬ (a = x ∧ b = y ∧ c = z)))) := by
  unfold oNe
  rw [if_pos (show D.cmp _ _ = true from rfl)]
  congr 2
  simp only [D.beq, D.beqs]
  by_cases h1 : a = x <;> by_cases h2 : b = y <;> by_cases h3 : c = z <;> simp [h1, h2, h3]
theorem oEq_tups {a b c x y z : Int} : oEq (.tup [.int a, .int b, .int c]) (.tup [.int x, .int y, .int z]) = .ok (.bl (decide (a = x ∧ b = y ∧ c = z))) := by
  unfold oEq
  rw [if_pos (show D.cmp _ _ = true from rfl)]
  congr 2
  simp only [D.beq, D.beqs]
  by_cases h1 : a = x <;> by_cases h2 : b = y <;> by_cases h3 : c = z <;> simp [h1, h2, h3]
theorem ofS_inj {a b : String} : (PySem.Str.ofString a = PySem.Str.ofString b) = (a = b) := by
  apply propext
  constructor
  · intro h
    rw [PySem.Str.ofString_eq_toList, PySem.Str.ofString_eq_toList] at h
    have h1 : a.toList.map Char.toNat = b.toList.map Char.toNat := by
      have := congrArg (fun z : PySem.Str => z.cps.toList) h
      simpa using this
    have h2 : a.toList = b.toList := by
      refine List.map_inj_right (f := Char.toNat) (fun x y e => ?_) |>.mp h1
      exact Char.toNat_inj.mp e
    exact String.toList_inj.mp h2
  · intro h; rw [h]
theorem oFld_1 {cn f : String} {d : D} : oFld cn f (.ins cn [(f, d)]) = .ok d := by simp [oFld, List.lookup]
theorem isMeth_1 {cn m f : String} {d : D} : isMeth cn m (.ins cn [(f, d)]) = !(m == f) := by
  unfold isMeth
  cases h : m == f <;> simp [List.lookup, h]
theorem mk1_ok {cn f : String} {d : D} : mk1 cn f [d] = .ok (.ins cn [(f, d)]) := rfl
theorem isMeth_b : (!false) = true := rfl
theorem u_itR3 {g h k : E} : itR3 g h k δ = (evs [g, h, k] δ).bind asR3 := rfl
theorem asR3_int {n m c : Int} (h : -1099511627776 ≤ n ∧ n < 1099511627776 ∧ -1099511627776 ≤ m ∧ m < 1099511627776) (h0 : 0 < c) (h1 : c < 1048576) : asR3 [.int n, .int m, .int c] = .ok (rngS n m c) := by unfold asR3; simp only; rw [if_pos ⟨h, h0, h1⟩]
theorem u_ownNew {i : Nat} : ownNew i δ = .nx (δ.set i (some (.own []))) := rfl
theorem u_ownApp {i : Nat} {g : E} : ownApp i g δ = onOwn i δ fun ds => appO i δ ds (g (view δ)) := rfl
theorem u_ownRev {i : Nat} : ownRev i δ = onOwn i δ fun ds => .nx (δ.set i (some (.own ds.reverse))) := rfl
theorem onOwn_0 {ds : List D} {l : Dt} {f : List D → O} : onOwn 0 (some (.own ds) :: l) f = f ds := rfl
theorem onOwn_s {i : Nat} {c : Option D} {l : Dt} {f : List D → O} : onOwn (i + 1) (c :: l) f = onOwn i l f := rfl
theorem appO_ok {i : Nat} {ds : List D} {d : D} (h : D.flat d = true) (h2 : ds.length < 100000) : appO i δ ds (.ok d) = .nx (δ.set i (some (.own (ds ++ [d])))) := by unfold appO; simp only; rw [if_pos ⟨h, h2⟩]
theorem appO_ex {i : Nat} {ds : List D} : appO i δ ds (.ex C) = .ex C (noOwn δ) := rfl
theorem u_pubS {i : Nat} {s : S} : pubS i s δ = s (pub i δ) := rfl
theorem pub_0 {ds : List D} {l : Dt} : pub 0 (some (.own ds) :: l) = some (.lst ds) :: l := rfl
theorem pub_s {i : Nat} {c : Option D} {l : Dt} : pub (i + 1) (c :: l) = c :: pub i l := by
  unfold pub
  rw [List.getElem?_cons_succ]
  split <;> rename_i q
  · rw [q]; rfl
  · rfl
theorem noOwn_own {ds : List D} : noOwn (some (.own ds) :: δ) = none :: noOwn δ := rfl
theorem view_nil : view [] = [] := rfl
theorem view_none : view (none :: δ) = none :: view δ := rfl
theorem view_own {ds : List D} : view (some (.own ds) :: δ) = some (.lst ds) :: view δ := rfl
theorem view_int {i : Int} : view (some (.int i) :: δ) = some (.int i) :: view δ := rfl
theorem view_bl {i : Bool} : view (some (.bl i) :: δ) = some (.bl i) :: view δ := rfl
theorem view_str {i : PySem.Str} : view (some (.str i) :: δ) = some (.str i) :: view δ := rfl
theorem view_non  : view (some (.non) :: δ) = some (.non) :: view δ := rfl
theorem view_tup {ds : List D} : view (some (.tup ds) :: δ) = some (.tup ds) :: view δ := rfl
theorem view_lst {ds : List D} : view (some (.lst ds) :: δ) = some (.lst ds) :: view δ := rfl
theorem view_exc  : view (some (.exc C) :: δ) = some (.exc C) :: view δ := rfl
theorem view_ins {fs : List (String × D)} : view (some (.ins C fs) :: δ) = some (.ins C fs) :: view δ := rfl
theorem u_assignV {i : Nat} {g : E} : assignV i g δ = asgF i δ (g (view δ)) := rfl
theorem asgF_int {i : Nat} {n : Int} : asgF i δ (.ok (.int n)) = .nx (δ.set i (some (.int n))) := rfl
theorem u_ifsV {c : E} {a b : S} : ifsV c a b δ = ifO δ (c (view δ)) (a δ) (b δ) := rfl
theorem u_ownComp {i : Nat} {g : E} : ownComp i g δ = takO i δ (g (view δ)) := rfl
theorem takO_lst {i : Nat} {rs : List D} : takO i δ (.ok (.lst rs)) = .nx (δ.set i (some (.own rs))) := rfl
theorem u_ownSet {i : Nat} {a b : E} : ownSet i a b δ = onOwn i δ fun ds => setO i δ ds (b (view δ)) (a (view δ)) := rfl
theorem setO_ok {i : Nat} {ds : List D} {d : D} {k : Int} (h : D.flat d = true) (h0 : 0 ≤ k) (h1 : k < ds.length) : setO i δ ds (.ok d) (.ok (.int k)) = .nx (δ.set i (some (.own (ds.set k.toNat d)))) := by unfold setO; simp only; rw [if_pos ⟨h, h0, h1⟩]
theorem u_ownTake {i : Nat} {g : E} : ownTake i g δ = takO i δ (g δ) := rfl
theorem EvS : (type_of% @oMod_ok) ∧ (type_of% @oDiv_lit) ∧ (type_of% @oShr_ok) ∧ (type_of% @bind_ok) ∧ (type_of% @bind_ex) ∧ (type_of% @bind_bad) ∧ (type_of% @bind_ite) ∧ (type_of% @then_nx) ∧ (type_of% @then_rt) ∧ (type_of% @then_ex) ∧ (type_of% @then_mk) ∧ (type_of% @then_bk) ∧ (type_of% @then_ct) ∧ (type_of% @then_bad) ∧ (type_of% @then_ite) ∧ (type_of% @res_rt) ∧ (type_of% @res_nx) ∧ (type_of% @res_ex) ∧ (type_of% @res_mk) ∧ (type_of% @res_bad) ∧ (type_of% @res_ite) ∧ (type_of% @asg_ok) ∧ (type_of% @asg_ex) ∧ (type_of% @asg_ite) ∧ (type_of% @xpr_ok) ∧ (type_of% @xpr_ex) ∧ (type_of% @xpr_ite) ∧ (type_of% @rtn_ok) ∧ (type_of% @rtn_ex) ∧ (type_of% @rtn_ite) ∧ (type_of% @ifO_bl) ∧ (type_of% @ifO_ex) ∧ (type_of% @ifO_ite) ∧ (type_of% @truth_bl) ∧ (type_of% @ite_bl) ∧ (type_of% @ite_int) ∧ (type_of% @ite_b1) ∧ (type_of% @ite_b2) ∧ (type_of% @ite_b3) ∧ (type_of% @var_0n) ∧ (type_of% @var_int) ∧ (type_of% @var_bl) ∧ (type_of% @var_str) ∧ (type_of% @var_non) ∧ (type_of% @var_tup) ∧ (type_of% @var_lst) ∧ (type_of% @var_own) ∧ (type_of% @var_exc) ∧ (type_of% @var_cls) ∧ (type_of% @var_ins) ∧ (type_of% @var_succ) ∧ (type_of% @evs_nil) ∧ (type_of% @evs_cons) ∧ (type_of% @oAdd_int) ∧ (type_of% @oSub_int) ∧ (type_of% @oNeg_int) ∧ (type_of% @oLt_int) ∧ (type_of% @oLe_int) ∧ (type_of% @oGt_int) ∧ (type_of% @oGe_int) ∧ (type_of% @oEq_int) ∧ (type_of% @oNe_int) ∧ (type_of% @oEq_str) ∧ (type_of% @oNe_str) ∧ (type_of% @oEq_bl) ∧ (type_of% @oIsN_non) ∧ (type_of% @oNotN_non) ∧ (type_of% @oIsN_exc) ∧ (type_of% @oNotN_exc) ∧ (type_of% @oIsN_int) ∧ (type_of% @oNotN_int) ∧ (type_of% @bMax_int) ∧ (type_of% @bMin_int) ∧ (type_of% @bAbs_int) ∧ (type_of% @bLen_lst) ∧ (type_of% @bLen_tup) ∧ (type_of% @bInt_int) ∧ (type_of% @bInt_bl) ∧ (type_of% @bBitLen_int) ∧ (type_of% @bList_lst) ∧ (type_of% @bList_tup) ∧ (type_of% @isi_int_int) ∧ (type_of% @isi_int_bool) ∧ (type_of% @isi_tup_tup) ∧ (type_of% @isi_lst_lst) ∧ (type_of% @isi_exc_ve) ∧ (type_of% @isi_exc_cls) ∧ (type_of% @isi_non_cls) ∧ (type_of% @trn_nx) ∧ (type_of% @trn_ct) ∧ (type_of% @trn_bk) ∧ (type_of% @trn_rt) ∧ (type_of% @trn_ex) ∧ (type_of% @trn_mk) ∧ (type_of% @trn_ite) ∧ (type_of% @ovL_ok) ∧ (type_of% @ovT_ok) ∧ (type_of% @tryO_nx) ∧ (type_of% @tryO_ex) ∧ (type_of% @tryO_ite) ∧ (type_of% @forget_nx) ∧ (type_of% @noOwn_nil) ∧ (type_of% @noOwn_none) ∧ (type_of% @noOwn_int) ∧ (type_of% @noOwn_bl) ∧ (type_of% @noOwn_str) ∧ (type_of% @noOwn_non) ∧ (type_of% @noOwn_tup) ∧ (type_of% @noOwn_lst) ∧ (type_of% @noOwn_exc) ∧ (type_of% @exSub_mill) ∧ (type_of% @ix0) ∧ (type_of% @ix1) ∧ (type_of% @ix2) ∧ (type_of% @ix3) ∧ (type_of% @ixl0) ∧ (type_of% @ixl1) ∧ (type_of% @ixl2) ∧ (type_of% @fn_0) ∧ (type_of% @fn_1) ∧ (type_of% @fn_2) ∧ (type_of% @fn_3) ∧ (type_of% @fn_4) ∧ (type_of% @fn_5) ∧ (type_of% @fn_6) ∧ (type_of% @fn_7) ∧ (type_of% @fn_8) ∧ (type_of% @z_len_cons) ∧ (type_of% @z_len_nil) ∧ (type_of% @z_len_map) ∧ (type_of% @z_map_cons) ∧ (type_of% @z_map_nil) ∧ (type_of% @z_set_0) ∧ (type_of% @z_set_s) ∧ (type_of% @z_rep_0) ∧ (type_of% @z_rep_s) ∧ (type_of% @z_add0) ∧ (type_of% @z_if_t) ∧ (type_of% @z_if_f) ∧ (type_of% @z_ft) ∧ (type_of% @z_tt) ∧ (type_of% @z_not_t) ∧ (type_of% @z_not_f) ∧ (type_of% @z_dec) ∧ (type_of% @z_dec_t) ∧ (type_of% @z_dec_f) ∧ (type_of% @z_and_t) ∧ (type_of% @z_t_and) ∧ (type_of% @z_and_f) ∧ (type_of% @z_f_and) ∧ (type_of% @z_or_t) ∧ (type_of% @z_t_or) ∧ (type_of% @z_or_f) ∧ (type_of% @z_f_or) ∧ (type_of% @z_nt) ∧ (type_of% @z_nf) ∧ (type_of% @u_seq) ∧ (type_of% @u_assign) ∧ (type_of% @u_ret) ∧ (type_of% @u_retV) ∧ (type_of% @u_ifs) ∧ (type_of% @u_expr) ∧ (type_of% @u_raise) ∧ (type_of% @u_pass) ∧ (type_of% @u_retN) ∧ (type_of% @u_brk) ∧ (type_of% @u_cont) ∧ (type_of% @u_con) ∧ (type_of% @u_bin) ∧ (type_of% @u_un) ∧ (type_of% @u_and) ∧ (type_of% @u_or) ∧ (type_of% @u_not) ∧ (type_of% @u_ife) ∧ (type_of% @u_chain) ∧ (type_of% @u_tup) ∧ (type_of% @u_lst) ∧ (type_of% @u_call) ∧ (type_of% @u_try) ∧ (type_of% @u_forsL) ∧ (type_of% @u_forsT) ∧ (type_of% @u_forR1) ∧ (type_of% @xn_MillError) ∧ (type_of% @xn_NoSize) ∧ (type_of% @xn_NoBits) ∧ (type_of% @xn_NoParts) ∧ (type_of% @xn_NoRank) ∧ (type_of% @xn_NotFinite) ∧ (type_of% @xn_NoWay) ∧ (type_of% @xn_NoFlags) ∧ (type_of% @xn_NoFraction) ∧ (type_of% @xn_Unlike) ∧ (type_of% @xn_Empty) ∧ (type_of% @xn_NoLeft) ∧ (type_of% @xn_NoText) ∧ (type_of% @xn_NoRow) ∧ (type_of% @xn_NoName) ∧ (type_of% @xn_Stopped) ∧ (type_of% @y_and_t) ∧ (type_of% @y_t_and) ∧ (type_of% @y_f_and) ∧ (type_of% @y_and_f) ∧ (type_of% @y_or_f) ∧ (type_of% @y_f_or) ∧ (type_of% @y_t_or) ∧ (type_of% @y_or_t) ∧ (type_of% @u_forI) ∧ (type_of% @ovI_ok) ∧ (type_of% @ovI_ex) ∧ (type_of% @u_itL) ∧ (type_of% @u_itT) ∧ (type_of% @u_itR1) ∧ (type_of% @u_itR2) ∧ (type_of% @asL_lst) ∧ (type_of% @asT_tup) ∧ (type_of% @asR1_int) ∧ (type_of% @asR2_int) ∧ (type_of% @u_comp) ∧ (type_of% @u_compIf) ∧ (type_of% @u_meth) ∧ (type_of% @u_mk1) ∧ (type_of% @fld1) ∧ (type_of% @im1) ∧ (type_of% @noOwn_ins) ∧ (type_of% @bIsiT_tup) ∧ (type_of% @isiAny_nil) ∧ (type_of% @isiAny_cons) ∧ (type_of% @isi_non_ty) ∧ (type_of% @oIsN_tup) ∧ (type_of% @oNotN_tup) ∧ (type_of% @oIsN_lst) ∧ (type_of% @oNotN_lst) ∧ (type_of% @oIsN_str) ∧ (type_of% @oNotN_str) ∧ (type_of% @ofStr_eq) ∧ (type_of% @oEq_tup2) ∧ (type_of% @oNe_tup2) ∧ (type_of% @oEq_tup3) ∧ (type_of% @oNe_tup3) ∧ (type_of% @not_dec) ∧ (type_of% @u_itA) ∧ (type_of% @asA_lst) ∧ (type_of% @asA_tup) ∧ (type_of% @u_slc) ∧ (type_of% @part_none) ∧ (type_of% @part_con) ∧ (type_of% @oSl_lst) ∧ (type_of% @isi_str_str) ∧ (type_of% @oNe_tups) ∧ (type_of% @oEq_tups) ∧ (type_of% @ofS_inj) ∧ (type_of% @oFld_1) ∧ (type_of% @isMeth_1) ∧ (type_of% @mk1_ok) ∧ (type_of% @isMeth_b) ∧ (type_of% @u_itR3) ∧ (type_of% @asR3_int) ∧ (type_of% @u_ownNew) ∧ (type_of% @u_ownApp) ∧ (type_of% @u_ownRev) ∧ (type_of% @onOwn_0) ∧ (type_of% @onOwn_s) ∧ (type_of% @appO_ok) ∧ (type_of% @appO_ex) ∧ (type_of% @u_pubS) ∧ (type_of% @pub_0) ∧ (type_of% @pub_s) ∧ (type_of% @noOwn_own) ∧ (type_of% @view_nil) ∧ (type_of% @view_none) ∧ (type_of% @view_own) ∧ (type_of% @view_int) ∧ (type_of% @view_bl) ∧ (type_of% @view_str) ∧ (type_of% @view_non) ∧ (type_of% @view_tup) ∧ (type_of% @view_lst) ∧ (type_of% @view_exc) ∧ (type_of% @view_ins) ∧ (type_of% @u_assignV) ∧ (type_of% @asgF_int) ∧ (type_of% @u_ifsV) ∧ (type_of% @u_ownComp) ∧ (type_of% @takO_lst) ∧ (type_of% @u_ownSet) ∧ (type_of% @setO_ok) ∧ (type_of% @u_ownTake) :=
  ⟨@oMod_ok, @oDiv_lit, @oShr_ok, @bind_ok, @bind_ex, @bind_bad, @bind_ite, @then_nx, @then_rt, @then_ex, @then_mk, @then_bk, @then_ct, @then_bad, @then_ite, @res_rt, @res_nx, @res_ex, @res_mk, @res_bad, @res_ite, @asg_ok, @asg_ex, @asg_ite, @xpr_ok, @xpr_ex, @xpr_ite, @rtn_ok, @rtn_ex, @rtn_ite, @ifO_bl, @ifO_ex, @ifO_ite, @truth_bl, @ite_bl, @ite_int, @ite_b1, @ite_b2, @ite_b3, @var_0n, @var_int, @var_bl, @var_str, @var_non, @var_tup, @var_lst, @var_own, @var_exc, @var_cls, @var_ins, @var_succ, @evs_nil, @evs_cons, @oAdd_int, @oSub_int, @oNeg_int, @oLt_int, @oLe_int, @oGt_int, @oGe_int, @oEq_int, @oNe_int, @oEq_str, @oNe_str, @oEq_bl, @oIsN_non, @oNotN_non, @oIsN_exc, @oNotN_exc, @oIsN_int, @oNotN_int, @bMax_int, @bMin_int, @bAbs_int, @bLen_lst, @bLen_tup, @bInt_int, @bInt_bl, @bBitLen_int, @bList_lst, @bList_tup, @isi_int_int, @isi_int_bool, @isi_tup_tup, @isi_lst_lst, @isi_exc_ve, @isi_exc_cls, @isi_non_cls, @trn_nx, @trn_ct, @trn_bk, @trn_rt, @trn_ex, @trn_mk, @trn_ite, @ovL_ok, @ovT_ok, @tryO_nx, @tryO_ex, @tryO_ite, @forget_nx, @noOwn_nil, @noOwn_none, @noOwn_int, @noOwn_bl, @noOwn_str, @noOwn_non, @noOwn_tup, @noOwn_lst, @noOwn_exc, @exSub_mill, @ix0, @ix1, @ix2, @ix3, @ixl0, @ixl1, @ixl2, @fn_0, @fn_1, @fn_2, @fn_3, @fn_4, @fn_5, @fn_6, @fn_7, @fn_8, @z_len_cons, @z_len_nil, @z_len_map, @z_map_cons, @z_map_nil, @z_set_0, @z_set_s, @z_rep_0, @z_rep_s, @z_add0, @z_if_t, @z_if_f, @z_ft, @z_tt, @z_not_t, @z_not_f, @z_dec, @z_dec_t, @z_dec_f, @z_and_t, @z_t_and, @z_and_f, @z_f_and, @z_or_t, @z_t_or, @z_or_f, @z_f_or, @z_nt, @z_nf, @u_seq, @u_assign, @u_ret, @u_retV, @u_ifs, @u_expr, @u_raise, @u_pass, @u_retN, @u_brk, @u_cont, @u_con, @u_bin, @u_un, @u_and, @u_or, @u_not, @u_ife, @u_chain, @u_tup, @u_lst, @u_call, @u_try, @u_forsL, @u_forsT, @u_forR1, @xn_MillError, @xn_NoSize, @xn_NoBits, @xn_NoParts, @xn_NoRank, @xn_NotFinite, @xn_NoWay, @xn_NoFlags, @xn_NoFraction, @xn_Unlike, @xn_Empty, @xn_NoLeft, @xn_NoText, @xn_NoRow, @xn_NoName, @xn_Stopped, @y_and_t, @y_t_and, @y_f_and, @y_and_f, @y_or_f, @y_f_or, @y_t_or, @y_or_t, @u_forI, @ovI_ok, @ovI_ex, @u_itL, @u_itT, @u_itR1, @u_itR2, @asL_lst, @asT_tup, @asR1_int, @asR2_int, @u_comp, @u_compIf, @u_meth, @u_mk1, @fld1, @im1, @noOwn_ins, @bIsiT_tup, @isiAny_nil, @isiAny_cons, @isi_non_ty, @oIsN_tup, @oNotN_tup, @oIsN_lst, @oNotN_lst, @oIsN_str, @oNotN_str, @ofStr_eq, @oEq_tup2, @oNe_tup2, @oEq_tup3, @oNe_tup3, @not_dec, @u_itA, @asA_lst, @asA_tup, @u_slc, @part_none, @part_con, @oSl_lst, @isi_str_str, @oNe_tups, @oEq_tups, @ofS_inj, @oFld_1, @isMeth_1, @mk1_ok, @isMeth_b, @u_itR3, @asR3_int, @u_ownNew, @u_ownApp, @u_ownRev, @onOwn_0, @onOwn_s, @appO_ok, @appO_ex, @u_pubS, @pub_0, @pub_s, @noOwn_own, @view_nil, @view_none, @view_own, @view_int, @view_bl, @view_str, @view_non, @view_tup, @view_lst, @view_exc, @view_ins, @u_assignV, @asgF_int, @u_ifsV, @u_ownComp, @takO_lst, @u_ownSet, @setO_ok, @u_ownTake⟩
theorem whileN_more {c : E} {b : S} : ∀ {n : Nat} {δ : Dt}, whileN c b n δ ≠ .bad → ∀ k, whileN c b (n + k) δ = whileN c b n δ
  | 0, δ, h, _ => absurd rfl h
  | n + 1, δ, h, k => by
    rw [show n + 1 + k = (n + k) + 1 by omega]
    unfold whileN at h ⊢
    split
    · rename_i q
      rw [q] at h
      simp only at h
      unfold trn at h ⊢
      split
      · rename_i q2; rw [q2] at h; exact whileN_more h k
      · rename_i q2; rw [q2] at h; exact whileN_more h k
      · rfl
      · rfl
    · rfl
    · rfl
theorem while_is {c : E} {b : S} {n : Nat} {δ : Dt} {o : O} (h : whileN c b n δ = o) (ho : o ≠ .bad) : while_ c b δ = o := by
  have hx : ∃ n, whileN c b n δ ≠ .bad := ⟨n, by rw [h]; exact ho⟩
  unfold while_
  rw [dif_pos hx]
  have h1 := whileN_more hx.choose_spec n
  have h2 := whileN_more (show whileN c b n δ ≠ .bad by rw [h]; exact ho) hx.choose
  rw [Nat.add_comm] at h1
  rw [← h1, h2, h]
theorem while_by {c : E} {b : S} (I : Dt → Prop) (μ : Dt → Nat) (hs : ∀ δ, I δ → (c δ = .ok (.bl false)) ∨ (c δ = .ok (.bl true) ∧ ∃ δ', b δ = .nx δ' ∧ I δ' ∧ μ δ' < μ δ)) (δ : Dt) (h : I δ) :
    ∃ δ', while_ c b δ = .nx δ' ∧ I δ' ∧ c δ' = .ok (.bl false) := by
  have key : ∀ (n : Nat) (δ : Dt), I δ → μ δ < n → ∃ δ', whileN c b n δ = .nx δ' ∧ I δ' ∧ c δ' = .ok (.bl false) := by
    intro n
    induction n with
    | zero => intro δ _ h; omega
    | succ n ih =>
      intro δ h hn
      rcases hs δ h with e | ⟨e, δ1, e1, i1, m1⟩
      · exact ⟨δ, by unfold whileN; rw [e], h, e⟩
      · obtain ⟨δ2, e2, i2, c2⟩ := ih δ1 i1 (by omega)
        exact ⟨δ2, by unfold whileN; rw [e]; simp only; rw [e1]; exact e2, i2, c2⟩
  obtain ⟨δ', e, i, c'⟩ := key (μ δ + 1) δ h (Nat.lt_succ_self _)
  exact ⟨δ', while_is e (fun z => nomatch z), i, c'⟩
end EV
local macro_rules | `(tactic| walk_at "pos") => `(tactic| first | (with_reducible assumption) | decide +kernel | (with_reducible exact EV.pw_pos _) | omega)
local macro_rules | `(tactic| walk_at "nb") => `(tactic| first
  | (with_reducible assumption)
  | ((with_reducible apply EV.nb_add) <;> walk_at "nb")
  | ((with_reducible apply EV.nb_sub) <;> walk_at "nb")
  | ((with_reducible apply EV.nb_mul) <;> walk_at "nb")
  | ((with_reducible apply EV.nb_neg_le) <;> walk_at "nb")
  | ((with_reducible apply EV.nb_mod); (walk_at "pos"); (walk_at "nb"))
  | ((with_reducible apply EV.nb_div); (walk_at "pos"); (walk_at "nb"))
  | ((with_reducible apply EV.nb_max) <;> walk_at "nb")
  | ((with_reducible apply EV.nb_min) <;> walk_at "nb")
  | ((with_reducible apply EV.nb_ite) <;> walk_at "nb")
  | exact EV.nb_self)
/- nb e ≤ a number -/
local macro_rules | `(tactic| walk_at "nbk") => `(tactic| exact EV.nb_le_of (by walk_at "nb") (by decide +kernel))
local macro_rules | `(tactic| walk_at "mul") => `(tactic| exact EV.MulOk.of (by walk_at "nb") (by walk_at "nb") (by decide +kernel))
local macro_rules | `(tactic| simp_arith [$ls,*]) => `(tactic| simp only [EV.EvS, reduceIte, Nat.reduceAdd, Nat.reduceSub, Int.reduceAdd, Int.reduceSub, Int.reduceMul, Int.reduceNeg, Int.reducePow, Int.reduceLT, Int.reduceLE, Int.reduceGT, Int.reduceGE, Int.reduceEq, Int.reduceNe, Int.reduceDiv, Int.reduceMod, Int.reduceToNat, String.reduceEq, String.reduceBEq, Nat.reduceLeDiff, Int.cast_ofNat_Int, Int.natCast_one, Int.natCast_zero, List.cons_append, List.nil_append, ne_eq, $ls,*])
namespace EV
open PySem (Str)
noncomputable def Sz (E F : Int) : Prop := 2 ≤ E ∧ E ≤ 15 ∧ 1 ≤ F ∧ F ≤ 112
noncomputable def szE (c : Int) : Int := if c % 8 < 4 then [5, 8, 11, 15].getD (c % 8).toNat 0 else if c % 8 < 6 then 2 + c / 8 % 14 else 2 + c / 8 % 4
noncomputable def szF (c : Int) : Int := if c % 8 < 4 then [10, 23, 52, 112].getD (c % 8).toNat 0 else if c % 8 < 6 then 1 + c / 8 / 14 % 112 else 1 + c / 8 / 4 % 5
theorem four {r : Int} (h0 : 0 ≤ r) (h1 : r < 4) : r = 0 ∨ r = 1 ∨ r = 2 ∨ r = 3 := by omega
theorem sz_ok (c : Int) : Sz (szE c) (szF c) := by
  unfold Sz szE szF
  by_cases h : c % 8 < 4
  · rw [if_pos h, if_pos h]
    rcases four (Int.emod_nonneg c (by decide)) h with e | e | e | e <;> rw [e] <;> decide
  · rw [if_neg h, if_neg h]
    by_cases h2 : c % 8 < 6
    · rw [if_pos h2, if_pos h2]; omega
    · rw [if_neg h2, if_neg h2]; omega
theorem pw_two {F : Int} (h : 1 ≤ F) : 2 ≤ pw F := pw_mono (a := 1) h
theorem pw_four {E : Int} (h : 2 ≤ E) : 4 ≤ pw E := pw_mono (a := 2) h
theorem pw_half {F : Int} (h : 1 ≤ F) : pw F = 2 * pw (F - 1) := by
  have := pw_succ (a := F - 1) (by omega)
  rw [show F - 1 + 1 = F by omega] at this
  exact this
theorem part0 {P Q b : Int} (hP : 0 < P) (hQ : 0 < Q) : b / (P * Q) = b / P / Q := (Int.ediv_ediv_of_nonneg (Int.le_of_lt hP)).symm
theorem part1 {P Q b : Int} (hP : 0 < P) (hQ : 0 < Q) : b % (P * Q) / Q = b / Q % P := by
  have e1 := Int.emod_def b (P * Q)
  have e2 : b - P * Q * (b / (P * Q)) = b + Q * (-(P * (b / (P * Q)))) := by
    rw [Int.mul_neg, ← Int.sub_eq_add_neg, ← Int.mul_assoc, Int.mul_comm Q P]
  rw [e1, e2, Int.add_mul_ediv_left _ _ (by omega), Int.emod_def]
  have e3 : b / (P * Q) = b / Q / P := by rw [Int.mul_comm, Int.ediv_ediv_of_nonneg (Int.le_of_lt hQ)]
  rw [e3]
  omega
theorem part2 {P Q b : Int} : b % (P * Q) % Q = b % Q := Int.emod_emod_of_dvd b (Int.dvd_mul_left P Q)
theorem parts_in {P Q b : Int} (hP : 0 < P) (hQ : 0 < Q) (h0 : 0 ≤ b) (h1 : b < 2 * (P * Q)) :
    (0 ≤ b / P / Q ∧ b / P / Q ≤ 1) ∧ (0 ≤ b / Q % P ∧ b / Q % P < P) ∧ (0 ≤ b % Q ∧ b % Q < Q) := by
  refine ⟨⟨?_, ?_⟩, ⟨Int.emod_nonneg _ (by omega), Int.emod_lt_of_pos _ hP⟩, ⟨Int.emod_nonneg _ (by omega), Int.emod_lt_of_pos _ hQ⟩⟩
  · exact Int.ediv_nonneg (Int.ediv_nonneg h0 (Int.le_of_lt hP)) (Int.le_of_lt hQ)
  · rw [← part0 hP hQ]
    have : b / (P * Q) < 2 := Int.ediv_lt_of_lt_mul (Int.mul_pos hP hQ) h1
    omega
theorem getD_end {ns : List Int} {j : Int} (h0 : 0 ≤ j) (h : ¬ j < (ns.length : Int)) : ns.getD j.toNat 0 = 0 := by
  rw [List.getD_eq_getElem?_getD, List.getElem?_eq_none (by omega)]
  rfl
noncomputable def sgn (E F b : Int) : Int := b / pw E / pw F
noncomputable def fld (E F b : Int) : Int := b / pw F % pw E
noncomputable def fig (F b : Int) : Int := b % pw F
noncomputable def In (E F b : Int) : Prop := 0 ≤ b ∧ b < pw (E + F + 1)
theorem In.parts {E F b : Int} (h : Sz E F) (hb : In E F b) : (0 ≤ sgn E F b ∧ sgn E F b ≤ 1) ∧ (0 ≤ fld E F b ∧ fld E F b < pw E) ∧ (0 ≤ fig F b ∧ fig F b < pw F) := by
  obtain ⟨h1, h2, h3, h4⟩ := h
  have eW : pw (E + F + 1) = 2 * (pw E * pw F) := by rw [pw_succ (by omega), pw_add (by omega) (by omega)]
  exact parts_in (P := pw E) (Q := pw F) (b := b) (pw_pos _) (pw_pos _) hb.1 (by rw [← eW]; exact hb.2)
noncomputable def kindS (E f g : Int) : Str := if f = 0 then (if g = 0 then "nought" else "faint") else if f = pw E - 1 then (if g = 0 then "endless" else "none") else "plain"
noncomputable def wh (F f g : Int) : Int := if f = 0 then g else pw F + g
noncomputable def lo (E F : Int) : Int := 2 - pw (E - 1) - F
noncomputable def po (E F f : Int) : Int := if f = 0 then lo E F else lo E F + f - 1
noncomputable def frT (w p : Int) : Int := if 0 ≤ p then w * pw p else w
noncomputable def frB (p : Int) : Int := if 0 ≤ p then 1 else pw (-p)
theorem pwE_le {E F : Int} (h : Sz E F) : pw E ≤ 32768 := pw_mono h.2.1
theorem pwF_le {E F : Int} (h : Sz E F) : pw F ≤ 5192296858534827628530496329220096 := pw_mono h.2.2.2
theorem pwE1_le {E F : Int} (h : Sz E F) : pw (E - 1) ≤ 16384 := pw_mono (b := 14) (by have := h.2.1; omega)
theorem nb_lt {i : Int} {k : Nat} (h0 : 0 ≤ i) (h : i < 2 ^ k) : nb i ≤ k := nb_le.mpr (by
  have : ((i.natAbs : Nat) : Int) < ((2 ^ k : Nat) : Int) := by rw [Int.natAbs_of_nonneg h0]; simpa using h
  exact Int.ofNat_lt.mp this)
theorem nb_c {c k : Int} (h : nb c ≤ 2 ^ 20) (hk : 0 < k) : nb (c / k) ≤ 1048576 := nb_div hk h
theorem mul_small {s t : Int} (h0 : 0 ≤ s) (h1 : s ≤ 1) (ht : nb t ≤ 100000) : MulOk s t := by
  have : nb s ≤ 1 := nb_lt h0 (by omega)
  unfold MulOk; omega
theorem shl1 {k : Int} (h0 : 0 ≤ k) (h1 : k ≤ 1000000) : oShl (.int 1) (.int k) = .ok (.int (pw k)) := by
  have : nb (1 : Int) = 1 := by decide
  rw [oShl_ok h0 (by omega), Int.one_mul]
theorem getD_nb {ns : List Int} (hb : ∀ m ∈ ns, nb m ≤ 2 ^ 20) (k : Nat) : nb (ns.getD k 0) ≤ 2 ^ 20 := by
  rw [List.getD_eq_getElem?_getD]
  cases h : ns[k]? with
  | none => exact Nat.zero_le _
  | some v => exact hb v (List.mem_of_getElem? h)
theorem wh_nb {E F b : Int} (h : Sz E F) (hb : In E F b) : nb (wh F (fld E F b) (fig F b)) ≤ 128 := by
  obtain ⟨_, _, i3⟩ := hb.parts h
  have := pwF_le h
  have := pw_pos F
  unfold wh
  split
  · exact nb_lt i3.1 (by omega)
  · exact nb_lt (by omega) (by omega)
theorem po_in {E F b : Int} (h : Sz E F) (hb : In E F b) : -100000 ≤ po E F (fld E F b) ∧ po E F (fld E F b) ≤ 100000 := by
  obtain ⟨_, i2, _⟩ := hb.parts h
  have := pwE_le h
  have := pwE1_le h
  have := pw_pos (E - 1)
  obtain ⟨h1, h2, h3, h4⟩ := h
  unfold po lo
  split <;> omega
end EV
namespace EV
noncomputable def cd (E F b : Int) : Int := b % pw (E + F)
noncomputable def rk (E F b : Int) : Int := if pw (E + F) ≤ b then -(cd E F b) else cd E F b
noncomputable def vl (F c : Int) : Int := if c / pw F = 0 then c else (pw F + c % pw F) * pw (c / pw F - 1)
noncomputable def nn (E F b : Int) : Prop := pw (E + F) - pw F < cd E F b
noncomputable instance {E F b : Int} : Decidable (nn E F b) := inferInstanceAs (Decidable (_ < _))
section
variable {E F a b c c' : Int}
theorem cd_div (h : Sz E F) : cd E F b / pw F = fld E F b := by
  obtain ⟨h1, h2, h3, h4⟩ := h
  unfold cd fld; rw [pw_add (by omega) (by omega), part1 (pw_pos _) (pw_pos _)]
theorem cd_mod (h : Sz E F) : cd E F b % pw F = fig F b := by
  obtain ⟨h1, h2, h3, h4⟩ := h
  unfold cd fig; rw [pw_add (by omega) (by omega), part2]
theorem half_ge (h : Sz E F) : 4 * pw F ≤ pw (E + F) := by
  obtain ⟨h1, h2, h3, h4⟩ := h
  have := pw_pos F
  rw [pw_add (by omega) (by omega)]; exact Int.mul_le_mul_of_nonneg_right (pw_four h1) (by omega)
theorem wide_is (h : Sz E F) : pw (E + F + 1) = 2 * pw (E + F) := by
  obtain ⟨h1, h2, h3, h4⟩ := h
  exact pw_succ (by omega)
theorem sgn_is (h : Sz E F) (hb : In E F b) : sgn E F b = if pw (E + F) ≤ b then 1 else 0 := by
  obtain ⟨h1, h2, h3, h4⟩ := id h
  have e0 : sgn E F b = b / pw (E + F) := by unfold sgn; rw [pw_add (by omega) (by omega), part0 (pw_pos _) (pw_pos _)]
  have hw := wide_is h
  have hp := pw_pos (E + F)
  obtain ⟨b0, b1⟩ := hb
  rw [e0]
  split
  · rename_i z
    have l : 1 ≤ b / pw (E + F) := Int.le_ediv_of_mul_le hp (by omega)
    have u : b / pw (E + F) < 2 := Int.ediv_lt_of_lt_mul hp (by omega)
    omega
  · rename_i z
    exact Int.ediv_eq_zero_of_lt b0 (by omega)
theorem vl_zero : vl F 0 = 0 := by unfold vl; simp
theorem vl_lt (h0 : 0 ≤ c) (h : c < c') : vl F c < vl F c' := by
  have hQ := pw_pos F
  have hm : c / pw F ≤ c' / pw F := Int.ediv_le_ediv hQ (by omega)
  have hf0 : 0 ≤ c / pw F := Int.ediv_nonneg h0 (by omega)
  have e := Int.mul_ediv_add_emod c (pw F)
  have e' := Int.mul_ediv_add_emod c' (pw F)
  have r0 := Int.emod_nonneg c (show pw F ≠ 0 by omega)
  have r1 := Int.emod_lt_of_pos c hQ
  have s0 := Int.emod_nonneg c' (show pw F ≠ 0 by omega)
  have s1 := Int.emod_lt_of_pos c' hQ
  unfold vl
  generalize c / pw F = f at *
  generalize c' / pw F = f' at *
  generalize c % pw F = r at *
  generalize c' % pw F = r' at *
  by_cases z : f = 0
  · rw [if_pos z]
    subst z
    by_cases z' : f' = 0
    · rw [if_pos z']; exact h
    · rw [if_neg z']
      have p1 : 1 ≤ pw (f' - 1) := pw_pos _
      have : (pw F + r') * 1 ≤ (pw F + r') * pw (f' - 1) := Int.mul_le_mul_of_nonneg_left p1 (by omega)
      rw [Int.mul_zero] at e
      omega
  · rw [if_neg z, if_neg (by omega)]
    by_cases q : f = f'
    · subst q
      exact Int.mul_lt_mul_of_pos_right (by omega) (pw_pos _)
    · have e1 : pw f = 2 * pw (f - 1) := pw_half (by omega)
      have e2 : pw f ≤ pw (f' - 1) := pw_mono (by omega)
      have k1 : (pw F + r) * pw (f - 1) < (2 * pw F) * pw (f - 1) := Int.mul_lt_mul_of_pos_right (by omega) (pw_pos _)
      have k2 : (2 * pw F) * pw (f - 1) = pw F * pw f := by rw [e1, Int.mul_comm 2, Int.mul_assoc]
      have k3 : pw F * pw f ≤ pw F * pw (f' - 1) := Int.mul_le_mul_of_nonneg_left e2 (by omega)
      have k4 : pw F * pw (f' - 1) ≤ (pw F + r') * pw (f' - 1) := Int.mul_le_mul_of_nonneg_right (by omega) (Int.le_of_lt (pw_pos _))
      omega
theorem vl_iff (h0 : 0 ≤ c) (h1 : 0 ≤ c') : (vl F c < vl F c' ↔ c < c') ∧ (vl F c = vl F c' ↔ c = c') := by
  rcases Int.lt_trichotomy c c' with q | q | q
  · have := vl_lt (F := F) h0 q; omega
  · subst q; omega
  · have := vl_lt (F := F) h1 q; omega
theorem vl_nonneg (h0 : 0 ≤ c) : 0 ≤ vl F c ∧ (vl F c = 0 ↔ c = 0) := by
  have := vl_iff (F := F) (Int.le_refl 0) h0
  have := vl_iff (F := F) h0 (Int.le_refl 0)
  rw [vl_zero] at *
  omega
theorem vl_nb (h : Sz E F) (h0 : 0 ≤ c) (h1 : c < pw (E + F)) : c / pw F < pw E ∧ 0 ≤ c / pw F := by
  obtain ⟨k1, k2, k3, k4⟩ := h
  refine ⟨Int.ediv_lt_of_lt_mul (pw_pos _) ?_, Int.ediv_nonneg h0 (Int.le_of_lt (pw_pos _))⟩
  rw [← pw_add (by omega) (by omega)]; exact h1
noncomputable def ab (E F b : Int) : Int := if rk E F b = pw (E + F) - pw F then b else if rk E F b < 0 then pw (E + F) - (rk E F b + 1) else rk E F b + 1
noncomputable def be (E F b : Int) : Int := if rk E F b = -(pw (E + F) - pw F) then b else if 0 < rk E F b then rk E F b - 1 else pw (E + F) - (rk E F b - 1)
theorem end_is (h : Sz E F) : (pw E - 1) * pw F = pw (E + F) - pw F := by
  obtain ⟨h1, h2, h3, h4⟩ := h
  rw [pw_add (by omega) (by omega), Int.sub_mul, Int.one_mul]
theorem vl_succ (h0 : 0 ≤ c) : vl F (c + 1) - vl F c = pw (max (c / pw F - 1) 0) := by
  have hQ := pw_pos F
  have f0 : 0 ≤ c / pw F := Int.ediv_nonneg h0 (by omega)
  have e := Int.mul_ediv_add_emod c (pw F)
  have r0 := Int.emod_nonneg c (show pw F ≠ 0 by omega)
  have r1 := Int.emod_lt_of_pos c hQ
  by_cases q : c % pw F + 1 < pw F
  · have e1 : (c + 1) / pw F = c / pw F := by
      rw [show c + 1 = (c % pw F + 1) + pw F * (c / pw F) by omega, Int.add_mul_ediv_left _ _ (by omega), Int.ediv_eq_zero_of_lt (by omega) q]; omega
    have e2 : (c + 1) % pw F = c % pw F + 1 := by
      rw [show c + 1 = (c % pw F + 1) + pw F * (c / pw F) by omega, Int.add_mul_emod_self_left, Int.emod_eq_of_lt (by omega) q]
    unfold vl
    rw [e1, e2]
    by_cases z : c / pw F = 0
    · rw [if_pos z, if_pos z, z]
      have : pw (max (0 - 1) 0) = 1 := rfl
      omega
    · rw [if_neg z, if_neg z, show max (c / pw F - 1) 0 = c / pw F - 1 by omega, ← Int.sub_mul]
      rw [show pw F + (c % pw F + 1) - (pw F + c % pw F) = 1 by omega, Int.one_mul]
  · have e1 : (c + 1) / pw F = c / pw F + 1 := by
      rw [show c + 1 = 0 + pw F * (c / pw F + 1) by rw [Int.mul_add]; omega, Int.add_mul_ediv_left _ _ (by omega)]; simp
    have e2 : (c + 1) % pw F = 0 := by
      rw [show c + 1 = 0 + pw F * (c / pw F + 1) by rw [Int.mul_add]; omega, Int.add_mul_emod_self_left]; simp
    unfold vl
    rw [e1, e2, if_neg (by omega)]
    by_cases z : c / pw F = 0
    · rw [if_pos z, z]
      have k1 : pw (max (0 - 1) 0) = 1 := rfl
      have k2 : pw ((0 : Int) + 1 - 1) = 1 := rfl
      rw [k1, k2]
      rw [z, Int.mul_zero] at e
      omega
    · rw [if_neg z, show max (c / pw F - 1) 0 = c / pw F - 1 by omega, show c / pw F + 1 - 1 = c / pw F by omega, pw_half (F := c / pw F) (by omega)]
      generalize pw (c / pw F - 1) = m
      rw [show pw F + 0 = pw F by omega, show pw F + c % pw F = 2 * pw F - 1 by omega, Int.sub_mul, Int.one_mul, ← Int.mul_assoc, Int.mul_comm (pw F) 2]
      omega
theorem oIn_str2 {x a b : PySem.Str} : oIn (.str x) (.tup [.str a, .str b]) = .ok (.bl (decide (a = x ∨ b = x))) := by
  unfold oIn isIn
  simp only [D.sc, List.all_cons, List.all_nil, Bool.and_self, Bool.and_true, if_true, List.any_cons, List.any_nil, D.beq, Bool.or_false]
  by_cases h1 : a = x <;> by_cases h2 : b = x <;> simp [h1, h2]
end
end EV
namespace EV
section
variable {t n p k a b c : Int}
theorem pw_nonpos (h : p ≤ 0) : pw p = 1 := by unfold pw; rw [Int.toNat_of_nonpos h]; rfl
theorem mul_lt_iff (hc : 0 < c) : a * c < b * c ↔ a < b := ⟨fun h => Int.lt_of_mul_lt_mul_right h (Int.le_of_lt hc), fun h => Int.mul_lt_mul_of_pos_right h hc⟩
theorem pw_swap (hk : 0 ≤ k) : pw (p + k) * pw (-p) = pw k * pw p * pw (-(p + k)) := by
  by_cases h1 : 0 ≤ p
  · rw [pw_nonpos (p := -p) (by omega), pw_nonpos (p := -(p + k)) (by omega), pw_add h1 hk, Int.mul_one, Int.mul_one, Int.mul_comm]
  · by_cases h2 : 0 ≤ p + k
    · rw [pw_nonpos (p := p) (by omega), pw_nonpos (p := -(p + k)) (by omega), ← pw_add h2 (by omega), show p + k + -p = k by omega]; omega
    · rw [pw_nonpos (p := p) (by omega), pw_nonpos (p := p + k) (by omega), Int.one_mul, Int.mul_one, ← pw_add hk (by omega), show k + -(p + k) = -p by omega]
noncomputable def Lt (t n p : Int) : Prop := t * pw (-p) < n * pw p
noncomputable instance : Decidable (Lt t n p) := inferInstanceAs (Decidable (_ < _))
theorem lt_shift (hk : 0 ≤ k) : t * pw (-p) < pw k * (n * pw p) ↔ Lt t n (p + k) := by
  have z1 := pw_pos (-(p + k))
  have z2 := pw_pos (-p)
  unfold Lt
  rw [← mul_lt_iff z1, ← mul_lt_iff (a := t * pw (-(p + k))) z2]
  have e1 : pw k * (n * pw p) * pw (-(p + k)) = n * pw (p + k) * pw (-p) := by
    rw [Int.mul_assoc n, pw_swap hk, ← Int.mul_assoc (pw k), Int.mul_comm (pw k) n]
    simp only [Int.mul_assoc]
  have e2 : t * pw (-p) * pw (-(p + k)) = t * pw (-(p + k)) * pw (-p) := Int.mul_right_comm ..
  rw [e1, e2]
theorem nb_ge (h : 0 < t) : pw ((nb t : Int) - 1) ≤ t := by
  have h1 : ¬ nb t ≤ nb t - 1 := by
    have : nb t ≠ 0 := fun z => by
      have := nb_le.mp (Nat.le_of_eq z)
      omega
    omega
  rw [nb_le] at h1
  have h2 : ((2 ^ (nb t - 1) : Nat) : Int) ≤ t := by omega
  unfold pw
  rw [show ((nb t : Int) - 1).toNat = nb t - 1 by omega]
  simpa using h2
theorem nb_pos (h : 0 < t) : 1 ≤ nb t := by
  rcases Nat.eq_zero_or_pos (nb t) with z | z
  · have := nb_le.mp (Nat.le_of_eq z)
    omega
  · exact z
noncomputable def hgt (t n : Int) : Int := if Lt t n (nb t - nb n) then (nb t - nb n : Int) else nb t - nb n + 1
theorem lt_up (ht : 0 < t) (hn : 0 < n) : Lt t n ((nb t : Int) - nb n + 1) := by
  have l1 := nb_lt_self (i := t) (by omega)
  have l2 := nb_ge hn
  have l3 := nb_pos hn
  unfold Lt
  generalize hp : (nb t : Int) - nb n + 1 = p
  have e := pw_swap (p := p) (k := (nb n : Int) - 1) (by omega)
  rw [show p + ((nb n : Int) - 1) = nb t by omega, pw_nonpos (p := -(nb t : Int)) (by omega), Int.mul_one] at e
  have k1 : t * pw (-p) < pw (nb t) * pw (-p) := Int.mul_lt_mul_of_pos_right l1 (pw_pos _)
  have k2 : pw ((nb n : Int) - 1) * pw p ≤ n * pw p := Int.mul_le_mul_of_nonneg_right l2 (Int.le_of_lt (pw_pos _))
  omega
theorem lt_down (ht : 0 < t) (hn : 0 < n) : ¬ Lt t n ((nb t : Int) - nb n - 1) := by
  have l1 := nb_ge ht
  have l2 := nb_lt_self (i := n) (by omega)
  have l3 := nb_pos ht
  unfold Lt
  generalize hp : (nb t : Int) - nb n - 1 = p
  have e := pw_swap (p := p) (k := (nb n : Int)) (by omega)
  rw [show p + (nb n : Int) = (nb t : Int) - 1 by omega, pw_nonpos (p := -((nb t : Int) - 1)) (by omega), Int.mul_one] at e
  have k1 : pw ((nb t : Int) - 1) * pw (-p) ≤ t * pw (-p) := Int.mul_le_mul_of_nonneg_right l1 (Int.le_of_lt (pw_pos _))
  have k2 : n * pw p < pw (nb n) * pw p := Int.mul_lt_mul_of_pos_right l2 (pw_pos _)
  omega
theorem hgt_ok (ht : 0 < t) (hn : 0 < n) : Lt t n (hgt t n) ∧ ¬ Lt t n (hgt t n - 1) ∧ hgt t n ≤ nb t ∧ -(nb n : Int) ≤ hgt t n := by
  have l1 := nb_pos ht
  have l2 := nb_pos hn
  unfold hgt
  by_cases g : Lt t n (nb t - nb n)
  · rw [if_pos g]
    exact ⟨g, lt_down ht hn, by omega, by omega⟩
  · rw [if_neg g]
    refine ⟨lt_up ht hn, ?_, by omega, by omega⟩
    rw [show (nb t : Int) - nb n + 1 - 1 = nb t - nb n by omega]
    exact g
theorem lt_mono {q : Int} (hn : 0 < n) (h : Lt t n p) (hq : p ≤ q) : Lt t n q := by
  have := (lt_shift (t := t) (n := n) (p := p) (k := q - p) (by omega)).mp (by
    have z : 1 ≤ pw (q - p) := pw_pos _
    have y : 0 < n * pw p := Int.mul_pos hn (pw_pos _)
    have := Int.mul_le_mul_of_nonneg_right z (Int.le_of_lt y)
    unfold Lt at h
    omega)
  rw [show p + (q - p) = q by omega] at this
  exact this
noncomputable def cutP (E F t n : Int) : Int := max (lo E F) (hgt t n - F - 1)
noncomputable def cutA (p t : Int) : Int := t * pw (-p)
noncomputable def cutB (p n : Int) : Int := n * pw p
noncomputable def rst (l s : Int) : Int := if l = 0 then 0 else if 2 * l < s then 1 else if 2 * l = s then 2 else 3
theorem cutB_pos (hn : 0 < n) : 0 < cutB p n := Int.mul_pos hn (pw_pos _)
theorem cutA_nn (ht : 0 ≤ t) : 0 ≤ cutA p t := Int.mul_nonneg ht (Int.le_of_lt (pw_pos _))
variable {E F : Int}
theorem lo_in (h : Sz E F) : -20000 ≤ lo E F ∧ lo E F ≤ -1 := by
  have := pwE1_le h
  have : 2 ≤ pw (E - 1) := pw_two (by have := h.1; omega)
  obtain ⟨h1, h2, h3, h4⟩ := h
  unfold lo
  omega
theorem cut_spec (h : Sz E F) (ht : 0 < t) (hn : 0 < n) :
    lo E F ≤ cutP E F t n ∧ cutP E F t n ≤ nb t ∧ cutA (cutP E F t n) t < 2 * pw F * cutB (cutP E F t n) n ∧ (lo E F < cutP E F t n → pw F * cutB (cutP E F t n) n ≤ cutA (cutP E F t n) t) := by
  obtain ⟨g1, g2, g3, g4⟩ := hgt_ok ht hn
  have l := lo_in h
  obtain ⟨h1, h2, h3, h4⟩ := h
  have e : 2 * pw F = pw (F + 1) := (pw_succ (by omega)).symm
  refine ⟨by unfold cutP; omega, by unfold cutP; omega, ?_, fun q => ?_⟩
  · rw [e]
    unfold cutA cutB
    rw [lt_shift (by omega)]
    exact lt_mono hn g1 (by unfold cutP; omega)
  · have hP : cutP E F t n = hgt t n - F - 1 := by unfold cutP at q ⊢; omega
    have := fun z => g2 (by
      have := (lt_shift (t := t) (n := n) (p := cutP E F t n) (k := F) (by omega)).mp z
      rw [hP, show hgt t n - F - 1 + F = hgt t n - 1 by omega] at this
      exact this)
    have := Int.not_lt.mp this
    unfold cutA cutB
    omega
theorem nb_cutK {A B K : Int} {m : Nat} (hA : 0 ≤ A) (hB : 0 < B) (hK : nb K ≤ m) (hm : m ≤ 4000) (hw : A < K * B) : DivOk A B := by
  refine ⟨hB, .inr ?_⟩
  have n2 := nb_mul hK (Nat.le_refl (nb B))
  have n3 : nb A ≤ nb (K * B) := nb_mono (by omega)
  omega
theorem nb_cut {A B : Int} (h : Sz E F) (hA : 0 ≤ A) (hB : 0 < B) (hw : A < 2 * pw F * B) : DivOk A B := by
  refine ⟨hB, .inr ?_⟩
  have n1 : nb (2 * pw F) ≤ 2 + 113 := nb_mul (by decide) (nb_pw (c := 112) h.2.2.2)
  have n2 := nb_mul n1 (Nat.le_refl (nb B))
  have n3 : nb A ≤ nb (2 * pw F * B) := nb_mono (by omega)
  omega
end
end EV
namespace EV
section
variable {E F t n P w l A B K D : Int}
theorem unit_is (h : Sz E F) (hP : lo E F ≤ P) : t * pw (-(lo E F)) * cutB P n = cutA P t * (n * pw (P - lo E F)) := by
  have l := lo_in h
  have e := pw_swap (p := -P) (k := P - lo E F) (by omega)
  rw [show -P + (P - lo E F) = -(lo E F) by omega, Int.neg_neg, Int.neg_neg, pw_nonpos (p := lo E F) (by omega), Int.mul_one] at e
  unfold cutA cutB
  have e2 : t * pw (-(lo E F)) * (n * pw P) = t * n * (pw (-(lo E F)) * pw P) := by
    rw [Int.mul_assoc, Int.mul_assoc, ← Int.mul_assoc (pw (-(lo E F))), Int.mul_comm (pw (-(lo E F))) n, Int.mul_assoc]
  have e3 : t * pw (-P) * (n * pw (P - lo E F)) = t * n * (pw (P - lo E F) * pw (-P)) := by
    rw [Int.mul_assoc, Int.mul_assoc, ← Int.mul_assoc (pw (-P)), Int.mul_comm (pw (-P)) n, Int.mul_assoc, Int.mul_comm (pw (-P))]
  rw [e2, e3, e]
noncomputable def codeOf (E F P w : Int) : Int := (P - lo E F) * pw F + w
theorem code_div (h : Sz E F) (hP : lo E F ≤ P) (w0 : 0 ≤ w) (w1 : w < 2 * pw F) (w2 : lo E F < P → pw F ≤ w) : 0 ≤ codeOf E F P w ∧
    ((w < pw F ∧ P = lo E F ∧ codeOf E F P w = w) ∨ (pw F ≤ w ∧ codeOf E F P w / pw F = P - lo E F + 1 ∧ codeOf E F P w % pw F = w - pw F)) := by
  have hQ := pw_pos F
  have z : 0 ≤ (P - lo E F) * pw F := Int.mul_nonneg (by omega) (by omega)
  refine ⟨by unfold codeOf; omega, ?_⟩
  by_cases g : w < pw F
  · have e : P = lo E F := by
      refine Classical.byContradiction fun q => ?_
      have := w2 (by omega)
      omega
    refine .inl ⟨g, e, ?_⟩
    unfold codeOf
    rw [e, Int.sub_self, Int.zero_mul, Int.zero_add]
  · refine .inr ⟨by omega, ?_, ?_⟩
    · have e : codeOf E F P w = (w - pw F) + pw F * (P - lo E F + 1) := by
        unfold codeOf; rw [Int.mul_add, Int.mul_comm (pw F) (P - lo E F)]; omega
      rw [e, Int.add_mul_ediv_left _ _ (by omega), Int.ediv_eq_zero_of_lt (by omega) (by omega)]; omega
    · have e : codeOf E F P w = (w - pw F) + pw F * (P - lo E F + 1) := by
        unfold codeOf; rw [Int.mul_add, Int.mul_comm (pw F) (P - lo E F)]; omega
      rw [e, Int.add_mul_emod_self_left, Int.emod_eq_of_lt (by omega) (by omega)]
theorem code_vl (h : Sz E F) (hP : lo E F ≤ P) (w0 : 0 ≤ w) (w1 : w < 2 * pw F) (w2 : lo E F < P → pw F ≤ w) :
    vl F (codeOf E F P w) = w * pw (P - lo E F) ∧ vl F (codeOf E F P w + 1) = (w + 1) * pw (P - lo E F) := by
  have hQ := pw_pos F
  obtain ⟨c0, c⟩ := code_div h hP w0 w1 w2
  have s := vl_succ (F := F) c0
  have e1 : vl F (codeOf E F P w) = w * pw (P - lo E F) := by
    rcases c with ⟨c1, c2, c3⟩ | ⟨c1, c2, c3⟩
    · unfold vl
      rw [c3, c2, if_pos (Int.ediv_eq_zero_of_lt w0 c1), Int.sub_self, show pw 0 = 1 from rfl, Int.mul_one]
    · unfold vl
      rw [c2, c3, if_neg (by omega), show P - lo E F + 1 - 1 = P - lo E F by omega, show pw F + (w - pw F) = w by omega]
  refine ⟨e1, ?_⟩
  have e2 : max (codeOf E F P w / pw F - 1) 0 = P - lo E F := by
    rcases c with ⟨c1, c2, c3⟩ | ⟨c1, c2, c3⟩
    · rw [c3, Int.ediv_eq_zero_of_lt w0 c1, c2]; omega
    · rw [c2]; omega
  rw [e2] at s
  rw [Int.add_mul, Int.one_mul, ← e1]
  omega
theorem stand (hB : 0 < B) (hK : 0 < K) (l0 : 0 ≤ l) (l1 : l < B) (e : D * B = l * K) : 0 ≤ D ∧ D < K ∧ (D = 0 ↔ l = 0) ∧ (2 * D < K ↔ 2 * l < B) ∧ (2 * D = K ↔ 2 * l = B) := by
  have k0 : 0 ≤ l * K := Int.mul_nonneg l0 (Int.le_of_lt hK)
  have d0 : 0 ≤ D := by
    refine Classical.byContradiction fun q => ?_
    have := Int.mul_neg_of_neg_of_pos (show D < 0 by omega) hB
    omega
  have d1 : D < K := by
    rw [← mul_lt_iff hB, e, Int.mul_comm K]
    exact Int.mul_lt_mul_of_pos_right l1 hK
  have e2 : 2 * D * B = 2 * l * K := by rw [Int.mul_assoc, e, Int.mul_assoc]
  refine ⟨d0, d1, ⟨fun q => ?_, fun q => ?_⟩, ?_, ?_⟩
  · rw [q, Int.zero_mul] at e
    rcases Int.mul_eq_zero.mp e.symm with z | z
    · exact z
    · omega
  · rw [q, Int.zero_mul] at e
    rcases Int.mul_eq_zero.mp e with z | z
    · exact z
    · omega
  · rw [← mul_lt_iff hB, e2, Int.mul_comm K, mul_lt_iff hK]
  · constructor
    · intro q
      rw [q, Int.mul_comm] at e2
      exact (Int.eq_of_mul_eq_mul_right (by omega) e2).symm
    · intro q
      rw [q, Int.mul_comm B] at e2
      exact Int.eq_of_mul_eq_mul_right (by omega) e2
theorem between (h : Sz E F) (hn : 0 < n) (hP : lo E F ≤ P) (w0 : 0 ≤ w) (w1 : w < 2 * pw F) (w2 : lo E F < P → pw F ≤ w) (l0 : 0 ≤ l) (l1 : l < cutB P n) (e : cutA P t = w * cutB P n + l) :
    vl F (codeOf E F P w) * n ≤ t * pw (-(lo E F)) ∧ t * pw (-(lo E F)) < vl F (codeOf E F P w + 1) * n ∧ (t * pw (-(lo E F)) = vl F (codeOf E F P w) * n ↔ l = 0) ∧
    (2 * (t * pw (-(lo E F))) - vl F (codeOf E F P w) * n - vl F (codeOf E F P w + 1) * n < 0 ↔ 2 * l < cutB P n) ∧
    (2 * (t * pw (-(lo E F))) - vl F (codeOf E F P w) * n - vl F (codeOf E F P w + 1) * n = 0 ↔ 2 * l = cutB P n) := by
  obtain ⟨v1, v2⟩ := code_vl h hP w0 w1 w2
  have u := unit_is (t := t) (n := n) h hP
  have hB := cutB_pos (p := P) hn
  have hK : 0 < n * pw (P - lo E F) := Int.mul_pos hn (pw_pos _)
  rw [v1, v2]
  have x1 : w * pw (P - lo E F) * n = w * (n * pw (P - lo E F)) := by rw [Int.mul_assoc, Int.mul_comm (pw _) n]
  have x2 : (w + 1) * pw (P - lo E F) * n = w * (n * pw (P - lo E F)) + n * pw (P - lo E F) := by rw [Int.add_mul, Int.one_mul, Int.add_mul, x1, Int.mul_comm (pw _) n]
  rw [x1, x2]
  generalize n * pw (P - lo E F) = K at *
  generalize t * pw (-(lo E F)) = T at *
  rw [e, Int.add_mul] at u
  have s := stand (D := T - w * K) hB hK l0 l1 (by
    rw [Int.sub_mul, u, Int.mul_right_comm w K]; omega)
  omega
end
theorem vl_mulmono {F x y n : Int} (hn : 0 < n) (x0 : 0 ≤ x) (hxy : x < y) : vl F x * n < vl F y * n := Int.mul_lt_mul_of_pos_right (vl_lt x0 hxy) hn
section
variable {E F T n c : Int}
noncomputable def Leant (F T n c r : Int) : Prop := (r = 0 ∧ T = vl F c * n) ∨ (vl F c * n < T ∧ ((r = 1 ∧ 2 * T - vl F c * n - vl F (c + 1) * n < 0) ∨ (r = 2 ∧ 2 * T - vl F c * n - vl F (c + 1) * n = 0) ∨ (r = 3 ∧ 0 < 2 * T - vl F c * n - vl F (c + 1) * n)))
theorem leant_of {l B : Int} (b : vl F c * n ≤ T ∧ T < vl F (c + 1) * n ∧ (T = vl F c * n ↔ l = 0) ∧ (2 * T - vl F c * n - vl F (c + 1) * n < 0 ↔ 2 * l < B) ∧ (2 * T - vl F c * n - vl F (c + 1) * n = 0 ↔ 2 * l = B)) (l0 : 0 ≤ l) : Leant F T n c (rst l B) := by
  obtain ⟨b1, b2, b3, b4, b5⟩ := b
  unfold Leant rst
  generalize vl F c * n = u at *
  generalize vl F (c + 1) * n = v at *
  by_cases g0 : l = 0
  · rw [if_pos g0]; left; omega
  rw [if_neg g0]
  by_cases g1 : 2 * l < B
  · rw [if_pos g1]; right; omega
  rw [if_neg g1]
  by_cases g2 : 2 * l = B
  · rw [if_pos g2]; right; omega
  rw [if_neg g2]; right; omega
end
section
variable {E F T n c c' r r' s t w p : Int}
theorem code_parts (h : Sz E F) (hs : 0 ≤ s ∧ s ≤ 1) (c0 : 0 ≤ c) (c1 : c < pw (E + F)) : In E F (s * pw (E + F) + c) ∧ sgn E F (s * pw (E + F) + c) = s ∧ fld E F (s * pw (E + F) + c) = c / pw F ∧ fig F (s * pw (E + F) + c) = c % pw F := by
  obtain ⟨k1, k2, k3, k4⟩ := id h
  have e1 : cd E F (s * pw (E + F) + c) = c := by
    unfold cd
    rw [Int.add_comm, Int.add_mul_emod_self_right, Int.emod_eq_of_lt c0 c1]
  have e2 : pw (E + F + 1) = 2 * pw (E + F) := pw_succ (by omega)
  have hb : In E F (s * pw (E + F) + c) := by
    unfold In
    rw [e2]
    rcases (by omega : s = 0 ∨ s = 1) with e | e <;> subst e <;> omega
  refine ⟨hb, ?_, ?_, ?_⟩
  · rw [sgn_is h hb]
    rcases (by omega : s = 0 ∨ s = 1) with e | e <;> subst e
    · rw [if_neg (by omega)]
    · rw [if_pos (by omega)]
  · have := cd_div (b := s * pw (E + F) + c) h
    rw [e1] at this
    exact this.symm
  · have := cd_mod (b := s * pw (E + F) + c) h
    rw [e1] at this
    exact this.symm
theorem vl_parts : wh F (c / pw F) (c % pw F) * pw (po E F (c / pw F) - lo E F) = vl F c := by
  unfold wh po vl
  split
  · rename_i g
    rw [Int.sub_self, show pw 0 = 1 from rfl, Int.mul_one]
    have e := Int.ediv_mul_add_emod c (pw F)
    rw [g] at e
    omega
  · rw [show lo E F + c / pw F - 1 - lo E F = c / pw F - 1 by omega]
theorem po_ge (c0 : 0 ≤ c) : lo E F ≤ po E F (c / pw F) := by
  have := Int.ediv_nonneg c0 (Int.le_of_lt (pw_pos F))
  unfold po
  split <;> omega
theorem fr_unit (h : Sz E F) (hp : lo E F ≤ p) : frT w p * pw (-(lo E F)) = w * pw (p - lo E F) * frB p := by
  have l := lo_in h
  unfold frT frB
  split
  · rw [Int.mul_assoc, ← pw_add (by omega) (by omega), Int.mul_one, show p + -lo E F = p - lo E F by omega]
  · rw [Int.mul_assoc, ← pw_add (by omega) (by omega), show p - lo E F + -p = -lo E F by omega]
end
end EV
namespace EV
inductive Wy where
  | even | away | nought | up | down
noncomputable def Wy.s : Wy → PySem.Str
  | .even => "even" | .away => "away" | .nought => "nought" | .up => "up" | .down => "down"
noncomputable def Wy.out : Wy → Int → Bool
  | .up, s => decide (s = 0)
  | .down, s => decide (s = 1)
  | _, _ => false
noncomputable def Wy.brs : Wy → Int → Bool
  | .even, _ => true
  | .away, _ => true
  | w, s => w.out s
noncomputable def Wy.grw : Wy → Int → Bool → Int → Bool
  | .even, _, odd, r => decide (r = 3) || (decide (r = 2) && odd)
  | .away, _, _, r => decide (2 ≤ r)
  | w, s, _, _ => w.out s
noncomputable def wayD (w : Wy) : D := .ins "Way" [("name", .str w.s)]
noncomputable def wayNames : List PySem.Str := ["even", "away", "nought", "up", "down"]
noncomputable def stK (w : Wy) (E F s c r : Int) : Int := if pw (E + F) - pw F ≤ c then (if w.brs s then pw (E + F) - pw F else pw (E + F) - pw F - 1) else if r = 0 then c else if w.grw s (decide (c % 2 = 1)) r then c + 1 else c
noncomputable def stF (w : Wy) (E F s c r : Int) : Int := if pw (E + F) - pw F ≤ c then 5 else if r = 0 then 0 else if stK w E F s c r = pw (E + F) - pw F then 5 else if c < pw F then 3 else 1
theorem oBand_one {i : Int} (h : 0 ≤ i) : oBand (.int i) (.int 1) = .ok (.int (i % 2)) := by
  unfold oBand
  simp only
  rw [if_pos ⟨h, by decide⟩]
  congr 2
  rw [show (1 : Int).toNat = 1 from rfl, Nat.and_one_is_mod]
  omega
theorem oNotIn_strs {x : PySem.Str} {ys : List PySem.Str} : oNotIn (.str x) (.tup (ys.map D.str)) = .ok (.bl (decide (x ∉ ys))) := by
  have h1 : ∀ ys : List PySem.Str, (ys.map D.str).all D.sc = true := fun ys => by induction ys with
    | nil => rfl
    | cons a l ih => simp only [List.map_cons, List.all_cons, ih, D.sc, Bool.and_self]
  have h2 : ∀ ys : List PySem.Str, ((ys.map D.str).any fun y => D.beq y (.str x)) = decide (x ∈ ys) := fun ys => by induction ys with
    | nil => rfl
    | cons a l ih =>
      simp only [List.map_cons, List.any_cons, ih, D.beq]
      by_cases h : a = x
      · subst h; simp
      · have : ¬ x = a := fun z => h z.symm
        simp [h, this]
  unfold oNotIn oIn isIn
  simp only [D.sc, h1, Bool.and_self, if_true, h2, R.bind]
  by_cases h : x ∈ ys <;> simp [h]
section
variable {E F s T T' n k c c' r r' : Int} {w : Wy}
theorem stK_lo (g : c < pw (E + F) - pw F) : stK w E F s c r = if r = 0 then c else if w.grw s (decide (c % 2 = 1)) r then c + 1 else c := by
  unfold stK
  rw [if_neg (by omega)]
theorem stK_hi (g : pw (E + F) - pw F ≤ c) : stK w E F s c r = if w.brs s then pw (E + F) - pw F else pw (E + F) - pw F - 1 := by
  unfold stK
  rw [if_pos g]
end
noncomputable def At (F T n c r : Int) : Prop := 0 ≤ c ∧ vl F c * n ≤ T ∧ T < vl F (c + 1) * n ∧ Leant F T n c r
section
variable {E F s T T' n n' k c c' r r' b W P : Int} {w : Wy}
theorem last_iff (h : Sz E F) (c0 : 0 ≤ c) (c1 : c < pw (E + F)) : c / pw F = pw E - 1 ↔ pw (E + F) - pw F ≤ c := by
  have hQ := pw_pos F
  have eM := end_is h
  constructor
  · intro z
    have := Int.ediv_mul_le c (show pw F ≠ 0 by omega)
    rw [z, eM] at this
    exact this
  · intro z
    have a := Int.le_ediv_of_mul_le (a := pw E - 1) (b := c) hQ (by rw [eM]; exact z)
    have b := (vl_nb h c0 c1).1
    omega
theorem kind_code (h : Sz E F) (c0 : 0 ≤ c) (c1 : c < pw (E + F)) :
    (pw (E + F) - pw F < c → kindS E (c / pw F) (c % pw F) = PySem.Str.ofString "none") ∧ (c = pw (E + F) - pw F → kindS E (c / pw F) (c % pw F) = PySem.Str.ofString "endless") ∧ (c = 0 → kindS E (c / pw F) (c % pw F) = PySem.Str.ofString "nought") ∧
    (0 < c → c < pw (E + F) - pw F → kindS E (c / pw F) (c % pw F) = PySem.Str.ofString "faint" ∨ kindS E (c / pw F) (c % pw F) = PySem.Str.ofString "plain") := by
  have hQ := pw_pos F
  have h5 := half_ge h
  have eM := end_is h
  have hE := pw_four h.1
  have l := last_iff h c0 c1
  have e := Int.ediv_mul_add_emod c (pw F)
  have r0 := Int.emod_nonneg c (show pw F ≠ 0 by omega)
  unfold kindS
  refine ⟨fun q => ?_, fun q => ?_, fun q => ?_, fun q q2 => ?_⟩
  · have f := l.mpr (by omega)
    rw [f, eM] at e
    rw [f, if_neg (by omega), if_pos rfl, if_neg (by omega)]
  · have f := l.mpr (by omega)
    rw [f, eM] at e
    rw [f, if_neg (by omega), if_pos rfl, if_pos (by omega)]
  · rw [q, Int.zero_ediv, Int.zero_emod, if_pos rfl, if_pos rfl]
  · have f : ¬ c / pw F = pw E - 1 := fun z => by have := l.mp z; omega
    by_cases g : c / pw F = 0
    · rw [g] at e
      rw [if_pos g, if_neg (by omega)]
      exact .inl rfl
    · rw [if_neg g, if_neg f]
      exact .inr rfl
theorem fr_size (h : Sz E F) (c0 : 0 ≤ c) (c1 : c < pw (E + F) - pw F) :
    0 ≤ frT (wh F (c / pw F) (c % pw F)) (po E F (c / pw F)) ∧ 0 < frB (po E F (c / pw F)) ∧ nb (frT (wh F (c / pw F) (c % pw F)) (po E F (c / pw F))) ≤ 200000 ∧ nb (frB (po E F (c / pw F))) ≤ 200000 := by
  have hQ := pw_pos F
  have hb := (code_parts (s := 0) (c := c) h (by decide) c0 (by omega))
  have nw := wh_nb h hb.1
  have np := po_in h hb.1
  rw [hb.2.2.1, hb.2.2.2] at nw
  rw [hb.2.2.1] at np
  have w0 : 0 ≤ wh F (c / pw F) (c % pw F) := by
    have := Int.emod_nonneg c (show pw F ≠ 0 by omega)
    unfold wh
    split <;> omega
  generalize wh F (c / pw F) (c % pw F) = W at *
  generalize po E F (c / pw F) = P at *
  refine ⟨?_, ?_, ?_, ?_⟩
  · unfold frT; split
    · exact Int.mul_nonneg w0 (Int.le_of_lt (pw_pos _))
    · exact w0
  · unfold frB; split
    · decide
    · exact pw_pos _
  · unfold frT; split
    · have := nb_mul nw (nb_pw (k := P) (c := 100000) (by omega)); omega
    · omega
  · unfold frB; split
    · decide
    · exact Nat.le_trans (nb_pw (c := 100000) (by omega)) (by decide)
end
section
variable {E F E2 F2 c : Int}
theorem vl_top {E F : Int} (h : Sz E F) : vl F (pw (E + F) - pw F) = pw (pw (E - 1) + -(lo E F)) := by
  obtain ⟨h1, h2, h3, h4⟩ := id h
  have hQ := pw_pos F
  have hE := pw_four h1
  have e2 : pw E = 2 * pw (E - 1) := by
    have := pw_succ (a := E - 1) (by omega)
    rw [show E - 1 + 1 = E by omega] at this
    exact this
  unfold vl
  rw [← end_is h, Int.mul_ediv_cancel _ (by omega), Int.mul_emod_left, if_neg (by omega), Int.add_zero, ← pw_add (by omega) (by omega)]
  congr 1
  unfold lo
  omega
end
section
variable {E F s t n c T Z : Int} {w : Wy}
end
section
variable {E F P S A B G X t n r c : Int}
end
section
variable {E F s c r : Int}
end
end EV
namespace EV
end EV
namespace EV
noncomputable def Wn (M1 M2 : Int) (ev : Prop) (X : Int) : Prop := (M1 < X ∧ X < M2) ∨ ((X = M1 ∨ X = M2) ∧ ev)
structure Sh (U : Int → Int) (q V M1 M2 : Int) : Prop where
  up : ∀ p, -q ≤ p → U (p + 1) = 10 * U p
  pos : ∀ p, -q ≤ p → 0 < U p
  m0 : 0 < M1
  m1 : M1 < 2 * V
  m2 : 2 * V < M2
noncomputable def GF (U : Int → Int) (V p : Int) : Prop := 2 * (V % U p) > U p ∨ (2 * (V % U p) = U p ∧ V / U p % 2 = 1)
structure Got (U : Int → Int) (q V M1 M2 : Int) (ev : Prop) (g p0 f0 : Int) : Prop where
  lt : V < U g
  ge : U (g - 1) ≤ V
  lo : -q ≤ p0
  hi : p0 ≤ g - 1
  fig : f0 = V / U p0 ∨ f0 = V / U p0 + 1
  rd : Wn M1 M2 ev (2 * (f0 * U p0))
  none : ∀ p, p0 < p → p ≤ g - 1 → ¬ Wn M1 M2 ev (2 * (V / U p * U p)) ∧ ¬ Wn M1 M2 ev (2 * ((V / U p + 1) * U p))
  one : f0 = V / U p0 → GF U V p0 → ¬ Wn M1 M2 ev (2 * ((V / U p0 + 1) * U p0))
  two : f0 = V / U p0 + 1 → ¬ GF U V p0 → ¬ Wn M1 M2 ev (2 * (V / U p0 * U p0))
section
variable {U : Int → Int} {q V M1 M2 : Int} {ev : Prop}
theorem Sh.add (S : Sh U q V M1 M2) {p : Int} (h : -q ≤ p) : ∀ k : Nat, U (p + k) = 10 ^ k * U p
  | 0 => by simp
  | k + 1 => by
    rw [show p + ((k + 1 : Nat) : Int) = p + k + 1 by omega, S.up (p + k) (by omega), S.add h k, Int.pow_succ]
    simp only [Int.mul_assoc, Int.mul_comm, Int.mul_left_comm]
theorem ten1 (k : Nat) : (1 : Int) ≤ 10 ^ k := by
  have : (0 : Int) < 10 ^ k := Int.pow_pos (by decide)
  omega
theorem Sh.mono (S : Sh U q V M1 M2) {p p' : Int} (h : -q ≤ p) (h2 : p ≤ p') : U p ≤ U p' := by
  have e := S.add h (p' - p).toNat
  rw [show p + ((p' - p).toNat : Int) = p' by omega] at e
  have a := ten1 (p' - p).toNat
  have := S.pos p h
  rw [e]
  have := Int.mul_le_mul_of_nonneg_right a (Int.le_of_lt this)
  omega
theorem Sh.lt (S : Sh U q V M1 M2) {p p' : Int} (h : -q ≤ p) (h2 : p < p') : U p < U p' := by
  have a := S.mono (p := p + 1) (p' := p') (by omega) (by omega)
  have b := S.up p h
  have := S.pos p h
  omega
theorem pos_l {a b : Int} (h : 0 < a * b) (hb : 0 < b) : 0 < a := by
  refine Classical.byContradiction fun z => ?_
  have := Int.mul_le_mul_of_nonneg_right (show a ≤ 0 by omega) (Int.le_of_lt hb)
  omega
theorem fl (u V : Int) (hu : 0 < u) : V / u * u ≤ V ∧ V < (V / u + 1) * u ∧ V % u = V - V / u * u := by
  have h1 := Int.emod_add_mul_ediv V u
  have h2 := Int.emod_nonneg V (show u ≠ 0 by omega)
  have h3 := Int.emod_lt_of_pos V hu
  rw [Int.mul_comm u] at h1
  rw [Int.add_mul]
  omega
theorem fl_is {u V l : Int} (hu : 0 < u) (h1 : l * u ≤ V) (h2 : V < (l + 1) * u) : V / u = l := by
  have a : l ≤ V / u := (Int.le_ediv_iff_mul_le hu).mpr h1
  have b : V / u < l + 1 := Int.ediv_lt_of_lt_mul hu h2
  omega
variable {g p0 f0 f p : Int} {k : Nat}
theorem Got.below (S : Sh U q V M1 M2) (G : Got U q V M1 M2 ev g p0 f0) : f0 * U p0 ≤ U g := by
  have hu := S.pos p0 G.lo
  have e := S.add G.lo (g - p0).toNat
  have hi := G.hi
  rw [show p0 + ((g - p0).toNat : Int) = g by omega] at e
  obtain ⟨a, b, _⟩ := fl (U p0) V hu
  have l := G.lt
  have c : V / U p0 < 10 ^ (g - p0).toNat := Int.ediv_lt_of_lt_mul hu (by rw [← e]; exact l)
  have d : f0 ≤ 10 ^ (g - p0).toNat := by rcases G.fig with z | z <;> omega
  rw [e]
  exact Int.mul_le_mul_of_nonneg_right d (Int.le_of_lt hu)
theorem Got.pos (S : Sh U q V M1 M2) (G : Got U q V M1 M2 ev g p0 f0) : 0 < f0 := by
  have hu := S.pos p0 G.lo
  have m0 := S.m0
  have m1 := S.m1
  have m2 := S.m2
  have : 0 < f0 * U p0 := by
    rcases G.rd with z | z <;> omega
  exact pos_l this hu
theorem Got.bare (S : Sh U q V M1 M2) (G : Got U q V M1 M2 ev g p0 f0) (ef : f0 = f * 10 ^ k) (ep : p = p0 + k) (h10 : f % 10 ≠ 0) :
    f * U p = f0 * U p0 ∧ 0 < f ∧ ((k = 0 ∧ f = f0 ∧ p = p0) ∨ (k ≠ 0 ∧ f = 1 ∧ p = g ∧ f0 = V / U p0 + 1)) := by
  have hu := S.pos p0 G.lo
  have e := S.add G.lo k
  rw [← ep] at e
  have eU : f * U p = f0 * U p0 := by rw [e, ef, Int.mul_assoc]
  have t1 := ten1 k
  have f1 : 0 < f := by
    have := G.pos S
    rw [ef] at this
    exact pos_l this (by omega)
  refine ⟨eU, f1, ?_⟩
  by_cases hk : k = 0
  · subst hk
    exact .inl ⟨rfl, by rw [ef]; simp, by omega⟩
  · have hup : 0 < U p := S.pos p (by have := G.lo; omega)
    have lo := G.lo
    have hi := G.hi
    obtain ⟨a, b, _⟩ := fl (U p0) V hu
    have not : ¬ p ≤ g - 1 := fun z => by
      obtain ⟨n1, n2⟩ := G.none p (by omega) z
      have rd := G.rd
      rw [← eU] at rd
      rcases G.fig with y | y
      · have x : V / U p = f := fl_is hup (by rw [eU, y]; exact a) (by
          rw [Int.add_mul, eU, Int.one_mul]
          have : U p0 ≤ U p := S.mono lo (by omega)
          rw [Int.add_mul, Int.one_mul, ← y] at b
          omega)
        rw [x] at n1
        exact n1 rd
      · have x : V / U p = f - 1 := fl_is hup (by
          rw [Int.sub_mul, eU, Int.one_mul]
          have : U p0 ≤ U p := S.mono lo (by omega)
          have z : f0 * U p0 - U p0 = V / U p0 * U p0 := by rw [y, Int.add_mul, Int.one_mul]; omega
          omega) (by
          rw [show f - 1 + 1 = f by omega, eU, y]; exact b)
        rw [x, show f - 1 + 1 = f by omega] at n2
        exact n2 rd
    have le := G.below S
    have pg : p = g := by
      refine Classical.byContradiction fun z => ?_
      have := S.lt (p := g) (p' := p) (by omega) (by omega)
      have := Int.mul_le_mul_of_nonneg_right (show 1 ≤ f by omega) (Int.le_of_lt hup)
      omega
    have fe : f = 1 := by
      refine Classical.byContradiction fun z => ?_
      have := Int.mul_le_mul_of_nonneg_right (show 2 ≤ f by omega) (Int.le_of_lt hup)
      rw [pg] at this eU hup
      omega
    refine .inr ⟨hk, fe, pg, ?_⟩
    rcases G.fig with y | y
    · exfalso
      have lt := G.lt
      rw [fe, pg, Int.one_mul] at eU
      rw [y] at eU
      omega
    · exact y
end
end EV
namespace EV
theorem big_lo : (2 : Nat) ^ 100000 ≤ 10 ^ 30103 := by decide +kernel
theorem big_hi : (10 : Nat) ^ 30103 ≤ 2 ^ 100000 * 2 := by decide +kernel
theorem root_le {a b n : Nat} (hn : n ≠ 0) (h : a ^ n ≤ b ^ n) : a ≤ b := by
  exact (Nat.pow_le_pow_iff_left hn).mp h
theorem guess_up {h G : Nat} (hh : h ≤ 100000) (hG : 100000 * (G + 1) ≤ 30103 * h) : 10 ^ G * 2 ≤ 2 ^ h := by
  obtain ⟨N, hN⟩ : ∃ N : Nat, N = 100000 := ⟨_, rfl⟩
  obtain ⟨M, hM⟩ : ∃ M : Nat, M = 30103 := ⟨_, rfl⟩
  have a := big_hi
  rw [← hN, ← hM] at a hG
  rw [← hN] at hh
  have n0 : N ≠ 0 := by omega
  have e1 : (10 ^ (G + 1)) ^ N ≤ (2 ^ h * 5) ^ N := by
    rw [← Nat.pow_mul, Nat.mul_pow, ← Nat.pow_mul]
    calc 10 ^ ((G + 1) * N) ≤ 10 ^ (M * h) := Nat.pow_le_pow_right (by decide) (by rw [Nat.mul_comm]; exact hG)
      _ = (10 ^ M) ^ h := Nat.pow_mul _ _ _
      _ ≤ (2 ^ N * 2) ^ h := Nat.pow_le_pow_left a h
      _ = 2 ^ (h * N) * 2 ^ h := by rw [Nat.mul_pow, ← Nat.pow_mul, Nat.mul_comm N h]
      _ ≤ 2 ^ (h * N) * 5 ^ N := Nat.mul_le_mul_left _ (Nat.le_trans (Nat.pow_le_pow_left (by decide) h) (Nat.pow_le_pow_right (by decide) hh))
  have e2 := root_le n0 e1
  rw [Nat.pow_succ] at e2
  omega
theorem guess_dn {h G : Nat} (hG : 30103 * h ≤ 100000 * G) : 2 ^ h ≤ 10 ^ G := by
  obtain ⟨N, hN⟩ : ∃ N : Nat, N = 100000 := ⟨_, rfl⟩
  obtain ⟨M, hM⟩ : ∃ M : Nat, M = 30103 := ⟨_, rfl⟩
  have a := big_lo
  rw [← hN, ← hM] at a hG
  refine root_le (n := N) (by omega) ?_
  calc (2 ^ h) ^ N = (2 ^ N) ^ h := by rw [← Nat.pow_mul, ← Nat.pow_mul, Nat.mul_comm]
    _ ≤ (10 ^ M) ^ h := Nat.pow_le_pow_left a h
    _ = 10 ^ (M * h) := (Nat.pow_mul _ _ _).symm
    _ ≤ 10 ^ (N * G) := Nat.pow_le_pow_right (by decide) hG
    _ = (10 ^ G) ^ N := by rw [← Nat.pow_mul, Nat.mul_comm]
noncomputable def insP (F T n d : Int) : Prop := ((vl F d + vl F (d + 1)) * n ≤ 2 * T ∧ 2 * T = (vl F d + vl F (d + 1)) * n ∧ d % 2 = 0) ∨ (2 * T < (vl F d + vl F (d + 1)) * n ∧ (d = 0 ∨ (vl F (d - 1) + vl F d) * n < 2 * T ∨ (2 * T = (vl F (d - 1) + vl F d) * n ∧ d % 2 = 0)))
theorem grw_even {s c r : Int} : Wy.even.grw s (decide (c % 2 = 1)) r = true ↔ r = 3 ∨ (r = 2 ∧ c % 2 = 1) := by
  unfold Wy.grw
  simp
theorem ins_iff {E F T n c r s d : Int} (hn : 0 < n) (a : At F T n c r) (d0 : 0 ≤ d) (d1 : d < pw (E + F) - pw F) : stK .even E F s c r = d ↔ insP F T n d := by
  obtain ⟨c0, h1, h2, h3⟩ := a
  have L : ∀ x y : Int, 0 ≤ x → x < y → vl F x * n < vl F y * n := fun x y h0 h => vl_mulmono hn h0 h
  have M : ∀ x y : Int, 0 ≤ x → x ≤ y → vl F x * n ≤ vl F y * n := fun x y h0 h => by
    rcases Int.lt_or_eq_of_le h with z | z
    · exact Int.le_of_lt (L x y h0 z)
    · rw [z]; exact Int.le_refl _
  have hk : (pw (E + F) - pw F ≤ c ∧ stK .even E F s c r = pw (E + F) - pw F) ∨ (c < pw (E + F) - pw F ∧ ((r = 0 ∧ stK .even E F s c r = c) ∨ (r ≠ 0 ∧ (r = 3 ∨ (r = 2 ∧ c % 2 = 1)) ∧ stK .even E F s c r = c + 1) ∨ (r ≠ 0 ∧ ¬ (r = 3 ∨ (r = 2 ∧ c % 2 = 1)) ∧ stK .even E F s c r = c))) := by
    by_cases g : pw (E + F) - pw F ≤ c
    · exact .inl ⟨g, by rw [stK_hi g]; rfl⟩
    · refine .inr ⟨by omega, ?_⟩
      rw [stK_lo (by omega)]
      by_cases g2 : r = 0
      · exact .inl ⟨g2, by rw [if_pos g2]⟩
      · rw [if_neg g2]
        by_cases g3 : r = 3 ∨ (r = 2 ∧ c % 2 = 1)
        · exact .inr (.inl ⟨g2, g3, by rw [if_pos (grw_even.mpr g3)]⟩)
        · exact .inr (.inr ⟨g2, g3, by rw [if_neg (fun z => g3 (grw_even.mp z))]⟩)
  generalize stK .even E F s c r = k at *
  unfold insP
  unfold Leant at h3
  rw [Int.add_mul, Int.add_mul]
  have l1 := L d (d + 1) d0 (by omega)
  rcases Int.lt_trichotomy d c with g | g | g
  · have m1 := M (d + 1) c (by omega) (by omega)
    generalize vl F d * n = v0 at *
    generalize vl F (d + 1) * n = v1 at *
    generalize vl F c * n = vc at *
    generalize vl F (c + 1) * n = vd at *
    generalize vl F (d - 1) * n = vm at *
    omega
  · subst g
    have m2 : d = 0 ∨ vl F (d - 1) * n < vl F d * n := by
      by_cases z : d = 0
      · exact .inl z
      · exact .inr (L (d - 1) d (by omega) (by omega))
    generalize vl F d * n = v0 at *
    generalize vl F (d + 1) * n = v1 at *
    generalize vl F (d - 1) * n = vm at *
    omega
  · rcases Int.lt_or_eq_of_le (show c + 1 ≤ d by omega) with q | q
    · have m1 := M (c + 1) (d - 1) (by omega) (by omega)
      have m2 := L (d - 1) d (by omega) (by omega)
      generalize vl F d * n = v0 at *
      generalize vl F (d + 1) * n = v1 at *
      generalize vl F c * n = vc at *
      generalize vl F (c + 1) * n = vd at *
      generalize vl F (d - 1) * n = vm at *
      omega
    · subst q
      rw [show c + 1 - 1 = c by omega]
      generalize vl F c * n = vc at *
      generalize vl F (c + 1) * n = vd at *
      generalize vl F (c + 1 + 1) * n = v1 at *
      omega
noncomputable def uT (E F p : Int) : Int := pw (-(lo E F)) * 10 ^ (p + 9000).toNat
noncomputable def vT (F d : Int) : Int := vl F d * 10 ^ 9000
noncomputable def aT (F d : Int) : Int := (vl F (d - 1) + vl F d) * 10 ^ 9000
noncomputable def bT (F d : Int) : Int := (vl F d + vl F (d + 1)) * 10 ^ 9000
theorem p9 : (0 : Int) < 10 ^ 9000 := Int.pow_pos (by decide)
theorem sh_ok {E F d : Int} (d0 : 0 < d) : Sh (uT E F) 9000 (vT F d) (aT F d) (bT F d) := by
  have v1 := vl_lt (F := F) (c := d - 1) (c' := d) (by omega) (by omega)
  have v2 := vl_lt (F := F) (c := d) (c' := d + 1) (by omega) (by omega)
  have v0 := (vl_nonneg (F := F) (c := d - 1) (by omega)).1
  have hp := p9
  unfold vT aT bT uT
  generalize (10 : Int) ^ 9000 = z at *
  refine ⟨fun p hp => ?_, fun p hp => Int.mul_pos (pw_pos _) (Int.pow_pos (by decide)), Int.mul_pos (by omega) hp, ?_, ?_⟩
  · rw [show (p + 1 + 9000).toNat = (p + 9000).toNat + 1 by omega, Int.pow_succ]
    simp only [Int.mul_assoc, Int.mul_comm, Int.mul_left_comm]
  · rw [← Int.mul_assoc]
    exact Int.mul_lt_mul_of_pos_right (by omega) hp
  · rw [← Int.mul_assoc]
    exact Int.mul_lt_mul_of_pos_right (by omega) hp
theorem ins_wn {F T n c d M1 M2 X : Int} (d0 : 0 < d) (hc : 0 < c) (e1 : (vl F (d - 1) + vl F d) * n * c = M1) (e2 : (vl F d + vl F (d + 1)) * n * c = M2) (e3 : 2 * T * c = X) (hn : 0 < n) :
    insP F T n d ↔ Wn M1 M2 (d % 2 = 0) X := by
  have v1 := vl_lt (F := F) (c := d - 1) (c' := d) (by omega) (by omega)
  have v2 := vl_lt (F := F) (c := d) (c' := d + 1) (by omega) (by omega)
  have a12 : (vl F (d - 1) + vl F d) * n < (vl F d + vl F (d + 1)) * n := Int.mul_lt_mul_of_pos_right (by omega) hn
  have L : ∀ a b : Int, a * c < b * c ↔ a < b := fun a b => mul_lt_iff hc
  have Q : ∀ a b : Int, a * c = b * c ↔ a = b := fun a b => ⟨fun h => Int.eq_of_mul_eq_mul_right (by omega) h, fun h => by rw [h]⟩
  unfold insP Wn
  rw [← e1, ← e2, ← e3, L, L, Q, Q]
  generalize (vl F (d - 1) + vl F d) * n = a at *
  generalize (vl F d + vl F (d + 1)) * n = b at *
  omega
end EV
namespace EV
noncomputable def st (l : List Nat) : PySem.Str := ⟨l.toArray⟩
noncomputable def dg (n : Nat) : List Nat := (Nat.toDigits 10 n).map Char.toNat
theorem dg_small {n : Nat} (h : n < 10) : dg n = [48 + n] := by
  unfold dg
  rw [Nat.toDigits_of_lt_base h]
  rcases (show n = 0 ∨ n = 1 ∨ n = 2 ∨ n = 3 ∨ n = 4 ∨ n = 5 ∨ n = 6 ∨ n = 7 ∨ n = 8 ∨ n = 9 by omega) with e | e | e | e | e | e | e | e | e | e <;> subst e <;> rfl
theorem dg_ten {n d : Nat} (h : 0 < n) (hd : d < 10) : dg (10 * n + d) = dg n ++ dg d := by
  unfold dg
  rw [← Nat.toDigits_append_toDigits (by decide) h hd, List.map_append]
theorem dg_len {n k : Nat} (hk : 0 < k) : (dg n).length ≤ k ↔ n < 10 ^ k := by
  unfold dg
  rw [List.length_map]
  exact Nat.length_toDigits_le_iff (by decide) hk
theorem dg_pos (n : Nat) : 0 < (dg n).length := by
  by_cases h : n < 10
  · rw [dg_small h, List.length_singleton]; decide
  · rw [show n = 10 * (n / 10) + n % 10 by omega, dg_ten (by omega) (by omega), dg_small (show n % 10 < 10 by omega), List.length_append, List.length_singleton]
    omega
noncomputable def pad (k r : Nat) : List Nat := List.replicate (k - (dg r).length) 48 ++ dg r
theorem dg_split {q : Nat} (hq : 0 < q) : ∀ (k r : Nat), 0 < k → r < 10 ^ k → dg (q * 10 ^ k + r) = dg q ++ pad k r
  | 0, _, h, _ => absurd h (by decide)
  | 1, r, _, hr => by
    unfold pad
    rw [Nat.pow_one, Nat.mul_comm, dg_ten hq (by omega), dg_small (show r < 10 by omega)]
    rfl
  | k + 2, r, _, hr => by
    have e : q * 10 ^ (k + 2) + r = 10 * (q * 10 ^ (k + 1) + r / 10) + r % 10 := by
      rw [Nat.pow_succ 10 (k + 1), ← Nat.mul_assoc]
      omega
    have hr' : r / 10 < 10 ^ (k + 1) := by
      rw [Nat.pow_succ] at hr
      omega
    have hp : 0 < q * 10 ^ (k + 1) := Nat.mul_pos hq (Nat.pow_pos (by decide))
    rw [e, dg_ten (by omega) (by omega), dg_split hq (k + 1) (r / 10) (by omega) hr', List.append_assoc]
    congr 1
    unfold pad
    by_cases z : r < 10
    · rw [show r / 10 = 0 by omega, show r % 10 = r by omega, dg_small (n := 0) (by decide), dg_small z]
      simp only [List.length_singleton]
      rw [show k + 2 - 1 = (k + 1 - 1) + 1 by omega, List.replicate_succ']
    · have e2 : dg r = dg (r / 10) ++ dg (r % 10) := by
        rw [← dg_ten (by omega) (by omega)]
        congr 1
        omega
      have l1 : (dg (r % 10)).length = 1 := by rw [dg_small (by omega)]; rfl
      rw [e2, List.length_append, l1, List.append_assoc, show k + 2 - ((dg (r / 10)).length + 1) = k + 1 - (dg (r / 10)).length by omega]
theorem str_is {i : Int} (h : 0 ≤ i) : ((toString i : String) : PySem.Str) = st (dg i.toNat) := by
  obtain ⟨n, rfl⟩ := Int.eq_ofNat_of_zero_le h
  show PySem.Str.ofString (Nat.repr n) = _
  rw [PySem.Str.ofString_eq_toList]
  unfold Nat.repr st dg
  rw [String.toList_ofList]
  rfl
theorem nb_ten (k : Nat) : nb ((10 : Int) ^ k) ≤ 4 * k + 1 := by
  induction k with
  | zero => decide
  | succ k ih =>
    have e : (10 : Int) ^ (k + 1) = 10 ^ k * 10 := Int.pow_succ _ _
    have := nb_mul ih (show nb (10 : Int) ≤ 4 by decide)
    rw [e]
    omega
theorem ten_half {n : Int} (h : 0 ≤ n) : (10 : Int) ^ (n / 2).toNat * 10 ^ (n / 2).toNat * (if n % 2 = 1 then 10 else 1) = 10 ^ n.toNat := by
  rw [← Int.pow_add]
  by_cases g : n % 2 = 1
  · rw [if_pos g, ← Int.pow_succ]
    congr 1
    omega
  · rw [if_neg g, Int.mul_one]
    congr 1
    omega
theorem oAdd_st {a b : List Nat} (h : a.length + b.length ≤ 1000000) : oAdd (.str (st a)) (.str (st b)) = .ok (.str (st (a ++ b))) := by
  unfold oAdd st
  simp only [List.size_toArray]
  rw [if_pos h]
  simp
theorem bLen_st {a : List Nat} (h : a.length ≤ 1000000) : bLen [.str (st a)] = .ok (.int a.length) := by
  unfold bLen st
  simp only [List.size_toArray]
  rw [if_pos h]
theorem bStr_dg {i : Int} (h : 0 ≤ i) (hn : nb i ≤ 1900) : bStr [.int i] = .ok (.str (st (dg i.toNat))) := by
  unfold bStr
  simp only
  rw [if_pos hn, str_is h]
theorem rep_st {n : Int} (h0 : -100000 ≤ n) (h1 : n ≤ 100000) : oRepS (.str (st [48])) (.int n) = .ok (.str (st (List.replicate n.toNat 48))) := by
  unfold oRepS
  simp only
  rw [if_pos ⟨rfl, h0, h1⟩]
  rfl
theorem sl_lo {a : List Nat} {k : Int} (h0 : 0 ≤ k) (h1 : k ≤ a.length) (h : a.length ≤ 1000000) : oSlS (.str (st a)) none (some k) = .ok (.str (st (a.take k.toNat))) := by
  rw [oSlS_str (by unfold st; simpa using h)]
  unfold cutS EV.cut sIx st
  simp only [if_neg (show ¬ k < 0 by omega), List.drop_zero, Nat.sub_zero]
  congr 3
  rw [show min k.toNat a.toArray.toList.length = k.toNat by simp; omega]
theorem sl_hi {a : List Nat} {k : Int} (h0 : 0 ≤ k) (h1 : k ≤ a.length) (h : a.length ≤ 1000000) : oSlS (.str (st a)) (some k) none = .ok (.str (st (a.drop k.toNat))) := by
  rw [oSlS_str (by unfold st; simpa using h)]
  unfold cutS EV.cut sIx st
  simp only [if_neg (show ¬ k < 0 by omega)]
  congr 3
  rw [show min k.toNat a.toArray.toList.length = k.toNat by simp; omega]
  simp
  exact List.take_of_length_le (by rw [List.length_drop]; exact Nat.le_refl _)
theorem ix_st {c : Nat} {a : List Nat} (h : (c :: a).length ≤ 1000000) : oIx (.str (st (c :: a))) (.int 0) = .ok (.str (st [c])) := by
  unfold oIx st ixN
  simp only [List.size_toArray]
  rw [if_pos h]
  simp
end EV
namespace T
open EV
theorem size_ok (c : Int) : p_law_size_by [.int c] = .ok (.tup [.int (szE c), .int (szF c)]) := by
  unfold p_law_size_by g_law_size_by
  by_cases h : c % 8 < 4
  · rcases four (Int.emod_nonneg c (by decide)) h with e | e | e | e <;> (simp_arith [e]; unfold szE szF; rw [e]; rfl)
  · by_cases h2 : c % 8 < 6
    · simp_arith [h2, show ¬ c % 8 = 0 by omega, show ¬ c % 8 = 1 by omega, show ¬ c % 8 = 2 by omega, show ¬ c % 8 = 3 by omega]
      unfold szE szF
      rw [if_neg h, if_pos h2, if_neg h, if_pos h2]
    · simp_arith [h2, show ¬ c % 8 = 0 by omega, show ¬ c % 8 = 1 by omega, show ¬ c % 8 = 2 by omega, show ¬ c % 8 = 3 by omega]
      unfold szE szF
      rw [if_neg h, if_neg h2, if_neg h, if_neg h2]
theorem power_ok : ∀ (j : Nat) (n : Int), 0 ≤ n → n < pw j → n ≤ 30000 → p_law_power (j + 1) [.int n] = .ok (.int (10 ^ n.toNat))
  | 0, n, h0, h1, h2 => by
    have : pw ((0 : Nat) : Int) = 1 := rfl
    have e : n = 0 := by omega
    subst e
    unfold p_law_power g_law_power
    simp_arith []
    try rfl
  | j + 1, n, h0, h1, h2 => by
    have hp : pw ((j + 1 : Nat) : Int) = 2 * pw (j : Int) := by
      rw [show ((j + 1 : Nat) : Int) = (j : Int) + 1 by omega]
      exact pw_succ (by omega)
    have ih := power_ok j (n / 2) (by omega) (by omega) (by omega)
    have hh := ten_half h0
    have nn := nb_ten (n / 2).toNat
    unfold p_law_power g_law_power
    generalize p_law_power (j + 1) = P at *
    by_cases g : n = 0
    · subst g
      simp_arith []
      try rfl
    · generalize (10 : Int) ^ (n / 2).toNat = x at *
      have nx : nb x ≤ 60001 := by omega
      have m1 : MulOk x x := by walk_at "mul"
      have nxx : nb (x * x) ≤ 120002 := by walk_at "nbk"
      have m2 : MulOk (x * x) 10 := by walk_at "mul"
      by_cases g2 : n % 2 = 1
      · rw [if_pos g2] at hh
        simp_arith [g, ih, eq_true g2, oMul_ok m1, oMul_ok m2, hh]
      · rw [if_neg g2, Int.mul_one] at hh
        simp_arith [g, ih, g2, oMul_ok m1, oMul_ok m2, hh]
theorem sign_bit_ok {E F : Int} (h : Sz E F) : p_sign_bit [.tup [.int E, .int F]] = .ok (.int (pw (E + F))) := by
  obtain ⟨h1, h2, h3, h4⟩ := h
  unfold p_sign_bit g_sign_bit
  simp_arith [shl1 (k := E + F) (by omega) (by omega)]
theorem width_ok {E F : Int} : p_width [.tup [.int E, .int F]] = .ok (.int (E + F + 1)) := by
  unfold p_width g_width
  simp_arith []
theorem parted_ok {E F b : Int} (h : Sz E F) (hb : In E F b) : p_parted [.tup [.int E, .int F], .int b] = .ok (.tup [.int (sgn E F b), .int (fld E F b), .int (fig F b)]) := by
  obtain ⟨h1, h2, h3, h4⟩ := id h
  obtain ⟨hb0, hb1⟩ := hb
  have d1 : DivOk b (pw (E + F)) := ⟨pw_pos _, .inl (Nat.le_trans (nb_pw (c := 127) (by omega)) (by decide))⟩
  have d2 : DivOk (b % pw (E + F)) (pw F) := ⟨pw_pos _, .inl (Nat.le_trans (nb_pw (c := 127) (by omega)) (by decide))⟩
  have e0 : b / pw (E + F) = sgn E F b := by unfold sgn; rw [pw_add (by omega) (by omega), part0 (pw_pos _) (pw_pos _)]
  have e1 : b % pw (E + F) / pw F = fld E F b := by unfold fld; rw [pw_add (by omega) (by omega), part1 (pw_pos _) (pw_pos _)]
  have e2 : b % pw (E + F) % pw F = fig F b := by unfold fig; rw [pw_add (by omega) (by omega), part2]
  unfold p_parted g_parted
  simp_arith [width_ok, sign_bit_ok h, shl1 (k := E + F + 1) (by omega) (by omega), shl1 (k := F) (by omega) (by omega), show ¬ b < 0 by omega, show ¬ pw (E + F + 1) ≤ b by omega, oDiv_ok d1, oDiv_ok d2, pw_pos, e0, e1, e2]
theorem last_field_ok {E F : Int} (h : Sz E F) : p_last_field [.tup [.int E, .int F]] = .ok (.int (pw E - 1)) := by
  obtain ⟨h1, h2, h3, h4⟩ := h
  unfold p_last_field g_last_field
  simp_arith [shl1 (k := E) (by omega) (by omega)]
theorem kind_ok {E F b : Int} (h : Sz E F) (hb : In E F b) : p_kind [.tup [.int E, .int F], .int b] = .ok (.str (kindS E (fld E F b) (fig F b))) := by
  unfold p_kind g_kind
  simp_arith [parted_ok h hb, last_field_ok h]
  unfold kindS
  (repeat' split) <;> first | rfl | contradiction
theorem worth_fraction_ok {s w p : Int} (hw : nb w ≤ 1000000) (hp : -1000000 ≤ p ∧ p ≤ 1000000) : p_worth_fraction [.tup [.int s, .int w, .int p]] = .ok (.tup [.int s, .int (frT w p), .int (frB p)]) := by
  unfold p_worth_fraction g_worth_fraction
  by_cases g : 0 ≤ p
  · simp_arith [g, oShl_ok (i := w) (j := p) g (by omega), frT, frB]
  · simp_arith [g, shl1 (k := -p) (by omega) (by omega), frT, frB]
theorem bias_ok {E F : Int} (h : Sz E F) : p_bias [.tup [.int E, .int F]] = .ok (.int (pw (E - 1) - 1)) := by
  obtain ⟨h1, h2, h3, h4⟩ := h
  unfold p_bias g_bias
  simp_arith [shl1 (k := E - 1) (by omega) (by omega)]
theorem low_ok {E F : Int} (h : Sz E F) : p_low [.tup [.int E, .int F]] = .ok (.int (lo E F)) := by
  have e : 1 - (pw (E - 1) - 1) - F = lo E F := by unfold lo; omega
  unfold p_low g_low
  simp_arith [bias_ok h, e]
theorem worth_ok {E F b : Int} (h : Sz E F) (hb : In E F b) (hf : ¬ fld E F b = pw E - 1) : p_worth [.tup [.int E, .int F], .int b] = .ok (.tup [.int (sgn E F b), .int (wh F (fld E F b) (fig F b)), .int (po E F (fld E F b))]) := by
  obtain ⟨h1, h2, h3, h4⟩ := id h
  unfold p_worth g_worth
  simp_arith [parted_ok h hb, last_field_ok h, low_ok h, hf, shl1 (k := F) (by omega) (by omega)]
  unfold wh po
  by_cases g : fld E F b = 0
  · simp only [if_pos g]
  · simp only [if_neg g]
theorem fraction_ok {E F b : Int} (h : Sz E F) (hb : In E F b) (hf : ¬ fld E F b = pw E - 1) : p_fraction [.tup [.int E, .int F], .int b] = .ok (.tup [.int (sgn E F b), .int (frT (wh F (fld E F b) (fig F b)) (po E F (fld E F b))), .int (frB (po E F (fld E F b)))]) := by
  have h1 := wh_nb h hb
  have h2 := po_in h hb
  unfold p_fraction g_fraction
  simp_arith [worth_ok h hb hf, worth_fraction_ok (s := sgn E F b) (w := wh F (fld E F b) (fig F b)) (p := po E F (fld E F b)) (by omega) (by omega)]
theorem nb_ten (k : Nat) : nb ((10 : Int) ^ k) ≤ 4 * k + 1 := by
  induction k with
  | zero => decide
  | succ k ih =>
    have e : (10 : Int) ^ (k + 1) = 10 ^ k * 10 := Int.pow_succ _ _
    have := nb_mul ih (show nb (10 : Int) ≤ 4 by decide)
    rw [e]
    omega
theorem ten_half {n : Int} (h : 0 ≤ n) : (10 : Int) ^ (n / 2).toNat * 10 ^ (n / 2).toNat * (if n % 2 = 1 then 10 else 1) = 10 ^ n.toNat := by
  rw [← Int.pow_add]
  by_cases g : n % 2 = 1
  · rw [if_pos g, ← Int.pow_succ]
    congr 1
    omega
  · rw [if_neg g, Int.mul_one]
    congr 1
    omega
theorem ten_ok : ∀ (j : Nat) (n : Int), 0 ≤ n → n < pw j → n ≤ 30000 → p_ten_to (j + 1) [.int n] = .ok (.int (10 ^ n.toNat))
  | 0, n, h0, h1, h2 => by
    have : pw ((0 : Nat) : Int) = 1 := rfl
    have e : n = 0 := by omega
    subst e
    unfold p_ten_to g_ten_to
    simp_arith []
    try rfl
  | j + 1, n, h0, h1, h2 => by
    have hp : pw ((j + 1 : Nat) : Int) = 2 * pw (j : Int) := by
      rw [show ((j + 1 : Nat) : Int) = (j : Int) + 1 by omega]
      exact pw_succ (by omega)
    have ih := ten_ok j (n / 2) (by omega) (by omega) (by omega)
    have hh := ten_half h0
    have nn := nb_ten (n / 2).toNat
    unfold p_ten_to g_ten_to
    generalize p_ten_to (j + 1) = P at *
    by_cases g : n = 0
    · subst g
      simp_arith []
      try rfl
    · generalize (10 : Int) ^ (n / 2).toNat = x at *
      have nx : nb x ≤ 60001 := by omega
      have m1 : MulOk x x := by walk_at "mul"
      have nxx : nb (x * x) ≤ 120002 := by walk_at "nbk"
      have m2 : MulOk (x * x) 10 := by walk_at "mul"
      by_cases g2 : n % 2 = 1
      · rw [if_pos g2] at hh
        simp_arith [g, ih, oBand_one h0, eq_true g2, oMul_ok m1, oMul_ok m2, hh]
      · rw [if_neg g2, Int.mul_one] at hh
        simp_arith [g, ih, oBand_one h0, g2, oMul_ok m1, oMul_ok m2, hh]
noncomputable def tnT (f p : Int) : Int := if 0 ≤ p then f * 10 ^ p.toNat else f
noncomputable def tnB (n p : Int) : Int := if 0 ≤ p then n else n * 10 ^ (-p).toNat
theorem ten_nb {p : Int} (h1 : p ≤ 20000) : nb ((10 : Int) ^ p.toNat) ≤ 80001 := Nat.le_trans (nb_ten p.toNat) (by omega)
theorem ten_pos (k : Nat) : (0 : Int) < 10 ^ k := Int.pow_pos (by decide)
theorem tenfold_ok {t n p : Int} (h0 : -20000 ≤ p) (h1 : p ≤ 20000) (nt : nb t ≤ 500000) (nn : nb n ≤ 500000) : p_tenfold [.int t, .int n, .int p] = .ok (.tup [.int (tnT t p), .int (tnB n p)]) := by
  have hp : pw ((19 : Nat) : Int) = 524288 := rfl
  unfold p_tenfold g_tenfold
  by_cases g : 0 ≤ p
  · have e := ten_ok 19 p g (by omega) (by omega)
    have q := ten_nb h1
    rw [show 19 + 1 = 20 from rfl] at e
    generalize p_ten_to 20 = A at *
    unfold tnT tnB
    rw [if_pos g, if_pos g]
    generalize (10 : Int) ^ p.toNat = x at *
    have m : MulOk t x := by walk_at "mul"
    simp_arith [g, e, oMul_ok m]
  · have e := ten_ok 19 (-p) (by omega) (by omega) (by omega)
    have q := ten_nb (p := -p) (by omega)
    rw [show 19 + 1 = 20 from rfl] at e
    generalize p_ten_to 20 = A at *
    unfold tnT tnB
    rw [if_neg g, if_neg g]
    generalize (10 : Int) ^ (-p).toNat = x at *
    have m : MulOk n x := by walk_at "mul"
    simp_arith [show ¬ p ≥ 0 from g, e, oMul_ok m]
theorem tn_size {t n p : Int} (h0 : -20000 ≤ p) (h1 : p ≤ 20000) (t0 : 0 ≤ t) (hn : 0 < n) (nt : nb t ≤ 500000) (nn : nb n ≤ 500000) : 0 ≤ tnT t p ∧ 0 < tnB n p ∧ nb (tnT t p) ≤ 1000000 ∧ nb (tnB n p) ≤ 1000000 := by
  unfold tnT tnB
  have a := ten_nb h1
  have b := ten_nb (p := -p) (by omega)
  have a0 := ten_pos p.toNat
  have b0 := ten_pos (-p).toNat
  generalize (10 : Int) ^ p.toNat = x at *
  generalize (10 : Int) ^ (-p).toNat = y at *
  by_cases g : 0 ≤ p
  · rw [if_pos g, if_pos g]
    exact ⟨Int.mul_nonneg t0 (Int.le_of_lt a0), hn, by walk_at "nbk", Nat.le_trans nn (by decide)⟩
  · rw [if_neg g, if_neg g]
    exact ⟨t0, Int.mul_pos hn b0, Nat.le_trans nt (by decide), by walk_at "nbk"⟩
theorem scaled_ok {t n p : Int} (h1 : nb t ≤ 10000000) (h2 : nb n ≤ 10000000) (h3 : -10000000 ≤ p) (h4 : p ≤ 10000000) : p_scaled [.int t, .int n, .int p] = .ok (.tup [.int (cutA p t), .int (cutB p n)]) := by
  unfold p_scaled g_scaled cutA cutB
  by_cases g : 0 ≤ p
  · simp_arith [g, oShl_ok (i := n) (j := p) g (by omega), pw_nonpos (p := -p) (by omega), Int.mul_one]
  · simp_arith [g, oShl_ok (i := t) (j := -p) (by omega) (by omega), pw_nonpos (p := p) (by omega), Int.mul_one]
theorem height_ok {t n : Int} (h1 : nb t ≤ 1000000) (h2 : nb n ≤ 1000000) : p_height [.int t, .int n] = .ok (.int (hgt t n)) := by
  have e : (cutA ((nb t : Int) - nb n) t < cutB ((nb t : Int) - nb n) n) = Lt t n ((nb t : Int) - nb n) := rfl
  unfold p_height g_height hgt
  by_cases g : Lt t n ((nb t : Int) - nb n)
  · simp_arith [scaled_ok (t := t) (n := n) (p := (nb t : Int) - nb n) (by omega) (by omega) (by omega) (by omega), e, g]
  · simp_arith [scaled_ok (t := t) (n := n) (p := (nb t : Int) - nb n) (by omega) (by omega) (by omega) (by omega), e, g]
theorem way_ok (w : Wy) : p_way_of [.str w.s] = .ok (wayD w) := by
  have h : oNotIn (.str w.s) (.tup [.str "even", .str "away", .str "nought", .str "up", .str "down"]) = .ok (.bl false) := by
    show oNotIn (.str w.s) (.tup (wayNames.map D.str)) = _
    rw [oNotIn_strs]
    cases w <;> rfl
  unfold p_way_of g_way_of
  simp_arith [h]
  rfl
theorem check_ok {t n : Int} (ht : 0 ≤ t) (hn : 0 < n) : p_check_fraction [.int t, .int n] = .ok .non := by
  unfold p_check_fraction g_check_fraction
  simp_arith [show ¬ t < 0 by omega, show ¬ n < 1 by omega]
theorem rest_mid_ok {o a m : Int} : p_rest_by_middle [.int o, .int a, .int m] = .ok (.int (if o = 0 then 0 else if a < m then 1 else if a = m then 2 else 3)) := by
  unfold p_rest_by_middle g_rest_by_middle
  simp_arith []
theorem rest_of_ok {o s : Int} (h : nb o ≤ 100000000) : p_rest_of [.int o, .int s] = .ok (.int (rst o s)) := by
  have m : MulOk 2 o := by walk_at "mul"
  unfold p_rest_of g_rest_of
  simp_arith [oMul_ok m, rest_mid_ok]
  rfl
theorem cut_zero {E F n : Int} (h : Sz E F) (hn : 0 < n) : p_cut [.tup [.int E, .int F], .int 0, .int n] = .ok (.tup [.int 0, .int (lo E F), .int 0]) := by
  unfold p_cut g_cut
  simp_arith [check_ok (Int.le_refl 0) hn, low_ok h]
theorem cut_ok {E F t n : Int} (h : Sz E F) (ht : 0 < t) (hn : 0 < n) (h1 : nb t ≤ 1000000) (h2 : nb n ≤ 1000000) :
    p_cut [.tup [.int E, .int F], .int t, .int n] = .ok (.tup [.int (cutA (cutP E F t n) t / cutB (cutP E F t n) n), .int (cutP E F t n), .int (rst (cutA (cutP E F t n) t % cutB (cutP E F t n) n) (cutB (cutP E F t n) n))]) := by
  obtain ⟨s1, s2, s3, s4⟩ := cut_spec h ht hn
  have l := lo_in h
  have hB := cutB_pos (p := cutP E F t n) hn
  have hA := cutA_nn (p := cutP E F t n) (Int.le_of_lt ht)
  have d := nb_cut h hA hB s3
  have eP : max (lo E F) (hgt t n - F - 1) = cutP E F t n := rfl
  have nB : nb (cutB (cutP E F t n) n) ≤ 3000000 := by
    have := nb_mul h2 (nb_pw (k := cutP E F t n) (c := 1000000) (by omega))
    unfold cutB; omega
  have nr : nb (cutA (cutP E F t n) t % cutB (cutP E F t n) n) ≤ 3000000 := nb_mod hB nB
  unfold p_cut g_cut
  simp_arith [check_ok (Int.le_of_lt ht) hn, show ¬ t = 0 by omega, low_ok h, height_ok h1 h2, eP, scaled_ok (t := t) (n := n) (p := cutP E F t n) (by omega) (by omega) (by omega) (by omega), oDiv_ok d, hB, rest_of_ok (o := cutA (cutP E F t n) t % cutB (cutP E F t n) n) (s := cutB (cutP E F t n) n) (by omega)]
theorem endless_ok {E F : Int} (h : Sz E F) : p_endless [.tup [.int E, .int F]] = .ok (.int ((pw E - 1) * pw F)) := by
  obtain ⟨h1, h2, h3, h4⟩ := id h
  have hb : nb (pw E) ≤ 16 := nb_pw (c := 15) (by omega)
  have hb2 : nb (pw E - 1) ≤ 17 := by walk_at "nbk"
  unfold p_endless g_endless
  simp_arith [last_field_ok h, oShl_ok (i := pw E - 1) (j := F) (by omega) (by omega)]
theorem signed_ok {E F s c : Int} (h : Sz E F) (hs : 0 ≤ s ∧ s ≤ 1) : p_signed [.tup [.int E, .int F], .int s, .int c] = .ok (.int (s * pw (E + F) + c)) := by
  have n1 : nb (pw (E + F)) ≤ 128 := nb_pw (c := 127) (by have := h.2.1; have := h.2.2.2; omega)
  unfold p_signed g_signed
  simp_arith [sign_bit_ok h, oMul_ok (mul_small hs.1 hs.2 (Nat.le_trans n1 (by decide)))]
theorem lost_ok {E F c k : Int} (h : Sz E F) : p_lost_flags [.tup [.int E, .int F], .int c, .int k] = .ok (.int (if k = pw (E + F) - pw F then 5 else if c < pw F then 3 else 1)) := by
  obtain ⟨h1, h2, h3, h4⟩ := id h
  unfold p_lost_flags g_lost_flags
  simp_arith [endless_ok h, end_is h, shl1 (k := F) (by omega) (by omega)]
theorem flees_ok (w : Wy) (s : Int) : p_Way_flees_nought [wayD w, .int s] = .ok (.bl (w.out s)) := by
  unfold p_Way_flees_nought g_Way_flees_nought wayD
  cases w <;> simp_arith [Wy.s, Wy.out]
theorem grows_ok (w : Wy) (s r : Int) (o : Bool) (h : ¬ r = 0) : p_Way_grows [wayD w, .int s, .bl o, .int r] = .ok (.bl (w.grw s o r)) := by
  have f := flees_ok w s
  have hm : isMeth "Way" "flees_nought" (wayD w) = true := rfl
  unfold p_Way_grows g_Way_grows
  have nm : ("flees_nought" != "name") = true := by decide
  have e1 : oFld "Way" "name" (wayD w) = .ok (.str w.s) := rfl
  unfold wayD at *
  cases w
  · by_cases g : r = 3
    · simp_arith [h, Wy.s, eq_true g]
      simp [Wy.grw, g]
    · by_cases g2 : r = 2
      · simp_arith [h, Wy.s, g, eq_true g2]
        simp [Wy.grw, g2]
      · simp_arith [h, Wy.s, g, g2]
        simp [Wy.grw, g, g2]
  · simp_arith [h, Wy.s]
    rfl
  · simp only [Wy.s] at f
    simp_arith [h, Wy.s, nm, f]
    rfl
  · simp only [Wy.s] at f
    simp_arith [h, Wy.s, nm, f]
    rfl
  · simp only [Wy.s] at f
    simp_arith [h, Wy.s, nm, f]
    rfl
theorem bursts_ok (w : Wy) (s : Int) : p_Way_bursts [wayD w, .int s] = .ok (.bl (w.brs s)) := by
  have f := flees_ok w s
  have nm : ("flees_nought" != "name") = true := by decide
  have e2 : ∀ x : PySem.Str, oIn (.str x) (.tup [.str "even", .str "away"]) = .ok (.bl (decide ((PySem.Str.ofString "even") = x ∨ (PySem.Str.ofString "away") = x))) := fun x => oIn_str2
  unfold p_Way_bursts g_Way_bursts
  unfold wayD at *
  cases w
  · simp_arith [Wy.s, e2]
    rfl
  · simp_arith [Wy.s, e2]
    rfl
  · simp only [Wy.s] at f
    simp_arith [Wy.s, e2, nm, f]
    rfl
  · simp only [Wy.s] at f
    simp_arith [Wy.s, e2, nm, f]
    rfl
  · simp only [Wy.s] at f
    simp_arith [Wy.s, e2, nm, f]
    rfl
theorem settled_ok {E F s x P r : Int} (w : Wy) (h : Sz E F) (hs : 0 ≤ s ∧ s ≤ 1) (hP : lo E F ≤ P) (hP2 : P ≤ 10000000) (hx : 0 ≤ x) :
    p_settled [.tup [.int E, .int F], .str w.s, .int s, .int x, .int P, .int r] = .ok (.tup [.int (s * pw (E + F) + stK w E F s (codeOf E F P x) r), .int (stF w E F s (codeOf E F P x) r)]) := by
  obtain ⟨h1, h2, h3, h4⟩ := id h
  have l := lo_in h
  have n1 : nb (P - lo E F) ≤ 64 := nb_lt (by omega) (by omega)
  have c0 : 0 ≤ codeOf E F P x := by
    have := Int.mul_nonneg (show 0 ≤ P - lo E F by omega) (Int.le_of_lt (pw_pos F))
    unfold codeOf; omega
  have ec : (P - lo E F) * pw F + x = codeOf E F P x := rfl
  have mb : isMeth "Way" "bursts" (wayD w) = true := rfl
  have mg : isMeth "Way" "grows" (wayD w) = true := rfl
  have vw : ∀ (a b c d e f : Option D) (l : Dt), var 6 (a :: b :: c :: d :: e :: f :: some (wayD w) :: l) = .ok (wayD w) := fun _ _ _ _ _ _ _ => rfl
  unfold p_settled g_settled stF stK
  by_cases g : pw (E + F) - pw F ≤ codeOf E F P x
  · cases gb : w.brs s
    · simp_arith [way_ok w, low_ok h, oShl_ok (i := P - lo E F) (j := F) (by omega) (by omega), ec, endless_ok h, end_is h, g, vw, mb, bursts_ok w s, gb, signed_ok h hs]
    · simp_arith [way_ok w, low_ok h, oShl_ok (i := P - lo E F) (j := F) (by omega) (by omega), ec, endless_ok h, end_is h, g, vw, mb, bursts_ok w s, gb, signed_ok h hs]
  · by_cases gr : r = 0
    · simp_arith [way_ok w, low_ok h, oShl_ok (i := P - lo E F) (j := F) (by omega) (by omega), ec, endless_ok h, end_is h, g, eq_true gr, signed_ok h hs]
    · cases gg : w.grw s (decide (codeOf E F P x % 2 = 1)) r
      · simp_arith [way_ok w, low_ok h, oShl_ok (i := P - lo E F) (j := F) (by omega) (by omega), ec, endless_ok h, end_is h, g, gr, vw, mg, oBand_one c0, grows_ok w s r _ gr, gg, signed_ok h hs, lost_ok h]
      · simp_arith [way_ok w, low_ok h, oShl_ok (i := P - lo E F) (j := F) (by omega) (by omega), ec, endless_ok h, end_is h, g, gr, vw, mg, oBand_one c0, grows_ok w s r _ gr, gg, signed_ok h hs, lost_ok h]
theorem rounded_ok {E F s t n : Int} (w : Wy) (h : Sz E F) (hs : 0 ≤ s ∧ s ≤ 1) (ht : 0 < t) (hn : 0 < n) (h1 : nb t ≤ 1000000) (h2 : nb n ≤ 1000000) :
    p_rounded [.tup [.int E, .int F], .str w.s, .int s, .int t, .int n] = .ok (.tup [.int (s * pw (E + F) + stK w E F s (codeOf E F (cutP E F t n) (cutA (cutP E F t n) t / cutB (cutP E F t n) n)) (rst (cutA (cutP E F t n) t % cutB (cutP E F t n) n) (cutB (cutP E F t n) n))), .int (stF w E F s (codeOf E F (cutP E F t n) (cutA (cutP E F t n) t / cutB (cutP E F t n) n)) (rst (cutA (cutP E F t n) t % cutB (cutP E F t n) n) (cutB (cutP E F t n) n)))]) := by
  obtain ⟨s1, s2, s3, s4⟩ := cut_spec h ht hn
  unfold p_rounded g_rounded
  simp_arith [way_ok w, cut_ok h ht hn h1 h2, settled_ok w h hs s1 (by omega) (Int.ediv_nonneg (cutA_nn (p := cutP E F t n) (Int.le_of_lt ht)) (Int.le_of_lt (cutB_pos (p := cutP E F t n) hn)))]
theorem rounded_zero {E F s n : Int} (w : Wy) (h : Sz E F) (hs : 0 ≤ s ∧ s ≤ 1) (hn : 0 < n) : p_rounded [.tup [.int E, .int F], .str w.s, .int s, .int 0, .int n] = .ok (.tup [.int (s * pw (E + F)), .int 0]) := by
  have l := lo_in h
  have h5 := half_ge h
  have hQ := pw_pos F
  have e0 : codeOf E F (lo E F) 0 = 0 := by unfold codeOf; rw [Int.sub_self, Int.zero_mul]; rfl
  have e := settled_ok (s := s) (x := 0) (P := lo E F) (r := 0) w h hs (Int.le_refl _) (by omega) (Int.le_refl 0)
  rw [e0, show stK w E F s 0 0 = 0 by unfold stK; rw [if_neg (by omega), if_pos rfl], show stF w E F s 0 0 = 0 by unfold stF; rw [if_neg (by omega), if_pos rfl], Int.add_zero] at e
  unfold p_rounded g_rounded
  simp_arith [way_ok w, cut_zero h hn, e]
theorem rounded_at {E F t n : Int} (h : Sz E F) (ht : 0 ≤ t) (hn : 0 < n) (n1 : nb t ≤ 1000000) (n2 : nb n ≤ 1000000) :
    ∃ c r, (∀ (w : Wy) (s : Int), 0 ≤ s ∧ s ≤ 1 → p_rounded [.tup [.int E, .int F], .str w.s, .int s, .int t, .int n] = .ok (.tup [.int (s * pw (E + F) + stK w E F s c r), .int (stF w E F s c r)])) ∧ 0 ≤ c ∧ vl F c * n ≤ t * pw (-(lo E F)) ∧ t * pw (-(lo E F)) < vl F (c + 1) * n ∧ Leant F (t * pw (-(lo E F))) n c r := by
  have l := lo_in h
  have h5 := half_ge h
  have hQ := pw_pos F
  by_cases g : t = 0
  · subst g
    refine ⟨0, 0, fun w s hs => ?_, Int.le_refl 0, ?_, ?_, .inl ⟨rfl, ?_⟩⟩
    · rw [rounded_zero w h hs hn, show stK w E F s 0 0 = 0 by unfold stK; rw [if_neg (by omega), if_pos rfl], show stF w E F s 0 0 = 0 by unfold stF; rw [if_neg (by omega), if_pos rfl], Int.add_zero]
    · rw [vl_zero, Int.zero_mul, Int.zero_mul]; exact Int.le_refl 0
    · rw [Int.zero_mul]
      have := vl_lt (F := F) (c := 0) (c' := 0 + 1) (Int.le_refl 0) (by decide)
      rw [vl_zero] at this
      exact Int.mul_pos this hn
    · rw [vl_zero, Int.zero_mul, Int.zero_mul]
  have ht' : 0 < t := by omega
  obtain ⟨s1, s2, s3, s4⟩ := cut_spec h ht' hn
  have hB := cutB_pos (p := cutP E F t n) hn
  have hA := cutA_nn (p := cutP E F t n) ht
  have w0 : 0 ≤ cutA (cutP E F t n) t / cutB (cutP E F t n) n := Int.ediv_nonneg hA (Int.le_of_lt hB)
  have w1 : cutA (cutP E F t n) t / cutB (cutP E F t n) n < 2 * pw F := Int.ediv_lt_of_lt_mul hB s3
  have w2 : lo E F < cutP E F t n → pw F ≤ cutA (cutP E F t n) t / cutB (cutP E F t n) n := fun q => Int.le_ediv_of_mul_le hB (s4 q)
  have l0 := Int.emod_nonneg (cutA (cutP E F t n) t) (show cutB (cutP E F t n) n ≠ 0 by omega)
  have l1 := Int.emod_lt_of_pos (cutA (cutP E F t n) t) hB
  have b := between h hn s1 w0 w1 w2 l0 l1 (Int.ediv_mul_add_emod _ _).symm
  have c0 := (code_div h s1 w0 w1 w2).1
  exact ⟨_, _, fun w s hs => rounded_ok w h hs ht' hn n1 n2, c0, b.1, b.2.1, leant_of b l0⟩
theorem rounded_A {E F t n : Int} (h : Sz E F) (ht : 0 ≤ t) (hn : 0 < n) (n1 : nb t ≤ 1000000) (n2 : nb n ≤ 1000000) :
    ∃ c r, (∀ (w : Wy) (s : Int), 0 ≤ s ∧ s ≤ 1 → p_rounded [.tup [.int E, .int F], .str w.s, .int s, .int t, .int n] = .ok (.tup [.int (s * pw (E + F) + stK w E F s c r), .int (stF w E F s c r)])) ∧ At F (t * pw (-(lo E F))) n c r := by
  obtain ⟨c, r, e, x⟩ := rounded_at h ht hn n1 n2
  exact ⟨c, r, e, x⟩
theorem reads_ok {E F s d f p : Int} (h : Sz E F) (hs : 0 ≤ s ∧ s ≤ 1) (d0 : 0 ≤ d) (d1 : d < pw (E + F) - pw F) (f0 : 0 ≤ f) (nf : nb f ≤ 500000) (p0 : -20000 ≤ p) (p1 : p ≤ 20000) :
    ∃ c r, p_reads_back [.tup [.int E, .int F], .int (s * pw (E + F) + d), .int f, .int p] = .ok (.bl (decide (stK .even E F s c r = d))) ∧ At F (tnT f p * pw (-(lo E F))) (tnB 1 p) c r := by
  have hQ := pw_pos F
  obtain ⟨b1, b2, b3, b4⟩ := code_parts (c := d) h hs d0 (by omega)
  have hw := worth_ok h b1 (by rw [b3]; intro z; have := (last_iff h d0 (by omega)).mp z; omega)
  rw [b2] at hw
  obtain ⟨z1, z2, z3, z4⟩ := tn_size p0 p1 f0 (show (0 : Int) < 1 by decide) nf (show nb 1 ≤ 500000 by decide)
  obtain ⟨c, r, e, a⟩ := rounded_A h z1 z2 z3 z4
  refine ⟨c, r, ?_, a⟩
  have e := e .even s hs
  rw [show Wy.even.s = "even" from rfl] at e
  unfold p_reads_back g_reads_back
  simp_arith [hw, tenfold_ok (t := f) (n := 1) p0 p1 nf (by decide), e]
  have q : (s * pw (E + F) + stK Wy.even E F s c r = s * pw (E + F) + d) ↔ stK Wy.even E F s c r = d := by omega
  simp only [q]
theorem cell_ok {ns : List Int} {j : Int} (h0 : 0 ≤ j) : p_law_cell_at [.lst (ns.map .int), .int j] = .ok (.int (ns.getD j.toNat 0)) := by
  unfold p_law_cell_at g_law_cell_at
  by_cases h : j < (ns.length : Int)
  · have e : oIx (.lst (ns.map D.int)) (.int j) = .ok (.int (ns.getD j.toNat 0)) := by
      obtain ⟨k, rfl⟩ := Int.eq_ofNat_of_zero_le h0
      have hk : k < ns.length := by omega
      refine ix_lst ?_
      simp [List.getElem?_map, List.getElem?_eq_getElem hk, List.getD_eq_getElem?_getD]
    simp_arith [h, e]
  · simp_arith [h, getD_end h0 h]
structure Vf (E F d t n : Int) : Prop where
  t0 : 0 < t
  n0 : 0 < n
  nt : nb t ≤ 200000
  nn : nb n ≤ 200000
  eq : t * pw (-(lo E F)) = vl F d * n
theorem div_same {a b c V U c' : Int} (hb : 0 < b) (hU : 0 < U) (hc : 0 < c) (hc' : 0 < c') (e1 : a * c = V * c') (e2 : b * c = U * c') :
    a / b = V / U ∧ (a < b ↔ V < U) ∧ (2 * (a % b) > b ↔ 2 * (V % U) > U) ∧ (2 * (a % b) = b ↔ 2 * (V % U) = U) := by
  have q1 : a / b = V / U := by
    rw [← Int.mul_ediv_mul_of_pos_left a b hc, e1, e2, Int.mul_ediv_mul_of_pos_left V U hc']
  have q2 : a % b * c = V % U * c' := by
    rw [Int.emod_def, Int.emod_def, q1, Int.sub_mul, Int.sub_mul, e1, Int.mul_assoc, Int.mul_comm (V / U) c, ← Int.mul_assoc, e2]
    simp only [Int.mul_assoc, Int.mul_comm, Int.mul_left_comm]
  have L : ∀ x y : Int, x * c < y * c ↔ x < y := fun x y => mul_lt_iff hc
  have L' : ∀ x y : Int, x * c' < y * c' ↔ x < y := fun x y => mul_lt_iff hc'
  refine ⟨q1, by rw [← L, e1, e2, L'], ?_, ?_⟩
  · show b < 2 * (a % b) ↔ U < 2 * (V % U)
    rw [← L, ← L' U, Int.mul_assoc, q2, e2, Int.mul_assoc]
  · constructor
    · intro z
      have : 2 * (a % b) * c = b * c := by rw [z]
      rw [Int.mul_assoc, q2, e2, ← Int.mul_assoc] at this
      exact Int.eq_of_mul_eq_mul_right (by omega) this
    · intro z
      have : 2 * (V % U) * c' = U * c' := by rw [z]
      rw [Int.mul_assoc, ← q2, ← e2, ← Int.mul_assoc] at this
      exact Int.eq_of_mul_eq_mul_right (by omega) this
theorem uT_pos {E F p : Int} : 0 < uT E F p := Int.mul_pos (pw_pos _) (Int.pow_pos (by decide))
theorem parts_at {E F d t n p : Int} (W : Vf E F d t n) (h0 : -9000 ≤ p) (h1 : p ≤ 9000) :
    0 < tnB n (-p) ∧ tnT t (-p) / tnB n (-p) = vT F d / uT E F p ∧ (tnT t (-p) < tnB n (-p) ↔ vT F d < uT E F p) ∧
    (2 * (tnT t (-p) % tnB n (-p)) > tnB n (-p) ↔ 2 * (vT F d % uT E F p) > uT E F p) ∧ (2 * (tnT t (-p) % tnB n (-p)) = tnB n (-p) ↔ 2 * (vT F d % uT E F p) = uT E F p) := by
  obtain ⟨t0, n0, _, _, e⟩ := W
  have hK := pw_pos (-(lo E F))
  have hb : 0 < tnB n (-p) := by
    unfold tnB
    split
    · exact n0
    · exact Int.mul_pos n0 (ten_pos _)
  refine ⟨hb, ?_⟩
  unfold tnT tnB at *
  have hU := uT_pos (E := E) (F := F) (p := p)
  by_cases g : 0 ≤ -p
  · rw [if_pos g] at hb
    rw [if_pos g, if_pos g]
    refine div_same n0 hU (c := pw (-(lo E F)) * 10 ^ (p + 9000).toNat) (c' := n) (Int.mul_pos hK (ten_pos _)) n0 ?_ ?_
    · have x : (10 : Int) ^ (-p).toNat * 10 ^ (p + 9000).toNat = 10 ^ 9000 := by rw [← Int.pow_add]; congr 1; omega
      unfold vT
      generalize (10 : Int) ^ 9000 = z at *
      generalize (10 : Int) ^ (-p).toNat = z1 at *
      generalize (10 : Int) ^ (p + 9000).toNat = z2 at *
      rw [← x]
      calc t * z1 * (pw (-(lo E F)) * z2) = (t * pw (-(lo E F))) * (z1 * z2) := by simp only [Int.mul_assoc, Int.mul_comm, Int.mul_left_comm]
        _ = vl F d * (z1 * z2) * n := by rw [e]; simp only [Int.mul_assoc, Int.mul_comm, Int.mul_left_comm]
    · unfold uT
      simp only [Int.mul_assoc, Int.mul_comm, Int.mul_left_comm]
  · rw [if_neg g] at hb
    rw [if_neg g, if_neg g]
    refine div_same hb hU (c := pw (-(lo E F)) * 10 ^ 9000) (c' := n) (Int.mul_pos hK (ten_pos _)) n0 ?_ ?_
    · unfold vT
      generalize (10 : Int) ^ 9000 = z at *
      rw [← Int.mul_assoc, e]
      simp only [Int.mul_assoc, Int.mul_comm, Int.mul_left_comm]
    · have x : (10 : Int) ^ (p + 9000).toNat = 10 ^ (- -p).toNat * 10 ^ 9000 := by rw [← Int.pow_add]; congr 1; omega
      unfold uT
      rw [x]
      generalize (10 : Int) ^ 9000 = z at *
      simp only [Int.mul_assoc, Int.mul_comm, Int.mul_left_comm]
theorem below_ok {E F d t n p : Int} (W : Vf E F d t n) (h0 : -9000 ≤ p) (h1 : p ≤ 9000) : p_below_ten_to [.int t, .int n, .int p] = .ok (.bl (decide (vT F d < uT E F p))) := by
  obtain ⟨_, _, q, _⟩ := parts_at W h0 h1
  have e := tenfold_ok (t := t) (n := n) (p := -p) (by omega) (by omega) (Nat.le_trans W.nt (by decide)) (Nat.le_trans W.nn (by decide))
  unfold p_below_ten_to g_below_ten_to
  simp_arith [e, q]
theorem reads_wn {E F s d f p : Int} (h : Sz E F) (hs : 0 ≤ s ∧ s ≤ 1) (d0 : 0 < d) (d1 : d < pw (E + F) - pw F) (f0 : 0 ≤ f) (nf : nb f ≤ 500000) (p0 : -9000 ≤ p) (p1 : p ≤ 9000) :
    ∃ k, p_reads_back [.tup [.int E, .int F], .int (s * pw (E + F) + d), .int f, .int p] = .ok (.bl k) ∧ (k = true ↔ Wn (aT F d) (bT F d) (d % 2 = 0) (2 * (f * uT E F p))) := by
  obtain ⟨c, r, e, a⟩ := reads_ok h hs (by omega) d1 f0 nf (by omega) (show p ≤ 20000 by omega)
  obtain ⟨_, z2, _, _⟩ := tn_size (p := p) (by omega) (by omega) f0 (show (0 : Int) < 1 by decide) nf (show nb 1 ≤ 500000 by decide)
  refine ⟨_, e, ?_⟩
  rw [decide_eq_true_eq, ins_iff z2 a (by omega) d1]
  unfold tnT tnB at *
  by_cases g : 0 ≤ p
  · rw [if_pos g, if_pos g] at *
    refine ins_wn (c := 10 ^ 9000) d0 p9 ?_ ?_ ?_ (by decide)
    · rw [Int.mul_one]; rfl
    · rw [Int.mul_one]; rfl
    · unfold uT
      rw [show (p + 9000).toNat = p.toNat + 9000 by omega, Int.pow_add]
      generalize (10 : Int) ^ 9000 = z
      simp only [Int.mul_assoc, Int.mul_comm, Int.mul_left_comm]
  · rw [if_neg g, if_neg g] at *
    have x : (10 : Int) ^ (-p).toNat * 10 ^ (p + 9000).toNat = 10 ^ 9000 := by rw [← Int.pow_add]; congr 1; omega
    refine ins_wn (c := 10 ^ (p + 9000).toNat) d0 (ten_pos _) ?_ ?_ ?_ (by omega)
    · unfold aT
      rw [← x]
      simp only [Int.one_mul, Int.mul_assoc]
    · unfold bT
      rw [← x]
      simp only [Int.one_mul, Int.mul_assoc]
    · unfold uT
      simp only [Int.mul_assoc, Int.mul_comm, Int.mul_left_comm]
theorem frac_at {E F s d : Int} (h : Sz E F) (hs : 0 ≤ s ∧ s ≤ 1) (d0 : 0 < d) (d1 : d < pw (E + F) - pw F) :
    ∃ t n, p_fraction [.tup [.int E, .int F], .int (s * pw (E + F) + d)] = .ok (.tup [.int s, .int t, .int n]) ∧ Vf E F d t n := by
  have hQ := pw_pos F
  obtain ⟨b1, b2, b3, b4⟩ := code_parts (c := d) h hs (by omega) (by omega)
  have e := fraction_ok h b1 (by rw [b3]; intro z; have := (last_iff h (by omega) (by omega)).mp z; omega)
  rw [b2, b3, b4] at e
  obtain ⟨z1, z2, z3, z4⟩ := fr_size h (show 0 ≤ d by omega) d1
  have eq : frT (wh F (d / pw F) (d % pw F)) (po E F (d / pw F)) * pw (-(lo E F)) = vl F d * frB (po E F (d / pw F)) := by
    rw [fr_unit h (po_ge (by omega)), vl_parts]
  refine ⟨_, _, e, ?_, z2, z3, z4, eq⟩
  have v0 := vl_lt (F := F) (c := 0) (c' := d) (by omega) d0
  rw [vl_zero] at v0
  have : 0 < vl F d * frB (po E F (d / pw F)) := Int.mul_pos v0 z2
  rw [← eq] at this
  exact pos_l this (pw_pos _)
theorem frac_zero {E F s : Int} (h : Sz E F) (hs : 0 ≤ s ∧ s ≤ 1) : ∃ n, p_fraction [.tup [.int E, .int F], .int (s * pw (E + F) + 0)] = .ok (.tup [.int s, .int 0, .int n]) := by
  have hQ := pw_pos F
  have hh := half_ge h
  obtain ⟨b1, b2, b3, b4⟩ := code_parts (c := 0) h hs (by omega) (by omega)
  have e := fraction_ok h b1 (by rw [b3]; intro z; have := (last_iff h (by omega) (by omega)).mp z; omega)
  rw [b2, b3, b4] at e
  have : frT (wh F (0 / pw F) (0 % pw F)) (po E F (0 / pw F)) = 0 := by
    simp only [Int.zero_ediv, Int.zero_emod]
    unfold frT wh
    simp
  rw [this] at e
  exact ⟨_, e⟩
theorem two_ten {h G : Nat} (hG : 30103 * h ≤ 100000 * G) : pw (h : Int) ≤ (10 : Int) ^ G := by
  have := guess_dn hG
  unfold pw
  rw [Int.toNat_natCast]
  exact_mod_cast this
theorem ten_two {h G : Nat} (hh : h ≤ 100000) (hG : 100000 * (G + 1) ≤ 30103 * h) : (10 : Int) ^ G * 2 ≤ pw (h : Int) := by
  have := guess_up hh hG
  unfold pw
  rw [Int.toNat_natCast]
  exact_mod_cast this
theorem vl_below {E F d : Int} (h : Sz E F) (d0 : 0 < d) (d1 : d < pw (E + F) - pw F) : vl F d < pw 16384 * pw (-(lo E F)) := by
  have l := lo_in h
  have a := vl_lt (F := F) (c := d) (c' := pw (E + F) - pw F) (by omega) d1
  rw [vl_top h, pw_add (Int.le_of_lt (pw_pos _)) (by omega)] at a
  have b : pw (pw (E - 1)) ≤ pw 16384 := pw_mono (pwE1_le h)
  have := Int.mul_le_mul_of_nonneg_right b (Int.le_of_lt (pw_pos (-(lo E F))))
  omega
theorem K_le {E F : Int} (h : Sz E F) : pw (-(lo E F)) ≤ pw 16500 := pw_mono (by
  obtain ⟨h1, h2, h3, h4⟩ := id h
  have := pwE1_le h
  unfold lo
  omega)
theorem hgt_in {E F d t n : Int} (h : Sz E F) (d0 : 0 < d) (d1 : d < pw (E + F) - pw F) (W : Vf E F d t n) : -16500 < hgt t n ∧ hgt t n ≤ 16384 := by
  obtain ⟨t0, n0, _, _, e⟩ := W
  obtain ⟨a, b, _, _⟩ := hgt_ok t0 n0
  have hK := pw_pos (-(lo E F))
  have v0 := vl_lt (F := F) (c := 0) (c' := d) (by omega) d0
  rw [vl_zero] at v0
  constructor
  · refine Classical.byContradiction fun z => ?_
    have := lt_mono n0 a (show hgt t n ≤ -16500 by omega)
    unfold Lt at this
    rw [show -(-16500 : Int) = 16500 from rfl, pw_nonpos (show (-16500 : Int) ≤ 0 by decide), Int.mul_one] at this
    have x := Int.mul_le_mul_of_nonneg_left (K_le h) (Int.le_of_lt t0)
    rw [e] at x
    have y := Int.mul_le_mul_of_nonneg_right (show 1 ≤ vl F d by omega) (Int.le_of_lt n0)
    omega
  · refine Classical.byContradiction fun z => b (lt_mono n0 (p := 16384) ?_ (by omega))
    unfold Lt
    rw [pw_nonpos (show -(16384 : Int) ≤ 0 by decide), Int.mul_one]
    have x := Int.mul_lt_mul_of_pos_right (vl_below h d0 d1) n0
    rw [← e] at x
    refine (mul_lt_iff hK).mp ?_
    calc t * pw (-(lo E F)) < pw 16384 * pw (-(lo E F)) * n := x
      _ = n * pw 16384 * pw (-(lo E F)) := by simp only [Int.mul_assoc, Int.mul_comm, Int.mul_left_comm]
theorem u_split {E F p : Int} {a b : Nat} (e : (p + 9000).toNat = a + b) : uT E F p = pw (-(lo E F)) * 10 ^ a * 10 ^ b := by
  unfold uT
  rw [e, Int.pow_add, Int.mul_assoc]
theorem top_lt {E F d : Int} (h : Sz E F) (d0 : 0 < d) (d1 : d < pw (E + F) - pw F) : vT F d < uT E F 5500 := by
  have a := vl_below h d0 d1
  have b := two_ten (h := 16384) (G := 5500) (by decide)
  rw [u_split (a := 5500) (b := 9000) rfl]
  unfold vT
  refine Int.mul_lt_mul_of_pos_right ?_ p9
  have c := Int.mul_le_mul_of_nonneg_left b (Int.le_of_lt (pw_pos (-(lo E F))))
  have e : pw (-(lo E F)) * pw ((16384 : Nat) : Int) = pw 16384 * pw (-(lo E F)) := Int.mul_comm _ _
  rw [e] at c
  omega
theorem guess_le {E F d t n : Int} (h : Sz E F) (d0 : 0 < d) (d1 : d < pw (E + F) - pw F) (W : Vf E F d t n) : uT E F (hgt t n * 30103 / 100000 - 1) ≤ vT F d := by
  obtain ⟨i1, i2⟩ := hgt_in h d0 d1 W
  obtain ⟨t0, n0, _, _, e⟩ := W
  obtain ⟨_, b, _, _⟩ := hgt_ok t0 n0
  have hK := pw_pos (-(lo E F))
  obtain ⟨G, hG⟩ : ∃ G, G = hgt t n * 30103 / 100000 := ⟨_, rfl⟩
  rw [← hG]
  generalize hgt t n = H at *
  unfold Lt at b
  have b : n * pw (H - 1) ≤ t * pw (-(H - 1)) := by omega
  suffices hh : n * 10 ^ (G + 8999).toNat ≤ t * 10 ^ 9000 by
    unfold uT vT
    rw [show (G - 1 + 9000).toNat = (G + 8999).toNat by omega]
    generalize (10 : Int) ^ (G + 8999).toNat = y at *
    generalize (10 : Int) ^ 9000 = z at *
    refine Int.le_of_mul_le_mul_right ?_ n0
    calc pw (-(lo E F)) * y * n = n * y * pw (-(lo E F)) := by simp only [Int.mul_assoc, Int.mul_comm, Int.mul_left_comm]
      _ ≤ t * z * pw (-(lo E F)) := Int.mul_le_mul_of_nonneg_right hh (Int.le_of_lt hK)
      _ = (t * pw (-(lo E F))) * z := by simp only [Int.mul_assoc, Int.mul_comm, Int.mul_left_comm]
      _ = vl F d * z * n := by rw [e]; simp only [Int.mul_assoc, Int.mul_comm, Int.mul_left_comm]
  by_cases g : 1 ≤ H
  · rw [pw_nonpos (show -(H - 1) ≤ 0 by omega), Int.mul_one] at b
    by_cases g1 : 1 ≤ G
    · have x := ten_two (h := H.toNat) (G := (G - 1).toNat) (by omega) (by omega)
      rw [show ((H.toNat : Nat) : Int) = (H - 1) + 1 by omega, pw_succ (by omega)] at x
      rw [show (G + 8999).toNat = (G - 1).toNat + 9000 by omega, Int.pow_add]
      have p9' := p9
      generalize (10 : Int) ^ 9000 = z at *
      generalize (10 : Int) ^ (G - 1).toNat = y at *
      rw [← Int.mul_assoc]
      refine Int.mul_le_mul_of_nonneg_right ?_ (Int.le_of_lt p9')
      exact Int.le_trans (Int.mul_le_mul_of_nonneg_left (show y ≤ pw (H - 1) by omega) (Int.le_of_lt n0)) b
    · have g0 : G = 0 := by omega
      subst g0
      have x : n ≤ n * pw (H - 1) := by
        have := Int.mul_le_mul_of_nonneg_left (show 1 ≤ pw (H - 1) by have := pw_pos (H - 1); omega) (Int.le_of_lt n0)
        omega
      have y : (10 : Int) ^ 8999 ≤ 10 ^ 9000 := by
        rw [show (9000 : Nat) = 8999 + 1 from rfl, Int.pow_succ]
        have := ten_pos 8999
        generalize (10 : Int) ^ 8999 = z at *
        omega
      have w := ten_pos 8999
      rw [show ((0 : Int) + 8999).toNat = 8999 from rfl]
      generalize (10 : Int) ^ 8999 = y1 at *
      generalize (10 : Int) ^ 9000 = y2 at *
      exact Int.mul_le_mul (by omega) y (Int.le_of_lt w) (Int.le_of_lt t0)
  · rw [pw_nonpos (show H - 1 ≤ 0 by omega), Int.mul_one] at b
    have x := two_ten (h := (-H).toNat) (G := (-G).toNat) (by omega)
    rw [show (((-H).toNat : Nat) : Int) = -H by omega] at x
    rw [show -(H - 1) = -H + 1 by omega, pw_succ (by omega)] at b
    have s : (10 : Int) ^ 9000 = 10 ^ (-G).toNat * 10 * 10 ^ (G + 8999).toNat := by
      rw [← Int.pow_succ, ← Int.pow_add]
      congr 1
      omega
    rw [s]
    have w := ten_pos (G + 8999).toNat
    have w2 := ten_pos (-G).toNat
    generalize (10 : Int) ^ (G + 8999).toNat = y at *
    generalize (10 : Int) ^ (-G).toNat = y2 at *
    rw [← Int.mul_assoc]
    refine Int.mul_le_mul_of_nonneg_right ?_ (Int.le_of_lt w)
    exact Int.le_trans b (Int.mul_le_mul_of_nonneg_left (by omega) (Int.le_of_lt t0))
theorem ten_height_ok {E F d t n : Int} (h : Sz E F) (d0 : 0 < d) (d1 : d < pw (E + F) - pw F) (W : Vf E F d t n) :
    ∃ g, p_ten_height [.int t, .int n] = .ok (.int g) ∧ vT F d < uT E F g ∧ uT E F (g - 1) ≤ vT F d ∧ -5000 ≤ g ∧ g ≤ 5500 := by
  obtain ⟨i1, i2⟩ := hgt_in h d0 d1 W
  have gl := guess_le h d0 d1 W
  have tl := top_lt h d0 d1
  have he := height_ok (t := t) (n := n) (Nat.le_trans W.nt (by decide)) (Nat.le_trans W.nn (by decide))
  have S := sh_ok (E := E) (F := F) d0
  have mm : MulOk (hgt t n) 30103 := MulOk.of (a := 20) (b := 15) (nb_le.mpr (by omega)) (by decide) (by decide)
  unfold p_ten_height g_ten_height
  generalize hw : while_ _ _ = X
  obtain ⟨δ', e1, ⟨g, rfl, g0, g1, g2⟩, e3⟩ := while_by (c := not_ (call p_below_ten_to [var 0, var 1, var 2])) (b := assign 2 (bin oAdd (var 2) (con (.int 1))))
    (fun δ => ∃ g, δ = [some (.int t), some (.int n), some (.int g)] ∧ -5000 ≤ g ∧ g ≤ 5500 ∧ uT E F (g - 1) ≤ vT F d) (fun δ => match δ with | [_, _, some (.int g)] => (5500 - g).toNat | _ => 0) (fun δ ⟨g, e, g0, g1, g2⟩ => by
      subst e
      have q := below_ok (p := g) W (by omega) (by omega)
      by_cases z : vT F d < uT E F g
      · refine .inl ?_
        simp_arith [q, z]
      · refine .inr ⟨?_, ?_⟩
        · simp_arith [q, z]
        · have g3 : g < 5500 := by
            refine Classical.byContradiction fun y => z ?_
            rw [show g = 5500 by omega]
            exact tl
          refine ⟨[some (.int t), some (.int n), some (.int (g + 1))], ?_, ⟨g + 1, rfl, by omega, by omega, by rw [show g + 1 - 1 = g by omega]; omega⟩, ?_⟩
          · simp_arith []
          · show (5500 - (g + 1)).toNat < (5500 - g).toNat
            omega) [some (.int t), some (.int n), some (.int (hgt t n * 30103 / 100000))] ⟨_, rfl, by omega, by omega, gl⟩
  rw [hw] at e1
  refine ⟨g, ?_, ?_, g2, g0, g1⟩
  · simp_arith [he, oMul_ok mm, e1]
  · have q := below_ok (p := g) W (by omega) (by omega)
    refine Classical.byContradiction fun z => ?_
    revert e3
    simp_arith [q, z]
    try simp
theorem gap {E F d : Int} (h : Sz E F) (d0 : 0 < d) : vl F d ≤ pw (F + 2) * (vl F d - vl F (d - 1)) := by
  obtain ⟨_, _, h3, _⟩ := id h
  have hQ := pw_pos F
  have s := vl_succ (F := F) (c := d - 1) (by omega)
  rw [show d - 1 + 1 = d by omega] at s
  rw [s]
  have q1 := Int.emod_add_mul_ediv d (pw F)
  have q2 := Int.emod_nonneg d (show pw F ≠ 0 by omega)
  have q3 := Int.emod_lt_of_pos d hQ
  have e1 : d / pw F - 1 ≤ (d - 1) / pw F := (Int.le_ediv_iff_mul_le hQ).mpr (by
    rw [Int.sub_mul, Int.one_mul, Int.mul_comm (d / pw F)]
    omega)
  have v : vl F d ≤ 2 * pw F * pw (max (d / pw F - 1) 0) := by
    unfold vl
    split
    · rename_i z
      rw [z] at q1
      have := Int.mul_le_mul_of_nonneg_left (show 1 ≤ pw (max (d / pw F - 1) 0) by have := pw_pos (max (d / pw F - 1) 0); omega) (show 0 ≤ 2 * pw F by omega)
      omega
    · rename_i z
      have z0 : 0 ≤ d / pw F := Int.ediv_nonneg (by omega) (by omega)
      rw [show max (d / pw F - 1) 0 = d / pw F - 1 by omega]
      exact Int.mul_le_mul_of_nonneg_right (by omega) (Int.le_of_lt (pw_pos _))
  have u : pw (max (d / pw F - 1) 0) ≤ 2 * pw (max ((d - 1) / pw F - 1) 0) := by
    rw [← pw_succ (by omega)]
    exact pw_mono (by omega)
  have w : pw (F + 2) = 4 * pw F := by
    rw [pw_add (by omega) (by decide), Int.mul_comm]
    rfl
  rw [w]
  generalize pw (max (d / pw F - 1) 0) = a at *
  generalize pw (max ((d - 1) / pw F - 1) 0) = b at *
  have := Int.mul_le_mul_of_nonneg_left u (show 0 ≤ 2 * pw F by omega)
  have e2 : 2 * pw F * (2 * b) = 4 * pw F * b := by rw [← Int.mul_assoc, Int.mul_right_comm 2 (pw F) 2]; rfl
  omega
theorem sure {U : Int → Int} {q V M1 M2 p : Int} {ev : Prop} (S : Sh U q V M1 M2) (hp : -q ≤ p) (h : 2 * U p ≤ 2 * V - M1) : Wn M1 M2 ev (2 * (V / U p * U p)) := by
  obtain ⟨a, b, _⟩ := fl (U p) V (S.pos p hp)
  rw [Int.add_mul, Int.one_mul] at b
  have := S.m2
  exact .inl ⟨by omega, by omega⟩
theorem width_is {F d : Int} : 2 * vT F d - aT F d = (vl F d - vl F (d - 1)) * 10 ^ 9000 := by
  unfold vT aT
  generalize (10 : Int) ^ 9000 = z
  rw [Int.sub_mul, Int.add_mul]
  omega
theorem low_sure {E F d : Int} (h : Sz E F) (d0 : 0 < d) : 2 * uT E F (-5501) ≤ 2 * vT F d - aT F d := by
  rw [width_is, u_split (a := 0) (b := 3499) rfl]
  have v1 := vl_lt (F := F) (c := d - 1) (c' := d) (by omega) (by omega)
  have a := two_ten (h := 16501) (G := 5501) (by decide)
  have k := K_le h
  have e : pw ((16501 : Nat) : Int) = 2 * pw 16500 := pw_succ (a := 16500) (by decide)
  have s : (10 : Int) ^ 9000 = 10 ^ 5501 * 10 ^ 3499 := by rw [← Int.pow_add]
  have w := ten_pos 3499
  have w2 := ten_pos 5501
  rw [s]
  generalize (10 : Int) ^ 3499 = y at *
  generalize (10 : Int) ^ 5501 = x at *
  rw [Int.pow_zero, Int.mul_one]
  calc 2 * (pw (-(lo E F)) * y) = (2 * pw (-(lo E F))) * y := (Int.mul_assoc _ _ _).symm
    _ ≤ x * y := Int.mul_le_mul_of_nonneg_right (by omega) (Int.le_of_lt w)
    _ = 1 * (x * y) := (Int.one_mul _).symm
    _ ≤ (vl F d - vl F (d - 1)) * (x * y) := Int.mul_le_mul_of_nonneg_right (by omega) (Int.le_of_lt (Int.mul_pos w2 w))
theorem small_next {E F d p : Int} (h : Sz E F) (d0 : 0 < d) (hp : -9000 ≤ p) (hn : ¬ 2 * uT E F (p + 1) ≤ 2 * vT F d - aT F d) : vT F d / uT E F p + 1 ≤ pw 130 := by
  have S := sh_ok (E := E) (F := F) d0
  have u := S.up p hp
  have u0 := S.pos p hp
  have g := gap h d0
  rw [width_is] at hn
  have p9' := p9
  have b : vT F d ≤ pw (F + 2) * ((vl F d - vl F (d - 1)) * 10 ^ 9000) := by
    unfold vT
    rw [← Int.mul_assoc]
    exact Int.mul_le_mul_of_nonneg_right g (Int.le_of_lt p9')
  have hw := pw_pos (F + 2)
  have c : pw (F + 2) * ((vl F d - vl F (d - 1)) * 10 ^ 9000) < pw (F + 2) * (2 * uT E F (p + 1)) := Int.mul_lt_mul_of_pos_left (by omega) hw
  have w : pw (F + 2) ≤ pw 114 := pw_mono (by have := h.2.2.2; omega)
  have e : pw (F + 2) * (2 * uT E F (p + 1)) = pw (F + 2) * 20 * uT E F p := by
    rw [u, Int.mul_assoc]
    congr 1
    omega
  have l : vT F d / uT E F p < pw (F + 2) * 20 := Int.ediv_lt_of_lt_mul u0 (by rw [← e]; omega)
  have k : pw 114 * 20 ≤ pw 130 := by decide
  omega
noncomputable def outD : Option Int → D
  | none => .non
  | some f => .int f
noncomputable def Pick (E F d p : Int) : Option Int → Prop
  | none => ¬ Wn (aT F d) (bT F d) (d % 2 = 0) (2 * (vT F d / uT E F p * uT E F p)) ∧ ¬ Wn (aT F d) (bT F d) (d % 2 = 0) (2 * ((vT F d / uT E F p + 1) * uT E F p))
  | some f => (f = vT F d / uT E F p ∨ f = vT F d / uT E F p + 1) ∧ Wn (aT F d) (bT F d) (d % 2 = 0) (2 * (f * uT E F p)) ∧
    (f = vT F d / uT E F p → GF (uT E F) (vT F d) p → ¬ Wn (aT F d) (bT F d) (d % 2 = 0) (2 * ((vT F d / uT E F p + 1) * uT E F p))) ∧
    (f = vT F d / uT E F p + 1 → ¬ GF (uT E F) (vT F d) p → ¬ Wn (aT F d) (bT F d) (d % 2 = 0) (2 * (vT F d / uT E F p * uT E F p)))
theorem nearest_ok {E F s d t n p : Int} (h : Sz E F) (hs : 0 ≤ s ∧ s ≤ 1) (d0 : 0 < d) (d1 : d < pw (E + F) - pw F) (W : Vf E F d t n) (p0 : -9000 ≤ p) (p1 : p ≤ 9000) (hl : vT F d / uT E F p + 1 ≤ pw 130) :
    ∃ r, p_nearest_back [.tup [.int E, .int F], .int (s * pw (E + F) + d), .int p, .tup [.int (tnT t (-p)), .int (tnB n (-p))]] = .ok (outD r) ∧ Pick E F d p r := by
  have u0 := uT_pos (E := E) (F := F) (p := p)
  have v0 : 0 ≤ vT F d := Int.mul_nonneg (vl_nonneg (by omega)).1 (Int.le_of_lt p9)
  have l0 : 0 ≤ vT F d / uT E F p := Int.ediv_nonneg v0 (Int.le_of_lt u0)
  obtain ⟨b0, q1, _, q3, q4⟩ := parts_at W p0 p1
  obtain ⟨z1, _, z3, z4⟩ := tn_size (t := t) (n := n) (p := -p) (by omega) (by omega) (Int.le_of_lt W.t0) W.n0 (Nat.le_trans W.nt (by decide)) (Nat.le_trans W.nn (by decide))
  generalize hL : vT F d / uT E F p = l at *
  have nl : nb l ≤ 131 := nb_lt l0 (by have : pw 130 = 2 ^ 130 := rfl; omega)
  have nl1 : nb (l + 1) ≤ 131 := nb_lt (by omega) (by have : pw 130 = 2 ^ 130 := rfl; omega)
  obtain ⟨k1, r1, w1⟩ := reads_wn (f := l) h hs d0 d1 l0 (Nat.le_trans nl (by decide)) p0 p1
  obtain ⟨k2, r2, w2⟩ := reads_wn (f := l + 1) h hs d0 d1 (by omega) (Nat.le_trans nl1 (by decide)) p0 p1
  unfold p_nearest_back g_nearest_back
  generalize tnT t (-p) = a at *
  generalize tnB n (-p) = b at *
  have hd : DivOk a b := nb_cutK (K := l + 1) (m := 131) z1 b0 nl1 (by decide) (by
    have := fl b a b0
    rw [q1] at this
    exact this.2.1)
  have nm : nb (a % b) ≤ 1000000 := nb_mod b0 z4
  have mm : MulOk 2 (a % b) := by walk_at "mul"
  have hmod : oMod (.int a) (.int b) = .ok (.int (a % b)) := oMod_ok b0
  obtain ⟨gf, hg, hG⟩ : ∃ gf : Bool, (or_ (bin oGt (var 5) (bin oIx (var 3) (con (.int 1)))) (and_ (bin oEq (var 5) (bin oIx (var 3) (con (.int 1)))) (bin oEq (bin oBand (var 4) (con (.int 1))) (con (.int 1)))))
      [some (.tup [.int E, .int F]), some (.int (s * pw (E + F) + d)), some (.int p), some (.tup [.int a, .int b]), some (.int l), some (.int (2 * (a % b))), none, none, none] = .ok (.bl gf) ∧ (gf = true ↔ GF (uT E F) (vT F d) p) := by
    unfold GF
    rw [hL]
    by_cases c1 : 2 * (a % b) > b
    · exact ⟨true, by simp_arith [c1], by simp; exact .inl (q3.mp c1)⟩
    · by_cases c2 : 2 * (a % b) = b
      · by_cases c3 : l % 2 = 1
        · exact ⟨true, by simp_arith [show ¬ b > b by omega, c2, oBand_one l0, c3], by simp; exact .inr ⟨q4.mp c2, c3⟩⟩
        · refine ⟨false, by simp_arith [show ¬ b > b by omega, c2, oBand_one l0, c3], ?_⟩
          simp only [Bool.false_eq_true, false_iff]
          rintro (z | ⟨_, z⟩)
          · exact c1 (q3.mpr z)
          · exact c3 z
      · refine ⟨false, by simp_arith [c1, c2], ?_⟩
        simp only [Bool.false_eq_true, false_iff]
        rintro (z | ⟨z, _⟩)
        · exact c1 (q3.mpr z)
        · exact c2 (q4.mpr z)
  unfold Pick
  rw [hL]
  generalize hor : or_ (bin oGt (var 5) (bin oIx (var 3) (con (.int 1)))) _ = O at *
  cases gf with
  | true =>
    have hG := hG.mp rfl
    cases k2 with
    | true =>
      refine ⟨some (l + 1), ?_, .inr rfl, w2.mp rfl, fun z => by omega, fun _ z => absurd hG z⟩
      simp_arith [oDiv_ok hd, q1, hmod, oMul_ok mm, hg, forL_cons, forL_nil, r1, r2]
      rfl
    | false =>
      have w2 : ¬ _ := fun z => Bool.false_ne_true (w2.mpr z)
      cases k1 with
      | true =>
        refine ⟨some l, ?_, .inl rfl, w1.mp rfl, fun _ _ => w2, fun z => by omega⟩
        simp_arith [oDiv_ok hd, q1, hmod, oMul_ok mm, hg, forL_cons, forL_nil, r1, r2]
        rfl
      | false =>
        refine ⟨none, ?_, fun z => Bool.false_ne_true (w1.mpr z), w2⟩
        simp_arith [oDiv_ok hd, q1, hmod, oMul_ok mm, hg, forL_cons, forL_nil, r1, r2]
        rfl
  | false =>
    have hG : ¬ _ := fun z => Bool.false_ne_true (hG.mpr z)
    cases k1 with
    | true =>
      refine ⟨some l, ?_, .inl rfl, w1.mp rfl, fun _ z => absurd z hG, fun z => by omega⟩
      simp_arith [oDiv_ok hd, q1, hmod, oMul_ok mm, hg, forL_cons, forL_nil, r1, r2]
      rfl
    | false =>
      have w1 : ¬ _ := fun z => Bool.false_ne_true (w1.mpr z)
      cases k2 with
      | true =>
        refine ⟨some (l + 1), ?_, .inr rfl, w2.mp rfl, fun z => by omega, fun _ _ => w1⟩
        simp_arith [oDiv_ok hd, q1, hmod, oMul_ok mm, hg, forL_cons, forL_nil, r1, r2]
        rfl
      | false =>
        refine ⟨none, ?_, w1, fun z => Bool.false_ne_true (w2.mpr z)⟩
        simp_arith [oDiv_ok hd, q1, hmod, oMul_ok mm, hg, forL_cons, forL_nil, r1, r2]
        rfl
theorem bare_ok {s f0 p0 : Int} (h : 0 < f0) : ∃ f, ∃ k : Nat, p_bare_spelling [.int s, .int f0, .int p0] = .ok (.tup [.int s, .int f, .int (p0 + k)]) ∧ f0 = f * 10 ^ k ∧ f % 10 ≠ 0 := by
  unfold p_bare_spelling g_bare_spelling
  generalize hw : while_ _ _ = X
  obtain ⟨δ', e1, ⟨f, k, rfl, ef, f1⟩, e3⟩ := while_by (c := bin oEq (bin oMod (var 1) (con (.int 10))) (con (.int 0))) (b := seq (assign 1 (bin oDiv (var 1) (con (.int 10)))) (assign 2 (bin oAdd (var 2) (con (.int 1)))))
    (fun δ => ∃ f, ∃ k : Nat, δ = [some (.int s), some (.int f), some (.int (p0 + k))] ∧ f0 = f * 10 ^ k ∧ 0 < f) (fun δ => match δ with | [_, some (.int f), _] => f.toNat | _ => 0) (fun δ ⟨f, k, e, ef, f1⟩ => by
      subst e
      by_cases z : f % 10 = 0
      · refine .inr ⟨?_, [some (.int s), some (.int (f / 10)), some (.int (p0 + k + 1))], ?_, ⟨f / 10, k + 1, by rw [show p0 + ((k + 1 : Nat) : Int) = p0 + k + 1 by omega], ?_, by omega⟩, ?_⟩
        · simp_arith [eq_true z]
        · simp_arith []
        · rw [ef, Int.pow_succ, Int.mul_comm (10 ^ k) 10, ← Int.mul_assoc, show f / 10 * 10 = f by omega]
        · show (f / 10).toNat < f.toNat
          omega
      · refine .inl ?_
        simp_arith [z]) [some (.int s), some (.int f0), some (.int p0)] ⟨f0, 0, by simp, by simp, h⟩
  rw [hw] at e1
  refine ⟨f, k, ?_, ef, ?_⟩
  · simp_arith [e1]
  · intro z
    revert e3
    simp_arith [eq_true z]
    try simp
theorem shortest_ok {E F s d : Int} (h : Sz E F) (hs : 0 ≤ s ∧ s ≤ 1) (d0 : 0 < d) (d1 : d < pw (E + F) - pw F) :
    ∃ f p g p0 f0, ∃ k : Nat, p_shortest [.tup [.int E, .int F], .int (s * pw (E + F) + d)] = .ok (.tup [.int s, .int f, .int p]) ∧ Got (uT E F) 9000 (vT F d) (aT F d) (bT F d) (d % 2 = 0) g p0 f0 ∧
      f0 = f * 10 ^ k ∧ p = p0 + k ∧ f % 10 ≠ 0 ∧ f0 ≤ pw 130 ∧ -5501 ≤ p0 ∧ g ≤ 5500 := by
  obtain ⟨t, n, ef, W⟩ := frac_at h hs d0 d1
  obtain ⟨g, eg, g1, g2, g3, g4⟩ := ten_height_ok h d0 d1 W
  have S := sh_ok (E := E) (F := F) d0
  have ls := low_sure h d0
  have t0 := W.t0
  unfold p_shortest g_shortest
  generalize hw : while_ _ _ = X
  obtain ⟨δ', e1, ⟨P, fg, z5, rfl, hI⟩, e3⟩ := while_by (c := un oIsN (var 4)) (b := seq (assign 3 (bin oSub (var 3) (con (.int 1)))) (seq (assign 5 (call p_tenfold [bin oIx (var 2) (con (.int 1)), bin oIx (var 2) (con (.int 2)), un oNeg (var 3)])) (assign 4 (call p_nearest_back [var 0, var 1, var 3, var 5]))))
    (fun δ => ∃ P fg z5, δ = [some (.tup [.int E, .int F]), some (.int (s * pw (E + F) + d)), some (.tup [.int s, .int t, .int n]), some (.int P), some (outD fg), z5] ∧
      match fg with
      | none => -5500 ≤ P ∧ P ≤ g ∧ ∀ p, P ≤ p → p ≤ g - 1 → Pick E F d p none
      | some f0 => Got (uT E F) 9000 (vT F d) (aT F d) (bT F d) (d % 2 = 0) g P f0 ∧ f0 ≤ pw 130 ∧ -5501 ≤ P)
    (fun δ => match δ with | [_, _, _, some (.int P), some .non, _] => (P + 6000).toNat | _ => 0) (fun δ ⟨P, fg, z5, e, hI⟩ => by
      subst e
      cases fg with
      | some f0 =>
        refine .inl ?_
        unfold outD
        simp_arith []
      | none =>
        obtain ⟨a1, a2, a3⟩ := hI
        have hl : vT F d / uT E F (P - 1) + 1 ≤ pw 130 := by
          by_cases z : P = g
          · rw [z]
            have u := S.up (g - 1) (by omega)
            rw [show g - 1 + 1 = g by omega] at u
            have : vT F d / uT E F (g - 1) < 10 := Int.ediv_lt_of_lt_mul (S.pos _ (by omega)) (by rw [← u]; exact g1)
            have : (11 : Int) ≤ pw 130 := by decide
            omega
          · refine small_next h d0 (by omega) ?_
            rw [show P - 1 + 1 = P by omega]
            exact fun y => (a3 P (by omega) (by omega)).1 (sure S (by omega) y)
        obtain ⟨r, er, hr⟩ := nearest_ok (p := P - 1) h hs d0 d1 W (by omega) (by omega) hl
        have et := tenfold_ok (t := t) (n := n) (p := -(P - 1)) (by omega) (by omega) (Nat.le_trans W.nt (by decide)) (Nat.le_trans W.nn (by decide))
        refine .inr ⟨?_, [some (.tup [.int E, .int F]), some (.int (s * pw (E + F) + d)), some (.tup [.int s, .int t, .int n]), some (.int (P - 1)), some (outD r), some (.tup [.int (tnT t (-(P - 1))), .int (tnB n (-(P - 1)))])], ?_, ⟨P - 1, r, _, rfl, ?_⟩, ?_⟩
        · unfold outD
          simp_arith []
        · simp_arith [et, er]
        · cases r with
          | none =>
            refine ⟨?_, by omega, fun p q1 q2 => ?_⟩
            · refine Classical.byContradiction fun y => ?_
              have e : P - 1 = -5501 := by omega
              rw [e] at hr
              exact hr.1 (sure S (by decide) ls)
            · rcases Int.lt_or_eq_of_le q1 with y | y
              · exact a3 p (by omega) q2
              · rw [← y]; exact hr
          | some f0 =>
            obtain ⟨r1, r2, r3, r4⟩ := hr
            refine ⟨⟨g1, g2, by omega, by omega, r1, r2, fun p q1 q2 => a3 p (by omega) q2, r3, r4⟩, ?_, by omega⟩
            rcases r1 with y | y <;> omega
        · cases r with
          | none =>
            show (P - 1 + 6000).toNat < (P + 6000).toNat
            omega
          | some f0 =>
            show 0 < (P + 6000).toNat
            omega) [some (.tup [.int E, .int F]), some (.int (s * pw (E + F) + d)), some (.tup [.int s, .int t, .int n]), some (.int g), some .non, none] ⟨g, none, none, rfl, by omega, by omega, fun p q1 q2 => by omega⟩
  rw [hw] at e1
  cases fg with
  | none =>
    exfalso
    revert e3
    unfold outD
    simp_arith []
    try simp
  | some f0 =>
    obtain ⟨G, fb, Pb⟩ := hI
    obtain ⟨f, k, eb, f1, f2⟩ := bare_ok (s := s) (p0 := P) (G.pos S)
    refine ⟨f, P + k, g, P, f0, k, ?_, G, f1, rfl, f2, fb, Pb, g4⟩
    unfold outD at e1
    simp_arith [ef, eg, show ¬ t = 0 by omega, e1, eb]
theorem c45 : PySem.Str.ofString "-" = st [45] := by decide
theorem c48 : PySem.Str.ofString "0" = st [48] := by decide
theorem c46 : PySem.Str.ofString "." = st [46] := by decide
theorem c480 : PySem.Str.ofString "0." = st [48, 46] := by decide
theorem c101 : PySem.Str.ofString "e" = st [101] := by decide
theorem c00 : PySem.Str.ofString "" = st [] := by decide
theorem at_st {i : Int} (h0 : -10000 ≤ i) (h1 : i ≤ 10000) : ∃ l, bStr [.int i] = .ok (.str (st l)) ∧ l.length ≤ 100 := by
  have hn : nb i ≤ 1900 := Nat.le_trans (nb_le (k := 14).mpr (by omega)) (by decide)
  by_cases g : 0 ≤ i
  · exact ⟨_, bStr_dg g hn, Nat.le_trans ((dg_len (k := 5) (by decide)).mpr (by omega)) (by decide)⟩
  · obtain ⟨m, rfl⟩ : ∃ m, i = Int.negSucc m := by
      cases i with
      | ofNat n => exact absurd (Int.natCast_nonneg n) g
      | negSucc m => exact ⟨m, rfl⟩
    refine ⟨45 :: dg (m + 1), ?_, ?_⟩
    · unfold bStr
      simp only
      rw [if_pos hn]
      show R.ok (D.str (PySem.Str.ofString ("-" ++ Nat.repr (m + 1)))) = _
      rw [PySem.Str.ofString_eq_toList, String.toList_append]
      unfold Nat.repr st dg
      simp only [String.toList_ofList]
      rfl
    · rw [List.length_cons]
      have := (dg_len (n := m + 1) (k := 5) (by decide)).mpr (by omega)
      omega
theorem dg_f {f : Int} (f0 : 0 ≤ f) (f1 : f < 1000000000000000000000000000000000000000000000000000000000000) : bStr [.int f] = .ok (.str (st (dg f.toNat))) ∧ 0 < (dg f.toNat).length ∧ (dg f.toNat).length ≤ 60 :=
  ⟨bStr_dg f0 (Nat.le_trans (nb_le (k := 200).mpr (by omega)) (by decide)), dg_pos _, (dg_len (by decide)).mpr (by omega)⟩
noncomputable def ap (a b : List Nat) : List Nat := a ++ b
theorem ap_len {a b : List Nat} : (ap a b).length = a.length + b.length := List.length_append
theorem oAdd_ap {a b : List Nat} (h : a.length + b.length ≤ 1000000) : oAdd (.str (st a)) (.str (st b)) = .ok (.str (st (ap a b))) := oAdd_st h
theorem ix_l {l : List Nat} (l0 : 0 < l.length) (l1 : l.length ≤ 1000000) : oIx (.str (st l)) (.int 0) = .ok (.str (st (l.take 1))) := by
  cases l with
  | nil => cases l0
  | cons c r => exact ix_st l1
noncomputable def shortL (l e : List Nat) : List Nat := ap (ap (ap (l.take 1) (if l.length > 1 then ap [46] (l.drop 1) else [])) [101]) e
theorem short_ok {l e : List Nat} {t : Int} (l0 : 0 < l.length) (l1 : l.length ≤ 60) (he : bStr [.int t] = .ok (.str (st e))) (e1 : e.length ≤ 100) :
    p_laid_short [.str (st l), .int t] = .ok (.str (st (shortL l e))) := by
  have t1 : (l.take 1).length ≤ 60 := by rw [List.length_take]; omega
  have t2 : (l.drop 1).length ≤ 60 := by rw [List.length_drop]; omega
  have z46 : ([46] : List Nat).length = 1 := rfl
  have z101 : ([101] : List Nat).length = 1 := rfl
  have b1 := sl_hi (a := l) (k := 1) (by decide) (by omega) (by omega)
  rw [show (1 : Int).toNat = 1 from rfl] at b1
  have b2 := ix_l l0 (by omega)
  unfold p_laid_short g_laid_short shortL
  by_cases g : (l.length : Int) > 1
  · rw [if_pos (by omega)]
    have a1 := oAdd_ap (a := [46]) (b := l.drop 1) (by omega)
    have a2 := oAdd_ap (a := l.take 1) (b := ap [46] (l.drop 1)) (by rw [ap_len]; omega)
    have a3 := oAdd_ap (a := ap (l.take 1) (ap [46] (l.drop 1))) (b := [101]) (by rw [ap_len, ap_len]; omega)
    have a4 := oAdd_ap (a := ap (ap (l.take 1) (ap [46] (l.drop 1))) [101]) (b := e) (by rw [ap_len, ap_len, ap_len]; omega)
    generalize l.drop 1 = l2 at *
    generalize l.take 1 = l3 at *
    simp_arith [bLen_st (a := l) (by omega), g, u_slcS, part_some, b1, c46, c101, c00, a1, b2, a2, a3, he, a4]
  · rw [if_neg (by omega)]
    have a2 := oAdd_ap (a := l.take 1) (b := []) (by rw [List.length_nil]; omega)
    have a3 := oAdd_ap (a := ap (l.take 1) []) (b := [101]) (by rw [ap_len, List.length_nil]; omega)
    have a4 := oAdd_ap (a := ap (ap (l.take 1) []) [101]) (b := e) (by rw [ap_len, ap_len, List.length_nil]; omega)
    generalize l.take 1 = l3 at *
    simp_arith [bLen_st (a := l) (by omega), g, c46, c101, c00, b2, a2, a3, he, a4]
noncomputable def fullL (l : List Nat) (p t : Int) : List Nat := if 0 ≤ p then ap l (List.replicate p.toNat 48) else if 0 ≤ t then ap (ap (l.take (t + 1).toNat) [46]) (l.drop (t + 1).toNat) else ap (ap [48, 46] (List.replicate (-t - 1).toNat 48)) l
theorem full_ok {l : List Nat} {p t : Int} (l0 : 0 < l.length) (l1 : l.length ≤ 60) (et : t = p + l.length - 1) (t0 : -5 ≤ t) (t1 : t ≤ 20) :
    p_laid_in_full [.str (st l), .int p, .int t] = .ok (.str (st (fullL l p t))) := by
  have z46 : ([46] : List Nat).length = 1 := rfl
  have z48 : ([48, 46] : List Nat).length = 2 := rfl
  unfold p_laid_in_full g_laid_in_full fullL
  by_cases g : 0 ≤ p
  · have a1 := oAdd_ap (a := l) (b := List.replicate p.toNat 48) (by rw [List.length_replicate]; omega)
    rw [if_pos g]
    have r := rep_st (n := p) (by omega) (by omega)
    generalize List.replicate p.toNat 48 = x at *
    simp_arith [g, c48, r, a1]
  · rw [if_neg g]
    by_cases g2 : 0 ≤ t
    · rw [if_pos g2]
      have b1 := sl_lo (a := l) (k := t + 1) (by omega) (by omega) (by omega)
      have b2 := sl_hi (a := l) (k := t + 1) (by omega) (by omega) (by omega)
      have t1 : (l.take (t + 1).toNat).length ≤ 60 := by rw [List.length_take]; omega
      have t2 : (l.drop (t + 1).toNat).length ≤ 60 := by rw [List.length_drop]; omega
      generalize l.take (t + 1).toNat = x at *
      generalize l.drop (t + 1).toNat = y at *
      have a1 := oAdd_ap (a := x) (b := [46]) (by omega)
      have a2 := oAdd_ap (a := ap x [46]) (b := y) (by rw [ap_len]; omega)
      simp_arith [show ¬ p ≥ 0 from g, show t ≥ 0 from g2, u_slcS, part_some, b1, b2, c46, a1, a2]
    · rw [if_neg g2]
      have r := rep_st (n := -t - 1) (by omega) (by omega)
      have t1 : (List.replicate (-t - 1).toNat 48).length ≤ 60 := by rw [List.length_replicate]; omega
      generalize List.replicate (-t - 1).toNat 48 = x at *
      have a1 := oAdd_ap (a := [48, 46]) (b := x) (by omega)
      have a2 := oAdd_ap (a := ap [48, 46] x) (b := l) (by rw [ap_len]; omega)
      simp_arith [show ¬ p ≥ 0 from g, show ¬ t ≥ 0 from g2, c480, c48, r, a1, a2]
theorem pad_zero {k : Nat} (hk : 0 < k) : pad k 0 = List.replicate k 48 := by
  unfold pad
  rw [dg_small (by decide)]
  obtain ⟨j, rfl⟩ : ∃ j, k = j + 1 := ⟨k - 1, by omega⟩
  rw [List.replicate_succ']
  rfl
theorem laid_ok {s f p : Int} {h e : List Nat} (eh : h = if s = 1 then [45] else []) (f0 : 0 < f) (f1 : f < 1000000000000000000000000000000000000000000000000000000000000) (he : bStr [.int (p + (dg f.toNat).length - 1)] = .ok (.str (st e))) (e1 : e.length ≤ 100) (p0 : -9100 ≤ p) (p1 : p ≤ 9100) :
    p_laid [.int s, .int f, .int p] = .ok (.str (st (ap h (if -5 ≤ p + (dg f.toNat).length - 1 ∧ p + (dg f.toNat).length - 1 ≤ 20 then fullL (dg f.toNat) p (p + (dg f.toNat).length - 1) else shortL (dg f.toNat) e)))) := by
  obtain ⟨es, l0, l1⟩ := dg_f (Int.le_of_lt f0) f1
  have hl : h.length ≤ 1 := by rw [eh]; split <;> decide
  generalize dg f.toNat = l at *
  unfold p_laid g_laid
  have so := short_ok (t := p + l.length - 1) l0 l1 he e1
  have sl : (shortL l e).length ≤ 300 := by
    unfold shortL
    simp only [ap_len, List.length_take]
    split
    · simp only [ap_len, List.length_drop, List.length_cons, List.length_nil]; omega
    · simp only [List.length_cons, List.length_nil]; omega
  generalize hT : p + (l.length : Int) - 1 = T at *
  by_cases g : -5 ≤ T ∧ T ≤ 20
  · rw [if_pos g]
    have fo := full_ok (p := p) l0 l1 hT.symm g.1 g.2
    have fl : (fullL l p T).length ≤ 300 := by
      unfold fullL
      split
      · simp only [ap_len, List.length_replicate]; omega
      · split
        · simp only [ap_len, List.length_take, List.length_drop, List.length_cons, List.length_nil]; omega
        · simp only [ap_len, List.length_replicate, List.length_cons, List.length_nil]; omega
    generalize fullL l p T = X at *
    have a := oAdd_ap (a := h) (b := X) (by omega)
    by_cases gs : s = 1
    · rw [if_pos gs] at eh
      subst eh
      simp_arith [eq_true gs, c45, c00, show ¬ f = 0 by omega, es, bLen_st (a := l) (by omega), hT, g.1, g.2, fo, a]
    · rw [if_neg gs] at eh
      subst eh
      simp_arith [gs, c45, c00, show ¬ f = 0 by omega, es, bLen_st (a := l) (by omega), hT, g.1, g.2, fo, a]
  · rw [if_neg g]
    generalize shortL l e = X at *
    have a := oAdd_ap (a := h) (b := X) (by omega)
    have gg : ¬ -5 ≤ T ∨ (-5 ≤ T ∧ ¬ T ≤ 20) := by omega
    rcases gg with g1 | ⟨g1, g2⟩
    · by_cases gs : s = 1
      · rw [if_pos gs] at eh
        subst eh
        simp_arith [eq_true gs, c45, c00, show ¬ f = 0 by omega, es, bLen_st (a := l) (by omega), hT, g1, so, a]
      · rw [if_neg gs] at eh
        subst eh
        simp_arith [gs, c45, c00, show ¬ f = 0 by omega, es, bLen_st (a := l) (by omega), hT, g1, so, a]
    · by_cases gs : s = 1
      · rw [if_pos gs] at eh
        subst eh
        simp_arith [eq_true gs, c45, c00, show ¬ f = 0 by omega, es, bLen_st (a := l) (by omega), hT, g1, g2, so, a]
      · rw [if_neg gs] at eh
        subst eh
        simp_arith [gs, c45, c00, show ¬ f = 0 by omega, es, bLen_st (a := l) (by omega), hT, g1, g2, so, a]
theorem parted_out {E F b : Int} (h : Sz E F) (hb : b < 0 ∨ pw (E + F + 1) ≤ b) : p_parted [.tup [.int E, .int F], .int b] = .ex "NoBits" := by
  obtain ⟨k1, k2, k3, k4⟩ := id h
  have o : or_ (bin oLt (var 1) (con (.int 0))) (bin oGe (var 1) (bin oShl (con (.int 1)) (call p_width [var 0]))) [some (.tup [.int E, .int F]), some (.int b), none, none] = .ok (.bl true) := by
    by_cases g : b < 0
    · simp_arith [g]
    · have : pw (E + F + 1) ≤ b := hb.resolve_left g
      simp_arith [g, width_ok, shl1 (k := E + F + 1) (by omega) (by omega), this]
  unfold p_parted g_parted
  generalize or_ (bin oLt (var 1) (con (.int 0))) (bin oGe (var 1) (bin oShl (con (.int 1)) (call p_width [var 0]))) = A at *
  simp_arith [o]
theorem kind_out {E F b : Int} (h : Sz E F) (hb : b < 0 ∨ pw (E + F + 1) ≤ b) : p_kind [.tup [.int E, .int F], .int b] = .ex "NoBits" := by
  unfold p_kind g_kind
  simp_arith [parted_out h hb]
theorem shown_out {E F b : Int} (h : Sz E F) (hb : b < 0 ∨ pw (E + F + 1) ≤ b) : p_shown [.tup [.int E, .int F], .int b] = .ex "NoBits" := by
  unfold p_shown g_shown
  simp_arith [kind_out h hb]
theorem kind_at {E F s c : Int} (h : Sz E F) (hs : 0 ≤ s ∧ s ≤ 1) (c0 : 0 ≤ c) (c1 : c < pw (E + F)) : p_kind [.tup [.int E, .int F], .int (s * pw (E + F) + c)] = .ok (.str (kindS E (c / pw F) (c % pw F))) := by
  obtain ⟨b1, b2, b3, b4⟩ := code_parts h hs c0 c1
  have := kind_ok h b1
  rw [b3, b4] at this
  exact this
theorem shown_none {E F s c : Int} (h : Sz E F) (hs : 0 ≤ s ∧ s ≤ 1) (c0 : pw (E + F) - pw F < c) (c1 : c < pw (E + F)) : p_shown [.tup [.int E, .int F], .int (s * pw (E + F) + c)] = .ok (.str "none") := by
  have h5 := half_ge h
  have hQ := pw_pos F
  have e := kind_at (c := c) h hs (by omega) c1
  rw [(kind_code (c := c) h (by omega) c1).1 c0] at e
  unfold p_shown g_shown
  simp_arith [e]
theorem shown_inf0 {E F : Int} (h : Sz E F) : p_shown [.tup [.int E, .int F], .int ((pw E - 1) * pw F)] = .ok (.str "endless") := by
  have h5 := half_ge h
  have hQ := pw_pos F
  have eM := end_is h
  have e := kind_at (s := 0) (c := (pw E - 1) * pw F) h (by decide) (by omega) (by omega)
  rw [(kind_code (c := (pw E - 1) * pw F) h (by omega) (by omega)).2.1 eM, Int.zero_mul, Int.zero_add] at e
  unfold p_shown g_shown
  simp_arith [e, endless_ok h, show ¬ (pw E - 1) * pw F < (pw E - 1) * pw F by omega]
theorem shown_inf1 {E F : Int} (h : Sz E F) : p_shown [.tup [.int E, .int F], .int (pw (E + F) + (pw E - 1) * pw F)] = .ok (.str "-endless") := by
  have h5 := half_ge h
  have hQ := pw_pos F
  have eM := end_is h
  have e := kind_at (s := 1) (c := (pw E - 1) * pw F) h (by decide) (by omega) (by omega)
  rw [(kind_code (c := (pw E - 1) * pw F) h (by omega) (by omega)).2.1 eM, Int.one_mul] at e
  unfold p_shown g_shown
  simp_arith [e, endless_ok h, show (pw E - 1) * pw F < pw (E + F) + (pw E - 1) * pw F by omega]
theorem short_zero {E F s : Int} (h : Sz E F) (hs : 0 ≤ s ∧ s ≤ 1) : p_shortest [.tup [.int E, .int F], .int (s * pw (E + F) + 0)] = .ok (.tup [.int s, .int 0, .int 0]) := by
  obtain ⟨n, e⟩ := frac_zero h hs
  unfold p_shortest g_shortest
  generalize while_ _ _ = X
  simp_arith [e]
theorem shown_zero {E F s : Int} {hd : List Nat} (h : Sz E F) (hs : 0 ≤ s ∧ s ≤ 1) (eh : hd = if s = 1 then [45] else []) : p_shown [.tup [.int E, .int F], .int (s * pw (E + F) + 0)] = .ok (.str (st (ap hd [48]))) := by
  have h5 := half_ge h
  have hQ := pw_pos F
  have e := kind_at (c := 0) h hs (by omega) (by omega)
  rw [(kind_code (c := 0) h (by omega) (by omega)).2.2.1 rfl] at e
  have la : p_laid [.int s, .int 0, .int 0] = .ok (.str (st (ap hd [48]))) := by
    have hl : hd.length ≤ 1 := by rw [eh]; split <;> decide
    have a := oAdd_ap (a := hd) (b := [48]) (by rw [show ([48] : List Nat).length = 1 from rfl]; omega)
    unfold p_laid g_laid
    by_cases gs : s = 1
    · rw [if_pos gs] at eh
      subst eh
      simp_arith [eq_true gs, c45, c00, c48, a]
    · rw [if_neg gs] at eh
      subst eh
      simp_arith [gs, c45, c00, c48, a]
  have sz := short_zero h hs
  generalize s * pw (E + F) + 0 = b at *
  unfold p_shown g_shown
  simp_arith [e, sz, la]
theorem number_ok {E F c : Int} (h : Sz E F) (hc : nb c ≤ 2 ^ 20) : ∃ N, p_law_number_by [.tup [.int E, .int F], .int c] = .ok (.int N) ∧ 1 ≤ N ∧ N < pw (min (F + 1) (pw (E - 1))) := by
  obtain ⟨k1, k2, k3, k4⟩ := id h
  have hH := pw_two (F := E - 1) (by omega)
  have s1 := shl1 (k := E - 1) (by omega) (by omega)
  have hm := pw_mono (a := 2) (b := min (F + 1) (pw (E - 1))) (by omega)
  have s2 := shl1 (k := min (F + 1) (pw (E - 1))) (by omega) (by omega)
  have e4 : pw 2 = 4 := rfl
  generalize pw (min (F + 1) (pw (E - 1))) = m at *
  have n3 : nb (c / 3) ≤ 1048576 := nb_c hc (by decide)
  have mm : MulOk (c / 3) 73846150927364518273645509182736455091827 := MulOk.of n3 (b := 200) (nb_le.mpr (by decide)) (by decide)
  have R : ∀ x : Int, 1 ≤ 1 + x % (m - 1) ∧ 1 + x % (m - 1) < m := fun x => by
    have := Int.emod_nonneg x (show m - 1 ≠ 0 by omega)
    have := Int.emod_lt_of_pos x (show 0 < m - 1 by omega)
    omega
  have M : ∀ x : Int, oMod (.int x) (.int (m - 1)) = .ok (.int (x % (m - 1))) := fun x => oMod_ok (by omega)
  unfold p_law_number_by g_law_number_by
  by_cases g0 : c % 3 = 0
  · exact ⟨1 + c / 3 % (m - 1), by simp_arith [s1, s2, g0, M], R _⟩
  by_cases g1 : c % 3 = 1
  · have hp : pw ((19 : Nat) : Int) = 524288 := rfl
    have e := power_ok 19 (c / 3 % 35) (by omega) (by omega) (by omega)
    generalize p_law_power 20 = A at *
    generalize (10 : Int) ^ (c / 3 % 35).toNat = x at *
    exact ⟨1 + (x + c / 3 / 35 % 21 - 11) % (m - 1), by simp_arith [s1, s2, g0, g1, e, M], R _⟩
  · generalize p_law_power 20 = A at *
    exact ⟨1 + c / 3 * 73846150927364518273645509182736455091827 % (m - 1), by simp_arith [s1, s2, g0, g1, oMul_ok mm, M], R _⟩
structure Cd (E F N d : Int) : Prop where
  d0 : 0 < d
  d1 : d < pw (E + F) - pw F
  v : vl F d = N * pw (-(lo E F))
  up : vl F (d + 1) - vl F d ≤ pw (-(lo E F))
  dn : vl F d - vl F (d - 1) ≤ pw (-(lo E F))
theorem code_ok {E F N : Int} (h : Sz E F) (n1 : 1 ≤ N) (n2 : N < pw (min (F + 1) (pw (E - 1)))) : ∃ d, p_law_code_of [.tup [.int E, .int F], .int N] = .ok (.int d) ∧ Cd E F N d := by
  obtain ⟨k1, k2, k3, k4⟩ := id h
  have hH := pw_two (F := E - 1) (by omega)
  have b0 := nb_of_lt (show 0 ≤ N by omega) n2 (by omega)
  have b1 := nb_pos (show 0 < N by omega)
  have b2 := nb_ge (show 0 < N by omega)
  have b3 := nb_lt_self (show 0 ≤ N by omega)
  have s1 := shl1 (k := E - 1) (by omega) (by omega)
  have s2 := shl1 (k := F) (by omega) (by omega)
  have hE : pw E = 2 * pw (E - 1) := by have := pw_succ (a := E - 1) (by omega); rw [show E - 1 + 1 = E by omega] at this; exact this
  have hE2 := pwE_le h
  generalize ha : (nb N : Int) - 1 = a at *
  rw [show (nb N : Int) = a + 1 by omega, pw_succ (by omega)] at b3
  have s3 := oShl_ok (i := pw (E - 1) - 1 + a) (j := F) (by omega) (by have := nb_lt (i := pw (E - 1) - 1 + a) (k := 17) (by omega) (by omega); omega)
  have s4 := oShl_ok (i := N) (j := F) (by omega) (by omega)
  have eq : N * pw F / pw a = N * pw (F - a) := by
    rw [show F = F - a + a by omega, pw_add (by omega) (by omega), ← Int.mul_assoc, Int.mul_ediv_cancel _ (by have := pw_pos a; omega), show F - a + a - a = F - a by omega]
  have r1 : pw F ≤ N * pw (F - a) := by
    have := Int.mul_le_mul_of_nonneg_right b2 (Int.le_of_lt (pw_pos (F - a)))
    rw [← pw_add (by omega) (by omega), show a + (F - a) = F by omega] at this
    exact this
  have r2 : N * pw (F - a) < 2 * pw F := by
    have := Int.mul_lt_mul_of_pos_right b3 (pw_pos (F - a))
    rw [Int.mul_assoc, ← pw_add (by omega) (by omega), show a + (F - a) = F by omega] at this
    exact this
  have Q := pw_pos F
  generalize hx : N * pw (F - a) = x at *
  have dv : ((pw (E - 1) - 1 + a) * pw F + x - pw F) / pw F = pw (E - 1) - 1 + a := by
    rw [show (pw (E - 1) - 1 + a) * pw F + x - pw F = (x - pw F) + (pw (E - 1) - 1 + a) * pw F by omega, Int.add_mul_ediv_right _ _ (by omega), Int.ediv_eq_zero_of_lt (by omega) (by omega), Int.zero_add]
  have md : ((pw (E - 1) - 1 + a) * pw F + x - pw F) % pw F = x - pw F := by
    rw [show (pw (E - 1) - 1 + a) * pw F + x - pw F = (x - pw F) + (pw (E - 1) - 1 + a) * pw F by omega, Int.add_mul_emod_self_right, Int.emod_eq_of_lt (by omega) (by omega)]
  have f1 : 1 * pw F ≤ (pw (E - 1) - 1 + a) * pw F := Int.mul_le_mul_of_nonneg_right (by omega) (by omega)
  have f2 : (pw (E - 1) - 1 + a) * pw F ≤ (pw E - 1 - 1) * pw F := Int.mul_le_mul_of_nonneg_right (by omega) (by omega)
  rw [Int.sub_mul (pw E - 1), end_is h, Int.one_mul] at f2
  generalize hd : (pw (E - 1) - 1 + a) * pw F + x - pw F = d at *
  have d0 : 0 < d := by omega
  have lo1 : -(lo E F) = pw (E - 1) - 2 + F := by unfold lo; omega
  have st1 : ∀ c, 0 ≤ c → c ≤ d → vl F (c + 1) - vl F c ≤ pw (-(lo E F)) := fun c c0 c1 => by
    rw [vl_succ c0]
    have := Int.ediv_le_ediv Q c1
    exact pw_mono (by omega)
  refine ⟨d, ?_, d0, by omega, ?_, st1 d (by omega) (by omega), ?_⟩
  · unfold p_law_code_of g_law_code_of
    simp_arith [ha, s1, s2, s3, s4, show 0 ≤ a by omega, eq, hd]
  · unfold vl
    rw [dv, md, if_neg (by omega), show pw F + (x - pw F) = x by omega, ← hx, Int.mul_assoc, ← pw_add (by omega) (by omega)]
    congr 2
    omega
  · have := st1 (d - 1) (by omega) (by omega)
    rw [show d - 1 + 1 = d by omega] at this
    exact this
theorem whole_is {E F N d f p g p0 f0 : Int} {k : Nat} (h : Sz E F) (C : Cd E F N d) (n1 : 1 ≤ N) (G : Got (uT E F) 9000 (vT F d) (aT F d) (bT F d) (d % 2 = 0) g p0 f0)
    (ef : f0 = f * 10 ^ k) (ep : p = p0 + k) (h10 : f % 10 ≠ 0) : 0 ≤ p ∧ N = f * 10 ^ p.toNat ∧ 0 < f := by
  have S := sh_ok (E := E) (F := F) C.d0
  have glo := G.lo
  have hK := pw_pos (-(lo E F))
  have u0 := S.pos 0 (by decide)
  have eV : vT F d = N * uT E F 0 := by
    unfold vT uT
    rw [C.v, Int.mul_assoc]
    rfl
  have p9' := p9
  have eA : 2 * vT F d - uT E F 0 ≤ aT F d := by
    have : (vl F d - vl F (d - 1)) * 10 ^ 9000 ≤ pw (-(EV.lo E F)) * 10 ^ 9000 := Int.mul_le_mul_of_nonneg_right C.dn (Int.le_of_lt p9')
    rw [Int.sub_mul] at this
    unfold vT uT aT
    rw [Int.add_mul, show ((0 : Int) + 9000).toNat = 9000 from rfl]
    omega
  have eB : bT F d ≤ 2 * vT F d + uT E F 0 := by
    have : (vl F (d + 1) - vl F d) * 10 ^ 9000 ≤ pw (-(EV.lo E F)) * 10 ^ 9000 := Int.mul_le_mul_of_nonneg_right C.up (Int.le_of_lt p9')
    rw [Int.sub_mul] at this
    unfold vT uT bT
    rw [Int.add_mul, show ((0 : Int) + 9000).toNat = 9000 from rfl]
    omega
  have m1 := S.m1
  have m2 := S.m2
  have q0 : vT F d / uT E F 0 = N := by rw [eV, Int.mul_ediv_cancel _ (by omega)]
  have pp : 0 ≤ p0 := by
    refine Classical.byContradiction fun z => ?_
    have g0 : 0 ≤ g - 1 := by
      refine Classical.byContradiction fun y => ?_
      have lt := G.lt
      have mo : uT E F g ≤ uT E F 0 := S.mono (by have := G.hi; omega) (by omega)
      have : 1 * uT E F 0 ≤ N * uT E F 0 := Int.mul_le_mul_of_nonneg_right n1 (Int.le_of_lt u0)
      omega
    have := (G.none 0 (by omega) g0).1
    rw [q0, ← eV] at this
    exact this (.inl ⟨m1, m2⟩)
  have eU : uT E F p0 = 10 ^ p0.toNat * uT E F 0 := by
    have := S.add (p := 0) (by decide) p0.toNat
    rw [show (0 : Int) + (p0.toNat : Int) = p0 by omega] at this
    exact this
  have rd := G.rd
  rw [eU, ← Int.mul_assoc f0] at rd
  have eN : f0 * 10 ^ p0.toNat = N := by
    have b1 : 2 * vT F d - uT E F 0 ≤ 2 * (f0 * 10 ^ p0.toNat * uT E F 0) := by unfold Wn at rd; omega
    have b2 : 2 * (f0 * 10 ^ p0.toNat * uT E F 0) ≤ 2 * vT F d + uT E F 0 := by unfold Wn at rd; omega
    rw [eV] at b1 b2
    generalize f0 * 10 ^ p0.toNat = y at *
    generalize uT E F 0 = u at *
    refine Classical.byContradiction fun z => ?_
    rcases Int.lt_or_gt_of_ne z with w | w
    · have := Int.mul_le_mul_of_nonneg_right (show y ≤ N - 1 by omega) (Int.le_of_lt u0)
      rw [Int.sub_mul, Int.one_mul] at this
      omega
    · have := Int.mul_le_mul_of_nonneg_right (show N + 1 ≤ y by omega) (Int.le_of_lt u0)
      rw [Int.add_mul, Int.one_mul] at this
      omega
  refine ⟨by omega, ?_, ?_⟩
  · rw [← eN, ef, ep, Int.mul_assoc, ← Int.pow_add]
    congr 2
    omega
  · have := G.pos S
    rw [ef] at this
    exact pos_l this (ten_pos k)
theorem up_is {f p : Int} (f0 : 0 < f) (p0 : 0 ≤ p) : dg (f * 10 ^ p.toNat).toNat = ap (dg f.toNat) (List.replicate p.toNat 48) := by
  have e : (f * 10 ^ p.toNat).toNat = f.toNat * 10 ^ p.toNat := by
    obtain ⟨n, rfl⟩ := Int.eq_ofNat_of_zero_le (Int.le_of_lt f0)
    rw [show ((n : Int) * 10 ^ p.toNat) = ((n * 10 ^ p.toNat : Nat) : Int) by simp]
    rfl
  unfold ap
  rw [e]
  by_cases g : p.toNat = 0
  · rw [g]; simp
  · have := dg_split (q := f.toNat) (by omega) p.toNat 0 (by omega) (Nat.pow_pos (by decide))
    rw [Nat.add_zero] at this
    rw [this, pad_zero (by omega)]
theorem dg_last {n : Nat} (h : n % 10 ≠ 0) : ∃ l c, dg n = l ++ [c] ∧ c ≠ 48 := by
  by_cases g : n < 10
  · exact ⟨[], 48 + n, by rw [dg_small g]; rfl, by omega⟩
  · refine ⟨dg (n / 10), 48 + n % 10, ?_, by omega⟩
    have e := dg_ten (n := n / 10) (d := n % 10) (by omega) (by omega)
    rw [show 10 * (n / 10) + n % 10 = n by omega, dg_small (n := n % 10) (by omega)] at e
    exact e
theorem takeWhile_rep {l : List Nat} {q : Nat → Bool} {c : Nat} (hc : q c = true) : ∀ k : Nat, (List.replicate k c ++ l).takeWhile q = List.replicate k c ++ l.takeWhile q
  | 0 => by simp
  | k + 1 => by
    rw [List.replicate_succ, List.cons_append, List.takeWhile_cons, if_pos hc, takeWhile_rep hc k, List.cons_append]
theorem strip_ok {l : List Nat} {k : Nat} (hl : ∃ r c, l = r ++ [c] ∧ c ≠ 48) (h : (ap l (List.replicate k 48)).length ≤ 1000000) : mRstrip (st (ap l (List.replicate k 48))) (.str (st [48])) = .ok (.str (st l)) := by
  obtain ⟨r, c, e, hc⟩ := hl
  unfold mRstrip mCut
  simp only
  rw [if_pos (by unfold st; simpa using h)]
  congr 2
  unfold st
  congr 2
  show cutBy (#[48] : Array Nat).contains false true (ap l (List.replicate k 48)) = l
  unfold cutBy ap
  simp only [if_true, Bool.false_eq_true, if_false, List.drop_zero, List.reverse_append, List.reverse_replicate]
  rw [takeWhile_rep (by simp)]
  have : l.reverse.takeWhile (#[48] : Array Nat).contains = [] := by
    rw [e, List.reverse_append, List.reverse_singleton, List.singleton_append, List.takeWhile_cons, if_neg]
    simp [hc]
  rw [this, List.append_nil, List.length_replicate, List.length_append, List.length_replicate, Nat.add_sub_cancel, List.take_left']
  rfl
theorem num_ok {E F N s d : Int} {hd : List Nat} (h : Sz E F) (hs : 0 ≤ s ∧ s ≤ 1) (eh : hd = if s = 1 then [45] else []) (n1 : 1 ≤ N) (n2 : N < pw (min (F + 1) (pw (E - 1)))) (C : Cd E F N d) :
    ∃ x, p_shown [.tup [.int E, .int F], .int (s * pw (E + F) + d)] = .ok (.str (st (ap hd x))) ∧ p_law_text_of [.int N] = .ok (.str (st x)) ∧ x.length ≤ 1000 := by
  obtain ⟨f, p, g, p0, f0, k, es, G, ef, ep, h10, fb, pb, gb⟩ := shortest_ok h hs C.d0 C.d1
  obtain ⟨pp, eN, f1⟩ := whole_is h C n1 G ef ep h10
  have S := sh_ok (E := E) (F := F) C.d0
  obtain ⟨_, _, cs⟩ := G.bare S ef ep h10
  have hi := G.hi
  have p1 : p ≤ 9100 := by rcases cs with ⟨_, _, y⟩ | ⟨_, _, y, _⟩ <;> omega
  have nl : N < 1000000000000000000000000000000000000000000000000000000000000 := by
    have := pw_mono (a := min (F + 1) (pw (E - 1))) (b := 113) (by have := h.2.2.2; omega)
    have e : pw 113 = 10384593717069655257060992658440192 := rfl
    omega
  have t1 := ten1 p.toNat
  have fl : f ≤ N := by
    have := Int.mul_le_mul_of_nonneg_left t1 (Int.le_of_lt f1)
    omega
  have h5 := half_ge h
  have hQ := pw_pos F
  have d0 := C.d0
  have d1 := C.d1
  have ki := kind_at (c := d) h hs (by omega) (by omega)
  have kc := (kind_code (c := d) h (by omega) (by omega)).2.2.2 d0 d1
  obtain ⟨_, l0, l1⟩ := dg_f (Int.le_of_lt f1) (show f < 1000000000000000000000000000000000000000000000000000000000000 by omega)
  obtain ⟨e, he, e1⟩ := at_st (i := p + (dg f.toNat).length - 1) (by omega) (by omega)
  have la := laid_ok (p := p) eh f1 (by omega) he e1 (by omega) p1
  obtain ⟨bN, L0, L1⟩ := dg_f (show 0 ≤ N by omega) nl
  have eD : dg N.toNat = ap (dg f.toNat) (List.replicate p.toNat 48) := by rw [eN]; exact up_is f1 pp
  have eL : ((ap (dg f.toNat) (List.replicate p.toNat 48)).length : Int) = (dg f.toNat).length + p := by rw [ap_len, List.length_replicate]; omega
  have last := dg_last (n := f.toNat) (by omega)
  rw [eD] at bN L0 L1
  have sh : ∀ x, p_laid [.int s, .int f, .int p] = .ok (.str x) → p_shown [.tup [.int E, .int F], .int (s * pw (E + F) + d)] = .ok (.str x) := fun x ex => by
    generalize s * pw (E + F) + d = b at *
    unfold p_shown g_shown
    rcases kc with z | z
    · rw [z] at ki
      simp_arith [ki, es, ex]
    · rw [z] at ki
      simp_arith [ki, es, ex]
  refine ⟨_, sh _ la, ?_, ?_⟩
  · have sp := strip_ok (k := p.toNat) last (by omega)
    have fL : fullL (dg f.toNat) p (p + ((dg f.toNat).length : Int) - 1) = ap (dg f.toNat) (List.replicate p.toNat 48) := by unfold fullL; rw [if_pos pp]
    generalize ap (dg f.toNat) (List.replicate p.toNat 48) = X at *
    generalize dg f.toNat = l at *
    have hX := bLen_st (a := X) (by omega)
    have hl := bLen_st (a := l) (by omega)
    unfold p_law_text_of g_law_text_of
    by_cases g21 : (X.length : Int) ≤ 21
    · rw [if_pos (by omega), fL]
      simp_arith [bN, hX, g21]
    · rw [if_neg (by omega)]
      have he' : bStr [.int ((X.length : Int) - 1)] = .ok (.str (st e)) := by rw [show (X.length : Int) - 1 = p + l.length - 1 by omega]; exact he
      unfold shortL
      by_cases g1 : (l.length : Int) = 1
      · rw [if_neg (by omega)]
        have lt : l.take 1 = l := List.take_of_length_le (by omega)
        rw [lt]
        have z101 : ([101] : List Nat).length = 1 := rfl
        have a1 := oAdd_ap (a := l) (b := [101]) (by omega)
        have a2 := oAdd_ap (a := ap l [101]) (b := e) (by rw [ap_len]; omega)
        simp_arith [bN, hX, g21, u_mS, c48, sp, hl, eq_true g1, c101, a1, he', a2]
        unfold ap
        simp
      · rw [if_pos (by omega)]
        have z46 : ([46] : List Nat).length = 1 := rfl
        have z101 : ([101] : List Nat).length = 1 := rfl
        have b1 := sl_hi (a := l) (k := 1) (by decide) (by omega) (by omega)
        rw [show (1 : Int).toNat = 1 from rfl] at b1
        have b2 := ix_l l0 (by omega)
        have t1 : (l.take 1).length ≤ 60 := by rw [List.length_take]; omega
        have t2 : (l.drop 1).length ≤ 60 := by rw [List.length_drop]; omega
        generalize l.take 1 = x at *
        generalize l.drop 1 = y at *
        have a2 := oAdd_ap (a := x) (b := [46]) (by omega)
        have a3 := oAdd_ap (a := ap x [46]) (b := y) (by rw [ap_len]; omega)
        have a4 := oAdd_ap (a := ap (ap x [46]) y) (b := [101]) (by rw [ap_len, ap_len]; omega)
        have a5 := oAdd_ap (a := ap (ap (ap x [46]) y) [101]) (b := e) (by rw [ap_len, ap_len, ap_len]; omega)
        simp_arith [bN, hX, g21, u_mS, c48, sp, hl, g1, b2, c46, a2, u_slcS, part_some, b1, a3, c101, a4, he', a5]
        unfold ap
        simp
  · split
    · unfold fullL
      rw [if_pos pp]
      omega
    · unfold shortL
      simp only [ap_len, List.length_take]
      split
      · simp only [ap_len, List.length_drop, List.length_cons, List.length_nil]; omega
      · simp only [List.length_cons, List.length_nil]; omega
theorem is_text_ok {E F b : Int} {x : PySem.Str} (e : p_shown [.tup [.int E, .int F], .int b] = .ok (.str x)) : p_law_is_text [.tup [.int E, .int F], .int b, .str x] = .ok (.bl true) := by
  unfold p_law_is_text g_law_is_text
  simp_arith [e]
theorem refused_ok {E F b : Int} (e : p_shown [.tup [.int E, .int F], .int b] = .ex "NoBits") : p_law_refused [.tup [.int E, .int F], .int b] = .ok (.bl true) := by
  unfold p_law_refused g_law_refused
  simp_arith [e]
theorem head_is {s : Int} (hs : 0 ≤ s ∧ s ≤ 1) : ∃ h : List Nat, h.length ≤ 1 ∧ oIx (.lst [.str (st []), .str (st [45])]) (.int s) = .ok (.str (st h)) ∧ h = if s = 1 then [45] else [] := by
  rcases (show s = 0 ∨ s = 1 by omega) with e | e <;> subst e
  · exact ⟨[], by decide, rfl, rfl⟩
  · exact ⟨[45], by decide, rfl, rfl⟩
theorem law_good : Good p_law := by
  intro ns hl hb
  have h := sz_ok (ns.getD 0 0)
  have b4 := getD_nb hb 4
  unfold p_law g_law
  have q0 := cell_ok (ns := ns) (j := 0) (by decide)
  have q1 := cell_ok (ns := ns) (j := 1) (by decide)
  have q2 := cell_ok (ns := ns) (j := 2) (by decide)
  have q3 := cell_ok (ns := ns) (j := 3) (by decide)
  have q4 := cell_ok (ns := ns) (j := 4) (by decide)
  have z := size_ok (ns.getD 0 0)
  simp only [show (0 : Int).toNat = 0 from rfl, show (1 : Int).toNat = 1 from rfl, show (2 : Int).toNat = 2 from rfl, show (3 : Int).toNat = 3 from rfl, show (4 : Int).toNat = 4 from rfl] at q0 q1 q2 q3 q4
  generalize szE (ns.getD 0 0) = E at *
  generalize szF (ns.getD 0 0) = F at *
  generalize ns.getD 0 0 = x0 at *
  generalize ns.getD 1 0 = x1 at *
  generalize ns.getD 2 0 = x2 at *
  generalize ns.getD 3 0 = x3 at *
  generalize ns.getD 4 0 = x4 at *
  obtain ⟨k1, k2, k3, k4⟩ := id h
  have hs : 0 ≤ x1 % 2 ∧ x1 % 2 ≤ 1 := by omega
  have s60 : oPow (.int 10) (.int 60) = .ok (.int 1000000000000000000000000000000000000000000000000000000000000) := by rw [oPow_ok (by decide) (by decide)]; rfl
  have sEF := shl1 (k := E + F) (by omega) (by omega)
  have sE := shl1 (k := E) (by omega) (by omega)
  have sF := shl1 (k := F) (by omega) (by omega)
  have hE2 := pwE_le h
  have hQ := pw_two k3
  have sl := oShl_ok (i := pw E - 1) (j := F) (by omega) (by have := nb_lt (i := pw E - 1) (k := 17) (by have := pw_pos E; omega) (by omega); omega)
  have nS : nb (pw (E + F)) ≤ 128 := nb_pw (c := 127) (by omega)
  have m1 : MulOk (x1 % 2) (pw (E + F)) := mul_small (by omega) (by omega) (Nat.le_trans nS (by decide))
  have m2 : MulOk 2 (pw (E + F)) := by walk_at "mul"
  have eM := end_is h
  have t1 := is_text_ok (shown_inf0 h)
  have t2 := is_text_ok (shown_inf1 h)
  have t3 := is_text_ok (shown_zero (s := 0) h (by decide) rfl)
  have t4 := is_text_ok (shown_zero (s := 1) h (by decide) rfl)
  have w0 := Int.emod_nonneg x2 (show pw F - 1 ≠ 0 by omega)
  have w1 := Int.emod_lt_of_pos x2 (show 0 < pw F - 1 by omega)
  have hm := oMod_ok (i := x2) (show 0 < pw F - 1 by omega)
  generalize x2 % (pw F - 1) = y2 at *
  have t5 := is_text_ok (shown_none (c := (pw E - 1) * pw F + 1 + y2) h hs (by omega) (by omega))
  have v0 := Int.emod_nonneg x3 (show (1000000000000000000000000000000000000000000000000000000000000 : Int) ≠ 0 by decide)
  have dbl : pw (E + F + 1) = 2 * pw (E + F) := pw_succ (by omega)
  have t6 := refused_ok (shown_out (b := 2 * pw (E + F) + x3 % 1000000000000000000000000000000000000000000000000000000000000) h (by omega))
  have t7 := refused_ok (shown_out (b := -1 - x3 % 1000000000000000000000000000000000000000000000000000000000000) h (by omega))
  obtain ⟨N, e8, n1, n2⟩ := number_ok h b4
  obtain ⟨d, e9, C⟩ := code_ok h n1 n2
  obtain ⟨hd, h1, h2, h3⟩ := head_is hs
  obtain ⟨x, e10, e11, e12⟩ := num_ok h hs h3 n1 n2 C
  have t8 := is_text_ok e10
  have a := oAdd_ap (a := hd) (b := x) (by omega)
  have c480' : PySem.Str.ofString "-0" = st (ap [45] [48]) := by decide
  have c48' : PySem.Str.ofString "0" = st (ap [] [48]) := by decide
  rw [Int.zero_mul, Int.add_zero, if_neg (by decide), ← c48'] at t3
  rw [Int.one_mul, Int.add_zero, if_pos rfl, ← c480'] at t4
  rw [← c00, ← c45] at h2
  simp_arith [q0, q1, q2, q3, q4, z, sEF, sE, sF, sl, t1, t2, t3, t4, hm, oMul_ok m1, t5, oMul_ok m2, s60, t6, t7, e8, e9, h2, e11, a, t8]
end T
open PySem PySem.W PyProof.Rows
set_option maxHeartbeats 0 in
theorem PySem.Challenge.cw_roundmill_k56_shown_holds : PySem.Challenge.rw_roundmill_k56_shown.Holds := by
  w_on; o_law
  refine holds_open (q := H.q) (loose := []) (Xt := H.Xt) (XP := XL H.q []) (Yf := (kHook H.K H.as H.he).obs) (Ya := (kHook H.K H.as H.he).val) (YP := (kHook H.K H.as H.he).says) (N := 6232) H.left (kHook H.K H.as H.he).of (kHook H.K H.as H.he).keeps (fun s e => xl_of s (Bool.and_eq_true_iff.mp e).1) XL.keeps (by rfl) (by rfl) (by rfl) (fun s e => recFacts_of (Bool.and_eq_true_iff.mp e).2) (by rfl) (by first | assumption | decide +kernel) (by decide +kernel) ⟨rfl, rfl, rfl, rfl, rfl, by decide +kernel⟩ ?hw ?hc
  (case hw => w_witness2)
  k_fill
  refine ES.walk_law (l := PySem.Challenge.rw_roundmill_k56_shown) (k := 28) (x := "_law_script") (f := T.p_law) T.law_good rfl rfl ⟨rfl, by decide, by decide⟩ (fun w h Y => PySem.W.kIn_of Y) ?F
  case F =>
    intro w mg fa h KX GG hmg
    refine' T.all_mk KX GG hmg ?n_Way ?pg_Way ?hd_Way ?po_Way ?sa_Way ?na_Way ?aIWay ?uIWay ?mm_Way ?kc_Way ?lIWay ?eIWay ?kIWay ?q1 ?a2 ?l2 ?e2 ?k2 ?q3 ?q4 ?q5 ?q6 ?q7 ?q8 ?q9 ?q10 ?q11 ?q12 ?q13 ?a14 ?l14 ?e14 ?k14 ?q15 ?q16 ?q17 ?q18 ?q19 ?q20 ?q21 ?q22 ?q23 ?q24 ?q25 ?q26 ?q27 ?q28 ?a29 ?u29 ?l29 ?e29 ?k29 ?a30 ?u30 ?l30 ?e30 ?k30 ?a31 ?u31 ?l31 ?e31 ?k31 ?q32 ?q33 ?q34 ?q35 ?q36 ?q37 ?q38 ?q39 ?q40 ?q41 ?q42 ?q43 ?q44 ?q45 ?a46 ?l46 ?e46 ?k46 ?z_min ?z_max ?z_len ?z_str ?z_isinstance ?z_ValueError ?y_NAMES ?yl_NAMES ?y_INEXACT ?y_GREAT ?y_SMALL ?n_MillError ?n_NoBits ?n_NotFinite ?n_NoWay ?n_NoFraction ?n_NoText ?xi_NoBits ?xi_NotFinite ?xi_NoWay ?xi_NoFraction ?v_MillError ?w_NoSize ?v_NoBits ?w_NoParts ?w_NoRank ?v_NotFinite ?v_NoWay ?w_NoFlags ?v_NoFraction ?w_Unlike ?w_Empty ?w_NoLeft ?v_NoText ?w_NoRow ?w_NoName ?w_Stopped ?cb_MillError ?r_MillError_MillError ?r_MillError_NoBits ?r_MillError_NotFinite ?r_MillError_NoWay ?r_MillError_NoFraction ?r_MillError_NoText ?i_str_NoneType ?i_str_bool ?i_str_int ?i_str_str ?i_str_tuple ?i_str_list ?i0_NoBits ?i_NoBits_MillError ?i_NoBits_NoBits ?i_NoBits_NotFinite ?i_NoBits_NoWay ?i_NoBits_NoFraction ?i_NoBits_NoText ?i_VE_NoneType ?i_VE_bool ?i_VE_int ?i_VE_str ?i_VE_tuple ?i_VE_list ?i_ValueError_MillError ?i_ValueError_NoBits ?i_ValueError_NotFinite ?i_ValueError_NoWay ?i_ValueError_NoFraction ?i_ValueError_NoText ?i0_NotFinite ?i_NotFinite_MillError ?i_NotFinite_NoBits ?i_NotFinite_NotFinite ?i_NotFinite_NoWay ?i_NotFinite_NoFraction ?i_NotFinite_NoText ?i0_NoText ?i_NoText_MillError ?i_NoText_NoBits ?i_NoText_NotFinite ?i_NoText_NoWay ?i_NoText_NoFraction ?i_NoText_NoText
    (case n_Way | pg_Way | hd_Way | po_Way | sa_Way | na_Way | aIWay | uIWay | mm_Way | kc_Way | lIWay | eIWay | kIWay => k_is)
    (case q1 => exact ES.da_mk (by k_is) (by k_is) (by k_is) (by k_is))
    (case a2 | l2 | e2 | k2 => k_is)
    (case q3 | q4 | q5 | q6 | q7 | q8 | q9 | q10 | q11 | q12 | q13 => exact ES.da_mk (by k_is) (by k_is) (by k_is) (by k_is))
    (case a14 | l14 | e14 | k14 => k_is)
    (case q15 | q16 | q17 | q18 | q19 | q20 | q21 | q22 | q23 | q24 | q25 | q26 | q27 | q28 => exact ES.da_mk (by k_is) (by k_is) (by k_is) (by k_is))
    (case a29 | u29 | l29 | e29 | k29 | a30 | u30 | l30 | e30 | k30 | a31 | u31 | l31 | e31 | k31 => k_is)
    (case q32 | q33 | q34 | q35 | q36 | q37 | q38 | q39 | q40 | q41 | q42 | q43 | q44 | q45 => exact ES.da_mk (by k_is) (by k_is) (by k_is) (by k_is))
    (case a46 | l46 | e46 | k46 | z_min | z_max | z_len | z_str | z_isinstance | z_ValueError | y_NAMES | yl_NAMES | y_INEXACT | y_GREAT | y_SMALL | n_MillError | n_NoBits | n_NotFinite | n_NoWay | n_NoFraction | n_NoText => k_is)
    (case xi_NoBits | xi_NotFinite | xi_NoWay | xi_NoFraction => k_exc)
    (case v_MillError => exact ⟨by k_is, by k_is, by k_is, by k_is, by k_is, ⟨_, by k_is⟩⟩)
    (case w_NoSize => k_is)
    (case v_NoBits => exact ⟨by k_is, by k_is, by k_is, by k_is, by k_is, ⟨_, by k_is⟩⟩)
    (case w_NoParts | w_NoRank => k_is)
    (case v_NotFinite | v_NoWay => exact ⟨by k_is, by k_is, by k_is, by k_is, by k_is, ⟨_, by k_is⟩⟩)
    (case w_NoFlags => k_is)
    (case v_NoFraction => exact ⟨by k_is, by k_is, by k_is, by k_is, by k_is, ⟨_, by k_is⟩⟩)
    (case w_Unlike | w_Empty | w_NoLeft => k_is)
    (case v_NoText => exact ⟨by k_is, by k_is, by k_is, by k_is, by k_is, ⟨_, by k_is⟩⟩)
    (case w_NoRow | w_NoName | w_Stopped => k_is)
    (case cb_MillError => exact ⟨⟨_, by k_is⟩, by k_is, by k_is, by k_is⟩)
    (case r_MillError_MillError | r_MillError_NoBits | r_MillError_NotFinite | r_MillError_NoWay | r_MillError_NoFraction | r_MillError_NoText => k_is)
    (case i_str_NoneType | i_str_bool | i_str_int | i_str_str | i_str_tuple | i_str_list | i0_NoBits | i_NoBits_MillError | i_NoBits_NoBits | i_NoBits_NotFinite | i_NoBits_NoWay | i_NoBits_NoFraction | i_NoBits_NoText | i_VE_NoneType | i_VE_bool | i_VE_int | i_VE_str | i_VE_tuple | i_VE_list | i_ValueError_MillError | i_ValueError_NoBits | i_ValueError_NotFinite | i_ValueError_NoWay | i_ValueError_NoFraction | i_ValueError_NoText | i0_NotFinite | i_NotFinite_MillError | i_NotFinite_NoBits | i_NotFinite_NotFinite | i_NotFinite_NoWay | i_NotFinite_NoFraction | i_NotFinite_NoText | i0_NoText | i_NoText_MillError | i_NoText_NoBits | i_NoText_NotFinite | i_NoText_NoWay | i_NoText_NoFraction | i_NoText_NoText => kit_is)
#print axioms PySem.Challenge.cw_roundmill_k56_shown_holds
