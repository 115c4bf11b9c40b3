import PyProof.Rows.All
import Wide.All
import OpenK.AllK
import Wide.FinOn
import Lean
import PyProof.EqAt
import PyProof.EqKinds
import PyProof.TupleCall
import PySem.Challenge.RW_roundmill_k48_spelled_refused
set_option Elab.async false
set_option linter.all false
set_option maxRecDepth 100000
noncomputable section
namespace L2
open PySem PySem.Spec PyProof.Rows
abbrev Key:=Sum Int Str
def keyIs:Key→Value→Bool
  | .inl k,v=>Value.isInt k v
  | .inr x,v=>Value.isStrOf x v
def keyH (w:World):Key→Int
  | .inl k=>hashInt k
  | .inr x=>hashStr w x
theorem keyIs_shape:∀ {k:Key} {v:Value},keyIs k v=true→(∃ i t,k=Sum.inl i∧v=Value.int i t)∨(∃ x t,k=Sum.inr x∧v=Value.str x t)
  | .inl i,v,h=>by
    obtain ⟨t,e⟩:=Value.isInt_shape (k:=i) (v:=v) h
    exact .inl ⟨i,t,rfl,e⟩
  | .inr x,v,h=>by
    obtain ⟨t,e⟩:=Value.isStrOf_shape (x:=x) (v:=v) h
    exact .inr ⟨x,t,rfl,e⟩
theorem key_ll (a b:Int):decide ((Sum.inl a:Key)=Sum.inl b)=(a == b):=by
  by_cases e:a=b
  · subst e;simp
  · have h:¬ (Sum.inl a:Key)=Sum.inl b:=fun q=>e (Sum.inl.inj q)
    rw [decide_eq_false h]
    exact (beq_eq_false_iff_ne.mpr e).symm
theorem key_rr (a b:Str):decide ((Sum.inr a:Key)=Sum.inr b)=decide (a=b):=by
  by_cases e:a=b
  · subst e;simp
  · have h:¬ (Sum.inr a:Key)=Sum.inr b:=fun q=>e (Sum.inr.inj q)
    rw [decide_eq_false h,decide_eq_false e]
theorem key_lr (a:Int) (b:Str):decide ((Sum.inl a:Key)=Sum.inr b)=false:=decide_eq_false (fun q=>nomatch q)
theorem key_rl (a:Str) (b:Int):decide ((Sum.inr a:Key)=Sum.inl b)=false:=decide_eq_false (fun q=>nomatch q)
def mixKind (prog:Program) (w:World):PySem.KeyKind prog w Key where
  is:=keyIs
  hash:=keyH w
  inj:=fun v a b ha hb=>by
    rcases keyIs_shape ha with ⟨i,t,rfl,rfl⟩ | ⟨x,t,rfl,rfl⟩
    · rcases keyIs_shape hb with ⟨j,u,rfl,e⟩ | ⟨y,u,rfl,e⟩
      · injection e with e1 _;rw [e1]
      · exact nomatch e
    · rcases keyIs_shape hb with ⟨j,u,rfl,e⟩ | ⟨y,u,rfl,e⟩
      · exact nomatch e
      · injection e with e1 _;rw [e1]
  byValue:=fun k v h=>by
    rcases keyIs_shape h with ⟨i,t,rfl,rfl⟩ | ⟨x,t,rfl,rfl⟩<;>rfl
  pyHash:=fun hv h=>by
    rcases keyIs_shape hv with ⟨i,t,rfl,rfl⟩ | ⟨x,t,rfl,rfl⟩
    · exact wpAny_pyHash_int h
    · exact wpAny_pyHash_str h
  eqBool:=fun hu hv h=>by
    rcases keyIs_shape hu with ⟨i,t,rfl,rfl⟩ | ⟨x,t,rfl,rfl⟩
    · rcases keyIs_shape hv with ⟨j,u,rfl,rfl⟩ | ⟨y,u,rfl,rfl⟩
      · rw [key_ll] at h;exact wpAny_eqBool_int h
      · rw [key_lr] at h;exact SeqAt.EqAt.int_str i t y u _ _ _ _ h
    · rcases keyIs_shape hv with ⟨j,u,rfl,rfl⟩ | ⟨y,u,rfl,rfl⟩
      · rw [key_rl] at h;exact SeqAt.EqAt.str_int x t j u _ _ _ _ h
      · rw [key_rr] at h;exact wpAny_eqBool_str h
  «strs»:=fun k x t v h=>by
    rcases keyIs_shape h with ⟨i,u,rfl,e⟩ | ⟨y,u,rfl,e⟩
    · exact nomatch e
    · injection e with e1 _
      subst e1
      cases v<;>rfl
end L2
namespace L2
open PySem PySem.Spec PyProof.Rows
inductive V where
  | non | bl (b:Bool) | int (i:Int) | str (x:Str) | byt (b:Array UInt8) | flt (b:UInt64) | ref (a:Addr) | ty (n:String)
  deriving DecidableEq
def RelV:V→Value→Prop
  | .non,u=>u=Value.none
  | .bl b,u=>u=Value.bool b
  | .int i,u=>∃ t,u=Value.int i t
  | .str x,u=>∃ t,u=Value.str x t
  | .byt b,u=>∃ t,u=Value.bytes b t
  | .flt b,u=>∃ t,u=Value.float b t
  | .ref a,u=>u=Value.ref a
  | .ty n,u=>u=Value.type n
abbrev Vals:List V→List Value→Prop:=Paired RelV
theorem Vals.length {xs:List V} {us:List Value} (r:Vals xs us):xs.length=us.length:=Paired.length r
theorem Vals.get:∀ {xs:List V} {us:List Value} {i:Nat} {x:V},Vals xs us→xs[i]? = some x→∃ u,us[i]? = some u∧RelV x u
  | _,_,_,_,.nil,e=>by simp at e
  | _,_,0,_,.cons r _,e=>by simp at e;subst e;exact ⟨_,rfl,r⟩
  | _,_,i+1,x,.cons _ t,e=>by
    obtain ⟨u,h1,h2⟩:=Vals.get (i:=i) (x:=x) t (by simpa using e)
    exact ⟨u,by simpa using h1,h2⟩
theorem Vals.append:∀ {xs ys:List V} {us ws:List Value},Vals xs us→Vals ys ws→Vals (xs++ys) (us++ws)
  | _,_,_,_,.nil,s=>s
  | _,_,_,_,.cons r t,s=>.cons r (Vals.append t s)
def RelO:Option V→Option Value→Prop
  | some v,some u=>RelV v u
  | none,none=>True
  | _,_=>False
def KV {κ:Type}:List (κ×V)→List (κ×Value)→Prop:=Paired fun (p:κ×V) (q:κ×Value)=>p.1=q.1∧RelV p.2 q.2
def kV:Key→V
  | .inl i=>.int i
  | .inr x=>.str x
inductive HO where
  /-- a list -/
  | lst (xs:List V)
  /-- a tuple (never changes) -/
  | tup (xs:List V)
  /-- a dict whose keys are ints and texts;one whose keys are tuples of ints and texts (the empty one is both) -/
  | dK (kvs:List (Key×V)) | dT (kvs:List (List Key×V))
  /-- a set of ints: its members,its size -/
  | set (S:Int→Bool) (n:Nat)
  /-- an instance of the class at C,its dict at dx,its attributes -/
  | ins (C dx:Addr) (fs:List (Str×V))
  /-- the dict of the instance at x -/
  | own (x:Addr)
  /-- the dict of an exception -/
  | xd (fs:List (Str×V))
  /-- a bound method,f of x -/
  | met (f x:Addr)
  /-- a range object lo,lo+1,.. below hi -/
  | rng (lo hi:Int)
  /-- a thing that is known to the object (the script;a dict while a loop walks it): read,never written while it is so -/
  | frz (o:Obj) (u:HO)
  /-- a code object's table -/
  | tbl (ps:Array Value)
  /-- any other thing,by what is true of its one object (a def of one's own: SetO a S n:=HO.ext fun h=>..) -/
  | ext (φ:Heap→Prop)
abbrev Hp:=Addr→Option HO
def upd (H:Hp) (a:Addr) (o:HO):Hp:=fun b=>if b=a then some o else H b
theorem upd_same {H:Hp} {a:Addr} {o:HO}:upd H a o a=some o:=by unfold upd;rw [if_pos rfl]
theorem upd_ne {H:Hp} {a b:Addr} {o:HO} (h:b≠a):upd H a o b=H b:=by unfold upd;rw [if_neg h]
theorem ne_of_none {H:Hp} {a b:Addr} {o:HO} (h:H a=some o) (h':H b=none):a≠b:=by
  intro e;subst e;rw [h] at h';cases h'
section
variable (P:Program) (w:World)
def ObjOk (H:Hp) (h:Heap) (a:Addr):HO→Prop
  | .lst xs=>xs.length≤sizeLine∧∃ (its:List Value) (n:Nat),Vals xs its∧h.get? a=some { cls:=.type "list",data:=.seq its.toArray n }
  | .tup xs=>xs.length≤sizeLine∧∃ its:List Value,Vals xs its∧IsTup h a its.toArray
  | .dK kvs=>kvs.length≤sizeLine∧(a == sysModules)=false∧∃ vs,KV kvs vs∧h.DictOf (mixKind P w) a vs
  | .dT kvs=>kvs.length≤sizeLine∧(a == sysModules)=false∧∃ xs:List (List Key×Addr×Value),
      Paired (fun (p:List Key×V) (q:List Key×Addr×Value)=>p.1=q.1∧H q.2.1=some (.tup (p.1.map kV))∧RelV p.2 q.2.2) kvs xs ∧
      ∃ o es ep,h.get? a=some o∧o.ExactDict∧o.data=.dict es ep∧es.toList=xs.map (entryOfKey (tupleKind (mixKind P w)))∧(xs.map (·.1)).Nodup
  | .set S n=>h.SetOf (intKind P w) a S n
  | .ins C dx fs=>H dx=some (.own a)∧fs.length≤1000∧dx≠a∧h.get? a=some (PySem.W.instObj C dx) ∧
      ∃ mA,h.Ns1 dx mA∧(∀ f,RelO (fs.lookup f) (mA f))∧PySem.Within mA (fs.map (·.1))
  | .own _=>∃ o,h.get? a=some o
  | .xd fs=>∃ mA,h.Ns1 a mA∧∀ f,RelO (fs.lookup f) (mA f)
  | .rng lo hi=>∃ t u v,h.get? a=some { cls:=.type "range",data:=.fields #[.int lo t,.int hi u,.int 1 v] }
  | .frz o u=>h.get? a=some o∧ObjOk H h a u
  | .tbl ps=>h.get? a=some { cls:=.none,data:=.fields ps }
  | .met f x=>h.get? a=some (PySem.W.methodObj (.ref f) (.ref x))
  | .ext φ=>φ h∧(∃ o,h.get? a=some o)∧∀ h1 h2:Heap,φ h1→(∀ o,h1.get? a=some o→h2.get? a=some o)→φ h2
def HOk (H:Hp) (h:Heap):Prop:=∀ a o,H a=some o→ObjOk P w H h a o
end
section
variable {P:Program} {w:World} {H H':Hp} {h h':Heap} {a:Addr} {o:HO}
theorem ObjOk.lt (x:ObjOk P w H h a o):a<h.objs.size:=by
  cases o with
  | lst xs=>obtain ⟨_,_,_,_,e⟩:=x;exact Heap.lt_size e
  | tup xs=>obtain ⟨_,_,_,p⟩:=x;exact p.lt
  | dK kvs=>obtain ⟨_,_,_,_,o,_,_,e,_⟩:=x;exact Heap.lt_size e
  | dT kvs=>obtain ⟨_,_,_,_,o,_,_,e,_⟩:=x;exact Heap.lt_size e
  | set S n=>obtain ⟨o,_,_,_,e,_⟩:=x;exact Heap.lt_size e
  | ins C dx fs=>obtain ⟨_,_,_,e,_⟩:=x;exact Heap.lt_size e
  | own y=>obtain ⟨_,e⟩:=x;exact Heap.lt_size e
  | xd fs=>obtain ⟨_,⟨_,_,_,e,_⟩,_⟩:=x;exact Heap.lt_size e
  | rng lo hi=>obtain ⟨_,_,_,e⟩:=x;exact Heap.lt_size e
  | frz ob u=>obtain ⟨e,_⟩:=x;exact Heap.lt_size e
  | tbl ps=>exact Heap.lt_size (show h.get? a=some _ from x)
  | met f y=>exact Heap.lt_size (show h.get? a=some _ from x)
  | ext φ=>obtain ⟨_,⟨_,e⟩,_⟩:=x;exact Heap.lt_size e
theorem Paired.mapP {α β:Type} {F G:α→β→Prop}:∀ {l₁:List α} {l₂:List β},Paired F l₁ l₂→(∀ a b,F a b→G a b)→Paired G l₁ l₂
  | _,_,.nil,_=>.nil
  | _,_,.cons r t,f=>.cons (f _ _ r) (Paired.mapP t f)
theorem ObjOk.stay (x:ObjOk P w H h a o) (k:∀ b u,(b=a∨H b=some (.own a))→h.get? b=some u→h'.get? b=some u)
    (ho:∀ b,H b=some (.own a)→H' b=some (.own a)) (ht:∀ b xs,H b=some (.tup xs)→H' b=some (.tup xs)):ObjOk P w H' h' a o:=by
  induction o with
  | lst xs=>obtain ⟨z,its,n,r,e⟩:=x;exact ⟨z,its,n,r,k _ _ (.inl rfl) e⟩
  | tup xs=>obtain ⟨z,its,r,ob,e,c⟩:=x;exact ⟨z,its,r,ob,k _ _ (.inl rfl) e,c⟩
  | dK kvs=>obtain ⟨z,y,vs,r,ob,es,ep,e,c⟩:=x;exact ⟨z,y,vs,r,ob,es,ep,k _ _ (.inl rfl) e,c⟩
  | dT kvs =>
    obtain ⟨z,y,xs,r,ob,es,ep,e,c⟩:=x
    exact ⟨z,y,xs,Paired.mapP r fun p q z=>⟨z.1,ht _ _ z.2.1,z.2.2⟩,ob,es,ep,k _ _ (.inl rfl) e,c⟩
  | set S n=>obtain ⟨ob,es,ep,t,e,c⟩:=x;exact ⟨ob,es,ep,t,k _ _ (.inl rfl) e,c⟩
  | ins C dx fs =>
    obtain ⟨d,z,ne,e,mA,⟨od,es,ep,e2,c⟩,r⟩:=x
    exact ⟨ho _ d,z,ne,k _ _ (.inl rfl) e,mA,⟨od,es,ep,k _ _ (.inr d) e2,c⟩,r⟩
  | own y=>obtain ⟨ob,e⟩:=x;exact ⟨ob,k _ _ (.inl rfl) e⟩
  | xd fs=>obtain ⟨mA,⟨od,es,ep,e,c⟩,r⟩:=x;exact ⟨mA,⟨od,es,ep,k _ _ (.inl rfl) e,c⟩,r⟩
  | rng lo hi=>obtain ⟨t,u,v,e⟩:=x;exact ⟨t,u,v,k _ _ (.inl rfl) e⟩
  | frz ob u ih=>obtain ⟨e,q⟩:=x;exact ⟨k _ _ (.inl rfl) e,ih q⟩
  | tbl ps =>
    have e:h.get? a=some { cls:=.none,data:=.fields ps }:=x
    show h'.get? a=some { cls:=.none,data:=.fields ps }
    exact k a _ (.inl rfl) e
  | met f y =>
    have e:h.get? a=some (PySem.W.methodObj (.ref f) (.ref y)):=x
    show h'.get? a=some (PySem.W.methodObj (.ref f) (.ref y))
    exact k a _ (.inl rfl) e
  | ext φ=>obtain ⟨p,⟨o,e⟩,st⟩:=x;exact ⟨st _ _ p fun o q=>k _ _ (.inl rfl) q,⟨o,k _ _ (.inl rfl) e⟩,st⟩
theorem HOk.lt (x:HOk P w H h) (e:H a=some o):a<h.objs.size:=(x a o e).lt
theorem HOk.fresh (x:HOk P w H h) (e:h.objs.size≤a):H a=none:=by
  cases q:H a with
  | none=>rfl
  | some u=>exact absurd (Nat.lt_of_lt_of_le (x.lt q) e) (Nat.lt_irrefl _)
theorem HOk.kept (x:HOk P w H h) (k:∀ b u,h.get? b=some u→h'.get? b=some u):HOk P w H h':=fun a o e =>
  (x a o e).stay (fun b u _ q=>k b u q) (fun _ q=>q) fun _ _ q=>q
theorem HOk.laid (x:HOk P w H h) (k:∀ b u,h.get? b=some u→h'.get? b=some u) (hp:h.objs.size≤a) (new:ObjOk P w (upd H a o) h' a o):HOk P w (upd H a o) h':=fun b u e=>by
  have hn:=x.fresh hp
  by_cases hb:b=a
  · subst hb;rw [upd_same] at e;cases e;exact new
  · rw [upd_ne hb] at e
    exact (x b u e).stay (fun c v _ q=>k c v q) (fun c q=>by rw [upd_ne (ne_of_none q hn)];exact q) fun c xs q=>by rw [upd_ne (ne_of_none q hn)];exact q
end
def Rd (H:Hp) (a:Addr) (u:HO):Prop:=H a=some u∨∃ o,H a=some (.frz o u)
theorem Rd.ok {P:Program} {w:World} {H:Hp} {h:Heap} {a:Addr} {u:HO} (r:Rd H a u) (x:HOk P w H h):ObjOk P w H h a u:=by
  rcases r with r | ⟨o,r⟩
  · exact x a u r
  · obtain ⟨_,q⟩:=x a _ r
    exact q
def Mut:Option HO→Prop
  | some (.lst _)=>True
  | some (.dK _)=>True
  | some (.dT _)=>True
  | some (.set _ _)=>True
  | some (.ins _ _ _)=>True
  | some (.ext _)=>True
  | _=>False
section
variable {P:Program} {w:World} {H:Hp} {h h':Heap} {x e:Addr} {o':HO}
theorem HOk.write (ok:HOk P w H h) (mu:Mut (H x)) (he:e=x∨H e=some (.own x)) (k:∀ b u,b≠e→h.get? b=some u→h'.get? b=some u) (heo:∃ u,h'.get? e=some u)
    (new:ObjOk P w (upd H x o') h' x o'):HOk P w (upd H x o') h':=fun b u q=>by
  have nown:∀ c y,H c=some (.own y)→c≠x:=fun c y r z=>by subst z;rw [r] at mu;exact mu
  have ntup:∀ c xs,H c=some (.tup xs)→c≠x:=fun c xs r z=>by subst z;rw [r] at mu;exact mu
  by_cases hb:b=x
  · subst hb;rw [upd_same] at q;cases q;exact new
  · rw [upd_ne hb] at q
    by_cases hbe:b=e
    · have q':H b=some (.own x):=by
        rcases he with z | z
        · exact absurd (hbe.trans z) hb
        · rw [hbe];exact z
      rw [q] at q';cases q'
      obtain ⟨v,hv⟩:=heo
      exact ⟨v,by rw [hbe];exact hv⟩
    · refine (ok b u q).stay (fun c v hc r=>k c v ?_ r) (fun c r=>by rw [upd_ne (nown c b r)];exact r) fun c xs r=>by rw [upd_ne (ntup c xs r)];exact r
      rcases hc with rfl | hc
      · exact hbe
      · rintro rfl
        rcases he with z | z
        · exact nown c b hc z
        · rw [hc] at z;cases z;exact hb rfl
end
structure Un (fs ex:List Addr) (H H':Hp) (h h':Heap):Prop where
  keep:∀ b o,h.get? b=some o→H b=none→b∉fs→b∉ex→h'.get? b=some o
  slot:∀ b o,h.get? b=some o→H b=none→b∈fs→b∉ex→∃ sl,h'.get? b=some { o with slots:=sl }
  free:∀ b o,h.get? b=some o→H b=none→b∉ex→H' b=none
  there:∀ b o,h.get? b=some o→b∉ex→∃ o',h'.get? b=some o'
  tups:∀ b xs,H b=some (.tup xs)→H' b=some (.tup xs)
  frzs:∀ b o u,H b=some (.frz o u)→H' b=some (.frz o u)
  tbls:∀ b ps,H b=some (.tbl ps)→∃ more,H' b=some (.tbl (ps++more))
section
variable {fs fs' ex ex':List Addr} {H H1 H2:Hp} {h h1 h2 h':Heap} {a x e:Addr} {o:HO}
theorem Un.any (u:Un fs ex H H1 h h1) {b:Addr} {ob:Obj} (q:h.get? b=some ob) (n:H b=none) (hx:b∉ex):∃ sl,h1.get? b=some { ob with slots:=sl }:=by
  by_cases hb:b∈fs
  · exact u.slot b ob q n hb hx
  · exact ⟨ob.slots,u.keep b ob q n hb hx⟩
theorem Un.kept (k:∀ b u,h.get? b=some u→h'.get? b=some u):Un fs ex H H h h' :=
  ⟨fun b ob q _ _ _=>k b ob q,fun b ob q _ _ _=>⟨ob.slots,k b ob q⟩,fun _ _ _ n _=>n,fun b ob q _=>⟨ob,k b ob q⟩,fun _ _ q=>q,fun _ _ _ q=>q,fun _ ps q=>⟨#[],by rw [q];simp⟩⟩
theorem Un.refl:Un fs ex H H h h:=Un.kept fun _ _ q=>q
theorem Un.laid (k:∀ b u,h.get? b=some u→h'.get? b=some u) (hp:h.objs.size≤a) (hn:H a=none):Un fs ex H (upd H a o) h h' where
  keep:=fun b u q _ _ _=>k b u q
  slot:=fun b u q _ _ _=>⟨u.slots,k b u q⟩
  free:=fun b u q n _=>by rw [upd_ne (Nat.ne_of_lt (Nat.lt_of_lt_of_le (Heap.lt_size q) hp))];exact n
  there:=fun b u q _=>⟨u,k b u q⟩
  tups:=fun b xs q=>by rw [upd_ne (ne_of_none q hn)];exact q
  frzs:=fun b u xs q=>by rw [upd_ne (ne_of_none q hn)];exact q
  tbls:=fun b ps q=>⟨#[],by rw [upd_ne (ne_of_none q hn),q];simp⟩
theorem Un.write (mu:Mut (H x)) (he:e=x∨H e=some (.own x)) (k:∀ b u,b≠e→h.get? b=some u→h'.get? b=some u) (heo:∃ u,h'.get? e=some u):Un fs ex H (upd H x o) h h':=by
  have hx:∀ b,H b=none→b≠x:=fun b n z=>by subst z;rw [n] at mu;exact mu
  have hb:∀ b,H b=none→b≠e:=fun b n z=>by
    subst z
    rcases he with r | r
    · exact hx b n r
    · rw [n] at r;cases r
  have hm:∀ b u,H b=some u→¬ Mut (some u)→b≠x:=fun b u q nm z=>by subst z;rw [q] at mu;exact nm mu
  refine ⟨fun b u q n _ _=>k b u (hb b n) q,fun b u q n _ _=>⟨u.slots,k b u (hb b n) q⟩,fun b u q n _=>by rw [upd_ne (hx b n)];exact n,fun b u q _ => ?_,
    fun b xs q=>by rw [upd_ne (hm b _ q fun z=>z)];exact q,fun b u xs q=>by rw [upd_ne (hm b _ q fun z=>z)];exact q,fun b ps q=>⟨#[],by rw [upd_ne (hm b _ q fun z=>z),q];simp⟩⟩
  by_cases hbe:b=e
  · subst hbe;exact heo
  · exact ⟨u,k b u hbe q⟩
end
def trk (h:Heap) (H:Hp):List Addr:=(List.range h.objs.size).filter fun a=>(H a).isSome
def hidT (h:Heap) (H:Hp):Heap:=PySem.W.hideAll h (trk h H)
theorem hidT_size (h:Heap) (H:Hp):(hidT h H).objs.size=h.objs.size:=PySem.W.hideAll_size _ _
theorem hidT_get {h:Heap} {H:Hp} {b:Addr} {o:Obj} (e:h.get? b=some o) (n:H b=none):(hidT h H).get? b=some o :=
  PySem.W.hideAll_get _ e fun hm=>by
    have q:(H b).isSome=true:=(List.mem_filter.mp hm).2
    rw [n] at q;simp at q
theorem of_hidT {h:Heap} {H:Hp} {b:Addr} {o:Obj} (e:(hidT h H).get? b=some o):h.get? b=some o∧H b=none:=by
  have e':h.get? b=some o:=PySem.W.of_hideAll (trk h H) e
  refine ⟨e',?_⟩
  cases q:H b with
  | none=>rfl
  | some x =>
    have hm:b∈trk h H:=List.mem_filter.mpr ⟨List.mem_range.mpr (Heap.lt_size e'),by simp [q]⟩
    have z:(hidT h H).get? b=none:=PySem.W.hideAll_none (trk h H) hm
    rw [z] at e;cases e
def allNews (g h:Heap) (L:Addr):List (Addr×Obj):=(List.range h.objs.size).filterMap fun a=>if a=L∨(g.get? a).isSome=true then none else (h.get? a).map fun o=>(a,o)
def rest (g h:Heap) (L d:Addr):List (Addr×Obj):=(allNews g h L).filter fun p=>decide (p.1≠d)
end L2
namespace L2
open PySem PySem.Spec PyProof.Rows
structure Mod (K:PySem.W.Frag) (mg:Str→Option Value) (base:Heap):Prop where
  kin:K.In base
  glob:base.Ns mainGlobals mg
  blt:∃ mb,base.Ns builtinsNs mb∧∀ x:Str,x≠"__name__"→mb x=bootBuiltins x
  nolimit:base.NoLimit
structure Cx where
  prog:Program
  w:World
  K:PySem.W.Frag
  mg:Str→Option Value
  base:Heap
  A:Around
  N:List Str
  s₀:Shared
  H₀:Hp
  env:Env
  outer:List Env
  stack:List Env
  ex:List Addr
  fn:Str→Bool
  calm:Bool
  pn:List (Addr×Obj)
  xe:Value→Shared→Prop
def frs (l:List Env):List Addr:=l.filterMap (·.frame)
abbrev Cx.fs (X:Cx):List Addr:=frs X.outer
def Vis (sc:Scope) (x:Str):Prop:=sc.names.lookup x=some .local∨sc.names.lookup x=some .cell∨sc.names.lookup x=some .free
def Loc (sc:Scope) (x:Str):Prop:=sc.names.lookup x=some .local∨sc.names.lookup x=some .cell
def Look (env:Env) (h:Heap) (m:Str→Option Value) (x:Str) (u:Value):Prop :=
  (env.kindOf x=some .local∧m x=some u)∨((env.kindOf x=some .cell∨env.kindOf x=some .free)∧∃ c,env.cells.lookup x=some c∧h.IsCell c (some u))
structure Cx.Ok (X:Cx):Prop where
  mod:Mod X.K X.mg X.base
  kind:X.env.scope.kind=.function
  glob:X.env.globals=mainGlobals
  blt:X.env.builtins=builtinsNs
  above:X.s₀.heap.objs.size≤X.env.locals
  inj:∀ x y c,X.env.cells.lookup x=some c→X.env.cells.lookup y=some c→x=y
  has:∀ x,(X.env.kindOf x=some .cell∨X.env.kindOf x=some .free)→∃ c,X.env.cells.lookup x=some c
  cab:∀ x c,X.fn x=true→X.env.cells.lookup x=some c→X.s₀.heap.objs.size≤c
  hd:X.calm=true→X.A.handled=none
  frames:X.A.frames=some X.stack
  stk:X.stack=X.outer∨(X.stack=X.env::X.outer∧X.env.frame=some X.env.locals)
  exf:∀ b∈X.ex,b≠X.env.locals∧∀ x c,X.env.cells.lookup x=some c→c≠b
  bs:∀ b o,X.base.get? b=some o→X.s₀.heap.get? b=some o∧X.H₀ b=none
  bsz:X.base.objs.size≤X.s₀.heap.objs.size
  noex:∀ b o,X.base.get? b=some o→b∉X.ex
  exfs:∀ b∈X.ex,b∉X.fs
  funs:X.s₀.heap.FunFrames X.base X.outer
  frf:∀ b∈X.fs,X.H₀ b=none
structure Inv (X:Cx) (pins:List (Addr×Obj)) (σ:List (Option V)) (H:Hp) (s:Shared):Prop where
  ok:X.Ok
  os:s.os=X.s₀.os
  bare:AllBare s.gens
  base:Un X.fs X.ex X.H₀ H X.s₀.heap s.heap
  loc:∃ m,s.heap.Ns X.env.locals m∧∀ (i:Nat) (x:Str) (v:V),X.N[i]? = some x→σ[i]? = some (some v)→Vis X.env.scope x→∃ u,RelV v u∧Look X.env s.heap m x u
  cell:∀ x c,X.env.cells.lookup x=some c→∃ v,s.heap.IsCell c v
  free:H X.env.locals=none
  freeC:∀ x c,X.env.cells.lookup x=some c→H c=none
  pin:∀ p∈X.pn++pins,s.heap.get? p.1=some p.2∧H p.1=none∧p.1≠X.env.locals∧p.1∉X.fs∧∀ v,p.2.data ≠ .cell v
  hok:HOk X.prog X.w H s.heap
  len:σ.length=X.N.length
section
variable {X:Cx} {pins:List (Addr×Obj)} {σ:List (Option V)} {H H':Hp} {s:Shared} {h':Heap}
theorem Cx.Ok.nofr (ok:X.Ok) {b:Addr} {o:Obj} (e:X.base.get? b=some o):b∉X.fs:=fun hb=>by
  have:=(ok.funs.mem hb).1
  rw [e] at this;cases this
theorem Inv.bs (I:Inv X pins σ H s):∀ b o,X.base.get? b=some o→s.heap.get? b=some o∧H b=none:=fun b o e =>
  ⟨I.base.keep b o (I.ok.bs b o e).1 (I.ok.bs b o e).2 (I.ok.nofr e) (I.ok.noex b o e),I.base.free b o (I.ok.bs b o e).1 (I.ok.bs b o e).2 (I.ok.noex b o e)⟩
theorem Inv.bk (I:Inv X pins σ H s):∀ b o,X.base.get? b=some o→s.heap.get? b=some o:=fun b o e=>(I.bs b o e).1
theorem Inv.mod (I:Inv X pins σ H s):Mod X.K X.mg X.base:=I.ok.mod
theorem Inv.kIn (I:Inv X pins σ H s):X.K.In s.heap:=I.ok.mod.kin.keeps I.bk
theorem Inv.lt (I:Inv X pins σ H s):X.env.locals<s.heap.objs.size:=let ⟨_,hn,_⟩:=I.loc;hn.lt
theorem Inv.sz (I:Inv X pins σ H s):X.s₀.heap.objs.size≤s.heap.objs.size:=Nat.le_trans I.ok.above (Nat.le_of_lt I.lt)
theorem Inv.nofs (I:Inv X pins σ H s) {a:Addr} (h:s.heap.objs.size≤a):a∉X.fs:=fun hb=>by
  obtain ⟨_,o,ho,_⟩:=I.ok.funs.mem hb
  exact absurd (Nat.lt_of_lt_of_le (Heap.lt_size ho) (Nat.le_trans I.sz h)) (Nat.lt_irrefl _)
theorem Inv.cne (I:Inv X pins σ H s):∀ x c,X.env.cells.lookup x=some c→c≠X.env.locals:=fun x c e z=>by
  obtain ⟨v,o,ho,hd⟩:=I.cell x c e
  obtain ⟨m,⟨o',es,ep,ho',hd',_⟩,_⟩:=I.loc
  rw [z,ho'] at ho;cases ho;rw [hd'] at hd;cases hd
theorem Inv.funs (I:Inv X pins σ H s):s.heap.FunFrames X.base X.outer:=by
  have all:∀ (l:List Env),(∀ b∈frs l,b∈X.fs)→X.s₀.heap.FunFrames X.base l→s.heap.FunFrames X.base l:=by
    intro l
    induction l with
    | nil=>intro _ _;trivial
    | cons env r ih =>
      intro hs hl
      obtain ⟨hk,⟨L,o,hf,hn,ho,hd⟩,hr⟩:=hl
      have hL:L∈X.fs:=hs L (by unfold frs;rw [List.filterMap_cons,hf];exact List.mem_cons_self)
      obtain ⟨sl,e⟩:=I.base.slot L o ho (I.ok.frf L hL) hL fun z=>I.ok.exfs L z hL
      exact ⟨hk,⟨L,_,hf,hn,e,hd⟩,ih (fun b hb=>hs b (by unfold frs;rw [List.filterMap_cons,hf];exact List.mem_cons_of_mem _ hb)) hr⟩
  exact all X.outer (fun _ hb=>hb) I.ok.funs
theorem Inv.stack (I:Inv X pins σ H s):s.heap.FunFrames X.base X.stack:=by
  rcases I.ok.stk with e | ⟨e,hf⟩
  · rw [e];exact I.funs
  · rw [e]
    obtain ⟨m,hn,_⟩:=I.loc
    refine .cons (by rw [I.ok.kind];decide) hf hn ?_ I.funs
    exact Heap.get?_none_of_le (Nat.le_trans I.ok.bsz I.ok.above)
theorem Inv.stkSub (I:Inv X pins σ H s):∀ b∈frs X.stack,b∈X.env.locals::X.fs:=fun b hb=>by
  rcases I.ok.stk with e | ⟨e,hf⟩
  · rw [e] at hb;exact List.mem_cons_of_mem _ hb
  · rw [e] at hb
    unfold frs at hb
    rw [List.filterMap_cons,hf] at hb
    exact hb
theorem Inv.stkFree (I:Inv X pins σ H s):∀ b∈frs X.stack,H b=none:=fun b hb=>by
  rcases List.mem_cons.mp (I.stkSub b hb) with e | hb
  · rw [e];exact I.free
  · obtain ⟨_,o,ho,_⟩:=I.ok.funs.mem hb
    exact I.base.free b o ho (I.ok.frf b hb) fun z=>I.ok.exfs b z hb
theorem Inv.step {g':Array GenState} {t':Nat} {d':Drawn} {ch:List Addr} (I:Inv X pins σ H s)
    (hch:∀ b∈ch,(b∈X.ex∨X.s₀.heap.objs.size≤b)∧b≠X.env.locals∧(∀ x c,X.env.cells.lookup x=some c→c≠b)∧∀ p∈X.pn++pins,p.1≠b)
    (keep:∀ b o,b≠X.env.locals→b∉X.fs→b∉ch→s.heap.get? b=some o→H b=none→h'.get? b=some o)
    (slot:∀ b o,b≠X.env.locals→b∈X.fs→b∉ch→s.heap.get? b=some o→H b=none→∃ sl,h'.get? b=some { o with slots:=sl }) (free:∀ b o,b∉ch→s.heap.get? b=some o→H b=none→H' b=none)
    (there:∀ b o,b∉ch→s.heap.get? b=some o→∃ o',h'.get? b=some o')
    (tups:∀ b xs,H b=some (.tup xs)→H' b=some (.tup xs)) (frzs:∀ b o u,H b=some (.frz o u)→H' b=some (.frz o u)) (tbls:∀ b ps,H b=some (.tbl ps)→∃ more,H' b=some (.tbl (ps++more)))
    (ns:∀ m,s.heap.Ns X.env.locals m→h'.Ns X.env.locals m) (hok:HOk X.prog X.w H' h') (hg:AllBare g') :
    Inv X pins σ H' { s with heap:=h',gens:=g',drawn:=d',toks:=t' }:=by
  have neL:∀ b o,X.s₀.heap.get? b=some o→b≠X.env.locals:=fun b o e=>Nat.ne_of_lt (Nat.lt_of_lt_of_le (Heap.lt_size e) I.ok.above)
  have neC:∀ b o,X.s₀.heap.get? b=some o→b∉X.ex→b∉ch:=fun b o e hx hb=>by
    rcases (hch b hb).1 with z | z
    · exact hx z
    · exact absurd (Nat.lt_of_lt_of_le (Heap.lt_size e) z) (Nat.lt_irrefl _)
  have cellK:∀ x c,X.env.cells.lookup x=some c→∀ v,s.heap.IsCell c v→h'.IsCell c v:=fun x c e v ⟨o,ho,hd⟩=>by
    have nch:c∉ch:=fun z=>(hch c z).2.2.1 x c e rfl
    by_cases hc:c∈X.fs
    · obtain ⟨sl,q⟩:=slot c o (I.cne x c e) hc nch ho (I.freeC x c e)
      exact ⟨_,q,hd⟩
    · exact ⟨o,keep c o (I.cne x c e) hc nch ho (I.freeC x c e),hd⟩
  refine ⟨I.ok,I.os,hg,⟨fun b o e n hb hx => ?_,fun b o e n hb hx => ?_,fun b o e n hx => ?_,fun b o e hx => ?_,fun b xs e=>tups b xs (I.base.tups b xs e),fun b o xs e=>frzs b o xs (I.base.frzs b o xs e),fun b ps e => ?_⟩,?_,fun x c e => ?_,?_,fun x c e => ?_,fun p hp => ?_,hok,I.len⟩
  · exact keep b o (neL b o e) hb (neC b o e hx) (I.base.keep b o e n hb hx) (I.base.free b o e n hx)
  · obtain ⟨sl,e1⟩:=I.base.slot b o e n hb hx
    obtain ⟨sl',e2⟩:=slot b _ (neL b o e) hb (neC b o e hx) e1 (I.base.free b o e n hx)
    exact ⟨sl',e2⟩
  · obtain ⟨o',e1⟩:=I.base.there b o e hx
    exact free b o' (neC b o e hx) e1 (I.base.free b o e n hx)
  · obtain ⟨o',e1⟩:=I.base.there b o e hx
    exact there b o' (neC b o e hx) e1
  · obtain ⟨m1,e1⟩:=I.base.tbls b ps e
    obtain ⟨m2,e2⟩:=tbls b _ e1
    exact ⟨m1++m2,by rw [e2,Array.append_assoc]⟩
  · obtain ⟨m,hn,hl⟩:=I.loc
    refine ⟨m,ns m hn,fun i x v e1 e2 e3 => ?_⟩
    obtain ⟨u,r,l⟩:=hl i x v e1 e2 e3
    refine ⟨u,r,?_⟩
    rcases l with l | ⟨k,c,e,z⟩
    · exact .inl l
    · exact .inr ⟨k,c,e,cellK x c e _ z⟩
  · obtain ⟨v,z⟩:=I.cell x c e
    exact ⟨v,cellK x c e v z⟩
  · obtain ⟨m,⟨o,_,_,ho,_⟩,_⟩:=I.loc
    exact free _ o (fun z=>(hch _ z).2.1 rfl) ho I.free
  · obtain ⟨v,o,ho,hd⟩:=I.cell x c e
    exact free c o (fun z=>(hch c z).2.2.1 x c e rfl) ho (I.freeC x c e)
  · obtain ⟨e,n,ne,nf,d⟩:=I.pin p hp
    have nch:p.1∉ch:=fun z=>(hch p.1 z).2.2.2 p hp rfl
    exact ⟨keep p.1 p.2 ne nf nch e n,free p.1 p.2 nch e n,ne,nf,d⟩
theorem Inv.un {t':Nat} (I:Inv X pins σ H s) (u:Un X.fs [] H H' s.heap h') (hok:HOk X.prog X.w H' h'):Inv X pins σ H' { s with heap:=h',toks:=t' }:=by
  obtain ⟨m,⟨o,es,ep,ho,r⟩,_⟩:=id I.loc
  obtain ⟨sl,hL⟩:=u.any ho I.free (by simp)
  exact I.step (g':=s.gens) (d':=s.drawn) (ch:=[]) (fun _ z=>nomatch z) (fun b o _ hb _ e n=>u.keep b o e n hb (by simp)) (fun b o _ hb _ e n=>u.slot b o e n hb (by simp)) (fun b o _ e n=>u.free b o e n (by simp)) (fun b o _ e=>u.there b o e (by simp)) u.tups u.frzs u.tbls (fun m' hm=>by
    obtain ⟨o',es',ep',ho',r'⟩:=hm
    rw [ho] at ho';cases ho'
    exact ⟨_,es',ep',hL,r'⟩) hok I.bare
theorem Inv.call {g':Array GenState} {t':Nat} {d':Drawn} {ch:List Addr} (I:Inv X pins σ H s) (u:Un (frs X.stack) ch H H' s.heap h') (hok:HOk X.prog X.w H' h') (hg:AllBare g')
    (hch:∀ b∈ch,(b∈X.ex∨X.s₀.heap.objs.size≤b)∧b≠X.env.locals∧(∀ x c,X.env.cells.lookup x=some c→c≠b)∧∀ p∈X.pn++pins,p.1≠b) :
    Inv X pins σ H' { s with heap:=h',gens:=g',drawn:=d',toks:=t' }:=by
  obtain ⟨m,⟨o,es,ep,ho,r⟩,_⟩:=id I.loc
  obtain ⟨sl,hL⟩:=u.any ho I.free fun z=>(hch _ z).2.1 rfl
  exact I.step (ch:=ch) hch (fun b o hL hb hc e n=>u.keep b o e n (fun z=>(List.mem_cons.mp (I.stkSub b z)).elim hL hb) hc) (fun b o _ _ hc e n=>u.any e n hc) (fun b o hc e n=>u.free b o e n hc) (fun b o hc e=>u.there b o e hc) u.tups u.frzs u.tbls (fun m' hm=>by
    obtain ⟨o',es',ep',ho',r'⟩:=hm
    rw [ho] at ho';cases ho'
    exact ⟨_,es',ep',hL,r'⟩) hok hg
theorem Inv.turned {t':Nat} {it:Addr} (I:Inv X pins σ H s) (k:∀ b o,b≠it→s.heap.get? b=some o→h'.get? b=some o) (hn:H it=none) (hL:it≠X.env.locals)
    (h1:it∈X.ex∨X.s₀.heap.objs.size≤it) (h2:∀ x c,X.env.cells.lookup x=some c→c≠it) (h3:∀ p∈X.pn++pins,p.1≠it):Inv X pins σ H { s with heap:=h',toks:=t' }:=by
  have nit:∀ b u,H b=some u→b≠it:=fun b u e z=>by rw [z,hn] at e;cases e
  refine I.step (g':=s.gens) (d':=s.drawn) (ch:=[it]) (fun b hb => ?_) (fun b o _ _ hc e _=>k b o (fun z=>hc (by simp [z])) e) (fun b o _ _ hc e _=>⟨o.slots,k b o (fun z=>hc (by simp [z])) e⟩) (fun _ _ _ _ n=>n)
    (fun b o hc e=>⟨o,k b o (fun z=>hc (by simp [z])) e⟩) (fun _ _ e=>e) (fun _ _ _ e=>e) (fun b ps e=>⟨#[],by rw [e];simp⟩) (fun m hm => ?_) (fun b u e => ?_) I.bare
  · have e:b=it:=by simpa using hb
    subst e
    exact ⟨h1,hL,h2,h3⟩
  · obtain ⟨o,es,ep,ho,r⟩:=hm
    exact ⟨o,es,ep,k _ o (Ne.symm hL) ho,r⟩
  · refine (I.hok b u e).stay (fun c v hc q=>k c v ?_ q) (fun _ q=>q) fun _ _ q=>q
    rcases hc with z | z
    · rw [z];exact nit b u e
    · exact nit c _ z
theorem Inv.tok (I:Inv X pins σ H s) (t:Nat):Inv X pins σ H { s with toks:=t }:=I.un (h':=s.heap) (t':=t) Un.refl I.hok
theorem Inv.kept {t':Nat} (I:Inv X pins σ H s) (k:∀ b u,s.heap.get? b=some u→h'.get? b=some u):Inv X pins σ H { s with heap:=h',toks:=t' }:=I.un (Un.kept k) (I.hok.kept k)
theorem Inv.laid {a:Addr} {o:HO} {t':Nat} (I:Inv X pins σ H s) (k:∀ b u,s.heap.get? b=some u→h'.get? b=some u) (hp:s.heap.objs.size≤a) (new:ObjOk X.prog X.w (upd H a o) h' a o) :
    Inv X pins σ (upd H a o) { s with heap:=h',toks:=t' }:=I.un (Un.laid k hp (I.hok.fresh hp)) (I.hok.laid k hp new)
theorem Inv.write {x e:Addr} {o:HO} {t':Nat} (I:Inv X pins σ H s) (mu:Mut (H x)) (he:e=x∨H e=some (.own x)) (k:∀ b u,b≠e→s.heap.get? b=some u→h'.get? b=some u) (heo:∃ u,h'.get? e=some u)
    (new:ObjOk X.prog X.w (upd H x o) h' x o):Inv X pins σ (upd H x o) { s with heap:=h',toks:=t' }:=I.un (Un.write mu he k heo) (I.hok.write mu he k heo new)
theorem Inv.pins_of {pins':List (Addr×Obj)} (I:Inv X pins σ H s) (h:∀ p∈pins',s.heap.get? p.1=some p.2∧H p.1=none∧p.1≠X.env.locals∧p.1∉X.fs∧∀ v,p.2.data ≠ .cell v):Inv X pins' σ H s :=
  ⟨I.ok,I.os,I.bare,I.base,I.loc,I.cell,I.free,I.freeC,fun p hp=>(List.mem_append.mp hp).elim (fun z=>I.pin p (List.mem_append_left _ z)) (h p),I.hok,I.len⟩
theorem nodup_ix {N:List Str} (hN:N.Nodup) {i j:Nat} {x:Str} (a:N[i]? = some x) (b:N[j]? = some x):i=j:=by
  obtain ⟨h1,e1⟩:=List.getElem?_eq_some_iff.mp a
  obtain ⟨h2,e2⟩:=List.getElem?_eq_some_iff.mp b
  exact (List.getElem_inj hN).mp (e1.trans e2.symm)
theorem store_ok2 {M:Model} {A:Around} {E:Value→Shared→Prop} {i:Nat} {x:Str} {v:V} {u:Value} {Q:Unit→Shared→Prop} (I:Inv X pins σ H s) (hN:X.N.Nodup) (hi:X.N[i]? = some x) (hx:Loc X.env.scope x) (r:RelV v u)
    (h:∀ s',Inv X pins (σ.set i (some v)) H s'→(∃ a,Heap.SameBut a s.heap s'.heap∧(a=X.env.locals∨X.env.cells.lookup x=some a))→Q () s') (hf:X.fn x=true∨X.env.scope.names.lookup x=some .local:=by first | exact .inl rfl | exact .inr rfl | assumption):wpAny M A (storeName X.env x u) Q E s:=by
  obtain ⟨m,hn,hl⟩:=id I.loc
  have hcls:(X.env.scope.kind == .class||(X.env.scope.kind == .module&&X.env.locals != X.env.globals))=false:=by rw [I.ok.kind];rfl
  have hiσ:i<σ.length:=by rw [I.len];exact (List.getElem?_eq_some_iff.mp hi).1
  have cne:=I.cne
  have tracked:∀ {a:Addr} {h':Heap},(∃ o,s.heap.get? a=some o∧H a=none)→Heap.SameBut a s.heap h'→HOk X.prog X.w H h':=fun {a h'} ha hs b ob e=>by
    obtain ⟨_,_,hfree⟩:=ha
    refine (I.hok b ob e).stay (fun c w' hc q=>(hs.2 c ?_).trans q) (fun _ q=>q) fun _ _ q=>q
    rintro rfl
    rcases hc with rfl | hc
    · rw [hfree] at e;cases e
    · rw [hfree] at hc;cases hc
  rcases hx with hk | hk
  · refine wpAny_storeName_local hk hn (fun h' hn' hs => ?_) hcls
    obtain ⟨oL,_,_,hoL,_⟩:=id hn
    refine h _ ⟨I.ok,I.os,I.bare,⟨fun b o e n hb hx => ?_,fun b o e n hb hx => ?_,I.base.free,fun b o e hx => ?_,I.base.tups,I.base.frzs,I.base.tbls⟩,⟨_,hn',fun j y v' e1 e2 e3 => ?_⟩,fun y c e => ?_,I.free,I.freeC,fun p hp => ?_,tracked ⟨oL,hoL,I.free⟩ hs,by simpa using I.len⟩ ⟨_,hs,.inl rfl⟩
    · exact (hs.2 b (Nat.ne_of_lt (Nat.lt_of_lt_of_le (Heap.lt_size e) I.ok.above))).trans (I.base.keep b o e n hb hx)
    · obtain ⟨sl,e1⟩:=I.base.slot b o e n hb hx
      exact ⟨sl,(hs.2 b (Nat.ne_of_lt (Nat.lt_of_lt_of_le (Heap.lt_size e) I.ok.above))).trans e1⟩
    · obtain ⟨o',e1⟩:=I.base.there b o e hx
      exact ⟨o',(hs.2 b (Nat.ne_of_lt (Nat.lt_of_lt_of_le (Heap.lt_size e) I.ok.above))).trans e1⟩
    · by_cases hj:j=i
      · subst hj
        rw [hi] at e1;cases e1
        rw [List.getElem?_set_self hiσ] at e2
        cases e2
        exact ⟨u,r,.inl ⟨hk,by simp⟩⟩
      · rw [List.getElem?_set_ne (Ne.symm hj)] at e2
        obtain ⟨u',r',q⟩:=hl j y v' e1 e2 e3
        refine ⟨u',r',?_⟩
        rcases q with ⟨k,e⟩ | ⟨k,c,e,z⟩
        · refine .inl ⟨k,?_⟩
          have:y≠x:=fun e=>hj (nodup_ix hN e1 (e▸hi))
          simp [this,e]
        · exact .inr ⟨k,c,e,z.sameBut hs (cne y c e)⟩
    · obtain ⟨w',z⟩:=I.cell y c e
      exact ⟨w',z.sameBut hs (cne y c e)⟩
    · obtain ⟨e,n,ne,nf,d⟩:=I.pin p hp
      exact ⟨(hs.2 p.1 ne).trans e,n,ne,nf,d⟩
  · have hfn:X.fn x=true:=by
      rcases hf with z | z
      · exact z
      · rw [z] at hk;cases hk
    obtain ⟨c,hc⟩:=I.ok.has x (.inl hk)
    obtain ⟨w',z⟩:=I.cell x c hc
    refine wpAny_storeName_cell I.ok.kind hk hc z (fun h' hc' hs => ?_)
    obtain ⟨oc,hoc,hocd⟩:=id z
    refine h { s with heap:=h' } ⟨I.ok,I.os,I.bare,⟨fun b o e n hb hx => ?_,fun b o e n hb hx => ?_,I.base.free,fun b o e hx => ?_,I.base.tups,I.base.frzs,I.base.tbls⟩,⟨m,hn.sameBut hs (Ne.symm (cne x c hc)),fun j y v' e1 e2 e3 => ?_⟩,fun y c' e => ?_,I.free,I.freeC,fun p hp => ?_,tracked ⟨oc,hoc,I.freeC x c hc⟩ hs,by simpa using I.len⟩ ⟨c,hs,.inr hc⟩
    · exact (hs.2 b (Nat.ne_of_lt (Nat.lt_of_lt_of_le (Heap.lt_size e) (I.ok.cab x c hfn hc)))).trans (I.base.keep b o e n hb hx)
    · obtain ⟨sl,e1⟩:=I.base.slot b o e n hb hx
      exact ⟨sl,(hs.2 b (Nat.ne_of_lt (Nat.lt_of_lt_of_le (Heap.lt_size e) (I.ok.cab x c hfn hc)))).trans e1⟩
    · obtain ⟨o',e1⟩:=I.base.there b o e hx
      exact ⟨o',(hs.2 b (Nat.ne_of_lt (Nat.lt_of_lt_of_le (Heap.lt_size e) (I.ok.cab x c hfn hc)))).trans e1⟩
    · by_cases hj:j=i
      · subst hj
        rw [hi] at e1;cases e1
        rw [List.getElem?_set_self hiσ] at e2
        cases e2
        exact ⟨u,r,.inr ⟨.inl hk,c,hc,hc'⟩⟩
      · rw [List.getElem?_set_ne (Ne.symm hj)] at e2
        obtain ⟨u',r',q⟩:=hl j y v' e1 e2 e3
        refine ⟨u',r',?_⟩
        rcases q with q | ⟨k,c',e,z'⟩
        · exact .inl q
        · refine .inr ⟨k,c',e,z'.sameBut hs ?_⟩
          rintro rfl
          exact hj (nodup_ix hN e1 (I.ok.inj _ _ _ e hc▸hi))
    · by_cases hcc:c'=c
      · subst hcc;exact ⟨_,hc'⟩
      · obtain ⟨w2,z2⟩:=I.cell y c' e
        exact ⟨w2,z2.sameBut hs hcc⟩
    · obtain ⟨e,n,ne,nf,d⟩:=I.pin p hp
      refine ⟨(hs.2 p.1 ?_).trans e,n,ne,nf,d⟩
      intro q
      rw [q,hoc] at e
      have q':oc=p.2:=Option.some.inj e
      exact d w' (by rw [← q'];exact hocd)
theorem store_ok {M:Model} {A:Around} {E:Value→Shared→Prop} {i:Nat} {x:Str} {v:V} {u:Value} {Q:Unit→Shared→Prop} (I:Inv X pins σ H s) (hN:X.N.Nodup) (hi:X.N[i]? = some x) (hx:Loc X.env.scope x) (r:RelV v u)
    (h:∀ s',Inv X pins (σ.set i (some v)) H s'→Q () s') (hf:X.fn x=true∨X.env.scope.names.lookup x=some .local:=by first | exact .inl rfl | exact .inr rfl | assumption):wpAny M A (storeName X.env x u) Q E s :=
  store_ok2 I hN hi hx r (fun s' I' _=>h s' I') hf
theorem Inv.call' {s':Shared} {ch:List Addr} (I:Inv X pins σ H s) (ho:s'.os=s.os) (u:Un (frs X.stack) ch H H' s.heap s'.heap) (hok:HOk X.prog X.w H' s'.heap) (hg:AllBare s'.gens)
    (hch:∀ b∈ch,(b∈X.ex∨X.s₀.heap.objs.size≤b)∧b≠X.env.locals∧(∀ x c,X.env.cells.lookup x=some c→c≠b)∧∀ p∈X.pn++pins,p.1≠b):Inv X pins σ H' s':=by
  obtain ⟨h',g',d',t',o'⟩:=s'
  have e:o'=s.os:=ho
  subst e
  exact I.call (g':=g') (t':=t') (d':=d') u hok hg hch
end
abbrev XK:=Value→Option Addr→Hp→Prop
abbrev St:=List (Option V)
abbrev VK:=V→Hp→Prop
abbrev TE:=St→Hp→VK→Prop
abbrev TT:=St→Hp→(Bool→Hp→Prop)→Prop
abbrev TA:=St→Hp→(List V→Hp→Prop)→Prop
structure Ends where
  nx:St→Hp→Prop
  rt:VK
  bk:St→Hp→Prop:=fun _ _=>False
  ct:St→Hp→Prop:=fun _ _=>False
abbrev TS:=Ends→St→Hp→Prop
def EP (X:Cx) (pins:List (Addr×Obj)) (σ:St) (Q:VK) (u:Value) (s':Shared):Prop:=∃ v H',Inv X pins σ H' s'∧RelV v u∧Q v H'
def TP (X:Cx) (pins:List (Addr×Obj)) (σ:St) (Q:Bool→Hp→Prop) (b:Bool) (s':Shared):Prop:=∃ H',Inv X pins σ H' s'∧Q b H'
def AP (X:Cx) (pins:List (Addr×Obj)) (σ:St) (Q:List V→Hp→Prop) (us:List Value) (s':Shared):Prop:=∃ vs H',Inv X pins σ H' s'∧Vals vs us∧Q vs H'
def SP (X:Cx) (pins:List (Addr×Obj)) (D:Ends) (f:Flow) (s':Shared):Prop :=
  match f with
  | .next=>∃ σ' H',Inv X pins σ' H' s'∧D.nx σ' H'
  | .brk=>∃ σ' H',Inv X pins σ' H' s'∧D.bk σ' H'
  | .cont=>∃ σ' H',Inv X pins σ' H' s'∧D.ct σ' H'
  | .ret u=>∃ v σ' H',Inv X pins σ' H' s'∧RelV v u∧D.rt v H'
def PE (X:Cx) (e:Expr) (t:TE):Prop :=
  ∀ (pins:List (Addr×Obj)) (s:Shared) (σ:St) (H:Hp) (Q:VK),Inv X pins σ H s→t σ H Q→wpAny (model X.prog X.w) X.A (eval e X.env) (EP X pins σ Q) X.xe s
def PT (X:Cx) (e:Expr) (t:TT):Prop :=
  ∀ (pins:List (Addr×Obj)) (s:Shared) (σ:St) (H:Hp) (Q:Bool→Hp→Prop),Inv X pins σ H s→t σ H Q→wpAny (model X.prog X.w) X.A (isTrue e X.env (eval e X.env)) (TP X pins σ Q) X.xe s
def PW (X:Cx) (e:Expr) (t:TT):Prop :=
  ∀ (whole:Sem Value) (pins:List (Addr×Obj)) (s:Shared) (σ:St) (H:Hp) (Q:Bool→Hp→Prop),Inv X pins σ H s→t σ H Q→wpAny (model X.prog X.w) X.A (isTrue e X.env whole) (TP X pins σ Q) X.xe s
theorem PW.pt {X:Cx} {e:Expr} {t:TT} (h:PW X e t):PT X e t:=h _
def PA (X:Cx) (es:List Expr) (t:TA):Prop :=
  ∀ (pos:Pos) (pins:List (Addr×Obj)) (s:Shared) (σ:St) (H:Hp) (Q:List V→Hp→Prop),Inv X pins σ H s→t σ H Q→wpAny (model X.prog X.w) X.A (spliced (backTo pos (starEach es X.env))) (AP X pins σ Q) X.xe s
def PS (X:Cx) (st:Stmt) (t:TS):Prop :=
  ∀ (pins:List (Addr×Obj)) (s:Shared) (σ:St) (H:Hp) (D:Ends),Inv X pins σ H s→t D σ H→wpAny (model X.prog X.w) X.A (exec st X.env) (SP X pins D) X.xe s
def PSs (X:Cx) (st:List Stmt) (t:TS):Prop :=
  ∀ (pins:List (Addr×Obj)) (s:Shared) (σ:St) (H:Hp) (D:Ends),Inv X pins σ H s→t D σ H→wpAny (model X.prog X.w) X.A (execs st X.env) (SP X pins D) X.xe s
theorem thn {α:Type} {t:Sem α} {Q Q':α→Shared→Prop} {M:Model} {A:Around} {E:Value→Shared→Prop} {s:Shared} (h:wpAny M A t Q E s) (hQ:∀ a s,Q a s→Q' a s):wpAny M A t Q' E s:=wpAny_mono h hQ fun _ _ x=>x
end L2
namespace L2
open PySem PySem.Spec PyProof.Rows
section
variable {X:Cx}
theorem bin {a b:Expr} {ta tb:TE} (ha:PE X a ta) (hb:PE X b tb) {pins:List (Addr×Obj)} {s:Shared} {σ:St} {H:Hp} {R:V→V→Hp→Prop} (I:Inv X pins σ H s) (h:ta σ H fun x H1=>tb σ H1 fun y H2=>R x y H2)
    {α:Type} {Q:α→Shared→Prop} {f:Value→Value→Sem α}
    (hf:∀ v u s2 x y H2,Inv X pins σ H2 s2→RelV x v→RelV y u→R x y H2→wpAny (model X.prog X.w) X.A (f v u) Q X.xe s2) :
    wpAny (model X.prog X.w) X.A (eval a X.env) (fun v s₁=>wpAny (model X.prog X.w) X.A (eval b X.env) (fun u s₂=>wpAny (model X.prog X.w) X.A (f v u) Q X.xe s₂) X.xe s₁) X.xe s:=by
  refine thn (ha pins s σ H _ I h) fun v s1 ⟨x,H1,I1,r1,q1⟩ => ?_
  refine thn (hb pins s1 σ H1 _ I1 q1) fun u s2 ⟨y,H2,I2,r2,q2⟩ => ?_
  exact hf v u s2 x y H2 I2 r1 r2 q2
def tVar (i:Nat):TE:=fun σ H Q=>∃ v,σ[i]? = some (some v)∧Q v H
def tC (v:V):TE:=fun _ H Q=>Q v H
theorem pe_var {i:Nat} {x:Str} {pos:Pos} (hN:X.N[i]? = some x) (hv:Vis X.env.scope x) (hd:(x == ("__debug__":Str))=false:=by decide) (hcd:(x == ("__classdict__":Str))=false:=by decide):PE X (.Name x pos) (tVar i):=by
  intro pins s σ H Q I h
  obtain ⟨v,e,h⟩:=h
  obtain ⟨m,hn,hl⟩:=I.loc
  obtain ⟨u,r,l⟩:=hl i x v hN e hv
  have fin:EP X pins σ Q u s:=⟨v,H,I,r,h⟩
  rcases l with ⟨hk,hm⟩ | ⟨hk,c,hc,hcell⟩
  · exact wpAny_Name (wpAny_loadName_local I.ok.kind hk hn hm fin) hd
  · rcases hk with hk | hk
    · exact wpAny_Name (wpAny_loadName_cell I.ok.kind hk hc hcell fin) hd
    · exact wpAny_Name (wpAny_loadName_free I.ok.kind hk hc hcell fin hcd) hd
theorem pe_int {i j pos}:PE X (.Constant (.int i) j pos) (tC (.int i)):=fun _ _ _ H _ I h=>wpAny_Constant_int ⟨.int i,H,I.tok _,⟨_,rfl⟩,h⟩
theorem pe_bl {b j pos}:PE X (.Constant (.bool b) j pos) (tC (.bl b)):=fun _ _ _ H _ I h=>Constant_bool ⟨.bl b,H,I,rfl,h⟩
theorem pe_non {j pos}:PE X (.Constant .none j pos) (tC .non):=fun _ _ _ H _ I h=>Constant_none ⟨.non,H,I,rfl,h⟩
theorem pe_str {x j pos}:PE X (.Constant (.str x) j pos) (tC (.str x)):=fun _ _ _ H _ I h=>Calls.Constant_str ⟨.str x,H,I.tok _,⟨_,rfl⟩,h⟩
def Gl (X:Cx) (x:Str):Prop:=X.env.kindOf x=some .globalImplicit
theorem ld_glob {E:Value→Shared→Prop} {pins:List (Addr×Obj)} {s:Shared} {σ:St} {H:Hp} {x:Str} {u:Value} {pos:Pos} {Q:Value→Shared→Prop} (I:Inv X pins σ H s) (hg:Gl X x) (hm:X.mg x=some u) (h:Q u s)
    (hd:(x == ("__debug__":Str))=false:=by decide):wpAny (model X.prog X.w) X.A (eval (.Name x pos) X.env) Q E s :=
  Calls.Name_function_global I.ok.kind hg (Calls.loadGlobal_global (by rw [I.ok.glob];exact I.mod.glob.keeps I.bk) hm h) hd
theorem ld_blt {E:Value→Shared→Prop} {pins:List (Addr×Obj)} {s:Shared} {σ:St} {H:Hp} {x:Str} {u:Value} {pos:Pos} {Q:Value→Shared→Prop} (I:Inv X pins σ H s) (hg:Gl X x) (hm:X.mg x=none) (hv:bootBuiltins x=some u) (h:Q u s)
    (hn:x≠"__name__":=by decide) (hd:(x == ("__debug__":Str))=false:=by decide):wpAny (model X.prog X.w) X.A (eval (.Name x pos) X.env) Q E s:=by
  obtain ⟨mb,h1,h2⟩:=I.mod.blt
  exact Calls.Name_function_global I.ok.kind hg (Calls.loadGlobal_builtin (by rw [I.ok.glob];exact I.mod.glob.keeps I.bk) hm (by rw [I.ok.blt];exact h1.keeps I.bk) ((h2 x hn).trans hv) h) hd
theorem pe_glob {x:Str} {v:V} {u:Value} {pos:Pos} (hg:Gl X x) (hm:X.mg x=some u) (r:RelV v u) (hd:(x == ("__debug__":Str))=false:=by decide):PE X (.Name x pos) (tC v) :=
  fun _ _ _ H _ I h=>ld_glob I hg hm ⟨v,H,I,r,h⟩ hd
theorem pe_bltn {x:Str} {v:V} {u:Value} {pos:Pos} (hg:Gl X x) (hm:X.mg x=none) (hv:bootBuiltins x=some u) (r:RelV v u) (hn:x≠"__name__":=by decide) (hd:(x == ("__debug__":Str))=false:=by decide):PE X (.Name x pos) (tC v) :=
  fun _ _ _ H _ I h=>ld_blt I hg hm hv ⟨v,H,I,r,h⟩ hn hd
variable {a b:Expr} {ta tb:TE} {pos:Pos}
def tB (t:TE):TT:=fun σ H Q=>t σ H fun x H1=>∃ c,x=.bl c∧Q c H1
theorem pt_val {e:Expr} {t:TE} (h:PE X e t) (he:∀ whole,isTrue e X.env whole=(do let v ← whole;standAt e.pos;holding [v] (truthy v)):=by intro _;rfl):PT X e (tB t):=by
  intro pins s σ H Q I hw
  refine isTrue_plain (thn (h pins s σ H _ I hw) fun v s1 ⟨x,H1,I1,r1,q1⟩ => ?_) (he _)
  obtain ⟨d,rfl,q⟩:=q1
  cases r1
  exact wpAny_truthy_bool ⟨H1,I1,q⟩
variable {tA tB':TT} {rest:List Expr}
def tAnd (t u:TT):TT:=fun σ H Q=>t σ H fun c H1=>if c=true then u σ H1 Q else Q false H1
def tOr (t u:TT):TT:=fun σ H Q=>t σ H fun c H1=>if c=true then Q true H1 else u σ H1 Q
def tNot (t:TT):TT:=fun σ H Q=>t σ H fun c H1=>Q (!c) H1
theorem pw_and1 (ha:PT X a tA):PW X (.BoolOp .And [a] pos) tA:=by
  intro wh pins s σ H Q I h
  refine isTrue_and (thn (ha pins s σ H Q I h) fun c s1 e => ?_)
  cases c with
  | true=>exact isTrue_and_nil e
  | false=>exact e
theorem pw_or1 (ha:PT X a tA):PW X (.BoolOp .Or [a] pos) tA:=by
  intro wh pins s σ H Q I h
  refine isTrue_or (thn (ha pins s σ H Q I h) fun c s1 e => ?_)
  cases c with
  | false=>exact isTrue_or_nil e
  | true=>exact e
theorem pw_and (ha:PT X a tA) (hb:PW X (.BoolOp .And (b::rest) pos) tB'):PW X (.BoolOp .And (a::b::rest) pos) (tAnd tA tB'):=by
  intro wh pins s σ H Q I h
  refine isTrue_and (thn (ha pins s σ H _ I h) fun c s1 ⟨H1,I1,q1⟩ => ?_)
  cases c with
  | true=>exact hb wh pins s1 σ H1 Q I1 q1
  | false=>exact ⟨H1,I1,q1⟩
theorem pw_or (ha:PT X a tA) (hb:PW X (.BoolOp .Or (b::rest) pos) tB'):PW X (.BoolOp .Or (a::b::rest) pos) (tOr tA tB'):=by
  intro wh pins s σ H Q I h
  refine isTrue_or (thn (ha pins s σ H _ I h) fun c s1 ⟨H1,I1,q1⟩ => ?_)
  cases c with
  | true=>exact ⟨H1,I1,q1⟩
  | false=>exact hb wh pins s1 σ H1 Q I1 q1
theorem pt_not (ha:PT X a tA):PT X (.UnaryOp .Not a pos) (tNot tA):=by
  intro pins s σ H Q I h
  exact isTrue_not (ha pins s σ H (fun c H1=>Q (!c) H1) I h)
def tAndV (ta tb:TE):TE:=fun σ H Q=>ta σ H fun x H1=>∃ c,x=.bl c∧if c=true then tb σ H1 Q else Q (.bl false) H1
def tOrV (ta tb:TE):TE:=fun σ H Q=>ta σ H fun x H1=>∃ c,x=.bl c∧if c=true then Q (.bl true) H1 else tb σ H1 Q
def tNotV (ta:TE):TE:=fun σ H Q=>ta σ H fun x H1=>∃ c,x=.bl c∧Q (.bl (!c)) H1
theorem pe_one {op} {t:TE} (h:PE X a t):PE X (.BoolOp op [a] pos) t:=fun pins s σ H Q I hw=>BoolOp_one (h pins s σ H Q I hw)
theorem pe_and (ha:PE X a ta) (hb:PE X (.BoolOp .And (b::rest) pos) tb):PE X (.BoolOp .And (a::b::rest) pos) (tAndV ta tb):=by
  intro pins s σ H Q I h
  refine BoolOp_and (thn (ha pins s σ H _ I h) fun v s1 ⟨x,H1,I1,r1,q1⟩ => ?_)
  obtain ⟨c,rfl,q1⟩:=q1
  cases r1
  refine wpAny_truthy_bool ?_
  cases c with
  | true=>exact hb pins s1 σ H1 Q I1 q1
  | false=>exact ⟨.bl false,H1,I1,rfl,q1⟩
theorem pe_or (ha:PE X a ta) (hb:PE X (.BoolOp .Or (b::rest) pos) tb):PE X (.BoolOp .Or (a::b::rest) pos) (tOrV ta tb):=by
  intro pins s σ H Q I h
  refine BoolOp_or (thn (ha pins s σ H _ I h) fun v s1 ⟨x,H1,I1,r1,q1⟩ => ?_)
  obtain ⟨c,rfl,q1⟩:=q1
  cases r1
  refine wpAny_truthy_bool ?_
  cases c with
  | false=>exact hb pins s1 σ H1 Q I1 q1
  | true=>exact ⟨.bl true,H1,I1,rfl,q1⟩
theorem pe_not (ha:PE X a ta):PE X (.UnaryOp .Not a pos) (tNotV ta):=by
  intro pins s σ H Q I h
  refine UnaryOp_ (thn (ha pins s σ H _ I h) fun v s1 ⟨x,H1,I1,r1,q1⟩ => ?_)
  obtain ⟨c,rfl,q1⟩:=q1
  cases r1
  exact not_of (wpAny_truthy_bool ⟨.bl (!c),H1,I1,rfl,q1⟩)
def tIf (t:TT) (ta tb:TE):TE:=fun σ H Q=>t σ H fun c H1=>if c=true then ta σ H1 Q else tb σ H1 Q
theorem pe_ifExp {c:Expr} (hc:PT X c tA) (ha:PE X a ta) (hb:PE X b tb):PE X (.IfExp c a b pos) (tIf tA ta tb):=by
  intro pins s σ H Q I h
  refine wpAny_IfExp (thn (hc pins s σ H _ I h) fun d s1 ⟨H1,I1,q1⟩ => ?_)
  cases d with
  | true=>exact ha pins s1 σ H1 Q I1 q1
  | false=>exact hb pins s1 σ H1 Q I1 q1
end
end L2
namespace L2
open PySem PySem.Spec PyProof.Rows
def SqL (K:PySem.W.Frag) (H:Hp) (a:Addr) (xs:List V):Prop :=
  Rd H a (.lst xs) ∨
    ∃ (o:Obj) (its:Array Value) (n:Nat),K.lookup a=some o∧o.cls=.type "list"∧o.dict=none∧o.data=.seq its n∧its.size≤sizeLine∧Vals xs its.toList
def SqT (K:PySem.W.Frag) (H:Hp) (a:Addr) (xs:List V):Prop :=
  Rd H a (.tup xs) ∨
    ∃ (o:Obj) (its:Array Value) (n:Nat),K.lookup a=some o∧o.cls=.type "tuple"∧o.data=.seq its n∧its.size≤sizeLine∧Vals xs its.toList
section
variable {X:Cx} {pins:List (Addr×Obj)} {σ:St} {H:Hp} {s:Shared} {a:Addr} {xs ys:List V}
theorem SqL.of {K:PySem.W.Frag} (h:H a=some (.lst xs)):SqL K H a xs:=.inl (.inl h)
theorem SqT.of {K:PySem.W.Frag} (h:H a=some (.tup xs)):SqT K H a xs:=.inl (.inl h)
theorem Inv.list (I:Inv X pins σ H s) (h:SqL X.K H a xs):∃ its:List Value,Vals xs its∧PlainL s.heap a its.toArray∧xs.length≤sizeLine:=by
  rcases h with h | ⟨o,its,n,hk,hc,hd,hs,hz,r⟩
  · obtain ⟨z,its,n,r,e⟩:=h.ok I.hok
    exact ⟨its,r,⟨_,n,e,rfl,rfl,rfl⟩,z⟩
  · refine ⟨its.toList,r,⟨o,n,I.kIn a o hk,hc,hd,by simpa using hs⟩,?_⟩
    have e:=r.length
    simp only [Array.length_toList] at e
    omega
theorem Inv.tuple (I:Inv X pins σ H s) (h:SqT X.K H a xs):∃ its:List Value,Vals xs its∧IsTup s.heap a its.toArray∧xs.length≤sizeLine:=by
  rcases h with h | ⟨o,its,n,hk,hc,hs,hz,r⟩
  · obtain ⟨z,its,r,p⟩:=h.ok I.hok
    exact ⟨its,r,p,z⟩
  · refine ⟨its.toList,r,⟨o,I.kIn a o hk,hc,n,by simpa using hs⟩,?_⟩
    have e:=r.length
    simp only [Array.length_toList] at e
    omega
end
abbrev Cx.wish (X:Cx) (E:Value→Shared→Prop):Cx:={ X with xe:=E }
abbrev Cx.nox (X:Cx):Cx:=X.wish fun _ _=>False
theorem Cx.Ok.wish {X:Cx} (ok:X.Ok) (E:Value→Shared→Prop):(X.wish E).Ok :=
  ⟨ok.mod,ok.kind,ok.glob,ok.blt,ok.above,ok.inj,ok.has,ok.cab,ok.hd,ok.frames,ok.stk,ok.exf,ok.bs,ok.bsz,ok.noex,ok.exfs,ok.funs,ok.frf⟩
theorem Cx.Ok.unwish {X:Cx} {E:Value→Shared→Prop} (ok:(X.wish E).Ok):X.Ok :=
  ⟨ok.mod,ok.kind,ok.glob,ok.blt,ok.above,ok.inj,ok.has,ok.cab,ok.hd,ok.frames,ok.stk,ok.exf,ok.bs,ok.bsz,ok.noex,ok.exfs,ok.funs,ok.frf⟩
section
variable {X:Cx} {pins:List (Addr×Obj)} {σ:St} {H:Hp} {s:Shared} {E:Value→Shared→Prop}
theorem Inv.wish (I:Inv X pins σ H s) (E:Value→Shared→Prop):Inv (X.wish E) pins σ H s:=⟨I.ok.wish E,I.os,I.bare,I.base,I.loc,I.cell,I.free,I.freeC,I.pin,I.hok,I.len⟩
theorem Inv.unwish (I:Inv (X.wish E) pins σ H s):Inv X pins σ H s:=⟨I.ok.unwish,I.os,I.bare,I.base,I.loc,I.cell,I.free,I.freeC,I.pin,I.hok,I.len⟩
theorem SP.unwish {D:Ends} {f:Flow} {s':Shared} (h:SP (X.wish E) pins D f s'):SP X pins D f s':=by
  cases f with
  | next=>obtain ⟨σ',H',I,q⟩:=h;exact ⟨σ',H',I.unwish,q⟩
  | brk=>obtain ⟨σ',H',I,q⟩:=h;exact ⟨σ',H',I.unwish,q⟩
  | cont=>obtain ⟨σ',H',I,q⟩:=h;exact ⟨σ',H',I.unwish,q⟩
  | ret u=>obtain ⟨v,σ',H',I,r,q⟩:=h;exact ⟨v,σ',H',I.unwish,r,q⟩
theorem PSs.nox {st:List Stmt} {t:TS} (h:PSs X.nox st t):PSs X st t:=fun pins s σ H D I hw =>
  wpAny_mono (h pins s σ H D (I.wish _) hw) (fun _ _ q=>q.unwish) fun _ _ z=>False.elim z
end
section
variable {X:Cx} {st:Stmt} {rest:List Stmt} {t u:TS} {e:Expr} {te:TE} {pos:Pos}
def tNext:TS:=fun D σ H=>D.nx σ H
def tSeq (t u:TS):TS:=fun D σ H=>t { D with nx:=u D } σ H
theorem pss_nil:PSs X [] tNext:=fun _ _ σ H _ I h=>wpAny_execs_nil ⟨σ,H,I,h⟩
theorem pss_cons (h1:PS X st t) (h2:PSs X rest u):PSs X (st::rest) (tSeq t u):=by
  intro pins s σ H D I h
  refine wpAny_execs_cons (thn (h1 pins s σ H { D with nx:=u D } I h) fun f s1 q => ?_)
  cases f with
  | next =>
    obtain ⟨σ',H',I',q⟩:=q
    exact h2 pins s1 σ' H' D I' q
  | ret v=>exact q
  | brk=>exact q
  | cont=>exact q
theorem pss_one (h1:PS X st t):PSs X [st] t:=by
  intro pins s σ H D I h
  refine wpAny_execs_cons (thn (h1 pins s σ H D I h) fun f s1 q => ?_)
  cases f with
  | next=>exact wpAny_execs_nil q
  | ret v=>exact q
  | brk=>exact q
  | cont=>exact q
theorem Inv.quiet {pins:List (Addr×Obj)} {σ:St} {H:Hp} {s:Shared} (I:Inv X pins σ H s):interactive X.env=false:=by simp [interactive,I.ok.kind]
def tDrop (te:TE):TS:=fun D σ H=>te σ H fun _ H1=>D.nx σ H1
theorem ps_expr (he:PE X e te) (hs:swapsWith e none pos.line X.env=pure false:=by rfl):PS X (.Expr e pos) (tDrop te):=by
  intro pins s σ H D I h
  exact wpAny_Expr_any (thn (he pins s σ H _ I h) fun v s1 ⟨x,H1,I1,r1,q1⟩=>⟨σ,H1,I1,q1⟩) I.quiet hs
def tRet (te:TE):TS:=fun D σ H=>te σ H D.rt
theorem ps_ret (he:PE X e te):PS X (.Return (some e) pos) (tRet te):=by
  intro pins s σ H D I h
  exact wpAny_Return_some (thn (he pins s σ H _ I h) fun v s1 ⟨x,H1,I1,r1,q1⟩=>⟨x,σ,H1,I1,r1,q1⟩)
def tIfS (c:TT) (t u:TS):TS:=fun D σ H=>c σ H fun b H1=>if b=true then t D σ H1 else u D σ H1
theorem ps_if {c:Expr} {a b:List Stmt} {tc:TT} (hc:PT X c tc) (ha:PSs X a t) (hb:PSs X b u):PS X (.If c a b pos) (tIfS tc t u):=by
  intro pins s σ H D I h
  refine wpAny_If (thn (hc pins s σ H _ I h) fun d s1 ⟨H1,I1,q1⟩ => ?_)
  cases d with
  | true=>exact ha pins s1 σ H1 D I1 q1
  | false=>exact hb pins s1 σ H1 D I1 q1
end
abbrev TG:=V→St→Hp→(St→Hp→Prop)→Prop
abbrev TGs:=List V→St→Hp→(St→Hp→Prop)→Prop
def PG (X:Cx) (target:Expr) (t:TG):Prop :=
  ∀ (pins:List (Addr×Obj)) (s:Shared) (σ:St) (H:Hp) (v:V) (u:Value) (Q:St→Hp→Prop),Inv X pins σ H s→RelV v u→t v σ H Q →
    wpAny (model X.prog X.w) X.A (assign target X.env u) (fun _ s'=>∃ σ' H',Inv X pins σ' H' s'∧Q σ' H') X.xe s
section
variable {X:Cx} {pos:Pos}
def gName (i:Nat):TG:=fun v σ H Q=>Q (σ.set i (some v)) H
theorem pg_name {i:Nat} {x:Str} (hN:X.N.Nodup) (hi:X.N[i]? = some x) (hx:Loc X.env.scope x) (hf:X.fn x=true∨X.env.scope.names.lookup x=some .local:=by first | exact .inl rfl | exact .inr rfl | assumption):PG X (.Name x pos) (gName i):=by
  intro pins s σ H v u Q I r h
  exact wpAny_assign_Name (store_ok I hN hi hx r (fun s' I'=>⟨_,H,I',h⟩) hf)
def gNil:TGs:=fun vs σ H Q=>vs=[]∧Q σ H
def gCons (t:TG) (u:TGs):TGs:=fun vs σ H Q=>∃ v r,vs=v::r∧t v σ H fun σ' H'=>u r σ' H' Q
def tAsg (te:TE) (g:TG):TS:=fun D σ H=>te σ H fun x H1=>g x σ H1 D.nx
theorem ps_set {i:Nat} {x:Str} {e:Expr} {te:TE} {pos':Pos} (hN:X.N.Nodup) (hi:X.N[i]? = some x) (hx:Loc X.env.scope x) (he:PE X e te) (hs:swapsWith e (some (.Name x pos')) pos.line X.env=pure false:=by rfl) (hf:X.fn x=true∨X.env.scope.names.lookup x=some .local:=by first | exact .inl rfl | exact .inr rfl | assumption) :
    PS X (.Assign [.Name x pos'] e pos) (tAsg te (gName i)):=by
  intro pins s σ H D I h
  refine wpAny_Assign_Name (thn (he pins s σ H _ I h) fun v s1 ⟨y,H1,I1,r1,q1⟩ => ?_) hs
  exact store_ok I1 hN hi hx r1 (fun s2 I2=>⟨_,H1,I2,q1⟩) hf
end
section
variable {X:Cx} {pos:Pos}
end
structure It where
  go:Nat→Hp→Prop
  yld:Nat→Hp→V→Hp→Prop
  stop:Nat→Hp→Prop
def FpOk (X:Cx) (pins:List (Addr×Obj)) (H:Hp) (b:Addr):Prop :=
  H b=none∧b≠X.env.locals∧b∉X.fs∧(b∈X.ex∨X.s₀.heap.objs.size≤b)∧(∀ x c,X.env.cells.lookup x=some c→c≠b)∧∀ p∈X.pn++pins,p.1≠b
theorem Inv.fpOk {X:Cx} {pins:List (Addr×Obj)} {σ:St} {H H':Hp} {s:Shared} {b:Addr} (I:Inv X pins σ H s) (hb:s.heap.objs.size≤b) (hn:H' b=none):FpOk X pins H' b:=by
  refine ⟨hn,Nat.ne_of_gt (Nat.lt_of_lt_of_le I.lt hb),I.nofs hb,.inr (Nat.le_trans I.sz hb),fun x c e z => ?_,fun p hp z => ?_⟩
  · obtain ⟨v,q⟩:=I.cell x c e
    exact absurd (Nat.lt_of_lt_of_le q.lt (by rw [z];exact hb)) (Nat.lt_irrefl _)
  · exact absurd (Nat.lt_of_lt_of_le (Heap.lt_size (I.pin p hp).1) (by rw [z];exact hb)) (Nat.lt_irrefl _)
structure Turn (P:Program) (w:World) (K:PySem.W.Frag) (tg:Expr) (J:It) (fp:List Addr) (it:Addr) (tn:Nat→Heap→Prop):Prop where
  mem:it∈fp
  obj:∀ i h,tn i h→∀ b∈fp,∃ o,h.get? b=some o∧∀ v,o.data ≠ .cell v
  keep:∀ i h h',tn i h→(∀ b∈fp,∀ o,h.get? b=some o→h'.get? b=some o)→tn i h'
  item:∀ (X:Cx),X.prog=P→X.w=w→X.K=K→X.calm=true→∀ (i:Nat) (pins:List (Addr×Obj)) (s:Shared) (σ:St) (H:Hp) (E:Value→Shared→Prop),Inv X pins σ H s→(∀ b∈fp,FpOk X pins H b)→tn i s.heap→J.go i H →
    wpAny (model P w) X.A (pyNext (.ref it)) (fun r s1=>∃ u,r=some u ∧
      wpAny (model P w) X.A (letOwnedTupleGo tg (.ref it) u) (fun _ s2=>∃ x H',Inv X pins σ H' s2∧RelV x u∧J.yld i H x H'∧tn (i+1) s2.heap∧∀ b∈fp,H' b=none) E s1) E s
  done:∀ (X:Cx),X.prog=P→X.w=w→X.K=K→X.calm=true→∀ (i:Nat) (pins:List (Addr×Obj)) (s:Shared) (σ:St) (H:Hp) (E:Value→Shared→Prop),Inv X pins σ H s→(∀ b∈fp,FpOk X pins H b)→tn i s.heap→J.stop i H →
    wpAny (model P w) X.A (pyNext (.ref it)) (fun r s1=>r=none∧Inv X pins σ H s1) E s
  self:∀ (A:Around) (i:Nat) (s:Shared) (Q:Value→Shared→Prop) (E:Value→Shared→Prop),tn i s.heap→Q (.ref it) s→wpAny (model P w) A (pyIter (.ref it)) Q E s
abbrev TI:=St→Hp→(It→Hp→Prop)→Prop
def PIE (X:Cx) (pins:List (Addr×Obj)) (σ:St) (tg:Expr) (R:It→Hp→Prop) (itv:Value) (s2:Shared):Prop :=
  ∃ (it:Addr) (fp:List Addr) (tn:Nat→Heap→Prop) (J:It) (H':Hp),itv=.ref it∧Inv X pins σ H' s2∧Turn X.prog X.w X.K tg J fp it tn∧tn 0 s2.heap∧(∀ b∈fp,FpOk X pins H' b)∧R J H'
def PI (X:Cx) (tg iter:Expr) (wi:TI):Prop :=
  ∀ (pins:List (Addr×Obj)) (s:Shared) (σ:St) (H:Hp) (R:It→Hp→Prop),Inv X pins σ H s→wi σ H R →
    wpAny (model X.prog X.w) X.A (eval iter X.env) (fun v s1=>wpAny (model X.prog X.w) X.A (pyIter v) (PIE X pins σ tg R) X.xe s1) X.xe s
theorem go_of {M:Model} {A:Around} {E:Value→Shared→Prop} {s:Shared} {tg:Expr} {it:Addr} {u:Value} {o:Obj} {n:String} {vs:Array Value} {Q:Unit→Shared→Prop} (ho:s.heap.get? it=some o) (hc:o.cls=.type n) (hd:o.data=.fields vs)
    (hn:["enumerate","zip","dict_itemiterator","dict_reverseitemiterator","odict_iterator","itertools.zip_longest","itertools.pairwise"].contains n=false) (hQ:Q () s):wpAny M A (letOwnedTupleGo tg (.ref it) u) Q E s:=by
  unfold letOwnedTupleGo
  cases tg<;>first
    | exact wpAny_pure hQ
    | (cases u<;>first
        | exact wpAny_pure hQ
        | (refine wpAny_bind (wpAny_load ho ?_)
           rw [hc,hd]
           show wpAny M A (if (["enumerate","zip","dict_itemiterator","dict_reverseitemiterator","odict_iterator","itertools.zip_longest","itertools.pairwise"].contains n&&vs[0]? == some (rawInt _))=true then _ else _) Q E s
           rw [if_neg (by intro h;rw [hn,Bool.false_and] at h;cases h)]
           exact wpAny_pure hQ))
end L2
namespace L2
open PySem PySem.Spec PyProof.Rows
section
variable {X:Cx} {tg:Expr}
def tFor (wi:TI) (g:TG) (tb:TS):TS:=fun D σ H=>wi σ H fun J H1=>∃ W:Nat→Nat→St→Hp→Prop,(∃ m,W 0 m σ H1)∧∀ i m σ H,W i m σ H →
  (J.stop i H∧D.nx σ H)∨(J.go i H∧∃ N:St→Hp→Prop,(∀ σ' H',N σ' H'→∃ m',m'<m∧W (i+1) m' σ' H')∧∀ x H',J.yld i H x H'→g x σ H' fun σ2 H2=>tb { D with nx:=N,ct:=N,bk:=D.nx } σ2 H2)
def pinsAt (fp:List Addr) (h:Heap):List (Addr×Obj):=fp.filterMap fun b=>(h.get? b).map fun o=>(b,o)
theorem mem_pinsAt {fp:List Addr} {h:Heap} {b:Addr} {o:Obj} (hb:b∈fp) (e:h.get? b=some o):(b,o)∈pinsAt fp h:=List.mem_filterMap.mpr ⟨b,hb,by rw [e];rfl⟩
theorem of_pinsAt {fp:List Addr} {h:Heap} {p:Addr×Obj} (hp:p∈pinsAt fp h):p.1∈fp∧h.get? p.1=some p.2:=by
  obtain ⟨b,hb,e⟩:=List.mem_filterMap.mp hp
  cases q:h.get? b with
  | none=>rw [q] at e;cases e
  | some o =>
    rw [q] at e
    have e':(b,o)=p:=Option.some.inj e
    subst e'
    exact ⟨hb,q⟩
theorem Inv.pinned {pins:List (Addr×Obj)} {σ:St} {H:Hp} {s:Shared} {fp:List Addr} (I:Inv X pins σ H s) (hf:∀ b∈fp,FpOk X pins H b) (ho:∀ b∈fp,∃ o,s.heap.get? b=some o∧∀ v,o.data ≠ .cell v):Inv X (pins++pinsAt fp s.heap) σ H s :=
  I.pins_of fun p hp=>(List.mem_append.mp hp).elim (fun z=>I.pin p (List.mem_append_right _ z)) fun z=>by
    obtain ⟨hb,e⟩:=of_pinsAt z
    obtain ⟨f0,f1,f2,_⟩:=hf p.1 hb
    obtain ⟨o,e',d⟩:=ho p.1 hb
    rw [e] at e';cases e'
    exact ⟨e,f0,f1,f2,d⟩
theorem Inv.unpinned {pins pl:List (Addr×Obj)} {σ:St} {H:Hp} {s:Shared} (I:Inv X (pins++pl) σ H s):Inv X pins σ H s:=I.pins_of fun p hp=>I.pin p (List.mem_append_right _ (List.mem_append_left _ hp))
theorem ps_for {iter:Expr} {body:List Stmt} {wi:TI} {g:TG} {tb:TS} {pos:Pos} (hp:PassesOwn (model X.prog X.w) X.A X.env X.xe) (hc:X.calm=true) (hi:PI X tg iter wi) (hg:PG X tg g) (hb:PSs X body tb)
    (hs:∀ x,foldedSetIterable iter X.env x=pure x:=by intro _;rfl):PS X (.For tg iter body [] pos) (tFor wi g tb):=by
  intro pins s σ H D I h
  refine wpAny_For (thn (hi pins s σ H _ I h) fun v s1 h1=>thn h1 fun itv s2 h2 => ?_) hs
  obtain ⟨it,fp,tn,J,H2,e,I2,T,st2,f2,W,⟨m0,w0⟩,turn⟩:=h2
  subst e
  have stat:∀ {H':Hp},(∀ b∈fp,H' b=none)→∀ b∈fp,FpOk X pins H' b:=fun hn b hb=>⟨hn b hb,(f2 b hb).2⟩
  refine codeAny_forLoop_any (fun n s'=>∃ i σ' H',Inv X pins σ' H' s'∧tn i s'.heap∧(∀ b∈fp,H' b=none)∧W i n σ' H') ?_ m0 ⟨0,σ,H2,I2,st2,fun b hb=>(f2 b hb).1,w0⟩
  rintro n s3 ⟨i,σ3,H3,I3,st3,fr3,w3⟩
  rcases turn i n σ3 H3 w3 with ⟨stop,qn⟩ | ⟨go,N,hN,step⟩
  · refine wpAny_passesOwn hp (thn (T.done X rfl rfl rfl hc i pins s3 σ3 H3 X.xe I3 (stat fr3) st3 stop) fun r s4 ⟨hr,I4⟩ => ?_)
    subst hr
    exact wpAny_execs_nil ⟨σ3,H3,I4,qn⟩
  · refine wpAny_passesOwn hp (thn (T.item X rfl rfl rfl hc i pins s3 σ3 H3 X.xe I3 (stat fr3) st3 go) fun r s4 ⟨u,hr,h4⟩ => ?_)
    subst hr
    refine wpAny_passesOwn hp (thn h4 fun _ s5 ⟨x,H5,I5,r5,y5,st5,fr5⟩ => ?_)
    have I5':=I5.pinned (stat fr5) (T.obj _ _ st5)
    refine wpAny_passesOwn hp (thn (hg _ s5 σ3 H5 x u _ I5' r5 (step x H5 y5)) fun _ s6 ⟨σ6,H6,I6,q6⟩ => ?_)
    refine wpAny_passesOwn hp (thn (hb _ s6 σ6 H6 _ I6 q6) fun f s7 q7 => ?_)
    have again:∀ {σ7:St} {H7:Hp},Inv X (pins++pinsAt fp s5.heap) σ7 H7 s7→N σ7 H7→∃ m,m<n∧∃ i σ' H',Inv X pins σ' H' s7∧tn i s7.heap∧(∀ b∈fp,H' b=none)∧W i m σ' H':=fun {σ7 H7} I7 n7=>by
      obtain ⟨m',hm,w7⟩:=hN σ7 H7 n7
      refine ⟨m',hm,i+1,σ7,H7,I7.unpinned,T.keep _ _ _ st5 fun b hb o e=>(I7.pin (b,o) (List.mem_append_right _ (List.mem_append_right _ (mem_pinsAt hb e)))).1,fun b hb => ?_,w7⟩
      obtain ⟨o,e,d⟩:=T.obj _ _ st5 b hb
      exact (I7.pin (b,o) (List.mem_append_right _ (List.mem_append_right _ (mem_pinsAt hb e)))).2.1
    cases f with
    | next=>obtain ⟨σ7,H7,I7,n7⟩:=q7;exact again I7 n7
    | cont=>obtain ⟨σ7,H7,I7,n7⟩:=q7;exact again I7 n7
    | brk=>obtain ⟨σ7,H7,I7,q7⟩:=q7;exact ⟨σ7,H7,I7.unpinned,q7⟩
    | ret v=>obtain ⟨x7,σ7,H7,I7,r7,q7⟩:=q7;exact ⟨x7,σ7,H7,I7.unpinned,r7,q7⟩
end
end L2
namespace L2
open PySem PySem.Spec PyProof.Rows
abbrev R2:=V→V→Hp→VK→Prop
def OpR (X:Cx) (f:Value→Value→Sem Value) (r:R2):Prop :=
  ∀ (pins:List (Addr×Obj)) (s:Shared) (σ:St) (H:Hp) (x y:V) (v u:Value) (Q:VK),Inv X pins σ H s→RelV x v→RelV y u→r x y H Q →
    wpAny (model X.prog X.w) X.A (f v u) (EP X pins σ Q) X.xe s
def UnR (X:Cx) (f:Value→Sem Value) (r:V→Hp→VK→Prop):Prop :=
  ∀ (pins:List (Addr×Obj)) (s:Shared) (σ:St) (H:Hp) (x:V) (v:Value) (Q:VK),Inv X pins σ H s→RelV x v→r x H Q →
    wpAny (model X.prog X.w) X.A (f v) (EP X pins σ Q) X.xe s
def CallR (X:Cx) (f:Value) (r:List V→Hp→VK→Prop):Prop :=
  ∀ (pins:List (Addr×Obj)) (s:Shared) (σ:St) (H:Hp) (xs:List V) (us:List Value) (Q:VK),Inv X pins σ H s→Vals xs us→r xs H Q →
    wpAny (model X.prog X.w) X.A (call f us) (EP X pins σ Q) X.xe s
def tOp (r:R2) (ta tb:TE):TE:=fun σ H Q=>ta σ H fun x H1=>tb σ H1 fun y H2=>r x y H2 Q
def tUn (r:V→Hp→VK→Prop) (ta:TE):TE:=fun σ H Q=>ta σ H fun x H1=>r x H1 Q
def rI (C:Int→Int→Prop) (g:Int→Int→V):R2:=fun x y H Q=>∃ i j,x=.int i∧y=.int j∧C i j∧Q (g i j) H
def rI0 (g:Int→Int→V):R2:=fun x y H Q=>∃ i j,x=.int i∧y=.int j∧Q (g i j) H
def rU (g:Int→V):V→Hp→VK→Prop:=fun x H Q=>∃ i,x=.int i∧Q (g i) H
section
variable {X:Cx} {a b c:Expr} {ta tb tc:TE} {pos:Pos}
theorem binT (ha:PE X a ta) (hb:PE X b tb) {pins:List (Addr×Obj)} {s:Shared} {σ:St} {H:Hp} {R:V→V→Hp→Prop} (I:Inv X pins σ H s)
    (h:ta σ H fun x H1=>tb σ H1 fun y H2=>R x y H2) {Q:Value→Shared→Prop} {f:Value→Value→Sem Value}
    (hf:∀ v u s2 x y H2,Inv X pins σ H2 s2→RelV x v→RelV y u→R x y H2→wpAny (model X.prog X.w) X.A (f v u) Q X.xe s2) :
    wpAny (model X.prog X.w) X.A (eval a X.env) (fun v s₁=>wpAny (model X.prog X.w) X.A (eval b X.env) (fun u s₂=>wpAny (model X.prog X.w) X.A (f v u) Q X.xe s₂) X.xe s₁) X.xe s:=by
  refine thn (ha pins s σ H _ I h) fun v s1 ⟨x,H1,I1,r1,q1⟩ => ?_
  refine thn (hb pins s1 σ H1 _ I1 q1) fun u s2 ⟨y,H2,I2,r2,q2⟩ => ?_
  exact hf v u s2 x y H2 I2 r1 r2 q2
theorem pe_op {op:Operator} {r:R2} (ho:OpR X (binaryOp op) r) (ha:PE X a ta) (hb:PE X b tb):PE X (.BinOp a op b pos) (tOp r ta tb):=by
  intro pins s σ H Q I h
  exact wpAny_BinOp (binT ha hb I h fun v u s2 x y H2 I2 rx ry q=>ho pins s2 σ H2 x y v u Q I2 rx ry q)
theorem pe_un {op:UnaryOp} {r:V→Hp→VK→Prop} (ho:UnR X (unaryOp op) r) (ha:PE X a ta):PE X (.UnaryOp op a pos) (tUn r ta):=by
  intro pins s σ H Q I h
  exact UnaryOp_ (thn (ha pins s σ H _ I h) fun v s1 ⟨x,H1,I1,r1,q1⟩=>ho pins s1 σ H1 x v Q I1 r1 q1)
theorem opI {f:Value→Value→Sem Value} {C:Int→Int→Prop} {g:Int→Int→Int}
    (rule:∀ (i j:Int) (t u:Tok) (s:Shared) (Q:Value→Shared→Prop) (E:Value→Shared→Prop),C i j→Q (.int (g i j) s.toks) { s with toks:=s.toks+1 }→wpAny (model X.prog X.w) X.A (f (.int i t) (.int j u)) Q E s) :
    OpR X f (rI C fun i j=>.int (g i j)):=by
  intro pins s σ H x y v u Q I rx ry h
  obtain ⟨i,j,rfl,rfl,hc,q⟩:=h
  obtain ⟨t,rfl⟩:=rx
  obtain ⟨t',rfl⟩:=ry
  exact rule i j t t' s _ _ hc ⟨.int (g i j),H,I.tok _,⟨_,rfl⟩,q⟩
theorem opI0 {f:Value→Value→Sem Value} {g:Int→Int→Int}
    (rule:∀ (i j:Int) (t u:Tok) (s:Shared) (Q:Value→Shared→Prop) (E:Value→Shared→Prop),Q (.int (g i j) s.toks) { s with toks:=s.toks+1 }→wpAny (model X.prog X.w) X.A (f (.int i t) (.int j u)) Q E s) :
    OpR X f (rI0 fun i j=>.int (g i j)):=by
  intro pins s σ H x y v u Q I rx ry h
  obtain ⟨i,j,rfl,rfl,q⟩:=h
  obtain ⟨t,rfl⟩:=rx
  obtain ⟨t',rfl⟩:=ry
  exact rule i j t t' s _ _ ⟨.int (g i j),H,I.tok _,⟨_,rfl⟩,q⟩
theorem opB0 {f:Value→Value→Sem Value} {g:Int→Int→Bool}
    (rule:∀ (i j:Int) (t u:Tok) (s:Shared) (Q:Value→Shared→Prop) (E:Value→Shared→Prop),Q (.bool (g i j)) s→wpAny (model X.prog X.w) X.A (f (.int i t) (.int j u)) Q E s) :
    OpR X f (rI0 fun i j=>.bl (g i j)):=by
  intro pins s σ H x y v u Q I rx ry h
  obtain ⟨i,j,rfl,rfl,q⟩:=h
  obtain ⟨t,rfl⟩:=rx
  obtain ⟨t',rfl⟩:=ry
  exact rule i j t t' s _ _ ⟨.bl (g i j),H,I,rfl,q⟩
theorem op_add:OpR X (binaryOp .Add) (rI0 fun i j=>.int (i+j)):=opI0 fun _ _ _ _ _ _ _ q=>add_int q
theorem op_sub:OpR X (binaryOp .Sub) (rI0 fun i j=>.int (i - j)):=opI0 fun _ _ _ _ _ _ _ q=>sub_int q
theorem op_mod:OpR X (binaryOp .Mod) (rI (fun _ j=>0<j) fun i j=>.int (i%j)):=opI fun i j _ _ _ _ _ hc q=>by
  have h1:(0:Int)<j:=hc
  exact mod_int' (by omega) (by rw [Int.fmod_eq_emod_of_nonneg i (by omega)];exact q)
theorem op_and:OpR X (binaryOp .BitAnd) (rI0 fun i j=>.int (Builtin.bitAnd i j)):=opI0 fun _ _ _ _ _ _ _ q=>and_int q
theorem unI {f:Value→Sem Value} {g:Int→Int}
    (rule:∀ (i:Int) (t:Tok) (s:Shared) (Q:Value→Shared→Prop) (E:Value→Shared→Prop),Q (.int (g i) s.toks) { s with toks:=s.toks+1 }→wpAny (model X.prog X.w) X.A (f (.int i t)) Q E s) :
    UnR X f (rU fun i=>.int (g i)):=by
  intro pins s σ H x v Q I rx h
  obtain ⟨i,rfl,q⟩:=h
  obtain ⟨t,rfl⟩:=rx
  exact rule i t s _ _ ⟨.int (g i),H,I.tok _,⟨_,rfl⟩,q⟩
theorem un_neg:UnR X (unaryOp .USub) (rU fun i=>.int (-i)):=unI fun _ _ _ _ _ q=>neg_int q
end
def scal:V→V→Bool
  | .non,.non=>true | .non,.int _=>true | .int _,.non=>true | .non,.bl _=>true | .bl _,.non=>true | .non,.str _=>true | .str _,.non=>true
  | .int _,.int _=>true | .bl _,.bl _=>true | .str _,.str _=>true | .byt _,.byt _=>true
  | .int _,.str _=>true | .str _,.int _=>true | .bl _,.str _=>true | .str _,.bl _=>true
  | _,_=>false
def rEq:R2:=fun x y H Q=>scal x y=true∧Q (.bl (decide (x=y))) H
def rNe:R2:=fun x y H Q=>scal x y=true∧Q (.bl (!decide (x=y))) H
theorem dec_int {i j:Int}:decide (V.int i=V.int j)=(i == j):=by
  rw [Bool.eq_iff_iff]
  simp
theorem dec_bl {i j:Bool}:decide (V.bl i=V.bl j)=(i == j):=by
  rw [Bool.eq_iff_iff]
  simp
theorem dec_str {i j:Str}:decide (V.str i=V.str j)=(i == j):=by
  rw [Bool.eq_iff_iff]
  simp
theorem dec_byt {i j:Array UInt8}:decide (V.byt i=V.byt j)=(i.toList == j.toList):=by
  rw [Bool.eq_iff_iff]
  cases i
  cases j
  simp
section
variable {X:Cx} {a b c:Expr} {ta tb tc:TE} {pos:Pos}
theorem fin_bl {pins:List (Addr×Obj)} {σ:St} {H:Hp} {s:Shared} {Q:VK} {k k':Bool} (I:Inv X pins σ H s) (q:Q (.bl k) H) (e:k=k'):EP X pins σ Q (.bool k') s:=by
  subst e
  exact ⟨.bl k,H,I,rfl,q⟩
theorem op_eq:OpR X (compareOp .Eq) rEq:=by
  intro pins s σ H x y v u Q I rx ry h
  obtain ⟨hs,q⟩:=h
  cases x with
  | non =>
    cases rx
    cases y with
    | non=>cases ry;exact PySem.EqNone.eq_none_none (fin_bl I q (by simp))
    | bl j=>cases ry;exact PySem.EqNone.eq_none_bool (fin_bl I q (by simp))
    | int j=>obtain ⟨t',rfl⟩:=ry;exact PySem.EqNone.eq_none_int (fin_bl I q (by simp))
    | str j=>obtain ⟨t',rfl⟩:=ry;exact PySem.EqNone.eq_none_str (fin_bl I q (by simp))
    | _=>exact absurd (show false=true from hs) Bool.false_ne_true
  | bl i =>
    cases rx
    cases y with
    | non=>cases ry;exact PySem.EqNone.eq_bool_none (fin_bl I q (by simp))
    | bl j=>cases ry;exact eq_bool (fin_bl I q dec_bl)
    | str j=>obtain ⟨t',rfl⟩:=ry;exact PySem.EqMixed.eq_bool_str (fin_bl I q (by simp))
    | _=>exact absurd (show false=true from hs) Bool.false_ne_true
  | int i =>
    obtain ⟨t,rfl⟩:=rx
    cases y with
    | non=>cases ry;exact PySem.EqNone.eq_int_none (fin_bl I q (by simp))
    | int j=>obtain ⟨t',rfl⟩:=ry;exact eq_int (fin_bl I q dec_int)
    | str j=>obtain ⟨t',rfl⟩:=ry;exact PySem.EqMixed.eq_int_str (fin_bl I q (by simp))
    | _=>exact absurd (show false=true from hs) Bool.false_ne_true
  | str i =>
    obtain ⟨t,rfl⟩:=rx
    cases y with
    | non=>cases ry;exact PySem.EqNone.eq_str_none (fin_bl I q (by simp))
    | bl j=>cases ry;exact PySem.EqMixed.eq_str_bool (fin_bl I q (by simp))
    | int j=>obtain ⟨t',rfl⟩:=ry;exact PySem.EqMixed.eq_str_int (fin_bl I q (by simp))
    | str j=>obtain ⟨t',rfl⟩:=ry;exact eq_str (fin_bl I q dec_str)
    | _=>exact absurd (show false=true from hs) Bool.false_ne_true
  | byt i =>
    obtain ⟨t,rfl⟩:=rx
    cases y with
    | byt j=>obtain ⟨t',rfl⟩:=ry;exact PySem.W.eq_bytes (fin_bl I q dec_byt)
    | _=>exact absurd (show false=true from hs) Bool.false_ne_true
  | _=>cases y<;>exact absurd (show false=true from hs) Bool.false_ne_true
theorem op_ne:OpR X (compareOp .NotEq) rNe:=by
  intro pins s σ H x y v u Q I rx ry h
  obtain ⟨hs,q⟩:=h
  cases x with
  | non =>
    cases rx
    cases y with
    | non=>cases ry;exact PySem.EqNone.ne_none_none (fin_bl I q (by simp))
    | bl j=>cases ry;exact PySem.EqNone.ne_none_bool (fin_bl I q (by simp))
    | int j=>obtain ⟨t',rfl⟩:=ry;exact PySem.EqNone.ne_none_int (fin_bl I q (by simp))
    | str j=>obtain ⟨t',rfl⟩:=ry;exact PySem.EqNone.ne_none_str (fin_bl I q (by simp))
    | _=>exact absurd (show false=true from hs) Bool.false_ne_true
  | bl i =>
    cases rx
    cases y with
    | non=>cases ry;exact PySem.EqNone.ne_bool_none (fin_bl I q (by simp))
    | bl j=>cases ry;exact ne_bool (fin_bl I q (congrArg not dec_bl))
    | str j=>obtain ⟨t',rfl⟩:=ry;exact PySem.EqMixed.ne_bool_str (fin_bl I q (by simp))
    | _=>exact absurd (show false=true from hs) Bool.false_ne_true
  | int i =>
    obtain ⟨t,rfl⟩:=rx
    cases y with
    | non=>cases ry;exact PySem.EqNone.ne_int_none (fin_bl I q (by simp))
    | int j=>obtain ⟨t',rfl⟩:=ry;exact ne_int (fin_bl I q (congrArg not dec_int))
    | str j=>obtain ⟨t',rfl⟩:=ry;exact PySem.EqMixed.ne_int_str (fin_bl I q (by simp))
    | _=>exact absurd (show false=true from hs) Bool.false_ne_true
  | str i =>
    obtain ⟨t,rfl⟩:=rx
    cases y with
    | non=>cases ry;exact PySem.EqNone.ne_str_none (fin_bl I q (by simp))
    | bl j=>cases ry;exact PySem.EqMixed.ne_str_bool (fin_bl I q (by simp))
    | int j=>obtain ⟨t',rfl⟩:=ry;exact PySem.EqMixed.ne_str_int (fin_bl I q (by simp))
    | str j=>obtain ⟨t',rfl⟩:=ry;exact ne_str (fin_bl I q (congrArg not dec_str))
    | _=>exact absurd (show false=true from hs) Bool.false_ne_true
  | byt i =>
    obtain ⟨t,rfl⟩:=rx
    cases y with
    | byt j=>obtain ⟨t',rfl⟩:=ry;exact PySem.W.ne_bytes (fin_bl I q (congrArg not dec_byt))
    | _=>exact absurd (show false=true from hs) Bool.false_ne_true
  | _=>cases y<;>exact absurd (show false=true from hs) Bool.false_ne_true
theorem op_lt:OpR X (compareOp .Lt) (rI0 fun i j=>.bl (decide (i<j))):=opB0 fun _ _ _ _ _ _ _ q=>lt_int q
theorem op_le:OpR X (compareOp .LtE) (rI0 fun i j=>.bl (decide (i≤j))):=opB0 fun _ _ _ _ _ _ _ q=>le_int q
theorem op_gt:OpR X (compareOp .Gt) (rI0 fun i j=>.bl (decide (j<i))):=opB0 fun _ _ _ _ _ _ _ q=>gt_int q
theorem op_ge:OpR X (compareOp .GtE) (rI0 fun i j=>.bl (decide (j≤i))):=opB0 fun _ _ _ _ _ _ _ q=>ge_int q
theorem op_in_str:OpR X (compareOp .In) (fun x y H Q=>∃ i j,x=.str i∧y=.str j∧Q (.bl (!(Builtin.Str.occurrences j i 0 j.length 1).isEmpty)) H):=by
  intro pins s σ H x y v u Q I rx ry h
  obtain ⟨i,j,rfl,rfl,q⟩:=h
  obtain ⟨t,rfl⟩:=rx
  obtain ⟨t',rfl⟩:=ry
  exact in_str (fin_bl I q rfl)
def isObj:HO→Bool
  | .lst _=>true
  | .ins _ _ _=>true
  | _=>false
theorem obj_there {pins:List (Addr×Obj)} {s:Shared} {σ:St} {H:Hp} {a:Addr} {o:HO} (I:Inv X pins σ H s) (h:H a=some o) (p:isObj o=true):∃ ob,s.heap.get? a=some ob∧ob.cls ≠ .type "tuple":=by
  cases o with
  | lst xs =>
    obtain ⟨_,its,n,_,e⟩:xs.length≤sizeLine∧∃ (its:List Value) (n:Nat),Vals xs its∧s.heap.get? a=some { cls:=.type "list",data:=.seq its.toArray n }:=I.hok a _ h
    exact ⟨_,e,(by show Value.type "list" ≠ .type "tuple";decide +kernel)⟩
  | ins C dx fs =>
    have x:=I.hok a _ h
    obtain ⟨_,_,_,e,_⟩:=x
    exact ⟨_,e,(by show Value.ref C ≠ .type "tuple";exact fun z=>by cases z)⟩
  | _=>exact absurd (show false=true from p) Bool.false_ne_true
theorem nomark (b:Expr) {op:CmpOp} (h:op ≠ .In:=by decide) (h2:op ≠ .NotIn:=by decide):behindInMarks op b=false:=by
  have e1:(op == CmpOp.In)=false:=by cases op<;>first | rfl | exact absurd rfl h
  have e2:(op == CmpOp.NotIn)=false:=by cases op<;>first | rfl | exact absurd rfl h2
  cases b<;>simp [behindInMarks,e1,e2]
theorem pe_cmpR {op:CmpOp} {r:R2} (ho:OpR X (compareOp op) r) (ha:PE X a ta) (hb:PE X b tb) (hm:behindInMarks op b=false):PE X (.Compare a [op] [b] pos) (tOp r ta tb):=by
  intro pins s σ H Q I h
  exact wpAny_Compare1 (binT ha hb I h fun v u s2 x y H2 I2 rx ry q=>ho pins s2 σ H2 x y v u Q I2 rx ry q) hm
def tTest (t:TE):TT:=fun σ H Q=>t σ H fun x H'=>∃ k,x=.bl k∧Q k H'
theorem pt_cmpR {op:CmpOp} {r:R2} (ho:OpR X (compareOp op) r) (ha:PE X a ta) (hb:PE X b tb) (hm:behindInMarks op b=false):PT X (.Compare a [op] [b] pos) (tTest (tOp r ta tb)):=by
  intro pins s σ H Q I h
  refine wpAny_isTrue_Compare1 (thn (ha pins s σ H _ I h) fun v s1 ⟨x,H1,I1,r1,q1⟩=>thn (hb pins s1 σ H1 _ I1 q1) fun u s2 ⟨y,H2,I2,r2,q2⟩ =>
    thn (ho pins s2 σ H2 x y v u _ I2 r1 r2 q2) fun c s3 ⟨z,H3,I3,r3,k,e,q3⟩ => ?_) hm
  subst e
  cases r3
  exact wpAny_truthy_bool ⟨H3,I3,q3⟩
def tChain (r r':R2) (ta tb tc:TE):TE:=fun σ H Q=>ta σ H fun x H1=>tb σ H1 fun y H2=>r x y H2 fun z H3=>∃ k,z=.bl k ∧
  (if k=true then tc σ H3 fun w' H4=>r' y w' H4 Q else Q (.bl false) H3)
theorem pe_chain {op op':CmpOp} {r r':R2} (ho:OpR X (compareOp op) r) (ho':OpR X (compareOp op') r') (ha:PE X a ta) (hb:PE X b tb) (hc:PE X c tc)
    (hm:lastMarks [op,op'] [b,c]=false:=by with_unfolding_all rfl):PE X (.Compare a [op,op'] [b,c] pos) (tChain r r' ta tb tc):=by
  intro pins s σ H Q I h
  refine Compare_chain (thn (ha pins s σ H _ I h) fun v s1 ⟨x,H1,I1,r1,q1⟩=>chain_link (thn (hb pins s1 σ H1 _ I1 q1) fun u s2 ⟨y,H2,I2,r2,q2⟩ =>
    thn (ho pins s2 σ H2 x y v u _ I2 r1 r2 q2) fun d s3 ⟨z,H3,I3,r3,k,e,q3⟩ => ?_)) hm
  subst e
  cases r3
  refine wpAny_truthy_bool ?_
  cases k with
  | false=>exact ite_ff ⟨.bl false,H3,I3,rfl,q3⟩
  | true=>exact ite_tt (chain_last (thn (hc pins s3 σ H3 _ I3 q3) fun w' s4 ⟨z',H4,I4,r4,q4⟩=>ho' pins s4 σ H4 y z' u w' Q I4 r2 r4 q4))
theorem pt_chain {op op':CmpOp} {r r':R2} (ho:OpR X (compareOp op) r) (ho':OpR X (compareOp op') r') (ha:PE X a ta) (hb:PE X b tb) (hc:PE X c tc)
    (hm:lastMarks [op,op'] [b,c]=false:=by with_unfolding_all rfl):PT X (.Compare a [op,op'] [b,c] pos) (tTest (tChain r r' ta tb tc)):=by
  intro pins s σ H Q I h
  refine isTrue_chain (thn (ha pins s σ H _ I h) fun v s1 ⟨x,H1,I1,r1,q1⟩=>test_link (thn (hb pins s1 σ H1 _ I1 q1) fun u s2 ⟨y,H2,I2,r2,q2⟩ =>
    thn (ho pins s2 σ H2 x y v u _ I2 r1 r2 q2) fun d s3 ⟨z,H3,I3,r3,k,e,q3⟩ => ?_)) hm
  subst e
  cases r3
  refine wpAny_truthy_bool ?_
  cases k with
  | false =>
    obtain ⟨k',e',q'⟩:=q3
    cases e'
    exact ite_ff ⟨H3,I3,q'⟩
  | true =>
    refine ite_tt (test_last (thn (hc pins s3 σ H3 _ I3 q3) fun w' s4 ⟨z',H4,I4,r4,q4⟩=>thn (ho' pins s4 σ H4 y z' u w' _ I4 r2 r4 q4) fun d' s5 ⟨z2,H5,I5,r5,k2,e2,q5⟩ => ?_))
    subst e2
    cases r5
    exact wpAny_truthy_bool ⟨H5,I5,q5⟩
theorem line63:(sizeLine:Nat)<2^63:=by rw [sizeLine_eq];decide
theorem op_add_str:OpR X (binaryOp .Add) (fun x y H Q=>∃ i j,x=.str i∧y=.str j∧i.length+j.length≤sizeLine∧Q (.str (i++j)) H):=by
  intro pins s σ H x y v u Q I rx ry h
  obtain ⟨i,j,rfl,rfl,hz,q⟩:=h
  obtain ⟨t,rfl⟩:=rx
  obtain ⟨t',rfl⟩:=ry
  exact add_str (fun t' tk=>⟨.str (i++j),H,I.tok _,⟨_,rfl⟩,q⟩) hz
theorem vals1 {x:V} {us:List Value} (r:Vals [x] us):∃ u,us=[u]∧RelV x u:=by
  cases r with
  | cons r1 r2=>cases r2;exact ⟨_,rfl,r1⟩
theorem vals2 {x y:V} {us:List Value} (r:Vals [x,y] us):∃ u w',us=[u,w']∧RelV x u∧RelV y w':=by
  cases r with
  | cons r1 r2 =>
    cases r2 with
    | cons r3 r4=>cases r4;exact ⟨_,_,rfl,r1,r3⟩
theorem call_max2 (hc:X.calm=true):CallR X (.builtin "max") (fun xs H Q=>∃ i j,xs=[.int i,.int j]∧Q (.int (if j>i then j else i)) H):=by
  intro pins s σ H xs us Q I r h
  obtain ⟨i,j,rfl,q⟩:=h
  obtain ⟨u,w',rfl,⟨t,rfl⟩,⟨t',rfl⟩⟩:=vals2 r
  refine max_two_ints (I.ok.hd hc) fun h' tk k=>⟨_,H,I.kept k,?_,q⟩
  by_cases hj:j>i
  · rw [if_pos hj,if_pos hj];exact ⟨_,rfl⟩
  · rw [if_neg hj,if_neg hj];exact ⟨_,rfl⟩
theorem call_int1:CallR X (.type "int") (fun xs H Q=>(∃ i,xs=[.int i]∧Q (.int i) H)∨∃ k,xs=[.bl k]∧Q (.int (if k then 1 else 0)) H):=by
  intro pins s σ H xs us Q I r h
  rcases h with ⟨i,rfl,q⟩ | ⟨k,rfl,q⟩
  · obtain ⟨u,rfl,t,rfl⟩:=vals1 r
    exact call_int_int ⟨.int i,H,I,⟨_,rfl⟩,q⟩
  · obtain ⟨u,rfl,r1⟩:=vals1 r
    cases r1
    exact call_int_bool ⟨.int (if k then 1 else 0),H,I.tok _,⟨_,rfl⟩,q⟩
theorem call_str_int:CallR X (.type "str") (fun xs H Q=>∃ i,xs=[.int i]∧i.natAbs.log2<1920∧Q (.str (toString i)) H):=by
  intro pins s σ H xs us Q I r h
  obtain ⟨i,rfl,hz,q⟩:=h
  obtain ⟨u,rfl,t,rfl⟩:=vals1 r
  exact PySem.P.str_of_int hz ⟨.str _,H,I.tok _,⟨_,rfl⟩,q⟩
end
end L2
namespace L2
open PySem PySem.Spec PyProof.Rows
structure ObjM (h:Heap) (x dx C:Addr) (mA:Str→Option Value):Prop where
  obj:h.get? x=some (PySem.W.instObj C dx)
  ns:h.Ns1 dx mA
  ne:dx≠x
theorem lookIn_ns {h:Heap} {dx:Addr} {mA:Str→Option Value} (n:h.Ns1 dx mA):∃ od,h.get? dx=some od∧∀ name,PySem.W.lookIn name od=some (mA name):=by
  obtain ⟨o,es,ep,ho,hd,hk,_,hm⟩:=n
  refine ⟨o,ho,fun name => ?_⟩
  have e:=hm name
  unfold nsFind findBy at e
  rw [← Array.find?_toList] at e
  unfold PySem.W.lookIn
  rw [hd]
  dsimp only
  split
  · rename_i y q
    rw [q] at e
    exact congrArg some e
  · rename_i q
    rw [q] at e
    have a:es.toList.any (·.refKey)=false:=by
      rw [List.any_eq_false]
      intro y hy
      obtain ⟨z,t,hkey⟩:=hk y (Array.mem_toList_iff.mp hy)
      simp [DictEntry.refKey,hkey]
    have a':¬ es.toList.any (·.refKey)=true:=by rw [a];exact Bool.false_ne_true
    rw [if_neg a']
    exact congrArg some e
theorem ObjM.look {h:Heap} {x dx C:Addr} {mA:Str→Option Value} (I:ObjM h x dx C mA):∃ od,PySem.W.InstAt h x (PySem.W.instObj C dx) C (some od)∧∀ name,PySem.W.lookIn name od=some (mA name) :=
  let ⟨od,ho,hl⟩:=lookIn_ns I.ns
  ⟨od,⟨I.obj,rfl,rfl,ho⟩,hl⟩
section
variable {prog:Program} {w:World} {A:Around} {E:Value→Shared→Prop} {s:Shared} {K:PySem.W.Frag} {x dx C f:Addr} {mA:Str→Option Value} {name:Str} {v:Value}
theorem get_map {expr:Bool} {Q:Value→Shared→Prop} (X:K.In s.heap) (I:ObjM s.heap x dx C mA) (hg:PySem.W.plainGet K C name=true) (hh:PySem.W.hasDictIn K C=true)
    (ha:PySem.W.findIn K (.ref C) name=some none) (hv:mA name=some v) (hv':PySem.W.handedIn v=true) (h:Q v { s with toks:=s.toks+1 }) :
    wpAny (model prog w) A (getAttr (.ref x) name expr) Q E s:=by
  obtain ⟨od,J,hl⟩:=I.look
  exact PySem.W.get_value X J (PySem.W.plainGet_of hg).1 (PySem.W.findObj_own hh ha rfl (by rw [hl,hv])) hv' h
theorem get_meth {pl:Sem Bool} {Q:Value×List Value→Shared→Prop} (X:K.In s.heap) (I:ObjM s.heap x dx C mA) (hg:PySem.W.plainGet K C name=true)
    (hf:PySem.W.findIn K (.ref C) name=some (some (.ref f))) (ht:PySem.W.isFn K (.ref f)=true) (hv:mA name=none) (h:Q (.ref f,[.ref x]) s) :
    wpAny (model prog w) A (getMethod (.ref x) name pl) Q E s:=by
  obtain ⟨od,J,hl⟩:=I.look
  exact PySem.W.method_fn X J (PySem.W.plainGet_of hg).1 (PySem.W.plainGet_of hg).2 hf (beq_iff_eq.mp ht) (by show (PySem.W.lookIn name od).map (·.isSome)=some false;rw [hl,hv];rfl) h
theorem set_map {ns:List Str} {Q:Unit→Shared→Prop} (X:K.In s.heap) (I:ObjM s.heap x dx C mA)
    (hs:PySem.W.findIn K (.ref C) "__setattr__"=some (some (.builtin "object.__setattr__"))) (hp:PySem.W.plainOver K C=true) (ht:PySem.W.takerIn K C name=some none) (hh:PySem.W.hasDictIn K C=true)
    (hw:PySem.Within mA ns) (hsz:ns.length≤sizeLine)
    (h:∀ h',ObjM h' x dx C (fun y=>if y=name then some v else mA y)→Heap.SameBut dx s.heap h'→Q () { s with heap:=h',toks:=s.toks+2 }) :
    wpAny (model prog w) A (setAttr (.ref x) name v) Q E s:=by
  obtain ⟨od,J,hl⟩:=I.look
  refine PySem.W.set_plain X J hs (PySem.W.osa_open (s:={ s with toks:=s.toks+1 }) (r:=none) X J hp ht fun b => ?_)
  obtain ⟨cd,hc,hd'⟩:=PySem.W.any_some hh
  have hx:s.heap.get? x=some ⟨.ref C,some dx,.plain,#[]⟩:=I.obj
  refine wpAny_bind (wpAny_pure (wpAny_bind (wpAny_bind (wpAny_loadPart hx (wpAny_bind (PySem.W.Looks.here (s:={ s with toks:=s.toks+1 }) (PySem.W.looks_clsIn X hc) ?_))))))
  rw [hd']
  refine wpAny_pure (a:=some dx) (wpAny_bind (wpAny_pure (wpAny_bind ?_)))
  refine wpAny_nsSet1 (s:={ s with toks:=s.toks+1 }) I.ns fun h' hn2 hs2 => ?_
  obtain ⟨oD,esD,epD,hoD,hdD,hcD⟩:=hn2.count (PySem.Within.cons name v hw)
  refine wpAny_bind (wpAny_lookBehind hoD (by rw [hdD];exact pastItsLine_dict (Nat.le_trans hcD (by rw [List.length_cons];omega))) ?_)
  exact wpAny_pure (h _ ⟨(hs2.2 _ (Ne.symm I.ne)).trans I.obj,hn2,I.ne⟩ hs2)
theorem make_map {R:Result→Shared→Prop} {vs:List Value} {kw:List (Str×Value)} (X:K.In s.heap) (hm:PySem.W.makesIn K C=true)
    (hi:PySem.W.findIn K (.ref C) "__init__"=some (some (.ref f))) (hf:PySem.W.typeIn K (.ref f)=some (.type "function"))
    (h:codeAny (model prog w) (A.under (.builtin "type.__call__" ⟨.ref C::vs,kw⟩)) (.call (.ref f) ⟨.ref (s.heap.objs.size+1)::vs,kw⟩) (PySem.W.InitBack (s.heap.objs.size+1) R)
      { s with heap:=(s.heap.push PySem.W.emptyDict).push (PySem.W.instObj C s.heap.objs.size) }) :
    codeAny (model prog w) A (.call (.ref C) ⟨vs,kw⟩) R s:=by
  obtain ⟨hh,g,d,t,os⟩:=s
  exact PySem.W.make_core (PySem.W.makes_of X hm) (PySem.W.looks_findIn X hi) (fun self=>PySem.W.bind_fn X self hf) (.inl rfl) h
end
def putF (f:Str) (v:V):List (Str×V)→List (Str×V)
  | []=>[(f,v)]
  | (g,x)::r=>if g=f then (g,v)::r else (g,x)::putF f v r
theorem lookup_putF (f g:Str) (v:V):∀ fs:List (Str×V),(putF f v fs).lookup g=if g=f then some v else fs.lookup g
  | []=>by
    show List.lookup g [(f,v)]=_
    by_cases h:g=f
    · have hb:(g == f)=true:=beq_iff_eq.mpr h
      simp only [List.lookup,hb,if_pos h]
    · have hb:(g == f)=false:=beq_eq_false_iff_ne.mpr h
      simp only [List.lookup,hb,if_neg h]
  | (k,x)::r=>by
    have ih:=lookup_putF f g v r
    rw [show putF f v ((k,x)::r)=(if k=f then (k,v)::r else (k,x)::putF f v r) from rfl]
    by_cases hk:k=f
    · rw [if_pos hk]
      by_cases h:g=k
      · have hb:(g == k)=true:=beq_iff_eq.mpr h
        simp only [List.lookup,hb,if_pos (h.trans hk)]
      · have hb:(g == k)=false:=beq_eq_false_iff_ne.mpr h
        simp only [List.lookup,hb,if_neg (fun e:g=f=>h (e.trans hk.symm))]
    · rw [if_neg hk]
      by_cases h:g=k
      · have hb:(g == k)=true:=beq_iff_eq.mpr h
        simp only [List.lookup,hb,if_neg (fun e:g=f=>hk (h.symm.trans e))]
      · have hb:(g == k)=false:=beq_eq_false_iff_ne.mpr h
        simp only [List.lookup,hb]
        exact ih
theorem keys_putF (f:Str) (v:V):∀ fs:List (Str×V),f∈(putF f v fs).map (·.1)∧∀ g,g∈fs.map (·.1)→g∈(putF f v fs).map (·.1)
  | []=>⟨by simp [putF],fun g h=>by simp at h⟩
  | (k,x)::r=>by
    obtain ⟨i1,i2⟩:=keys_putF f v r
    rw [show putF f v ((k,x)::r)=(if k=f then (k,v)::r else (k,x)::putF f v r) from rfl]
    by_cases hk:k=f
    · rw [if_pos hk]
      subst hk
      exact ⟨by simp,fun g h=>by simpa using h⟩
    · rw [if_neg hk]
      refine ⟨?_,fun g h => ?_⟩
      · rw [List.map_cons]
        exact List.mem_cons_of_mem _ i1
      · rw [List.map_cons] at h ⊢
        rcases List.mem_cons.mp h with e | e
        · exact List.mem_cons.mpr (.inl e)
        · exact List.mem_cons_of_mem _ (i2 g e)
theorem length_putF (f:Str) (v:V):∀ fs:List (Str×V),(putF f v fs).length≤fs.length+1
  | []=>by simp [putF]
  | (k,x)::r=>by
    have ih:=length_putF f v r
    rw [show putF f v ((k,x)::r)=(if k=f then (k,v)::r else (k,x)::putF f v r) from rfl]
    by_cases hk:k=f
    · rw [if_pos hk,List.length_cons,List.length_cons];omega
    · rw [if_neg hk,List.length_cons,List.length_cons];omega
theorem RelO.some_of {v:V} {o:Option Value} (r:RelO (some v) o):∃ u,o=some u∧RelV v u:=by
  cases o with
  | none=>exact (show False from r).elim
  | some u=>exact ⟨u,rfl,r⟩
theorem RelO.none_of {o:Option Value} (r:RelO none o):o=none:=by
  cases o with
  | none=>rfl
  | some u=>exact (show False from r).elim
theorem handed_of {v:V} {u:Value} (r:RelV v u):PySem.W.handedIn u=true:=by
  cases v with
  | non=>cases (show u=Value.none from r);rfl
  | bl b=>cases (show u=Value.bool b from r);rfl
  | int i=>obtain ⟨t,e⟩:=(show ∃ t,u=Value.int i t from r);cases e;rfl
  | str x=>obtain ⟨t,e⟩:=(show ∃ t,u=Value.str x t from r);cases e;rfl
  | byt b=>obtain ⟨t,e⟩:=(show ∃ t,u=Value.bytes b t from r);cases e;rfl
  | flt b=>obtain ⟨t,e⟩:=(show ∃ t,u=Value.float b t from r);cases e;rfl
  | ref a=>cases (show u=Value.ref a from r);rfl
  | ty n=>cases (show u=Value.type n from r);rfl
section
variable {P:Program} {w:World} {H H':Hp} {h h':Heap} {a C dx:Addr} {fs fs':List (Str×V)}
theorem ins_get (hok:HOk P w H h) (e:H a=some (.ins C dx fs)):∃ mA,ObjM h a dx C mA∧(∀ f,RelO (fs.lookup f) (mA f))∧PySem.Within mA (fs.map (·.1))∧fs.length≤1000∧H dx=some (.own a):=by
  obtain ⟨d,z,ne,ob,mA,n,r,q⟩:=(show ObjOk P w H h a (.ins C dx fs) from hok a _ e)
  exact ⟨mA,⟨ob,n,ne⟩,r,q,z,d⟩
end
structure Cls (K:PySem.W.Frag) (C:Addr):Prop where
  pg:PySem.W.plainGet K C Str.empty=true
  hd:PySem.W.hasDictIn K C=true
  po:PySem.W.plainOver K C=true
  sa:PySem.W.findIn K (.ref C) "__setattr__"=some (some (.builtin "object.__setattr__"))
theorem Cls.get {K:PySem.W.Frag} {C:Addr} (c:Cls K C) (f:Str):PySem.W.plainGet K C f=true:=c.pg
def NoAttr (K:PySem.W.Frag) (C:Addr) (f:Str):Prop:=PySem.W.findIn K (.ref C) f=some none
theorem NoAttr.taker {K:PySem.W.Frag} {C:Addr} {f:Str} (n:NoAttr K C f):PySem.W.takerIn K C f=some none:=by
  unfold PySem.W.takerIn
  rw [show PySem.W.findIn K (.ref C) f=some none from n]
  rfl
structure Con (K:PySem.W.Frag) (C:Addr) (f:Str) (v:V) (u:Value):Prop where
  at_:PySem.W.findIn K (.ref C) f=some (some u)
  rel:RelV v u
  get:PySem.W.specialIn K u "__get__"=some none
  cp:PySem.W.copiedNames.contains f=false
structure Meth (K:PySem.W.Frag) (C:Addr) (m:Str) (f:Addr):Prop where
  at_:PySem.W.findIn K (.ref C) m=some (some (.ref f))
  fn:PySem.W.isFn K (.ref f)=true
  kp:PySem.W.keepIn K (.ref f)=true
section
variable {X:Cx} {pins:List (Addr×Obj)} {σ:St} {H:Hp} {s:Shared} {a C dx:Addr} {fs:List (Str×V)} {f:Str} {v:V} {A:Around} {E:Value→Shared→Prop}
theorem getattr_ok {b:Bool} {Q:Value→Shared→Prop} (I:Inv X pins σ H s) (e:H a=some (.ins C dx fs)) (c:Cls X.K C) (n:NoAttr X.K C f) (l:fs.lookup f=some v)
    (h:∀ u s',Inv X pins σ H s'→RelV v u→Q u s'):wpAny (model X.prog X.w) A (getAttr (.ref a) f b) Q E s:=by
  obtain ⟨mA,O,r,_,_,_⟩:=ins_get I.hok e
  obtain ⟨u,hu,ru⟩:=RelO.some_of (v:=v) (o:=mA f) (by rw [← l];exact r f)
  exact get_map I.kIn O (c.get f) c.hd n hu (handed_of ru) (h u _ (I.tok _) ru)
theorem getmeth_ok {m:Str} {g:Addr} {pl:Sem Bool} {Q:Value×List Value→Shared→Prop} (I:Inv X pins σ H s) (e:H a=some (.ins C dx fs)) (c:Cls X.K C) (k:Meth X.K C m g) (l:fs.lookup m=none)
    (h:Q (.ref g,[.ref a]) s):wpAny (model X.prog X.w) A (getMethod (.ref a) m pl) Q E s:=by
  obtain ⟨mA,O,r,_,_,_⟩:=ins_get I.hok e
  have hn:mA m=none:=RelO.none_of (by rw [← l];exact r m)
  exact get_meth I.kIn O (c.get m) k.at_ k.fn hn h
theorem setattr_ok {y:V} {u:Value} {Q:Unit→Shared→Prop} (I:Inv X pins σ H s) (e:H a=some (.ins C dx fs)) (c:Cls X.K C) (n:NoAttr X.K C f) (hl:fs.length<1000) (ry:RelV y u)
    (h:∀ s',Inv X pins σ (upd H a (.ins C dx (putF f y fs))) s'→Q () s'):wpAny (model X.prog X.w) A (setAttr (.ref a) f u) Q E s:=by
  obtain ⟨mA,O,r,wi,_,ho⟩:=ins_get I.hok e
  have hz:(fs.map (·.1)).length≤sizeLine:=by rw [List.length_map,sizeLine_eq];omega
  refine set_map I.kIn O c.sa c.po n.taker c.hd wi hz fun h' O' sb=>h _ ?_
  have hd:∃ o,h'.get? dx=some o:=let ⟨o,_,_,e',_⟩:=O'.ns;⟨o,e'⟩
  refine I.write (x:=a) (e:=dx) (by rw [e];exact True.intro) (.inr ho) (fun b q hb z=>(sb.2 b hb).trans z) hd ?_
  refine ⟨by rw [upd_ne O.ne];exact ho,?_,O.ne,O'.obj,_,O'.ns,fun g => ?_,fun g hg => ?_⟩
  · have:=length_putF f y fs;omega
  · show RelO ((putF f y fs).lookup g) (if g=f then some u else mA g)
    rw [lookup_putF]
    by_cases q:g=f
    · rw [if_pos q,if_pos q];exact ry
    · rw [if_neg q,if_neg q];exact r g
  · by_cases q:g=f
    · rw [q];exact (keys_putF f y fs).1
    · refine (keys_putF f y fs).2 g (wi g fun z=>hg ?_)
      show (if g=f then some u else mA g)=none
      rw [if_neg q];exact z
theorem Inv.made (I:Inv X pins σ H s):Inv X pins σ (upd (upd H s.heap.objs.size (.own (s.heap.objs.size+1))) (s.heap.objs.size+1) (.ins C s.heap.objs.size []))
    { s with heap:=(s.heap.push PySem.W.emptyDict).push (PySem.W.instObj C s.heap.objs.size) }:=by
  have e1:(s.heap.push PySem.W.emptyDict).get? s.heap.objs.size=some PySem.W.emptyDict:=Heap.get?_push_size s.heap rfl
  have e2:((s.heap.push PySem.W.emptyDict).push (PySem.W.instObj C s.heap.objs.size)).get? (s.heap.objs.size+1)=some (PySem.W.instObj C s.heap.objs.size):=by
    have:=Heap.get?_push_size (s.heap.push PySem.W.emptyDict) (o:=PySem.W.instObj C s.heap.objs.size) rfl
    rwa [Heap.size_push] at this
  have e3:(s.heap.push PySem.W.emptyDict).Ns s.heap.objs.size (fun _=>none):=⟨PySem.W.emptyDict,#[],_,e1,rfl,(fun e he=>absurd he (by simp)),fun _=>rfl⟩
  have I1:=I.laid (a:=s.heap.objs.size) (o:=.own (s.heap.objs.size+1)) (h':=s.heap.push PySem.W.emptyDict) (t':=s.toks) (fun b u q=>Heap.get?_push_of_some _ q) (Nat.le_refl _) ⟨_,e1⟩
  refine I1.laid (a:=s.heap.objs.size+1) (o:=.ins C s.heap.objs.size []) (t':=s.toks) (fun b u q=>Heap.get?_push_of_some _ q) (Nat.le_of_eq (Heap.size_push _ _)) ?_
  have ne:s.heap.objs.size≠s.heap.objs.size+1:=Nat.ne_of_lt (Nat.lt_succ_self _)
  refine ⟨by rw [upd_ne ne,upd_same],Nat.zero_le _,ne,e2,fun _=>none,(Heap.Ns1.of_empty e3).at fun o q=>Heap.get?_push_of_some _ q,fun _=>True.intro,fun y hy=>absurd rfl hy⟩
theorem attr_of {prog:Program} {w:World} {env:Env} {e:Expr} {f:Str} {pos:Pos} {s:Shared} {Q:Value→Shared→Prop} (hb:attributeBase e f env (eval e env)=eval e env)
    (h:wpAny (model prog w) A (eval e env) (fun o s₁=>wpAny (model prog w) A (getAttr o f true) Q E s₁) E s):wpAny (model prog w) A (eval (.Attribute e f pos) env) Q E s :=
  Attribute_any_ h (by rw [arm_eval_Attribute,hb])
end
def tFld (K:PySem.W.Frag) (ta:TE) (f:Str):TE:=fun σ H Q=>ta σ H fun x H1=>∃ a C dx fs v,x=.ref a∧H1 a=some (.ins C dx fs)∧Cls K C∧NoAttr K C f∧fs.lookup f=some v∧Q v H1
def sFld (K:PySem.W.Frag) (ta tv:TE) (f:Str):TS:=fun D σ H=>tv σ H fun y H1=>ta σ H1 fun x H2=>∃ a C dx fs,x=.ref a∧H2 a=some (.ins C dx fs)∧Cls K C∧NoAttr K C f∧fs.length<1000 ∧
  D.nx σ (upd H2 a (.ins C dx (putF f y fs)))
section
variable {X:Cx} {o e value:Expr} {f:Str} {pos pos' tpos:Pos} {ta tv:TE}
theorem pe_fld (he:PE X e ta) (hb:attributeBase e f X.env (eval e X.env)=eval e X.env):PE X (.Attribute e f pos) (tFld X.K ta f):=by
  intro pins s σ H Q I h
  refine attr_of hb (thn (he pins s σ H _ I h) fun u s1 ⟨x,H1,I1,rx,a,C,dx,fs,v,ex,ea,c,n,l,q⟩ => ?_)
  subst ex
  obtain rfl:u=Value.ref a:=rx
  exact getattr_ok I1 ea c n l fun u' s2 I2 ru=>⟨v,H1,I2,ru,q⟩
theorem ps_fld (ha:PE X o ta) (hv:PE X value tv) (hs:swapsWith value (some (.Attribute o f pos')) pos.line X.env=pure false):PS X (.Assign [.Attribute o f pos'] value pos) (sFld X.K ta tv f):=by
  intro pins s σ H D I h
  refine plainObj_wpAny_Assign_Attribute (thn (hv pins s σ H _ I h) fun u s1 ⟨y,H1,I1,ry,q⟩=>thn (ha pins s1 σ H1 _ I1 q) fun ov s2 ⟨x,H2,I2,rx,a,C,dx,fs,ex,ea,c,n,l,q2⟩ => ?_) hs
  subst ex
  obtain rfl:ov=Value.ref a:=rx
  exact setattr_ok I2 ea c n l ry fun s3 I3=>⟨σ,_,I3,q2⟩
end
section
variable {X:Cx} {pins:List (Addr×Obj)} {σ:St} {H:Hp} {s:Shared} {A:Around} {E:Value→Shared→Prop} {Q:Value→Shared→Prop} {c:Value} {b:Bool}
inductive TyOf (K:PySem.W.Frag) (H:Hp):V→Value→Prop where
  | non:TyOf K H .non (.type "NoneType")
  | bl (x:Bool):TyOf K H (.bl x) (.type "bool")
  | int (i:Int):TyOf K H (.int i) (.type "int")
  | str (x:Str):TyOf K H (.str x) (.type "str")
  | flt (x:UInt64):TyOf K H (.flt x) (.type "float")
  | lst {a:Addr} {xs:List V} (e:H a=some (.lst xs)):TyOf K H (.ref a) (.type "list")
  | frz {a:Addr} {o:Obj} {xs:List V} (e:H a=some (.frz o (.lst xs))):TyOf K H (.ref a) (.type "list")
  | tup {a:Addr} {xs:List V} (e:H a=some (.tup xs)):TyOf K H (.ref a) (.type "tuple")
  | dK {a:Addr} {kvs:List (Key×V)} (e:H a=some (.dK kvs)):TyOf K H (.ref a) (.type "dict")
  | dT {a:Addr} {kvs:List (List Key×V)} (e:H a=some (.dT kvs)):TyOf K H (.ref a) (.type "dict")
  | ins {a C dx:Addr} {fs:List (Str×V)} (e:H a=some (.ins C dx fs)) (cl:Cls K C) (ha:PySem.W.findIn K (.ref C) "__class__"=some (some (.builtin "object.__class__")))
      (hn:PySem.W.specialIn K (.builtin "object.__class__") "__get__"=some (some (.builtin "getset_descriptor.__get__"))) (htk:PySem.W.takesIn K (.builtin "object.__class__")=some true)
      (hm:PySem.W.mroIn K C (.type "object")=some true):TyOf K H (.ref a) (.ref C)
end
end L2
namespace L2
open PySem PySem.Spec PyProof.Rows
structure Room (k:Nat) (A:Around):Prop where
  hd:A.handled=none
  dp:A.depth+3*k+5<recursionLimit
  un:A.units+16*k+200<cLine
theorem Room.mono {j k:Nat} {A:Around} (r:Room k A) (h:j≤k):Room j A:=⟨r.hd,by have:=r.dp;omega,by have:=r.un;omega⟩
theorem Room.deeper {k:Nat} {A:Around} (r:Room (k+1) A) (env:Env):Room k (A.deeper env) :=
  ⟨r.hd,by have:=r.dp;show A.depth+1+3*k+5<_;omega,by have:=r.un;show A.units+3+16*k+200<_;omega⟩
theorem make_depth {A:Around} {C:Addr} {us:List Value} {kw:List (Str×Value)}:(A.under (.builtin "type.__call__" ⟨.ref C::us,kw⟩)).depth=A.depth+1:=by
  first | rfl | simp [Around.under,Code.weight,Code.isCreation,Code.isGuard,Code.isCaller,Code.frames,Code.isFrame,guardIds]
theorem make_units {A:Around} {C:Addr} {us:List Value} {kw:List (Str×Value)}:(A.under (.builtin "type.__call__" ⟨.ref C::us,kw⟩)).units=A.units+1:=by
  first | rfl | simp [Around.under,Code.cUnits,Code.frames,Code.isFrame]
theorem Room.make {k:Nat} {A:Around} (r:Room (k+1) A) (C:Addr) (us:List Value) (kw:List (Str×Value)):Room k (A.under (.builtin "type.__call__" ⟨.ref C::us,kw⟩)) :=
  ⟨r.hd,by have:=r.dp;rw [make_depth];omega,by have:=r.un;rw [make_units];omega⟩
theorem Room.depth {k:Nat} {A:Around} (r:Room k A):A.depth<recursionLimit:=by have:=r.dp;omega
theorem Room.units {k:Nat} {A:Around} (r:Room k A):A.units+64<cLine:=by have:=r.un;omega
def tNil:TA:=fun _ H Q=>Q [] H
def tCons (ta:TE) (tr:TA):TA:=fun σ H Q=>ta σ H fun x H1=>tr σ H1 fun xs H2=>Q (x::xs) H2
section
variable {X:Cx} {e:Expr} {es:List Expr} {te:TE} {t:TA} {pos:Pos}
theorem pa_nil:PA X [] tNil:=fun _ _ _ _ H Q I h=>Calls.spliced_nil ⟨[],H,I,.nil,h⟩
theorem pa_cons (ha:PE X e te) (hr:PA X es t) (hs:starEach (e::es) X.env=(false,eval e X.env)::starEach es X.env:=by rfl):PA X (e::es) (tCons te t):=by
  intro pos pins s σ H Q I h
  rw [hs]
  show wpAny _ _ (spliced ((false,eval e X.env)::backTo pos (starEach es X.env))) _ _ s
  refine Calls.spliced_cons (thn (ha pins s σ H _ I h) fun u s1 ⟨x,H1,I1,r1,q1⟩ => ?_)
  exact thn (hr pos pins s1 σ H1 _ I1 q1) fun us s2 ⟨xs,H2,I2,r2,q2⟩=>⟨x::xs,H2,I2,.cons r1 r2,q2⟩
def tTup (t:TA):TE:=fun σ H Q=>t σ H fun xs H1=>xs.length≤sizeLine∧∀ p,H1 p=none→Q (.ref p) (upd H1 p (.tup xs))
def tLst (t:TA):TE:=fun σ H Q=>t σ H fun xs H1=>xs.length≤sizeLine∧∀ p,H1 p=none→Q (.ref p) (upd H1 p (.lst xs))
theorem pe_tup {x1} (h:PA X es t):PE X (.Tuple es x1 pos) (tTup t):=by
  intro pins s σ H Q I hq
  refine wpAny_Tuple_spliced (thn (h pos pins s σ H _ I hq) fun us s1 ⟨xs,H1,I1,r,z,q⟩=>⟨by rw [← r.length];exact z,?_⟩)
  have hf:H1 s1.heap.objs.size=none:=I1.hok.fresh (Nat.le_refl _)
  refine ⟨.ref s1.heap.objs.size,upd H1 s1.heap.objs.size (.tup xs),I1.laid (t':=s1.toks) (fun b u e=>Heap.get?_push_of_some _ e) (Nat.le_refl _) ?_,rfl,q _ hf⟩
  exact ⟨z,us,r,⟨_,Heap.get?_push_size _ rfl,rfl,_,rfl⟩⟩
theorem pe_lst (h:PA X es t):PE X (.List es pos) (tLst t):=by
  intro pins s σ H Q I hq
  refine wpAny_List_spliced (thn (h pos pins s σ H _ I hq) fun us s1 ⟨xs,H1,I1,r,z,q⟩=>⟨by rw [← r.length];exact z,?_⟩)
  have hf:H1 s1.heap.objs.size=none:=I1.hok.fresh (Nat.le_refl _)
  refine ⟨.ref s1.heap.objs.size,upd H1 s1.heap.objs.size (.lst xs),I1.laid (t':=s1.toks) (fun b u e=>Heap.get?_push_of_some _ e) (Nat.le_refl _) ?_,rfl,q _ hf⟩
  exact ⟨z,us,0,r,Heap.get?_push_size _ rfl⟩
end
abbrev Sp:=List V→Hp→VK→XK→Prop
abbrev CXT:=List Env→Hp→Shared→XK→Value→Shared→Prop
structure Env0 (P:Program) (w:World) (K:PySem.W.Frag) (mg:Str→Option Value) (base:Heap) (A:Around) (outer:List Env) (s:Shared) (H:Hp):Prop where
  frames:A.frames=some outer
  mod:Mod K mg base
  bs:∀ b o,base.get? b=some o→s.heap.get? b=some o∧H b=none
  bsz:base.objs.size≤s.heap.objs.size
  funs:s.heap.FunFrames base outer
  frf:∀ b∈frs outer,H b=none
  hok:HOk P w H s.heap
  bare:AllBare s.gens
def CE (outer:List Env) (P:Program) (w:World) (H:Hp) (s:Shared) (Q:VK) (u:Value) (s':Shared):Prop :=
  ∃ v H',s'.os=s.os∧AllBare s'.gens∧Un (frs outer) [] H H' s.heap s'.heap∧HOk P w H' s'.heap∧RelV v u∧Q v H'
def CR (CX:CXT) (outer:List Env) (P:Program) (w:World) (H:Hp) (s:Shared) (Q:VK) (E:XK) (r:Result) (s':Shared):Prop :=
  match r with
  | .ok (.ret u)=>CE outer P w H s Q u s'
  | .ok _=>False
  | .error e=>CX outer H s E e s'
structure FnOk (P:Program) (w:World) (K:PySem.W.Frag) (mg:Str→Option Value) (base:Heap) (CX:CXT) (k:Nat) (f:Addr) (fd:FuncData) (ps:List Str) (sp:Sp):Prop where
  len:∀ vs H Q E,sp vs H Q E→vs.length=ps.length
  run:∀ (A:Around) (outer:List Env) (s:Shared) (H:Hp) (args:Args) (us:List Value) (vs:List V) (Q:VK) (E:XK),Room k A→Env0 P w K mg base A outer s H→BindsTo s fd args (ps.zip us)→Vals vs us→sp vs H Q E →
    codeAny (model P w) A (.call (.ref f) args) (CR CX outer P w H s Q E) s
theorem FnOk.mono {P:Program} {w:World} {K:PySem.W.Frag} {mg:Str→Option Value} {base:Heap} {CX:CXT} {j k:Nat} {f:Addr} {fd:FuncData} {ps:List Str} {sp:Sp} (F:FnOk P w K mg base CX j f fd ps sp) (h:j≤k) :
    FnOk P w K mg base CX k f fd ps sp:=⟨F.len,fun A outer s H args us vs Q E hr=>F.run A outer s H args us vs Q E (hr.mono h)⟩
theorem Env0.make {P:Program} {w:World} {K:PySem.W.Frag} {mg:Str→Option Value} {base:Heap} {A:Around} {outer:List Env} {s:Shared} {H:Hp} (e:Env0 P w K mg base A outer s H) (C:Addr) (us:List Value) (kw:List (Str×Value)) :
    Env0 P w K mg base (A.under (.builtin "type.__call__" ⟨.ref C::us,kw⟩)) outer s H:=⟨by first | exact e.frames | (simpa [Around.under,Code.envs,Code.isFrame,pushEnvs] using e.frames),e.mod,e.bs,e.bsz,e.funs,e.frf,e.hok,e.bare⟩
section
variable {X:Cx} {pins:List (Addr×Obj)} {σ:St} {H:Hp} {s s':Shared}
theorem Inv.env0 (I:Inv X pins σ H s):Env0 X.prog X.w X.K X.mg X.base X.A X.stack s H :=
  ⟨I.ok.frames,I.ok.mod,I.bs,Nat.le_trans I.ok.bsz I.sz,I.stack,I.stkFree,I.hok,I.bare⟩
theorem Inv.after {Q:VK} {u:Value} (I:Inv X pins σ H s) (h:CE X.stack X.prog X.w H s Q u s'):EP X pins σ Q u s':=by
  obtain ⟨v,H',os,bare,un,hok,r,q⟩:=h
  obtain ⟨hh,g,d,t,os'⟩:=s'
  obtain rfl:os'=s.os:=os
  exact ⟨v,H',I.call (h':=hh) (g':=g) (d':=d) (t':=t) (ch:=[]) un hok bare (fun b z=>absurd z (by simp)),r,q⟩
end
def tMake (C:Addr) (sp:Sp) (dvs:List V) (E:XK) (t:TA):TE:=fun σ H Q=>t σ H fun vs H1=>∀ x dx,H1 x=none→H1 dx=none→dx≠x →
  sp (.ref x::(vs++dvs)) (upd (upd H1 dx (.own x)) x (.ins C dx [])) (fun v H2=>v=.non∧Q (.ref x) H2) E
def Binds (K:PySem.W.Frag) (fd:FuncData) (ps:List Str) (ds:List Value):Prop :=
  ∀ (s:Shared) (us:List Value),K.In s.heap→(us++ds).length=ps.length→BindsTo s fd ⟨us,[]⟩ (ps.zip (us++ds))
theorem Binds.all {K:PySem.W.Frag} {fd:FuncData} {ps:List Str} (h:∀ us:List Value,us.length=ps.length→bindArgs fd ⟨us,[]⟩=pure (ps.zip us)):Binds K fd ps []:=fun s us _ hl=>by
  rw [List.append_nil] at hl ⊢
  exact .of_eq (h us hl)
def Passes (CX:CXT) (X:Cx) (E:XK):Prop:=∀ (pins:List (Addr×Obj)) (σ:St) (H:Hp) (s:Shared) (e:Value) (s':Shared),Inv X pins σ H s→CX X.stack H s E e s'→X.xe e s'
section
variable {X:Cx} {CX:CXT} {k:Nat} {f C:Addr} {fd:FuncData} {ps:List Str} {sp:Sp} {dvs:List V} {ds:List Value} {E:XK} {x m:Str} {p pos apos:Pos} {e o:Expr} {es:List Expr} {ta:TE} {t:TA}
structure Mk (K:PySem.W.Frag) (C f:Addr):Prop where
  makes:PySem.W.makesIn K C=true
  init:PySem.W.findIn K (.ref C) "__init__"=some (some (.ref f))
  fn:PySem.W.isFn K (.ref f)=true
  kp:PySem.W.keepIn K (.ref C)=true
theorem run_make {pins:List (Addr×Obj)} {σ:St} {H:Hp} {s:Shared} {Q:VK} {us:List Value} {vs:List V} (M:Mk X.K C f) (F:FnOk X.prog X.w X.K X.mg X.base CX k f fd ps sp) (hr:Room (k+1) X.A) (hb:Binds X.K fd ps ds) (hd:Vals dvs ds)
    (hx:Passes CX X E) (I:Inv X pins σ H s) (r:Vals vs us)
    (h:∀ x dx,H x=none→H dx=none→dx≠x→sp (.ref x::(vs++dvs)) (upd (upd H dx (.own x)) x (.ins C dx [])) (fun v H2=>v=.non∧Q (.ref x) H2) E) :
    wpAny (model X.prog X.w) X.A (call (.ref C) us) (EP X pins σ Q) X.xe s:=by
  have hq:=h (s.heap.objs.size+1) s.heap.objs.size (I.hok.fresh (Nat.le_succ _)) (I.hok.fresh (Nat.le_refl _)) (Nat.ne_of_lt (Nat.lt_succ_self _))
  have I2:=Inv.made (C:=C) I
  have r2:Vals (V.ref (s.heap.objs.size+1)::(vs++dvs)) (Value.ref (s.heap.objs.size+1)::(us++ds)):=.cons rfl (r.append hd)
  have hl:(Value.ref (s.heap.objs.size+1)::us++ds).length=ps.length:=by
    have e:=r2.length
    rw [F.len _ _ _ _ hq] at e
    exact e.symm
  refine wpAny_call (make_map (f:=f) I.kIn M.makes M.init (beq_iff_eq.mp M.fn) (codeAny_mono (F.run _ X.stack _ _ ⟨Value.ref (s.heap.objs.size+1)::us,[]⟩ (Value.ref (s.heap.objs.size+1)::(us++ds)) _ _ E (hr.make C us [])
    (I2.env0.make C us []) (hb _ (Value.ref (s.heap.objs.size+1)::us) I2.kIn hl) r2 hq) fun r s' hq' => ?_))
  cases r with
  | error e=>exact hx pins σ _ _ e s' I2 hq'
  | ok fl =>
    cases fl with
    | ret u =>
      obtain ⟨v,H',I3,rv,ev,q3⟩:=I2.after hq'
      subst ev
      exact ⟨rv,⟨V.ref (s.heap.objs.size+1),H',I3,rfl,q3⟩⟩
    | next=>exact False.elim hq'
    | brk=>exact False.elim hq'
    | cont=>exact False.elim hq'
theorem pe_make (M:Mk X.K C f) (F:FnOk X.prog X.w X.K X.mg X.base CX k f fd ps sp) (hr:Room (k+1) X.A) (hg:Gl X x) (hm:X.mg x=some (.ref C)) (hb:Binds X.K fd ps ds) (hd:Vals dvs ds) (hx:Passes CX X E)
    (ha:PA X (e::es) t) (hdb:(x == ("__debug__":Str))=false:=by decide) (he:starEach (e::es) X.env=(false,eval e X.env)::starEach es X.env:=by rfl) (hpl:(backTo pos (starEach es X.env)).any (·.1)=false:=by rfl) :
    PE X (.Call (.Name x p) (e::es) [] pos) (tMake C sp dvs E t):=by
  intro pins s σ H Q I h
  refine wpAny_Call_Name_kw (ld_glob I hg hm ?_ hdb)
  refine PySem.W.callWith_K (h₀:=X.base) I.ok.mod.kin M.kp (thn (ha pos pins s σ H _ I h) fun us s1 ⟨vs,H1,I1,r,q⟩=>⟨I1.kIn,?_⟩) he hpl
  exact run_make M F hr hb hd hx I1 r q
end
section
variable {X:Cx} {CX:CXT} {k:Nat} {f C:Addr} {fd:FuncData} {ps ks:List Str} {sp:Sp} {E:XK} {x m:Str} {p pos apos kpos:Pos} {e o:Expr} {es:List Expr} {kws:List Keyword} {te ta:TE} {t tk:TA} {nm:Option Str}
structure KBinds (K:PySem.W.Frag) (fd:FuncData) (ps ks:List Str) (g:List Value→List Value→List Value) (gV:List V→List V→List V):Prop where
  to:∀ (s:Shared) (us ws:List Value),K.In s.heap→(g us ws).length=ps.length→BindsTo s fd ⟨us,ks.zip ws⟩ (ps.zip (g us ws))
  rel:∀ {vs:List V} {us:List Value} {zs:List V} {ws:List Value},Vals vs us→Vals zs ws→Vals (gV vs zs) (g us ws)
variable {g:List Value→List Value→List Value} {gV:List V→List V→List V}
end
structure FnScope (N P:List Str) (sc:Scope):Prop where
  kind:sc.kind=.function
  co:sc.isCoroutine=false
  gen:sc.isGenerator=false
  nd:N.Nodup
  pre:N.take P.length=P
  par:∀ x∈P,sc.names.lookup x=some .local∨sc.names.lookup x=some .cell
  nofree:∀ y∈sc.names,y.2 ≠ .free
theorem bindL_out {kindOf:Str→Option NameKind} {x:Str}:∀ {binds:List (Str×Value)} {m:Str→Option Value},(∀ v,(x,v)∉binds)→bindL kindOf binds m x=m x
  | [],_,_=>rfl
  | (n,v)::r,m,h=>by
    unfold bindL
    rw [bindL_out fun w hw=>h w (List.mem_cons_of_mem _ hw)]
    split
    · have:x≠n:=by rintro rfl;exact h v List.mem_cons_self
      simp [this]
    · rfl
theorem bindC_out {kindOf:Str→Option NameKind} {x:Str}:∀ {binds:List (Str×Value)} {m:Str→Option Value},(∀ v,(x,v)∉binds)→bindC kindOf binds m x=m x
  | [],_,_=>rfl
  | (n,v)::r,m,h=>by
    unfold bindC
    rw [bindC_out fun w hw=>h w (List.mem_cons_of_mem _ hw)]
    split
    · rfl
    · have:x≠n:=by rintro rfl;exact h v List.mem_cons_self
      simp [this]
theorem bindL_get {kindOf:Str→Option NameKind} {x:Str} {v:Value}:∀ {P:List Str} {vs:List Value} {i:Nat} {m:Str→Option Value},P.Nodup→P[i]? = some x→vs[i]? = some v→kindOf x=some .local →
    bindL kindOf (P.zip vs) m x=some v
  | [],_,_,_,_,h,_,_=>by simp at h
  | _::_,[],_,_,_,_,h,_=>by simp at h
  | p::P,w::vs,0,m,nd,h1,h2,hk=>by
    simp at h1 h2;subst h1;subst h2
    show bindL kindOf ((p,w)::P.zip vs) m p=_
    unfold bindL
    rw [bindL_out fun v hv=>(List.nodup_cons.mp nd).1 (List.of_mem_zip hv).1,if_pos hk]
    simp
  | p::P,w::vs,i+1,m,nd,h1,h2,hk=>by
    show bindL kindOf ((p,w)::P.zip vs) m x=_
    unfold bindL
    exact bindL_get (i:=i) (List.nodup_cons.mp nd).2 (by simpa using h1) (by simpa using h2) hk
theorem bindC_get {kindOf:Str→Option NameKind} {x:Str} {v:Value}:∀ {P:List Str} {vs:List Value} {i:Nat} {m:Str→Option Value},P.Nodup→P[i]? = some x→vs[i]? = some v→kindOf x≠some .local →
    bindC kindOf (P.zip vs) m x=some v
  | [],_,_,_,_,h,_,_=>by simp at h
  | _::_,[],_,_,_,_,h,_=>by simp at h
  | p::P,w::vs,0,m,nd,h1,h2,hk=>by
    simp at h1 h2;subst h1;subst h2
    show bindC kindOf ((p,w)::P.zip vs) m p=_
    unfold bindC
    rw [bindC_out fun v hv=>(List.nodup_cons.mp nd).1 (List.of_mem_zip hv).1,if_neg hk]
    simp
  | p::P,w::vs,i+1,m,nd,h1,h2,hk=>by
    show bindC kindOf ((p,w)::P.zip vs) m x=_
    unfold bindC
    exact bindC_get (i:=i) (List.nodup_cons.mp nd).2 (by simpa using h1) (by simpa using h2) hk
def start (N:List Str) (vs:List V):St:=vs.map some++List.replicate (N.length - vs.length) none
def cxOf (CX:CXT) (P:Program) (w:World) (K:PySem.W.Frag) (mg:Str→Option Value) (base:Heap) (N:List Str) (qual:Str) (scope:Scope) (f:Addr) (cd:Value) (A:Around) (outer:List Env) (s:Shared) (H:Hp) (E:XK):Cx where
  prog:=P
  w:=w
  K:=K
  mg:=mg
  base:=base
  A:=A.deeper (envOfC qual scope s.heap.objs.size f cd)
  N:=N
  s₀:=s
  H₀:=H
  env:=envOfC qual scope s.heap.objs.size f cd
  outer:=outer
  stack:=envOfC qual scope s.heap.objs.size f cd::outer
  ex:=[]
  calm:=true
  fn:=fun _=>true
  pn:=[]
  xe:=fun e s'=>wpAny (model P w) (A.deeper (envOfC qual scope s.heap.objs.size f cd)) (leaving (envOfC qual scope s.heap.objs.size f cd) e) (fun _ s''=>CX outer H s E e s'') (fun e' s''=>CX outer H s E e' s'') s'
theorem cell_has {sc:Scope} {n:Nat} {x:Str} (h:sc.names.lookup x=some .cell):∃ c,(cellsFrom n sc.names []).lookup x=some c:=by
  have q:=PySem.W.cellsFrom_some sc.names n [] (.inl h)
  exact Option.isSome_iff_exists.mp q
theorem inv_start {CX:CXT} {P:Program} {w:World} {K:PySem.W.Frag} {mg:Str→Option Value} {base:Heap} {N ps:List Str} {qual:Str} {scope:Scope} {f:Addr} {cd:Value} {A:Around} {outer:List Env} {s s1:Shared} {H:Hp} {E:XK} {us:List Value} {vs:List V}
    (S:FnScope N ps scope) (hd:A.handled=none) (e0:Env0 P w K mg base A outer s H) (hl:vs.length=ps.length) (r:Vals vs us)
    (x:InCallC s s.heap.objs.size (bindL (envOfC qual scope s.heap.objs.size f cd).kindOf (ps.zip us) fun _=>none) (cellsFrom (s.heap.objs.size+1) scope.names []) (bindC (envOfC qual scope s.heap.objs.size f cd).kindOf (ps.zip us) fun _=>none) s1) :
    Inv (cxOf CX P w K mg base N qual scope f cd A outer s H E) [] (start N vs) H s1:=by
  have hpl:ps.length≤N.length:=by have:=congrArg List.length S.pre;rw [List.length_take] at this;omega
  obtain ⟨h1,tk,rfl,hk⟩:=x.done
  have noA:∀ b:Addr,b∉(cxOf CX P w K mg base N qual scope f cd A outer s H E).ex:=fun b z=>absurd (show b∈([]:List Addr) from z) (by simp)
  refine ⟨⟨e0.mod,S.kind,rfl,rfl,Nat.le_refl _,fun y z c h1 h2 => ?_,fun y hy => ?_,fun y c _ h => ?_,fun _=>hd,Around.frames_deeper e0.frames,.inr ⟨rfl,rfl⟩,fun b z=>absurd z (noA b),e0.bs,e0.bsz,fun b _ _=>noA b,fun b z=>absurd z (noA b),e0.funs,e0.frf⟩,
    rfl,e0.bare,Un.kept hk,⟨_,x.toInCall.ns,fun i y v h1 h2 h3 => ?_⟩,fun y c h=>⟨_,x.cell y c h⟩,e0.hok.fresh (Nat.le_refl _),fun y c h => ?_,fun p hp=>absurd (show p∈([]:List (Addr×Obj)) from hp) (by simp),e0.hok.kept hk,?_⟩
  · exact name_of_addr x.apart (PySem.mem_of_lookup h1) (PySem.mem_of_lookup h2)
  · have hy:scope.names.lookup y=some .cell∨scope.names.lookup y=some .free:=hy
    rcases hy with hy | hy
    · exact cell_has hy
    · exact absurd rfl (S.nofree _ (PySem.mem_of_lookup hy))
  · exact Nat.le_of_lt (x.above y c (PySem.mem_of_lookup h))
  · have hi:i<vs.length:=by
      unfold start at h2
      by_cases hi:i<vs.length
      · exact hi
      · rw [List.getElem?_append_right (by simpa using hi)] at h2
        rw [List.getElem?_replicate] at h2
        split at h2<;>cases h2
    have ha:vs[i]? = some v:=by
      unfold start at h2
      rw [List.getElem?_append_left (by simpa using hi),List.getElem?_map] at h2
      cases e:vs[i]? with
      | none=>rw [e] at h2;cases h2
      | some a=>rw [e] at h2;cases h2;rfl
    obtain ⟨u,hu,rv⟩:=r.get ha
    have hp:ps[i]? = some y:=by
      rw [← S.pre,List.getElem?_take_of_lt (by omega)];exact h1
    have ndP:ps.Nodup:=by rw [← S.pre];exact S.nd.sublist (List.take_sublist _ _)
    refine ⟨u,rv,?_⟩
    rcases S.par y (List.mem_of_getElem? hp) with k | k
    · exact .inl ⟨k,bindL_get ndP hp hu k⟩
    · obtain ⟨c,e⟩:=cell_has (n:=s.heap.objs.size+1) k
      refine .inr ⟨.inl k,c,e,?_⟩
      have q:=x.cell y c e
      rw [bindC_get ndP hp hu (by show scope.names.lookup y≠_;rw [k];decide)] at q
      exact q
  · exact e0.hok.fresh (Nat.le_of_lt (x.above y c (PySem.mem_of_lookup h)))
  · unfold start
    show _=N.length
    rw [List.length_append,List.length_map,List.length_replicate]
    omega
theorem fn_of {CX:CXT} {P:Program} {w:World} {K:PySem.W.Frag} {mg:Str→Option Value} {base:Heap} {k:Nat} {f:Addr} {name qual:Str} {params:Arguments} {body:List Stmt} {scope:Scope} {dV kV doc pm cdv ct oc:Value} {an od:Option Addr}
    {osl:Array (Option Value)} {N ps:List Str} {sp:Sp} (lk:K.lookup f=some ⟨oc,od,.func (PySem.W.fnOf name qual params body scope dV kV doc pm an cdv ct),osl⟩) (hcd:PySem.W.codeIn K cdv qual=true) (S:FnScope N ps scope)
    (len:∀ vs H Q E,sp vs H Q E→vs.length=ps.length)
    (hbody:∀ (A:Around) (outer:List Env) (s:Shared) (H:Hp) (vs:List V) (Q:VK) (E:XK),Room k (A.deeper (envOfC qual scope s.heap.objs.size f cdv))→sp vs H Q E →
      ∃ t,PSs (cxOf CX P w K mg base N qual scope f cdv A outer s H E) body t∧t { nx:=fun _ H'=>Q .non H',rt:=Q } (start N vs) H) :
    FnOk P w K mg base CX (k+1) f (PySem.W.fnOf name qual params body scope dV kV doc pm an cdv ct) ps sp:=by
  refine ⟨len,fun A outer s H args us vs Q E hr e0 hb r hsp => ?_⟩
  have hl:=len _ _ _ _ hsp
  have KX:K.In s.heap:=e0.mod.kin.keeps fun b o e=>(e0.bs b o e).1
  have lim:s.heap.NoLimit:=e0.mod.nolimit.keeps fun b o e=>(e0.bs b o e).1
  have hkind:∀ y∈ps.zip us,scope.names.lookup y.1=some .local∨(scope.names.lookup y.1=some .cell∧((cellsFrom (s.heap.objs.size+1) scope.names []).lookup y.1).isSome=true):=fun ⟨n,v⟩ hy=>by
    rcases S.par n (List.of_mem_zip hy).1 with q | q
    · exact .inl q
    · exact .inr ⟨q,PySem.W.cellsFrom_some _ _ _ (.inl q)⟩
  refine codeAny_call_function hr.depth (KX _ _ lk) rfl S.co S.gen rfl (PySem.W.codeRec_of KX hcd) (hb _ _ _ _ ?_)
  refine wpAny_newFunctionEnv_cells S.kind hkind fun env he s1 x => ?_
  subst he
  refine ⟨lim.keeps x.toInCall.keep,codeAny_func ?_⟩
  obtain ⟨t,ht,hq⟩:=hbody A outer s H vs Q E (hr.deeper _) hsp
  have I:Inv (cxOf CX P w K mg base N qual scope f cdv A outer s H E) [] (start N vs) H s1:=inv_start S hr.hd e0 hl r x
  refine wpAny_mono (ht [] s1 (start N vs) H _ I hq) (fun fl s' hs => ?_) fun e s' hs=>hs
  have fin:∀ {σ':St} {H':Hp} {v:V} {u:Value},Inv (cxOf CX P w K mg base N qual scope f cdv A outer s H E) [] σ' H' s'→RelV v u→Q v H'→CE outer P w H s Q u s' :=
    fun {σ' H' v u} J rv q=>⟨v,H',J.os,J.bare,J.base,J.hok,rv,q⟩
  cases fl with
  | ret u =>
    obtain ⟨v,σ',H',J,rv,q⟩:=hs
    exact fin J rv q
  | next =>
    obtain ⟨σ',H',J,q⟩:=hs
    exact fin (v:=V.non) (u:=Value.none) J rfl q
  | brk =>
    obtain ⟨_,_,_,q⟩:=hs
    exact False.elim q
  | cont =>
    obtain ⟨_,_,_,q⟩:=hs
    exact False.elim q
end L2
namespace L2
open PySem PySem.Spec PyProof.Rows
section
variable {X:Cx} {x:Str} {p pos:Pos} {e:Expr} {es:List Expr} {t:TA} {id T:String} {r:List V→Hp→VK→Prop}
def tCB (r:List V→Hp→VK→Prop) (t:TA):TE:=fun σ H Q=>t σ H fun vs H1=>r vs H1 Q
theorem pe_callB (hc:CallR X (.builtin id) r) (hg:Gl X x) (hm:X.mg x=none) (hv:bootBuiltins x=some (.builtin id)) (ha:PA X (e::es) t) (hn:x≠"__name__":=by decide) (hdb:(x == ("__debug__":Str))=false:=by decide)
    (he:starEach (e::es) X.env=(false,eval e X.env)::starEach es X.env:=by rfl) (hpl:(backTo pos (starEach es X.env)).any (·.1)=false:=by rfl):PE X (.Call (.Name x p) (e::es) [] pos) (tCB r t):=by
  intro pins s σ H Q I h
  refine wpAny_Call_Name_kw (ld_blt I hg hm hv ?_ hn hdb)
  exact PyProof.Rows.callWith_builtin1 (thn (ha pos pins s σ H _ I h) fun us s1 ⟨vs,H1,I1,r1,q1⟩=>hc pins s1 σ H1 vs us Q I1 r1 q1) he hpl
theorem pe_callTy (hc:CallR X (.type T) r) (hg:Gl X x) (hm:X.mg x=none) (hv:bootBuiltins x=some (.type T)) (ha:PA X (e::es) t) (hn:x≠"__name__":=by decide) (hdb:(x == ("__debug__":Str))=false:=by decide)
    (he:starEach (e::es) X.env=(false,eval e X.env)::starEach es X.env:=by rfl) (hpl:(backTo pos (starEach es X.env)).any (·.1)=false:=by rfl):PE X (.Call (.Name x p) (e::es) [] pos) (tCB r t):=by
  intro pins s σ H Q I h
  refine wpAny_Call_Name_kw (ld_blt I hg hm hv ?_ hn hdb)
  exact PyProof.Rows.callWith_type1 (thn (ha pos pins s σ H _ I h) fun us s1 ⟨vs,H1,I1,r1,q1⟩=>hc pins s1 σ H1 vs us Q I1 r1 q1) he hpl
end
end L2
namespace HT
open PySem PyProof.Rows
section
open PySem.SeqAt
open PySem.AutoSeq1 (wpAny_loadPart')
open PySem.MeetsSeq PySem.MeetsSeq2 PySem.MeetsSeq3
end
section
variable {prog:Program} {w:World} {A:Around} {E:Value→Shared→Prop} {s:Shared}
theorem cat_tup {t b:Addr} {vs ws:List Value} {Q:Value→Shared→Prop} (ht:IsTup s.heap t vs.toArray) (hb:IsTup s.heap b ws.toArray) (hv:vs≠[])
    (h1:ws=[]→Q (.ref t) s) (h2:ws≠[]→Q (.ref s.heap.objs.size) { s with heap:=s.heap.push { cls:=.type "tuple",data:=.seq (vs++ws).toArray } })
    (hsz:vs.length+ws.length≤sizeLine):wpAny (model prog w) A (binaryOp .Add (.ref t) (.ref b)) Q E s:=by
  obtain ⟨⟨cls,dd,data,sl⟩,ho,hc,n,hd⟩:=id ht
  obtain ⟨⟨cls2,dd2,data2,sl2⟩,ho2,hc2,n2,hd2⟩:=id hb
  simp only at hc hd hc2 hd2
  subst hc hd hc2 hd2
  have e:vs.toArray++ws.toArray=(vs++ws).toArray:=by simp
  by_cases hw:ws=[]
  · exact concat_meets ⟨_,ho,rfl⟩ ⟨_,ho2,rfl⟩ noFill_tuple_add seq_tuple_add PySem.F.slot_tuple_add PySem.F.entry_tuple_add (PySem.F.args_tuple_add_2 _ _)
      (tuple_addW1 t b vs.toArray ws.toArray n n2 dd dd2 sl sl2 (by simpa using hv) (by simp [hw])) ⟨ho,ho2,h1 hw⟩
  · refine concat_meets ⟨_,ho,rfl⟩ ⟨_,ho2,rfl⟩ noFill_tuple_add seq_tuple_add PySem.F.slot_tuple_add PySem.F.entry_tuple_add (PySem.F.args_tuple_add_2 _ _)
      (tuple_addW2 t b vs.toArray ws.toArray n n2 dd dd2 sl sl2 (by simpa using hv) (by simpa using hw) (by rw [List.size_toArray,List.size_toArray];exact hsz)) ⟨ho,ho2,?_⟩
    rw [e]
    exact h2 hw
def sIx (n d:Nat):Option Int→Nat
  | none=>d
  | some v=>if v<0 then (v+(n:Int)).toNat else min v.toNat n
end
end HT
namespace L2
open PySem PySem.Spec PyProof.Rows
abbrev TO:=St→Hp→(Option Int→Hp→Prop)→Prop
def PO (X:Cx) (e:Option Expr) (t:TO):Prop :=
  ∀ (pins:List (Addr×Obj)) (s:Shared) (σ:St) (H:Hp) (Q:Option Int→Hp→Prop),Inv X pins σ H s→t σ H Q →
    wpAny (model X.prog X.w) X.A (evalPart e X.env) (fun u s'=>∃ o H',Inv X pins σ H' s'∧IsPart u o∧Q o H') X.xe s
def tNoPart:TO:=fun _ H Q=>Q none H
def tPart (t:TE):TO:=fun σ H Q=>t σ H fun x H1=>∃ i,x=.int i∧Q (some i) H1
section
variable {X:Cx} {e:Expr} {te:TE} {lo hi:Option Expr} {tl th:TO} {pos p2:Pos}
theorem po_none:PO X none tNoPart:=by
  intro pins s σ H Q I h
  rw [evalPart_none]
  exact wpAny_pure ⟨none,H,I,.none,h⟩
theorem po_some (h:PE X e te):PO X (some e) (tPart te):=by
  intro pins s σ H Q I hw
  rw [evalPart_some]
  refine thn (h pins s σ H _ I hw) fun u s1 ⟨x,H1,I1,r1,q1⟩ => ?_
  obtain ⟨i,rfl,q⟩:=q1
  obtain ⟨t,rfl⟩:=r1
  exact ⟨some i,H1,I1,.int i t,q⟩
def SlR (X:Cx) (r:V→Option Int→Option Int→Hp→VK→Prop):Prop :=
  ∀ (pins:List (Addr×Obj)) (s:Shared) (σ:St) (H:Hp) (x:V) (v vl vu:Value) (lo hi:Option Int) (sl:Addr) (Q:VK),Inv X pins σ H s→RelV x v→s.heap.IsSliceOf sl vl vu .none→IsPart vl lo→IsPart vu hi→r x lo hi H Q →
    ∃ T id,typeLookup (.type T) "__getitem__"=pure (some (.builtin id))∧s.TypeIs v T∧wpAny (model X.prog X.w) X.A (getItem v (.ref sl)) (EP X pins σ Q) X.xe s
def tSl (r:V→Option Int→Option Int→Hp→VK→Prop) (te:TE) (tl th:TO):TE:=fun σ H Q=>te σ H fun x H1=>tl σ H1 fun l H2=>th σ H2 fun u H3=>r x l u H3 Q
theorem pe_slice {r:V→Option Int→Option Int→Hp→VK→Prop} (hr:SlR X r) (he:PE X e te) (hl:PO X lo tl) (hu:PO X hi th):PE X (.Subscript e (.Slice lo hi none p2) pos) (tSl r te tl th):=by
  intro pins s σ H Q I h
  refine Subscript_ (thn (he pins s σ H _ I h) fun v s1 ⟨x,H1,I1,r1,q1⟩ => ?_)
  refine wpAny_Slice (thn (hl pins s1 σ H1 _ I1 q1) fun vl s2 ⟨l,H2,I2,pl,q2⟩=>thn (hu pins s2 σ H2 _ I2 q2) fun vu s3 ⟨u,H3,I3,pu,q3⟩ => ?_)
  rw [evalPart_none]
  refine wpAny_pure ?_
  have I4:Inv X pins σ H3 { s3 with heap:=s3.heap.push { cls:=.type "slice",data:=.fields #[vl,vu,.none] } }:=I3.kept (t':=s3.toks) fun b ob q=>Heap.get?_push_of_some _ q
  obtain ⟨T,id,hT,ht,hg⟩:=hr pins { s3 with heap:=s3.heap.push { cls:=.type "slice",data:=.fields #[vl,vu,.none] } } σ H3 x v vl vu l u s3.heap.objs.size Q I4 r1 (Heap.IsSliceOf.new ..) pl pu q3
  show wpAny (model X.prog X.w) X.A (subscriptTail e (.Slice lo hi none p2) v (.ref s3.heap.objs.size)) (EP X pins σ Q) X.xe { s3 with heap:=s3.heap.push { cls:=.type "slice",data:=.fields #[vl,vu,.none] } }
  exact tail_any (ops:=[.ref s3.heap.objs.size,v]) ht hT hg (by with_unfolding_all rfl)
def rCatT (K:PySem.W.Frag):R2:=fun x y H Q=>∃ a b xs ys,x=.ref a∧y=.ref b∧SqT K H a xs∧SqT K H b ys∧xs≠[]∧xs.length+ys.length≤sizeLine ∧
  (ys=[]→Q (.ref a) H)∧(ys≠[]→∀ p,H p=none→Q (.ref p) (upd H p (.tup (xs++ys))))
theorem Vals.nil_iff {xs:List V} {us:List Value} (r:Vals xs us):us=[]↔xs=[]:=by
  cases r with
  | nil=>simp
  | cons _ _=>simp
theorem op_catT:OpR X (binaryOp .Add) (rCatT X.K):=by
  intro pins s σ H x y v u Q I rx ry h
  obtain ⟨a,b,xs,ys,rfl,rfl,ha,hb,hx,hz,q1,q2⟩:=h
  cases rx
  cases ry
  obtain ⟨its,r1,p1,_⟩:=I.tuple ha
  obtain ⟨its2,r2,p2,_⟩:=I.tuple hb
  refine HT.cat_tup p1 p2 (fun z=>hx (r1.nil_iff.mp z)) (fun z=>⟨.ref a,H,I,rfl,q1 (r2.nil_iff.mp z)⟩) (fun z => ?_) (by rw [← r1.length,← r2.length];exact hz)
  refine ⟨.ref s.heap.objs.size,_,I.laid (t':=s.toks) (o:=.tup (xs++ys)) (fun b ob q=>Heap.get?_push_of_some _ q) (Nat.le_refl _) ?_,rfl,q2 (fun w=>z (r2.nil_iff.mpr w)) _ (I.hok.fresh (Nat.le_refl _))⟩
  exact ⟨by rw [List.length_append];exact hz,_,r1.append r2,IsTup.new _ _⟩
end
end L2
namespace L2
open PySem PySem.Spec PyProof.Rows
def ixN (n:Nat) (i:Int):Option Nat:=if 0≤i then (if i<n then some i.toNat else none) else if -(n:Int)≤i then some (i+n).toNat else none
def atI {α:Type} (xs:List α) (i:Int):Option α:=(ixN xs.length i).bind fun j=>xs[j]?
theorem ixN_seq {n:Nat} {i:Int} {j:Nat} (h:ixN n i=some j):seqIndex? i n=some j∧j<n ∧ -(n:Int)≤i∧i<n:=by
  unfold ixN at h
  by_cases h0:0≤i
  · rw [if_pos h0] at h
    by_cases h1:i<n
    · rw [if_pos h1] at h
      have e:i.toNat=j:=Option.some.inj h
      exact ⟨by rw [seqIndex_of h0 h1,e],by omega,by omega,h1⟩
    · rw [if_neg h1] at h;cases h
  · rw [if_neg h0] at h
    by_cases h1 : -(n:Int)≤i
    · rw [if_pos h1] at h
      have e:(i+n).toNat=j:=Option.some.inj h
      exact ⟨by rw [seqIndex_neg (by omega) h1,e],by omega,h1,by omega⟩
    · rw [if_neg h1] at h;cases h
theorem atI_get {α:Type} {xs:List α} {i:Int} {v:α} (h:atI xs i=some v):∃ j,seqIndex? i xs.length=some j∧xs[j]? = some v∧j<xs.length ∧ -(xs.length:Int)≤i∧i<xs.length:=by
  unfold atI at h
  cases e:ixN xs.length i with
  | none=>rw [e] at h;cases h
  | some j =>
    rw [e] at h
    obtain ⟨h1,h2,h3,h4⟩:=ixN_seq e
    exact ⟨j,h1,h,h2,h3,h4⟩
def PlainIx (b:Expr):Prop:=∀ o i,subscripted b false o i=operate [o,i] (getItem o i)
def IxR (X:Cx) (r:R2):Prop :=
  ∀ (value slice:Expr) (pins:List (Addr×Obj)) (s:Shared) (σ:St) (H:Hp) (x y:V) (v u:Value) (Q:VK),Inv X pins σ H s→RelV x v→RelV y u→r x y H Q →
    subscripted slice false v u=operate [v,u] (getItem v u)→wpAny (model X.prog X.w) X.A (subscriptTail value slice v u) (EP X pins σ Q) X.xe s
def MtR (X:Cx) (id:String) (r:V→List V→Hp→VK→Prop):Prop :=
  ∀ (pins:List (Addr×Obj)) (s:Shared) (σ:St) (H:Hp) (x:V) (xs:List V) (v:Value) (us:List Value) (Q:VK),Inv X pins σ H s→RelV x v→Vals xs us→r x xs H Q →
    wpAny (model X.prog X.w) X.A (call (.builtin id) (v::us)) (EP X pins σ Q) X.xe s
section
variable {X:Cx} {a b:Expr} {ta tb:TE} {pos:Pos}
theorem pe_ix {r:R2} (hr:IxR X r) (ha:PE X a ta) (hb:PE X b tb) (hs:PlainIx b):PE X (.Subscript a b pos) (tOp r ta tb):=by
  intro pins s σ H Q I h
  exact Subscript_ (binT ha hb I h fun v u s2 x y H2 I2 rx ry q=>hr a b pins s2 σ H2 x y v u Q I2 rx ry q (hs _ _))
def rIxL (K:PySem.W.Frag):R2:=fun x y H Q=>∃ p xs i v,x=.ref p∧y=.int i∧SqL K H p xs∧atI xs i=some v∧Q v H
def rIxT (K:PySem.W.Frag):R2:=fun x y H Q=>∃ p xs i v,x=.ref p∧y=.int i∧SqT K H p xs∧atI xs i=some v∧Q v H
def rIxS:R2:=fun x y H Q=>∃ z i c,x=.str z∧y=.int i∧z.length≤sizeLine∧atI z.cps.toList i=some c∧Q (.str ⟨#[c]⟩) H
theorem ix_list:IxR X (rIxL X.K):=by
  intro value slice pins s σ H x y v u Q I rx ry h hs
  obtain ⟨p,xs,i,z,rfl,rfl,hq,he,q⟩:=h
  cases rx
  obtain ⟨t,rfl⟩:=ry
  obtain ⟨its,r,pl,hz⟩:=I.list hq
  obtain ⟨j,h1,h2,h3,h4,h5⟩:=atI_get he
  obtain ⟨w,ew,rw'⟩:=r.get h2
  have hl:=r.length
  have hn:=line63
  have fin:EP X pins σ Q w s:=⟨z,H,I,rw',q⟩
  by_cases h0:0≤i
  · have hj:i.toNat=j:=by
      rw [seqIndex_of h0 h5] at h1
      exact Option.some.inj h1
    exact item_listR pl.isList h0 (by omega) (by rw [hj];simpa using ew) fin hs
  · have hj:(i+(its.toArray.size:Int)).toNat=j:=by
      rw [seqIndex_neg (by omega) h4] at h1
      rw [List.size_toArray,← hl]
      exact Option.some.inj h1
    exact subscriptTail_builtinR (x:=w) pl.isList.typeIs slot_list_getitem.lookup
      (wpAny_getItem_list_neg (Q:=fun r s'=>r=w∧EP X pins σ Q r s') pl.isList (by omega) (by rw [List.size_toArray]<;>omega) (by omega) (by rw [hj];simpa using ew) ⟨rfl,fin⟩) hs
theorem ix_tup:IxR X (rIxT X.K):=by
  intro value slice pins s σ H x y v u Q I rx ry h hs
  obtain ⟨p,xs,i,z,rfl,rfl,hq,he,q⟩:=h
  cases rx
  obtain ⟨t,rfl⟩:=ry
  obtain ⟨its,r,pl,hz⟩:=I.tuple hq
  obtain ⟨j,h1,h2,h3,h4,h5⟩:=atI_get he
  obtain ⟨w,ew,rw'⟩:=r.get h2
  have hl:=r.length
  have hn:=line63
  have fin:EP X pins σ Q w s:=⟨z,H,I,rw',q⟩
  exact subscriptTail_builtinR (x:=w) pl.typeIs slot_tuple_getitem.lookup
    (getItem_tuple (j:=j) (Q:=fun r s'=>r=w∧EP X pins σ Q r s') pl (by omega) (by omega) (by rw [List.size_toArray,← hl];exact h1) (by simpa using ew) ⟨rfl,fin⟩) hs
theorem ix_str:IxR X rIxS:=by
  intro value slice pins s σ H x y v u Q I rx ry h hs
  obtain ⟨z,i,c,rfl,rfl,hz,he,q⟩:=h
  obtain ⟨t,rfl⟩:=rx
  obtain ⟨t',rfl⟩:=ry
  obtain ⟨j,h1,h2,h3,h4,h5⟩:=atI_get he
  have hl:z.cps.toList.length=z.length:=by simp [Str.length]
  rw [hl] at h1 h4 h5
  have hn:=line63
  exact tail_any (typeIs_str s z t) slot_str_getitem.lookup (getItem_str (c:=c) (by
    have e1:decide (i < -(2^63:Int))=false:=decide_eq_false (by omega)
    have e2:decide (i≥2^63)=false:=decide_eq_false (by omega)
    rw [e1,e2,Bool.or_false]) (by rw [h1];simpa using h2) ⟨.str ⟨#[c]⟩,H,I.tok _,⟨_,rfl⟩,q⟩) hs
def flatV:V→Bool
  | .non=>true
  | .bl _=>true
  | .int _=>true
  | .str _=>true
  | _=>false
def eqV:V→V→Bool
  | .non,.non=>true
  | .bl a,.bl b=>a == b
  | .bl a,.int b=>(if a then 1 else 0) == b
  | .int a,.bl b=>a == (if b then 1 else 0)
  | .int a,.int b=>a == b
  | .str a,.str b=>a == b
  | _,_=>false
theorem eqAt_V {A:Around} {s:Shared} {y x:V} {u v:Value} (ry:RelV y u) (rx:RelV x v) (fy:flatV y=true) (fx:flatV x=true):SeqAt.EqAt A s u v (eqV y x):=by
  cases y with
  | non =>
    cases ry
    cases x with
    | non=>cases rx;exact SeqAt.EqAt.same _
    | bl b=>cases rx;exact SeqAt.EqAt.none_bool b
    | int b=>obtain ⟨t,rfl⟩:=rx;exact SeqAt.EqAt.none_int b t
    | str b=>obtain ⟨t,rfl⟩:=rx;exact SeqAt.EqAt.none_str b t
    | _=>exact absurd (show false=true from fx) Bool.false_ne_true
  | bl a =>
    cases ry
    cases x with
    | non=>cases rx;exact SeqAt.EqAt.bool_none a
    | bl b=>cases rx;exact SeqAt.EqAt.bool_bool a b
    | int b=>obtain ⟨t,rfl⟩:=rx;exact SeqAt.EqAt.bool_int a b t
    | str b=>obtain ⟨t,rfl⟩:=rx;exact SeqAt.EqAt.bool_str a b t
    | _=>exact absurd (show false=true from fx) Bool.false_ne_true
  | int a =>
    obtain ⟨t',rfl⟩:=ry
    cases x with
    | non=>cases rx;exact SeqAt.EqAt.int_none a t'
    | bl b=>cases rx;exact SeqAt.EqAt.int_bool a t' b
    | int b=>obtain ⟨t,rfl⟩:=rx;exact SeqAt.EqAt.int_int a t' b t
    | str b=>obtain ⟨t,rfl⟩:=rx;exact SeqAt.EqAt.int_str a t' b t
    | _=>exact absurd (show false=true from fx) Bool.false_ne_true
  | str a =>
    obtain ⟨t',rfl⟩:=ry
    cases x with
    | non=>cases rx;exact SeqAt.EqAt.str_none a t'
    | bl b=>cases rx;exact SeqAt.EqAt.str_bool a t' b
    | int b=>obtain ⟨t,rfl⟩:=rx;exact SeqAt.EqAt.str_int a t' b t
    | str b=>obtain ⟨t,rfl⟩:=rx;exact SeqAt.EqAt.str_str a t' b t
    | _=>exact absurd (show false=true from fx) Bool.false_ne_true
  | _=>exact absurd (show false=true from fy) Bool.false_ne_true
def eqU (x:V) (u:Value):Bool:=match u with
  | .none=>eqV .non x
  | .bool b=>eqV (.bl b) x
  | .int i _=>eqV (.int i) x
  | .str z _=>eqV (.str z) x
  | _=>false
theorem eqU_of {x y:V} {u:Value} (r:RelV y u) (f:flatV y=true):eqU x u=eqV y x:=by
  cases y with
  | non=>cases r;rfl
  | bl b=>cases r;rfl
  | int i=>obtain ⟨t,rfl⟩:=r;rfl
  | str z=>obtain ⟨t,rfl⟩:=r;rfl
  | _=>exact absurd (show false=true from f) Bool.false_ne_true
theorem any_eqU {x:V}:∀ {xs:List V} {us:List Value},Vals xs us→xs.all flatV=true→us.any (eqU x)=xs.any fun y=>eqV y x
  | _,_,.nil,_=>rfl
  | y::xs,u::us,.cons r t,f=>by
    rw [List.all_cons,Bool.and_eq_true] at f
    rw [List.any_cons,List.any_cons,eqU_of r f.1,any_eqU t f.2]
theorem mem_eqAt {A:Around} {s:Shared} {x:V} {v:Value} (rx:RelV x v) (fx:flatV x=true):∀ {xs:List V} {us:List Value},Vals xs us→xs.all flatV=true→∀ u∈us,SeqAt.EqAt A s u v (eqU x u)
  | _,_,.nil,_=>fun u hu=>by cases hu
  | y::xs,u::us,.cons r t,f=>fun u' hu=>by
    rw [List.all_cons,Bool.and_eq_true] at f
    rcases List.mem_cons.mp hu with rfl | hu
    · rw [eqU_of r f.1];exact eqAt_V r rx f.1 fx
    · exact mem_eqAt rx fx t f.2 u' hu
def inV (x:V) (xs:List V):Bool:=xs.any fun y=>eqV y x
def rIn (K:PySem.W.Frag) (neg:Bool):R2:=fun x y H Q=>∃ p xs,y=.ref p∧(SqL K H p xs∨SqT K H p xs)∧flatV x=true∧xs.all flatV=true∧Q (.bl (if neg then !inV x xs else inV x xs)) H
theorem op_in_seq:OpR X (compareOp .In) (rIn X.K false):=by
  intro pins s σ H x y v u Q I rx ry h
  obtain ⟨p,xs,rfl,hq,fx,fs,q⟩:=h
  cases ry
  rcases hq with hq | hq
  · obtain ⟨its,r,pl,hz⟩:=I.list hq
    refine SeqAt.in_listAt (eqU x) pl.isList (fun w hw=>mem_eqAt rx fx r fs w (by simpa using hw)) ⟨.bl _,H,I,rfl,?_⟩
    rw [show its.toArray.any (eqU x)=its.any (eqU x) by simp,any_eqU r fs]
    exact q
  · obtain ⟨its,r,pl,hz⟩:=I.tuple hq
    refine SeqAt.in_tupleAt (eqU x) pl (fun w hw=>mem_eqAt rx fx r fs w (by simpa using hw)) ⟨.bl _,H,I,rfl,?_⟩
    rw [show its.toArray.any (eqU x)=its.any (eqU x) by simp,any_eqU r fs]
    exact q
theorem op_notIn_seq:OpR X (compareOp .NotIn) (rIn X.K true):=by
  intro pins s σ H x y v u Q I rx ry h
  obtain ⟨p,xs,rfl,hq,fx,fs,q⟩:=h
  cases ry
  rcases hq with hq | hq
  · obtain ⟨its,r,pl,hz⟩:=I.list hq
    refine SeqAt.notIn_listAt (eqU x) pl.isList (fun w hw=>mem_eqAt rx fx r fs w (by simpa using hw)) ⟨.bl _,H,I,rfl,?_⟩
    rw [show its.toArray.any (eqU x)=its.any (eqU x) by simp,any_eqU r fs]
    exact q
  · obtain ⟨its,r,pl,hz⟩:=I.tuple hq
    refine SeqAt.notIn_tupleAt (eqU x) pl (fun w hw=>mem_eqAt rx fx r fs w (by simpa using hw)) ⟨.bl _,H,I,rfl,?_⟩
    rw [show its.toArray.any (eqU x)=its.any (eqU x) by simp,any_eqU r fs]
    exact q
theorem op_notIn_str:OpR X (compareOp .NotIn) (fun x y H Q=>∃ i j,x=.str i∧y=.str j∧Q (.bl (!(!(Builtin.Str.occurrences j i 0 j.length 1).isEmpty))) H):=by
  intro pins s σ H x y v u Q I rx ry h
  obtain ⟨i,j,rfl,rfl,q⟩:=h
  obtain ⟨t,rfl⟩:=rx
  obtain ⟨t',rfl⟩:=ry
  exact notIn_str ⟨.bl _,H,I,rfl,q⟩
theorem call_len_seq:CallR X (.builtin "len") (fun xs H Q=>∃ p ys,xs=[.ref p]∧(SqL X.K H p ys∨SqT X.K H p ys)∧Q (.int ys.length) H):=by
  intro pins s σ H xs us Q I r h
  obtain ⟨p,ys,rfl,hq,q⟩:=h
  obtain ⟨u,rfl,rx⟩:=vals1 r
  cases rx
  have hn:=line63
  rcases hq with hq | hq
  · obtain ⟨its,r',pl,hz⟩:=I.list hq
    have hlen:=r'.length
    exact Calls.call_len_list pl.isList (by simp only [List.size_toArray]<;>omega) ⟨.int ys.length,H,I.tok _,⟨s.toks+1,by rw [List.size_toArray,hlen]⟩,q⟩
  · obtain ⟨its,r',pl,hz⟩:=I.tuple hq
    have hlen:=r'.length
    exact len_tuple pl (by simp only [List.size_toArray]<;>omega) ⟨.int ys.length,H,I.tok _,⟨s.toks+1,by rw [List.size_toArray,hlen]⟩,q⟩
theorem call_len_str:CallR X (.builtin "len") (fun xs H Q=>∃ z,xs=[.str z]∧z.length≤sizeLine∧Q (.int z.length) H):=by
  intro pins s σ H xs us Q I r h
  obtain ⟨z,rfl,hz,q⟩:=h
  obtain ⟨u,rfl,t,rfl⟩:=vals1 r
  have hn:=line63
  exact len_str (by omega) ⟨.int z.length,H,I.tok _,⟨_,rfl⟩,q⟩
def tyV (K:PySem.W.Frag) (T:String) (x:V) (H:Hp):Prop:=match x with
  | .str _=>T="str"
  | .int _=>T="int"
  | .ref p=>(T="list"∧∃ xs,SqL K H p xs)∨(T="tuple"∧∃ o,K.lookup p=some o∧o.cls=.type "tuple"∧o.dict=none) ∨
      (T="dict"∧((∃ kvs,H p=some (.dK kvs))∨∃ kvs,H p=some (.dT kvs)))∨(T="set"∧∃ S n,H p=some (.set S n))
  | _=>False
theorem tyV_is {pins:List (Addr×Obj)} {σ:St} {H:Hp} {s:Shared} {T:String} {x:V} {v:Value} (I:Inv X pins σ H s) (r:RelV x v) (ty:tyV X.K T x H) :
    s.TypeIs v T∧∀ a,v=.ref a→∃ ob,s.heap.get? a=some ob∧ob.dict=none:=by
  cases x with
  | str z =>
    obtain ⟨t,rfl⟩:=r
    cases (show T="str" from ty)
    exact ⟨typeIs_str s z t,fun _ e=>nomatch e⟩
  | int i =>
    obtain ⟨t,rfl⟩:=r
    cases (show T="int" from ty)
    exact ⟨typeIs_int s i t,fun _ e=>nomatch e⟩
  | ref p =>
    cases r
    rcases ty with ⟨rfl,xs,hq⟩ | ⟨rfl,o,hk,hc,hd⟩ | ⟨rfl,hk⟩ | ⟨rfl,S,n,hk⟩
    · obtain ⟨its,_,pl,_⟩:=I.list hq
      refine ⟨pl.isList.typeIs,fun a e => ?_⟩
      cases e
      obtain ⟨o,n,e,c,hd,_⟩:=pl
      exact ⟨o,e,hd⟩
    · refine ⟨⟨o,I.kIn p o hk,hc⟩,fun a e => ?_⟩
      cases e
      exact ⟨o,I.kIn _ o hk,hd⟩
    · have z:∃ o,s.heap.get? p=some o∧o.ExactDict:=by
        rcases hk with ⟨kvs,hk⟩ | ⟨kvs,hk⟩
        · obtain ⟨_,_,_,_,o,_,_,e,ex,_⟩:=I.hok p _ hk
          exact ⟨o,e,ex⟩
        · obtain ⟨_,_,_,_,o,_,_,e,ex,_⟩:=I.hok p _ hk
          exact ⟨o,e,ex⟩
      obtain ⟨o,e,ex⟩:=z
      refine ⟨⟨o,e,ex.1⟩,fun a e2 => ?_⟩
      cases e2
      exact ⟨o,e,ex.2.1⟩
    · obtain ⟨o,_,_,_,e,ex,_⟩:=I.hok p _ hk
      refine ⟨⟨o,e,ex.1⟩,fun a e2 => ?_⟩
      cases e2
      exact ⟨o,e,ex.2.1⟩
  | _=>exact False.elim ty
def tBM0 (K:PySem.W.Frag) (T:String) (r:V→List V→Hp→VK→Prop) (to:TE):TE:=fun σ H Q=>to σ H fun x H1=>tyV K T x H1∧r x [] H1 Q
def tBM (K:PySem.W.Frag) (T:String) (r:V→List V→Hp→VK→Prop) (to:TE) (t:TA):TE:=fun σ H Q=>to σ H fun x H1=>tyV K T x H1∧t σ H1 fun xs H2=>r x xs H2 Q
variable {o e:Expr} {es:List Expr} {to:TE} {t:TA} {name:Str} {apos cpos:Pos} {T id:String} {r:V→List V→Hp→VK→Prop}
theorem pe_bm0 (pa:PlainAttrs T) (slot:Slot T name id) (hty:typeOf (.builtin id)=pure (.type "method_descriptor")) (hm:MtR X id r) (ho:PE X o to)
    (hbase:attributeBase o name X.env (eval o X.env)=eval o X.env:=by rfl) (hline:(apos.endLine == cpos.line)=true:=by rfl):PE X (.Call (.Attribute o name apos) [] [] cpos) (tBM0 X.K T r to):=by
  intro pins s σ H Q I h
  refine wpAny_Call_method0_late hbase hline (thn (ho pins s σ H _ I h) fun v s1 ⟨x,H1,I1,r1,ty,q1⟩ => ?_)
  obtain ⟨h1,h2⟩:=tyV_is I1 r1 ty
  exact ⟨T,id,pa,slot,hty,h1,h2,Calls.callWith_builtin rfl (PySem.evalArgs_none (hm pins s1 σ H1 x [] v [] Q I1 r1 .nil q1))⟩
theorem pe_bm (pa:PlainAttrs T) (slot:Slot T name id) (hty:typeOf (.builtin id)=pure (.type "method_descriptor")) (hm:MtR X id r) (ho:PE X o to) (ha:PA X (e::es) t)
    (hbase:attributeBase o name X.env (eval o X.env)=eval o X.env:=by rfl)
    (hfew:((backTo cpos (starEach (e::es) X.env)).all (fun x => !x.1)&&(backToKw cpos (keywordEach [] X.env)).all (fun x=>x.1.isSome)
      && decide ((e::es).length+([]:List Keyword).length+(if ([]:List Keyword).isEmpty then 0 else 1)<30))=true:=by rfl)
    (hline:(apos.endLine == cpos.line)=true:=by rfl) (hs:starEach (e::es) X.env=(false,eval e X.env)::starEach es X.env:=by rfl) (hplain:(backTo cpos (starEach es X.env)).any (·.1)=false:=by rfl) :
    PE X (.Call (.Attribute o name apos) (e::es) [] cpos) (tBM X.K T r to t):=by
  intro pins s σ H Q I h
  refine wpAny_Call_method_late hbase hfew hline rfl (thn (ho pins s σ H _ I h) fun v s1 ⟨x,H1,I1,r1,ty,q1⟩ => ?_)
  obtain ⟨h1,h2⟩:=tyV_is I1 r1 ty
  refine ⟨T,id,pa,slot,hty,h1,h2,?_⟩
  have hA:=ha cpos pins s1 σ H1 _ I1 q1
  rw [hs] at hA ⊢
  refine Calls.callWith_builtin (by show (false||(backTo cpos (starEach es X.env)).any (·.1))=false;rw [hplain]<;>rfl) (Calls.evalArgs_plain ?_)
  exact thn hA fun us s2 ⟨vs,H2,I2,r2,q2⟩=>hm pins s2 σ H2 x vs v us Q I2 r1 r2 q2
/- xs.append(e),list.index on a module's tuple .. are MtR facts of 06m -/
end
end L2
namespace L2
open PySem PySem.Spec PyProof.Rows
def MtM (X:Cx) (id:String) (r:V→List V→Hp→VK→Prop):Prop :=
  ∀ (pins:List (Addr×Obj)) (s:Shared) (σ:St) (H:Hp) (x:V) (xs:List V) (v:Value) (us:List Value) (Q:VK),Inv X pins σ H s→RelV x v→Vals xs us→r x xs H Q →
    wpAny (model X.prog X.w) X.A (call (.builtin id) (v::us)) (EP X pins σ Q) X.xe s
theorem Vals.one:∀ {x:V} {us:List Value},Vals [x] us→∃ u,us=[u]∧RelV x u
  | _,_,.cons r .nil=>⟨_,rfl,r⟩
section
variable {X:Cx} {pins:List (Addr×Obj)} {σ:St} {H:Hp} {s:Shared} {l b:Addr} {xs ys zs:List V}
theorem Inv.lset {its its':List Value} {n:Nat} {f:Array Value→Array Value} {t':Nat} (I:Inv X pins σ H s) (hH:H l=some (.lst xs))
    (e:s.heap.get? l=some { cls:=.type "list",data:=.seq its.toArray n }) (hf:f its.toArray=its'.toArray) (hv:Vals ys its') (hz:ys.length≤sizeLine) :
    Inv X pins σ (upd H l (.lst ys)) { s with heap:=s.heap.update l (Obj.mapSeq f),toks:=t' }:=by
  have q:=PySem.IsL.update e f
  rw [hf] at q
  refine I.write (x:=l) (e:=l) (by rw [hH];exact trivial) (.inl rfl) (fun b' u hb hu=>(Heap.get?_update_other s.heap (Obj.mapSeq f) (Ne.symm hb)).trans hu) ⟨_,q⟩ ?_
  exact ⟨hz,its',_,hv,q⟩
theorem Inv.lnew {its:List Value} {t':Nat} (I:Inv X pins σ H s) (hv:Vals ys its) (hz:ys.length≤sizeLine) :
    Inv X pins σ (upd H s.heap.objs.size (.lst ys)) { s with heap:=s.heap.push { cls:=.type "list",data:=.seq its.toArray },toks:=t' } :=
  I.laid (fun _ _ q=>Heap.get?_push_of_some _ q) (Nat.le_refl _) ⟨hz,its,0,hv,Heap.get?_push_size _ rfl⟩
theorem Inv.fresh (I:Inv X pins σ H s):H s.heap.objs.size=none:=I.hok.fresh (Nat.le_refl _)
theorem Inv.lstM (I:Inv X pins σ H s) (hH:H l=some (.lst xs)):xs.length≤sizeLine∧∃ (its:List Value) (n:Nat),Vals xs its∧xs.length=its.length∧s.heap.get? l=some { cls:=.type "list",data:=.seq its.toArray n }:=by
  obtain ⟨z,its,n,r,e⟩:=I.hok l _ hH
  exact ⟨z,its,n,r,r.length,e⟩
end
section
variable {X:Cx}
def rAppend:V→List V→Hp→VK→Prop:=fun x vs H Q=>∃ l xs y,x=.ref l∧vs=[y]∧H l=some (.lst xs)∧xs.length<sizeLine∧Q .non (upd H l (.lst (xs++[y])))
theorem mt_append:MtM X "list.append" rAppend:=by
  intro pins s σ H x vs v us Q I rx rv h
  obtain ⟨l,xs,y,rfl,rfl,hH,hz,q⟩:=h
  cases rx
  obtain ⟨u,rfl,ru⟩:=rv.one
  obtain ⟨z,its,n,r,hl,e⟩:=I.lstM hH
  refine call_meets F.slot_list_append ⟨_,e,rfl⟩ F.entry_list_append (F.args_list_append_2 _ _) (PySem.list_append l its.toArray n u (by rw [List.size_toArray];omega)) ⟨e,?_⟩
  refine ⟨.non,_,I.lset (its':=its++[u]) hH e (by simp) (r.append (.cons ru .nil)) ?_,rfl,q⟩
  rw [List.length_append,List.length_singleton]
  omega
end
section
variable {prog:Program} {w:World} {A:Around} {E:Value→Shared→Prop} {s:Shared}
end
section
variable {X:Cx}
end
end L2
namespace Att
open PySem PySem.W PySem.Calls PyProof.Rows
theorem ints_of_wellAll {P:Params} {h:Heap}:∀ (ns:List Int) (vs:List Value),WellAll P h vs (ns.map WData.int)→IntsAre vs ns:=by
  intro ns
  induction ns with
  | nil =>
    intro vs w
    rw [List.map_nil] at w
    cases w
    exact .nil
  | cons n ns ih =>
    intro vs w
    rw [List.map_cons] at w
    cases w with
    | cons a b =>
      cases a
      exact .cons _ _ (ih _ b)
theorem script_of {l:OpenLaw} {n:Nat} (hn:l.most=some n) {P:Params} {h:Heap} {args:List WData} {vals:List Value}
    (hpre:l.row.toRowW.claim.pre args=true) (hwl:WellAll P h vals args) :
    ∃ a vs ns,vals=[Value.ref a]∧args=[WData.list (ns.map WData.int)]∧h.get? a=some { cls:=.type "list",data:=.seq vs.toArray }∧IntsAre vs ns∧ns.length≤n:=by
  have hsh:WShape.hasAll [] args [.list .int]=true:=(pre_splitW hpre).1
  have hc:l.pre.holds [] { args:=args }=true:=(pre_splitW hpre).2
  obtain ⟨d,r,rfl,h1,h2⟩:=hasAllW_cons hsh
  obtain rfl:=hasAllW_nil h2
  obtain ⟨xs,rfl,h3⟩:=hasW_list h1
  obtain ⟨ns,rfl⟩:=items_int h3
  have hlen:ns.length≤n:=by
    unfold OpenLaw.pre at hc
    have h4:(WTm.not (.lt (.lit (.int (n:Int))) (.len (.arg 0)))).holds [] { args:=[.list (ns.map .int)] }=true:=by
      have h4:=(holds_andW hc).1
      rw [hn] at h4
      exact h4
    have h5:=condW_of h4 (w_not (w_lt w_lit (w_len_list (w_arg rfl))))
    rw [List.length_map] at h5
    refine Nat.le_of_not_lt fun q => ?_
    have q':(n:Int)<((ns.length:Nat):Int):=by omega
    first
      | (rw [decide_eq_true q'] at h5;exact absurd h5 (by decide))
      | (simp at h5;omega)
  cases hwl with
  | cons w1 w2 =>
    cases w2
    cases w1 with
    | list ho hall=>exact ⟨_,_,ns,rfl,rfl,ho,ints_of_wellAll ns _ hall,hlen⟩
theorem post_true (l:OpenLaw) (args:List WData):l.row.toRowW.claim.post args (.bool true) args=true :=
  postW_of (r:=l.row.toRowW) (X:=(true == true))
    (show WShape.has [] (.bool true) .bool=true by first | rfl | decide | simp [WShape.has,WShape.arms,WShape.armsAll])
    (show (WTm.eq .res (.lit (.bool true))).value [] { args:=args,res:=some (.bool true),after:=args }=some (.bool (true == true)) from w_eq_bool (w_res rfl) w_lit) rfl
section
variable {prog:Program} {w:World} {A:Around} {E:Value→Shared→Prop} {s:Shared} {K:Frag}
def ledger (h:Heap) (L d:Addr):List (Addr×Obj):=(List.range h.objs.size).filterMap fun a=>if a=L∨a=d then none else (h.get? a).map fun o=>(a,o)
end
end Att
namespace L2
open PySem PySem.Spec PyProof.Rows
theorem vals_ints:∀ {vs:List Value} {ns:List Int},IntsAre vs ns→Vals (ns.map V.int) vs
  | _,_,.nil=>.nil
  | _,_,.cons n t h=>.cons ⟨t,rfl⟩ (vals_ints h)
def Only (H:Hp):Prop:=∀ b,H b=none∨∃ o xs,H b=some (.frz o (.lst xs))
theorem law_call {P:Program} {w:World} {K:PySem.W.Frag} {mg mb:Str→Option Value} {CX:CXT} {k:Nat} {fa a:Addr} {fd:FuncData} {x:Str} {sp:Sp} {s₁:Shared} {vs:List Value} {ns:List Int}
    (KX:K.In s₁.heap) (hns:s₁.heap.Ns mainGlobals mg) (hb:s₁.heap.Ns builtinsNs mb) (hbb:∀ x:Str,x≠"__name__"→mb x=bootBuiltins x) (hlim:s₁.heap.NoLimit) (hg:s₁.gens = #[])
    (ha:s₁.heap.get? a=some { cls:=.type "list",data:=.seq vs.toArray }) (hi:IntsAre vs ns) (hl:ns.length≤sizeLine) (hr:Room k callerA)
    (F:∀ base:Heap,K.In base→base.Ns mainGlobals mg→FnOk P w K mg base CX k fa fd [x] sp) (hbind:∀ (s:Shared) (u:Value),BindsTo s fd ⟨[u],[]⟩ [(x,u)])
    (hsp:∀ H:Hp,Only H→SqL K H a (ns.map V.int)→sp [.ref a] H (fun v _=>v=.bl true) fun _ _ _=>False)
    (hCX:∀ H e s',CX [] H s₁ (fun _ _ _=>False) e s'→False) :
    codeAny (model P w) callerA (.call (.ref fa) ⟨[.ref a],[]⟩) (fun r s'=>r=.ok (.ret (.bool true))∧OldK s₁.heap s'.heap∧s'.os=s₁.os∧AllBare s'.gens) s₁:=by
  have rv:=vals_ints hi
  have lenV:=hi.length
  have core:∀ H:Hp,Only H→SqL K H a (ns.map V.int)→HOk P w H s₁.heap→(∀ b,H b≠none→b=a)→(H a≠none→K.lookup a=none) →
      codeAny (model P w) callerA (.call (.ref fa) ⟨[.ref a],[]⟩) (fun r s'=>r=.ok (.ret (.bool true))∧OldK s₁.heap s'.heap∧s'.os=s₁.os∧AllBare s'.gens) s₁:=by
    intro H hO hS hok hA hK
    have base_of:∀ {b:Addr} {o:Obj},s₁.heap.get? b=some o→H b=none→(hidT s₁.heap H).get? b=some o:=fun e n=>hidT_get e n
    have noA:∀ {b:Addr} {o:Obj} {es:Array DictEntry} {ep:Nat},s₁.heap.get? b=some o→o.data=.dict es ep→H b=none:=fun {b o es ep} e d=>by
      cases q:H b with
      | none=>rfl
      | some u =>
        have e':b=a:=hA b (by rw [q];simp)
        subst e'
        rw [ha] at e;cases e
        have d':Data.seq vs.toArray _=Data.dict es ep:=d
        cases d'
    have nsK:∀ {b:Addr} {m:Str→Option Value},s₁.heap.Ns b m→(hidT s₁.heap H).Ns b m:=fun {b m} ⟨o,es,ep,e,d,r⟩=>⟨o,es,ep,base_of e (noA e d),d,r⟩
    have hKb:K.In (hidT s₁.heap H):=fun b o e=>base_of (KX b o e) (by
      cases q:H b with
      | none=>rfl
      | some u =>
        have e':b=a:=hA b (by rw [q];simp)
        subst e'
        rw [hK (by rw [q];simp)] at e;cases e)
    have hM:Mod K mg (hidT s₁.heap H):=⟨hKb,nsK hns,⟨mb,nsK hb,hbb⟩,let ⟨mc,h1,h2⟩:=hlim;⟨mc,nsK h1,h2⟩⟩
    have e0:Env0 P w K mg (hidT s₁.heap H) callerA [] s₁ H:=⟨rfl,hM,fun b o e=>of_hidT e,Nat.le_of_eq (hidT_size _ _),trivial,fun b hb=>absurd (show b∈([]:List Addr) from hb) (by simp),hok,.of_eq hg⟩
    refine codeAny_mono ((F _ hKb (nsK hns)).run callerA [] s₁ H ⟨[.ref a],[]⟩ [.ref a] [.ref a] _ _ hr e0 (hbind s₁ (.ref a)) (.cons rfl .nil) (hsp H hO hS)) fun r s' h => ?_
    cases r with
    | error e=>exact (hCX H e s' h).elim
    | ok fl =>
      cases fl with
      | next=>exact False.elim h
      | brk=>exact False.elim h
      | cont=>exact False.elim h
      | ret u =>
        obtain ⟨v,H',os,bare,un,hok',r',q⟩:=h
        have q':v=.bl true:=q
        subst q'
        obtain rfl:u=Value.bool true:=r'
        refine ⟨rfl,OldK.of_keep fun b o e => ?_,os,bare⟩
        cases q:H b with
        | none=>exact un.keep b o e q (by intro z;exact absurd (show b∈([]:List Addr) from z) (by simp)) (by simp)
        | some u =>
          rcases hO b with z | ⟨ob,xs,z⟩
          · rw [q] at z;cases z
          · have z2:=un.frzs b ob _ z
            obtain ⟨e1,_⟩:=hok b _ z
            obtain ⟨e2,_⟩:=hok' b _ z2
            rw [e] at e1;cases e1
            exact e2
  cases hk:K.lookup a with
  | some o =>
    have e:=KX a o hk
    rw [ha] at e
    cases e
    refine core (fun _=>none) (fun _=>.inl rfl) (.inr ⟨_,vs.toArray,_,hk,rfl,rfl,rfl,by rw [List.size_toArray,lenV];exact hl,by simpa using rv⟩) (fun b u z=>by have z':(none:Option HO)=some u:=z;cases z') (fun b z=>absurd rfl z) fun z=>absurd rfl z
  | none =>
    refine core (fun b=>if b=a then some (.frz { cls:=.type "list",data:=.seq vs.toArray } (.lst (ns.map V.int))) else none) (fun b => ?_) (.inl (.inr ⟨{ cls:=.type "list",data:=.seq vs.toArray },if_pos rfl⟩)) (fun b u z => ?_) (fun b z => ?_) fun _=>hk
    · by_cases hb:b=a
      · exact .inr ⟨_,_,if_pos hb⟩
      · exact .inl (if_neg hb)
    · by_cases hb:b=a
      · have z':=(if_pos hb).symm.trans z
        cases z'
        subst hb
        exact ⟨ha,by rw [List.length_map];exact hl,vs,_,rv,ha⟩
      · have z':=(if_neg hb).symm.trans z
        cases z'
    · by_cases hb:b=a
      · exact hb
      · exact absurd (if_neg hb) z
end L2
namespace L2
open PySem PySem.Spec PyProof.Rows
abbrev KOf {K:PySem.W.Frag} {h:Heap} (_:K.In h):PySem.W.Frag:=K
end L2
/- THE LAST THEOREM (shape;LID,My.* are yours):
   My.Adr: a structure of the addresses that your layer names (classes,functions);My.Txt K t: a structure (Prop) of the equations over K;
   My.txt_mk:{K} {implicit addresses ..} (e1:nsIn K mainGlobals "law"=some (some (.ref f))) (e2:K.lookup f=some ⟨oc,od,.func (fnOf "law" "law" params body scope dV kV doc pm an cdv ct),sl⟩) (e3:codeIn K cdv "law"=true) .. : ∃ t,My.Txt K t
set_option maxHeartbeats 0 in
theorem PySem.Challenge.cw_LID_holds : PySem.Challenge.rw_LID.Holds := by
  w_on;o_law;k_head;(case hw=>w_witness2)
  k_fill
  refine L2.walk_of (l:=PySem.Challenge.rw_LID) (n:=63) (k:=40) (x:="script") (CX:=fun w=>..) (sp:=fun _=>My.sp_law) rfl (by decide) rfl ⟨rfl,by decide,by decide⟩ (fun w h Y=>PySem.W.kIn_of Y) ?F ?S ?C
  case F =>
    intro w mg fa h KX G hmg
    have T:∃ t,My.Txt (L2.KOf KX) t:=by
      dsimp only [L2.KOf]                          -- K must stand as «<heap const> w.params» for k_is
      refine' My.txt_mk ?e1 ?e2 ?e3 ..
      (case e1=>PySem.W.k_is)                    -- in the order: a name->its address->its object->its parts
      (case e2=>PySem.W.k_is)
      ..
    obtain ⟨t,T⟩:=T
    have e0:=hmg.symm.trans (PySem.W.mg_of KX G T.law)
    cases e0                                       -- fa is the law's own address
    exact ⟨_,fun s u=>.of_eq rfl,fun base kb nb=>My.law_fn T kb nb⟩     -- if «.of_eq rfl» comes too early: refine' ⟨_,?b,fun base kb nb=>My.law_fn T kb nb⟩;exact fun s u=>.of_eq rfl
  case S=>exact fun w H a ns hl hO hS=>..
  case C=>exact ..
(the tactic k_is has no namespace: write k_is) -/
namespace L2
open PySem PySem.Spec PyProof.Rows
def defArgs (s:Stmt):Arguments:=match s with
  | .FunctionDef _ a _ _ _ _ _ _ _ _=>a
  | _=>{ posonlyargs:=[],args:=[],vararg:=none,kwonlyargs:=[],kw_defaults:=[],kwarg:=none,defaults:=[] }
def defBody (s:Stmt):List Stmt:=match s with
  | .FunctionDef _ _ b _ _ _ _ _ _ _=>b
  | _=>[]
def defScope (s:Stmt):Scope:=match s with
  | .FunctionDef _ _ _ _ _ _ sc _ _ _=>sc
  | _=>{ kind:=.function,names:=[],isGenerator:=false,isCoroutine:=false }
abbrev CX0:CXT:=fun _ _ _ _ _ _=>False
abbrev E0:XK:=fun _ _ _=>False
theorem pass0 {X:Cx}:Passes CX0 X E0:=fun _ _ _ _ _ _ _ h=>h.elim
structure Fun (K:PySem.W.Frag) (x qual:Str) (st:Stmt) (f:Addr) (fd:FuncData):Prop where
  ex:∃ (oc:Value) (od:Option Addr) (kV doc pm:Value) (an:Option Addr) (cdv ct:Value) (osl:Array (Option Value)),
    fd=PySem.W.fnOf x qual (defArgs st) (defBody st) (defScope st) .none kV doc pm an cdv ct∧K.lookup f=some ⟨oc,od,.func fd,osl⟩∧PySem.W.codeIn K cdv qual=true
  kp:PySem.W.keepIn K (.ref f)=true
section
variable {P:Program} {w:World} {K:PySem.W.Frag} {mg:Str→Option Value} {base:Heap}
theorem Fun.ok {x qual:Str} {st:Stmt} {f:Addr} {fd:FuncData} {N ps:List Str} {k:Nat} {sp:Sp} (F:Fun K x qual st f fd) (S:FnScope N ps (defScope st)) (len:∀ vs H Q E,sp vs H Q E→vs.length=ps.length)
    (hbody:∀ (cdv:Value) (A:Around) (outer:List Env) (s:Shared) (H:Hp) (vs:List V) (Q:VK) (E:XK),Room k (A.deeper (envOfC qual (defScope st) s.heap.objs.size f cdv))→sp vs H Q E →
      ∃ t,PSs (cxOf CX0 P w K mg base N qual (defScope st) f cdv A outer s H E).nox (defBody st) t∧t { nx:=fun _ H'=>Q .non H',rt:=Q } (start N vs) H):FnOk P w K mg base CX0 (k+1) f fd ps sp:=by
  obtain ⟨oc,od,kV,doc,pm,an,cdv,ct,osl,rfl,lk,hcd⟩:=F.ex
  refine fn_of lk hcd S len fun A outer s H vs Q E hr hsp => ?_
  obtain ⟨t,h,q⟩:=hbody cdv A outer s H vs Q E hr hsp
  exact ⟨t,h.nox,q⟩
theorem Fun.binds {x qual:Str} {st:Stmt} {f:Addr} {fd:FuncData} {ps:List Str} (F:Fun K x qual st f fd)
    (h:∀ (kV doc pm:Value) (an:Option Addr) (cdv ct:Value) (us:List Value),us.length=ps.length→bindArgs (PySem.W.fnOf x qual (defArgs st) (defBody st) (defScope st) .none kV doc pm an cdv ct) ⟨us,[]⟩=pure (ps.zip us)):Binds K fd ps []:=by
  obtain ⟨oc,od,kV,doc,pm,an,cdv,ct,osl,rfl,lk,hcd⟩:=F.ex
  exact .all (h kV doc pm an cdv ct)
theorem fun_mk {x qual:Str} {st:Stmt} {f:Addr} {oc:Value} {od an:Option Addr} {osl:Array (Option Value)} {kV doc pm cdv ct:Value} (l:K.lookup f=some ⟨oc,od,.func (PySem.W.fnOf x qual (defArgs st) (defBody st) (defScope st) .none kV doc pm an cdv ct),osl⟩)
    (c:PySem.W.codeIn K cdv qual=true) (k:PySem.W.keepIn K (.ref f)=true):Fun K x qual st f (PySem.W.fnOf x qual (defArgs st) (defBody st) (defScope st) .none kV doc pm an cdv ct):=⟨⟨oc,od,kV,doc,pm,an,cdv,ct,osl,rfl,l,c⟩,k⟩
end
theorem small1000 {n:Nat} (h:n≤1000):n<sizeLine:=Nat.lt_of_le_of_lt h (by decide)
section
variable {X:Cx}
end
theorem iteF {A B:Prop} (h:B):if false=true then A else B:=by
  rw [if_neg Bool.false_ne_true]
  exact h
theorem iteT {A B:Prop} (h:A):if true=true then A else B:=by
  rw [if_pos rfl]
  exact h
def Same (H H':Hp):Prop:=∀ b o,H b=some o→H' b=some o
theorem Same.refl (H:Hp):Same H H:=fun _ _ h=>h
theorem Same.trans {H H1 H2:Hp} (a:Same H H1) (b:Same H1 H2):Same H H2:=fun c o h=>b c o (a c o h)
theorem Same.seq {K:PySem.W.Frag} {H H':Hp} {a:Addr} {xs:List V} (e:Same H H') (h:SqL K H a xs):SqL K H' a xs:=by
  rcases h with (h | ⟨o,h⟩) | h
  · exact .inl (.inl (e _ _ h))
  · exact .inl (.inr ⟨o,e _ _ h⟩)
  · exact .inr h
end L2
namespace EV
open PySem (Str)
inductive D where
  | non | bl (b:Bool) | int (i:Int) | str (x:Str) | tup (ds:List D) | lst (ds:List D) | own (ds:List D)
  | ty (n:String) | cls (n:String) | exc (n:String) | ins (n:String) (fs:List (String×D))
instance:Inhabited D:=⟨.non⟩
inductive R (α:Type) where
  | ok (a:α) | ex (C:String) | bad
namespace R
def bind {α β:Type}:R α→(α→R β)→R β
  | .ok a,f=>f a
  | .ex C,_=>.ex C
  | .bad,_=>.bad
end R
abbrev Dt:=List (Option D)
abbrev E:=Dt→R D
inductive O where
  | nx (δ:Dt) | rt (d:D) | bk (δ:Dt) | ct (δ:Dt) | ex (C:String) (δ:Dt) | mk (C:String) (δ:Dt) | bad
abbrev S:=Dt→O
def pw (k:Int):Int:=2^k.toNat
def nb (i:Int):Nat:=if i=0 then 0 else i.natAbs.log2+1
def MulOk (i j:Int):Prop:=nb i+nb j≤134217728
def DivOk (i j:Int):Prop:=0<j∧(nb j≤9000∨nb i≤nb j+4000)
instance {i j:Int}:Decidable (MulOk i j):=inferInstanceAs (Decidable (_≤_))
instance {i j:Int}:Decidable (DivOk i j):=inferInstanceAs (Decidable (_∧_))
def oAdd:D→D→R D
  | .int i,.int j=>.ok (.int (i+j))
  | .str x,.str y=>if x.cps.size+y.cps.size≤1000000 then .ok (.str ⟨x.cps++y.cps⟩) else .bad
  | .lst xs,.lst ys=>if xs.length+ys.length≤100000 then .ok (.lst (xs++ys)) else .bad
  | .tup xs,.tup ys=>if xs≠[]∧xs.length+ys.length≤100000 then .ok (.tup (xs++ys)) else .bad
  | _,_=>.bad
def oSub:D→D→R D
  | .int i,.int j=>.ok (.int (i - j))
  | _,_=>.bad
def oMul:D→D→R D
  | .int i,.int j=>if MulOk i j then .ok (.int (i*j)) else .bad
  | _,_=>.bad
def oDiv:D→D→R D
  | .int i,.int j=>if DivOk i j then .ok (.int (i / j)) else .bad
  | _,_=>.bad
def oMod:D→D→R D
  | .int i,.int j=>if 0<j then .ok (.int (i%j)) else .bad
  | _,_=>.bad
def oShl:D→D→R D
  | .int i,.int j=>if 0≤j∧(nb i:Int)+j≤134217728 then .ok (.int (i*pw j)) else .bad
  | _,_=>.bad
def oShr:D→D→R D
  | .int i,.int j=>if 0≤j then .ok (.int (i / pw j)) else .bad
  | _,_=>.bad
def oPow:D→D→R D
  | .int i,.int j=>if 0≤j∧(nb i:Int)*j≤134217728 then .ok (.int (i^j.toNat)) else .bad
  | _,_=>.bad
def oBand:D→D→R D
  | .int i,.int j=>if 0≤i∧0≤j then .ok (.int ((i.toNat &&& j.toNat:Nat):Int)) else .bad
  | _,_=>.bad
def oNeg:D→R D
  | .int i=>.ok (.int (-i))
  | _=>.bad
def oLt:D→D→R D
  | .int i,.int j=>.ok (.bl (decide (i<j)))
  | _,_=>.bad
def oLe:D→D→R D
  | .int i,.int j=>.ok (.bl (decide (i≤j)))
  | _,_=>.bad
def oGt:D→D→R D
  | .int i,.int j=>.ok (.bl (decide (j<i)))
  | _,_=>.bad
def oGe:D→D→R D
  | .int i,.int j=>.ok (.bl (decide (j≤i)))
  | _,_=>.bad
mutual
def D.beq:D→D→Bool
  | .non,.non=>true
  | .bl a,.bl b=>a == b
  | .bl a,.int b=>(if a then 1 else 0) == b
  | .int a,.bl b=>a == (if b then 1 else 0)
  | .int a,.int b=>a == b
  | .str a,.str b=>a == b
  | .tup a,.tup b=>D.beqs a b
  | .lst a,.lst b=>D.beqs a b
  | _,_=>false
def D.beqs:List D→List D→Bool
  | [],[]=>true
  | a::as,b::bs=>D.beq a b&&D.beqs as bs
  | _,_=>false
end
def D.sc:D→Bool
  | .non=>true | .bl _=>true | .int _=>true | .str _=>true
  | _=>false
def D.pl:Nat→D→Bool
  | _,.non=>true
  | _,.bl _=>true
  | _,.int _=>true
  | _,.str x=>x.cps.all (· < 0x110000)
  | n+1,.tup ds=>ds.all (D.pl n)
  | n+1,.lst ds=>ds.all (D.pl n)
  | _,_=>false
def D.cmp (a b:D):Bool:=(a.sc&&b.sc)||(D.pl 8 a&&D.pl 8 b)
def oEq (a b:D):R D:=if D.cmp a b then .ok (.bl (D.beq a b)) else .bad
def oNe (a b:D):R D:=if D.cmp a b then .ok (.bl (!D.beq a b)) else .bad
def oIsN:D→R D
  | .non=>.ok (.bl true)
  | _=>.ok (.bl false)
def oNotN:D→R D
  | .non=>.ok (.bl false)
  | _=>.ok (.bl true)
def isIn (x:D) (ys:List D):Option Bool:=if x.sc&&ys.all D.sc then some (ys.any fun y=>D.beq y x) else none
def oIn (a b:D):R D:=match a,b with
  | .str x,.str y=>match x.cps.toList with | [c]=>.ok (.bl (decide (c∈y.cps.toList))) | _=>.bad
  | a,.tup ds=>match isIn a ds with | some k=>.ok (.bl k) | none=>.bad
  | a,.lst ds=>match isIn a ds with | some k=>.ok (.bl k) | none=>.bad
  | _,_=>.bad
def oNotIn (a b:D):R D:=(oIn a b).bind fun d=>match d with | .bl k=>.ok (.bl (!k)) | _=>.bad
def ixN (n:Nat) (i:Int):Option Nat:=if 0≤i then (if i<n then some i.toNat else none) else if -(n:Int)≤i then some (i+n).toNat else none
def oIx:D→D→R D
  | .tup ds,.int i=>match (ixN ds.length i).bind fun j=>ds[j]? with | some d=>.ok d | none=>.bad
  | .lst ds,.int i=>match (ixN ds.length i).bind fun j=>ds[j]? with | some d=>.ok d | none=>.bad
  | .str x,.int i=>if x.cps.size≤1000000 then (match (ixN x.cps.toList.length i).bind fun j=>x.cps.toList[j]? with | some c=>.ok (.str ⟨#[c]⟩) | none=>.bad) else .bad
  | _,_=>.bad
def sIx (n d:Nat):Option Int→Nat
  | none=>d
  | some i=>if i<0 then (i+n).toNat else min i.toNat n
def cut {α:Type} (xs:List α) (lo hi:Option Int):List α:=(xs.drop (sIx xs.length 0 lo)).take (sIx xs.length xs.length hi - sIx xs.length 0 lo)
def oSl:D→Option Int→Option Int→R D
  | .tup ds,lo,hi=>if sIx ds.length 0 lo=0∧sIx ds.length ds.length hi=ds.length then .bad else .ok (.tup (cut ds lo hi))
  | .lst ds,lo,hi=>.ok (.lst (cut ds lo hi))
  | _,_,_=>.bad
def var (i:Nat):E:=fun δ=>match δ[i]? with
  | some (some (.own _))=>.bad
  | some (some d)=>.ok d
  | _=>.bad
def con (d:D):E:=fun _=>.ok d
def un (f:D→R D) (a:E):E:=fun δ=>(a δ).bind f
def bin (f:D→D→R D) (a b:E):E:=fun δ=>(a δ).bind fun x=>(b δ).bind fun y=>f x y
def truth {β:Type} (d:D) (t f:R β):R β:=match d with
  | .bl true=>t
  | .bl false=>f
  | _=>.bad
def and_ (a b:E):E:=fun δ=>(a δ).bind fun d=>truth d (b δ) (.ok (.bl false))
def or_ (a b:E):E:=fun δ=>(a δ).bind fun d=>truth d (.ok (.bl true)) (b δ)
def not_ (a:E):E:=fun δ=>(a δ).bind fun d=>truth d (.ok (.bl false)) (.ok (.bl true))
def ife (c a b:E):E:=fun δ=>(c δ).bind fun d=>truth d (a δ) (b δ)
def chain (f g:D→D→R D) (a b c:E):E:=fun δ=>(a δ).bind fun x=>(b δ).bind fun y=>(f x y).bind fun d=>truth d ((c δ).bind fun z=>g y z) (.ok (.bl false))
def evs:List E→Dt→R (List D)
  | [],_=>.ok []
  | e::es,δ=>(e δ).bind fun d=>(evs es δ).bind fun ds=>.ok (d::ds)
def tupE (es:List E):E:=fun δ=>(evs es δ).bind fun ds=>.ok (.tup ds)
def lstE (es:List E):E:=fun δ=>(evs es δ).bind fun ds=>.ok (.lst ds)
def call (f:List D→R D) (es:List E):E:=fun δ=>(evs es δ).bind f
def part:Option E→Dt→R (Option Int)
  | none,_=>.ok none
  | some e,δ=>(e δ).bind fun d=>match d with | .int i=>.ok (some i) | _=>.bad
def slc (a:E) (lo hi:Option E):E:=fun δ=>(a δ).bind fun d=>(part lo δ).bind fun l=>(part hi δ).bind fun h=>oSl d l h
/- data without a list -/
mutual
def D.flat:D→Bool
  | .lst _=>false
  | .own _=>false
  | .tup ds=>D.flats ds
  | .ins _ fs=>D.flatf fs
  | _=>true
def D.flats:List D→Bool
  | []=>true
  | d::r=>D.flat d&&D.flats r
def D.flatf:List (String×D)→Bool
  | []=>true
  | (_,d)::r=>D.flat d&&D.flatf r
end
abbrev IT:=Dt→R (List D)
def rngD (lo hi:Int):List D:=(List.range (hi - lo).toNat).map fun (k:Nat)=>D.int (lo+k)
def asL:D→R (List D)
  | .lst ds=>.ok ds
  | _=>.bad
def asT:D→R (List D)
  | .tup ds=>.ok ds
  | _=>.bad
def asA:D→R (List D)
  | .lst ds=>.ok ds
  | .tup ds=>.ok ds
  | _=>.bad
def asR1:D→R (List D)
  | .int hi=>if -(2^62)≤hi∧hi<2^62 then .ok (rngD 0 hi) else .bad
  | _=>.bad
def asR2:List D→R (List D)
  | [.int lo,.int hi]=>if -(2^62)≤lo∧lo<2^62 ∧ -(2^62)≤hi∧hi<2^62 then .ok (rngD lo hi) else .bad
  | _=>.bad
def rngS (lo hi c:Int):List D:=(List.range (if lo<hi then (hi - lo - 1) / c+1 else 0).toNat).map fun (k:Nat)=>D.int (lo+k*c)
def asR3:List D→R (List D)
  | [.int lo,.int hi,.int c]=>if (-(2^40)≤lo∧lo<2^40 ∧ -(2^40)≤hi∧hi<2^40)∧0<c∧c<2^20 then .ok (rngS lo hi c) else .bad
  | _=>.bad
def itL (g:E):IT:=fun δ=>(g δ).bind asL
def itT (g:E):IT:=fun δ=>(g δ).bind asT
def itA (g:E):IT:=fun δ=>(g δ).bind asA
def itR1 (g:E):IT:=fun δ=>(g δ).bind asR1
def itR2 (a b:E):IT:=fun δ=>(evs [a,b] δ).bind asR2
def itR3 (a b c:E):IT:=fun δ=>(evs [a,b,c] δ).bind asR3
def noEx {α:Type} (r:R α):R α:=match r with
  | .ex _=>.bad
  | r=>r
def inC (ks:List Nat) (δ:Dt) (x:D):Dt:=some x::ks.map fun k=>δ.getD k none
def flatR (rs:List D):R D:=if D.flats rs then .ok (.lst rs) else .bad
def runC (st:D→R (Option D)):List D→R (List D)
  | []=>.ok []
  | d::ds=>(st d).bind fun o=>(runC st ds).bind fun rs=>.ok (match o with | some r=>r::rs | none=>rs)
def stC (c elt:E) (ks:List Nat) (δ:Dt) (x:D):R (Option D):=(noEx (c (inC ks δ x))).bind fun d=>truth d ((noEx (elt (inC ks δ x))).bind fun r=>.ok (some r)) (.ok none)
def compIf (it:IT) (ks:List Nat) (c elt:E):E:=fun δ=>(it δ).bind fun ds=>if ds.length≤100000 then (runC (stC c elt ks δ) ds).bind flatR else .bad
def comp (it:IT) (ks:List Nat) (elt:E):E:=compIf it ks (con (.bl true)) elt
def oFld (cn f:String):D→R D
  | .ins n fs=>if n == cn then (match fs.lookup f with | some d=>.ok d | none=>.bad) else .bad
  | _=>.bad
def isMeth (cn m:String):D→Bool
  | .ins n fs=>n == cn&&(fs.lookup m).isNone
  | _=>false
def meth (cn m:String) (F:List D→R D) (o:E) (es:List E):E:=fun δ=>(o δ).bind fun d=>if isMeth cn m d then (evs es δ).bind fun ds=>F (d::ds) else .bad
def mk1 (cn f:String):List D→R D
  | [d]=>.ok (.ins cn [(f,d)])
  | _=>.bad
def bLen:List D→R D
  | [.lst ds]=>.ok (.int ds.length)
  | [.tup ds]=>.ok (.int ds.length)
  | [.str x]=>if x.cps.size≤1000000 then .ok (.int x.cps.size) else .bad
  | _=>.bad
def bAbs:List D→R D
  | [.int i]=>.ok (.int (if i<0 then -i else i))
  | _=>.bad
def bMax:List D→R D
  | [.int i,.int j]=>.ok (.int (if j>i then j else i))
  | _=>.bad
def bMin:List D→R D
  | [.int i,.int j]=>.ok (.int (if j<i then j else i))
  | _=>.bad
def bInt:List D→R D
  | [.int i]=>.ok (.int i)
  | [.bl k]=>.ok (.int (if k then 1 else 0))
  | _=>.bad
def bList:List D→R D
  | [.lst ds]=>.ok (.lst ds)
  | [.tup ds]=>.ok (.lst ds)
  | _=>.bad
def bBitLen:List D→R D
  | [.int i]=>.ok (.int (nb i))
  | _=>.bad
def excNames:List String:=["MillError","NoSize","NoBits","NoParts","NoRank","NotFinite","NoWay","NoFlags","NoFraction","Unlike","Empty","NoLeft","NoText","NoRow","NoName","Stopped"]
def exSub (C B:String):Bool:=excNames.contains C&&(C == B||B == "MillError")
def bIsi:List D→R D
  | [.exc C,.cls B]=>if excNames.contains C&&excNames.contains B then .ok (.bl (C == B||B == "MillError")) else .bad
  | [.non,.cls B]=>if excNames.contains B then .ok (.bl false) else .bad
  | [.exc C,.ty n]=>if excNames.contains C&&n == "ValueError" then .ok (.bl true) else .bad
  | [.non,.ty n]=>if ["int","bool","str","tuple","list","ValueError"].contains n then .ok (.bl false) else .bad
  | [.bl _,.ty n]=>if ["int","bool","str","tuple","list","ValueError"].contains n then .ok (.bl (n == "int"||n == "bool")) else .bad
  | [.int _,.ty n]=>if ["int","bool","str","tuple","list","ValueError"].contains n then .ok (.bl (n == "int")) else .bad
  | [.str _,.ty n]=>if ["int","bool","str","tuple","list","ValueError"].contains n then .ok (.bl (n == "str")) else .bad
  | [.tup _,.ty n]=>if ["int","bool","str","tuple","list","ValueError"].contains n then .ok (.bl (n == "tuple")) else .bad
  | [.lst _,.ty n]=>if ["int","bool","str","tuple","list","ValueError"].contains n then .ok (.bl (n == "list")) else .bad
  | _=>.bad
def isiAny (d:D):List D→R D
  | []=>.ok (.bl false)
  | c::r=>(bIsi [d,c]).bind fun x=>truth x (.ok (.bl true)) (isiAny d r)
def bIsiT:List D→R D
  | [d,.tup cs]=>isiAny d cs
  | _=>.bad
def noOwn (δ:Dt):Dt:=δ.map fun c=>match c with | some (.own _)=>none | c=>c
def view (δ:Dt):Dt:=δ.map fun c=>match c with | some (.own ds)=>some (.lst ds) | c=>c
def pass_:S:=.nx
def asg (i:Nat) (δ:Dt) (r:R D):O:=match r with
  | .ok d=>.nx (δ.set i (some d))
  | .ex C=>.ex C (noOwn δ)
  | .bad=>.bad
def xpr (δ:Dt) (r:R D):O:=match r with
  | .ok _=>.nx δ
  | .ex C=>.ex C (noOwn δ)
  | .bad=>.bad
def rtn (δ:Dt) (r:R D):O:=match r with
  | .ok d=>.rt d
  | .ex C=>.ex C (noOwn δ)
  | .bad=>.bad
def ifO (δ:Dt) (r:R D) (a b:O):O:=match r with
  | .ok (.bl true)=>a
  | .ok (.bl false)=>b
  | .ex C=>.ex C (noOwn δ)
  | _=>.bad
def assign (i:Nat) (g:E):S:=fun δ=>asg i δ (g δ)
def expr (g:E):S:=fun δ=>xpr δ (g δ)
def ret (g:E):S:=fun δ=>rtn δ (g δ)
def retN:S:=fun _=>.rt .non
def retV (g:E):S:=fun δ=>rtn δ (g (view δ))
def ownNew (i:Nat):S:=fun δ=>.nx (δ.set i (some (.own [])))
def onOwn (i:Nat) (δ:Dt) (f:List D→O):O:=match δ[i]? with
  | some (some (.own ds))=>f ds
  | _=>.bad
def appO (i:Nat) (δ:Dt) (ds:List D) (r:R D):O:=match r with
  | .ok d=>if D.flat d=true∧ds.length<100000 then .nx (δ.set i (some (.own (ds++[d])))) else .bad
  | .ex C=>.ex C (noOwn δ)
  | .bad=>.bad
def ownApp (i:Nat) (g:E):S:=fun δ=>onOwn i δ fun ds=>appO i δ ds (g (view δ))
def ownRev (i:Nat):S:=fun δ=>onOwn i δ fun ds=>.nx (δ.set i (some (.own ds.reverse)))
def asgF (i:Nat) (δ:Dt) (r:R D):O:=match r with
  | .ok d=>if D.flat d=true then .nx (δ.set i (some d)) else .bad
  | .ex C=>.ex C (noOwn δ)
  | .bad=>.bad
def assignV (i:Nat) (g:E):S:=fun δ=>asgF i δ (g (view δ))
def ifsV (c:E) (a b:S):S:=fun δ=>ifO δ (c (view δ)) (a δ) (b δ)
def takO (i:Nat) (δ:Dt) (r:R D):O:=match r with
  | .ok (.lst rs)=>.nx (δ.set i (some (.own rs)))
  | .ex C=>.ex C (noOwn δ)
  | _=>.bad
def ownComp (i:Nat) (g:E):S:=fun δ=>takO i δ (g (view δ))
def ownTake (i:Nat) (g:E):S:=fun δ=>takO i δ (g δ)
def setO (i:Nat) (δ:Dt) (ds:List D) (v k:R D):O:=match v,k with
  | .ok d,.ok (.int k)=>if D.flat d=true∧0≤k∧k<ds.length then .nx (δ.set i (some (.own (ds.set k.toNat d)))) else .bad
  | _,_=>.bad
def ownSet (i:Nat) (gk gv:E):S:=fun δ=>onOwn i δ fun ds=>setO i δ ds (gv (view δ)) (gk (view δ))
def pub (i:Nat) (δ:Dt):Dt:=match δ[i]? with
  | some (some (.own ds))=>δ.set i (some (.lst ds))
  | _=>δ
def pubS (i:Nat) (s:S):S:=fun δ=>s (pub i δ)
def ifs (c:E) (a b:S):S:=fun δ=>ifO δ (c δ) (a δ) (b δ)
def O.then (o:O) (s:S):O:=match o with
  | .nx δ=>s δ
  | o=>o
def seq (a b:S):S:=fun δ=>(a δ).then b
def brk:S:=.bk
def cont:S:=.ct
def raise (C:String):S:=.mk C
def trn (o:O) (k:S):O:=match o with
  | .nx δ1=>k δ1
  | .ct δ1=>k δ1
  | .bk δ1=>.nx δ1
  | o=>o
def forL (i:Nat) (body:S):List D→S
  | [],δ=>.nx δ
  | d::ds,δ=>trn (body (δ.set i (some d))) (forL i body ds)
def ovL (δ:Dt) (r:R D) (k:List D→O):O:=match r with
  | .ok (.lst ds)=>k ds
  | .ex C=>.ex C (noOwn δ)
  | _=>.bad
def ovT (δ:Dt) (r:R D) (k:List D→O):O:=match r with
  | .ok (.tup ds)=>k ds
  | .ex C=>.ex C (noOwn δ)
  | _=>.bad
def forsL (i:Nat) (g:E) (body:S):S:=fun δ=>ovL δ (g δ) fun ds=>forL i body ds δ
def forsT (i:Nat) (g:E) (body:S):S:=fun δ=>ovT δ (g δ) fun ds=>forL i body ds δ
def ovI (δ:Dt) (r:R (List D)) (k:List D→O):O:=match r with
  | .ok ds=>k ds
  | .ex C=>.ex C (noOwn δ)
  | .bad=>.bad
def forI (i:Nat) (it:IT) (body:S):S:=fun δ=>ovI δ (it δ) fun ds=>forL i body ds δ
def ovR (δ:Dt) (r:R D) (k:List D→O):O:=match r with
  | .ok (.int hi)=>if -(2^62)≤hi∧hi<2^62 then k (rngD 0 hi) else .bad
  | .ex C=>.ex C (noOwn δ)
  | _=>.bad
def forR1 (i:Nat) (b:E) (body:S):S:=fun δ=>ovR δ (b δ) fun ds=>forL i body ds δ
def forget (i:Nat) (o:O):O:=match o with
  | .nx δ=>.nx (δ.set i none)
  | _=>.bad
def tryO (o:O) (B:String) (i:Nat) (suite:S):O:=match o with
  | .nx δ1=>.nx δ1
  | .ex C δ1=>if exSub C B then forget i (suite ((noOwn δ1).set i (some (.exc C)))) else .bad
  | _=>.bad
def try_ (body:S) (B:String) (i:Nat) (suite:S):S:=fun δ=>tryO (body δ) B i suite
def O.res:O→R D
  | .rt d=>.ok d
  | .nx _=>.ok .non
  | .ex C _=>.ex C
  | .mk C _=>.ex C
  | _=>.bad
def start (n m:Nat) (ds:List D):Dt:=ds.map some++List.replicate (m - n) none
def Good (f:List D→R D):Prop:=∀ ns:List Int,ns.length≤63→(∀ m∈ns,nb m≤2^20)→f [.lst (ns.map .int)]=.ok (.bl true)
def fn (n m:Nat) (body:S):List D→R D:=fun ds=>if ds.length=n then (body (start n m ds)).res else .bad
end EV
namespace ES
open PySem PySem.Spec PyProof.Rows L2 EV
def excO (a C:Addr):HO:=.ext fun h=>∃ o vs,h.get? a=some o∧o.cls=.ref C∧o.data=.fields vs
mutual
inductive Rep (K:PySem.W.Frag) (mg:Str→Option Value) (H:Hp):V→D→Prop
  | non:Rep K mg H .non .non
  | bl (b:Bool):Rep K mg H (.bl b) (.bl b)
  | int (i:Int):Rep K mg H (.int i) (.int i)
  | str (x:Str):Rep K mg H (.str x) (.str x)
  | tup {a:Addr} {xs:List V} {ds:List D}:SqT K H a xs→Reps K mg H xs ds→Rep K mg H (.ref a) (.tup ds)
  | lst {a:Addr} {xs:List V} {ds:List D}:SqL K H a xs→Reps K mg H xs ds→Rep K mg H (.ref a) (.lst ds)
  | ty (n:String):Rep K mg H (.ty n) (.ty n)
  | cls {a:Addr} {n:String}:mg n=some (.ref a)→Rep K mg H (.ref a) (.cls n)
  | exc {a C:Addr} {n:String}:mg n=some (.ref C)→H a=some (excO a C)→Rep K mg H (.ref a) (.exc n)
  | ins {a C dx:Addr} {n:String} {fs:List (Str×V)} {ds:List (String×D)}:mg n=some (.ref C)→H a=some (.ins C dx fs)→Repf K mg H fs ds→Rep K mg H (.ref a) (.ins n ds)
inductive Reps (K:PySem.W.Frag) (mg:Str→Option Value) (H:Hp):List V→List D→Prop
  | nil:Reps K mg H [] []
  | cons {v:V} {d:D} {vs:List V} {ds:List D}:Rep K mg H v d→Reps K mg H vs ds→Reps K mg H (v::vs) (d::ds)
inductive Repf (K:PySem.W.Frag) (mg:Str→Option Value) (H:Hp):List (Str×V)→List (String×D)→Prop
  | nil:Repf K mg H [] []
  | cons {x:String} {v:V} {d:D} {vs:List (Str×V)} {ds:List (String×D)}:Rep K mg H v d→Repf K mg H vs ds→Repf K mg H (((x:Str),v)::vs) ((x,d)::ds)
end
theorem same_seqT {K:PySem.W.Frag} {H H':Hp} {a:Addr} {xs:List V} (e:Same H H') (h:SqT K H a xs):SqT K H' a xs:=by
  rcases h with (h | ⟨o,h⟩) | h
  · exact .inl (.inl (e _ _ h))
  · exact .inl (.inr ⟨o,e _ _ h⟩)
  · exact .inr h
section
variable {K:PySem.W.Frag} {mg:Str→Option Value} {H H':Hp}
mutual
theorem Rep.mono (s:Same H H'):∀ {v:V} {d:D},Rep K mg H v d→Rep K mg H' v d
  | _,_,.non=>.non
  | _,_,.bl b=>.bl b
  | _,_,.int i=>.int i
  | _,_,.str x=>.str x
  | _,_,.tup h r=>.tup (same_seqT s h) (Reps.mono s r)
  | _,_,.lst h r=>.lst (s.seq h) (Reps.mono s r)
  | _,_,.ty n=>.ty n
  | _,_,.cls h=>.cls h
  | _,_,.exc h e=>.exc h (s _ _ e)
  | _,_,.ins h e r=>.ins h (s _ _ e) (Repf.mono s r)
theorem Reps.mono (s:Same H H'):∀ {vs:List V} {ds:List D},Reps K mg H vs ds→Reps K mg H' vs ds
  | _,_,.nil=>.nil
  | _,_,.cons r t=>.cons (Rep.mono s r) (Reps.mono s t)
theorem Repf.mono (s:Same H H'):∀ {vs:List (Str×V)} {ds:List (String×D)},Repf K mg H vs ds→Repf K mg H' vs ds
  | _,_,.nil=>.nil
  | _,_,.cons r t=>.cons (Rep.mono s r) (Repf.mono s t)
end
theorem Reps.length:∀ {vs:List V} {ds:List D},Reps K mg H vs ds→vs.length=ds.length
  | _,_,.nil=>rfl
  | _,_,.cons _ t=>congrArg (· + 1) (Reps.length t)
theorem Reps.get:∀ {vs:List V} {ds:List D} {i:Nat} {d:D},Reps K mg H vs ds→ds[i]? = some d→∃ v,vs[i]? = some v∧Rep K mg H v d
  | _,_,_,_,.nil,e=>by simp at e
  | _,_,0,_,.cons r _,e=>by simp at e;subst e;exact ⟨_,rfl,r⟩
  | _,_,i+1,d,.cons _ t,e=>by
    obtain ⟨v,h1,h2⟩:=Reps.get (i:=i) (d:=d) t (by simpa using e)
    exact ⟨v,by simpa using h1,h2⟩
theorem Reps.append:∀ {vs ws:List V} {ds es:List D},Reps K mg H vs ds→Reps K mg H ws es→Reps K mg H (vs++ws) (ds++es)
  | _,_,_,_,.nil,s=>s
  | _,_,_,_,.cons r t,s=>.cons r (Reps.append t s)
theorem Reps.ints (ns:List Int):Reps K mg H (ns.map V.int) (ns.map D.int):=by
  induction ns with
  | nil=>exact .nil
  | cons n r ih=>exact .cons (.int n) ih
theorem ofStr_inj {x y:String} (h:(Str.ofString x)=Str.ofString y):x=y:=by
  rw [Str.ofString_eq_toList,Str.ofString_eq_toList] at h
  have h1:(x.toList.map Char.toNat).toArray=(y.toList.map Char.toNat).toArray:=congrArg Str.cps h
  have h2:x.toList.map Char.toNat=y.toList.map Char.toNat:=by simpa using h1
  have h3:∀ (l m:List Char),l.map Char.toNat=m.map Char.toNat→l=m:=by
    intro l
    induction l with
    | nil=>intro m e;cases m with | nil=>rfl | cons _ _=>cases e
    | cons c r ih =>
      intro m e
      cases m with
      | nil=>cases e
      | cons c' r' =>
        rw [List.map_cons,List.map_cons,List.cons.injEq] at e
        rw [Char.ext (UInt32.toNat_inj.mp e.1),ih r' e.2]
  exact String.toList_inj.mp (h3 _ _ h2)
theorem ofStr_beq (x y:String):((Str.ofString x) == Str.ofString y)=(x == y):=by
  rw [Bool.eq_iff_iff,beq_iff_eq,beq_iff_eq]
  exact ⟨ofStr_inj,fun e=>by rw [e]⟩
theorem Repf.lookup:∀ {fs:List (Str×V)} {ds:List (String×D)} {x:String} {d:D},Repf K mg H fs ds→ds.lookup x=some d→∃ v,fs.lookup (x:Str)=some v∧Rep K mg H v d
  | _,_,_,_,.nil,e=>by cases e
  | (_,v)::fs,(y,d')::ds,x,d,.cons r t,e=>by
    rw [List.lookup_cons] at e ⊢
    rw [ofStr_beq]
    cases q:(x == y) with
    | true =>
      rw [q] at e
      have e':d'=d:=by simpa using e
      subst e'
      exact ⟨v,rfl,r⟩
    | false=>rw [q] at e;exact Repf.lookup t e
theorem Repf.lookupN:∀ {fs:List (Str×V)} {ds:List (String×D)} {x:String},Repf K mg H fs ds→ds.lookup x=none→fs.lookup (x:Str)=none
  | _,_,_,.nil,e=>rfl
  | (_,v)::fs,(y,d')::ds,x,.cons r t,e=>by
    rw [List.lookup_cons] at e ⊢
    rw [ofStr_beq]
    cases q:(x == y) with
    | true=>rw [q] at e;cases e
    | false=>rw [q] at e;exact Repf.lookupN t e
end
def Stt (K:PySem.W.Frag) (mg:Str→Option Value) (H:Hp) (σ:L2.St) (δ:Dt):Prop :=
  σ.length=δ.length∧∀ (i:Nat) (d:D),δ[i]? = some (some d)→(∀ ds,d ≠ .own ds)→∃ v,σ[i]? = some (some v)∧Rep K mg H v d
theorem Stt.mono {K:PySem.W.Frag} {mg:Str→Option Value} {H H':Hp} {σ:L2.St} {δ:Dt} (h:Stt K mg H σ δ) (s:Same H H'):Stt K mg H' σ δ :=
  ⟨h.1,fun i d e n=>let ⟨v,a,b⟩:=h.2 i d e n;⟨v,a,b.mono s⟩⟩
theorem Stt.set {K:PySem.W.Frag} {mg:Str→Option Value} {H:Hp} {σ:L2.St} {δ:Dt} {i:Nat} {v:V} {d:D} (h:Stt K mg H σ δ) (r:Rep K mg H v d):Stt K mg H (σ.set i (some v)) (δ.set i (some d)):=by
  refine ⟨by rw [List.length_set,List.length_set];exact h.1,fun j d' e n => ?_⟩
  by_cases hj:j=i
  · subst hj
    by_cases hl:j<δ.length
    · rw [List.getElem?_set_self hl] at e
      cases e
      exact ⟨v,by rw [List.getElem?_set_self (by rw [h.1];exact hl)],r⟩
    · rw [List.getElem?_eq_none (by simp;omega)] at e
      cases e
  · rw [List.getElem?_set_ne (Ne.symm hj)] at e
    obtain ⟨u,a,b⟩:=h.2 j d' e n
    exact ⟨u,by rw [List.getElem?_set_ne (Ne.symm hj)];exact a,b⟩
structure FlyX (P:Program) (w:World) (outer:List Env) (H:Hp) (s:Shared) (C:Addr) (H':Hp) (ea:Addr) (s':Shared):Prop where
  os:s'.os=s.os
  bare:AllBare s'.gens
  un:Un (frs outer) [] H H' s.heap s'.heap
  hok:HOk P w H' s'.heap
  same:Same H H'
  new:s.heap.get? ea=none
  fly:∃ a0 B,Heap.FlyingW B outer ea (.ref C) a0 s'.heap∧(∀ b o,s.heap.get? b=some o→H b=none→b∉frs outer→B.get? b=some o)∧(∀ b u o,H' b=some u→s'.heap.get? b=some o→B.get? b=some o)
def ew (X:Cx) (C:Addr) (σ:L2.St) (H':Hp):Prop:=∀ pins H s ea s',Inv X pins σ H s→FlyX X.prog X.w X.stack H s C H' ea s'→X.xe (.ref ea) s'
def em (X:Cx) (C:Addr) (σ:L2.St) (H':Hp):Prop:=∀ pins s h' ea vs,Inv X pins σ H' s→Heap.MadeExcOf s.heap h' ea (.ref C) vs→X.xe (.ref ea) { s with heap:=h' }
def RQ (X:Cx) (σ:L2.St) (H:Hp) (r:R D) (Q:VK):Prop:=match r with
  | .ok d=>∀ v H',Same H H'→Rep X.K X.mg H' v d→Q v H'
  | .ex C=>∀ Ca,X.mg C=some (.ref Ca)→∀ H',Same H H'→ew X Ca σ H'
  | .bad=>False
def tE (X:Cx) (g:E):TE:=fun σ H Q=>∃ δ,Stt X.K X.mg H σ δ∧RQ X σ H (g δ) Q
@[irreducible] noncomputable def SE (X:Cx) (e:Expr) (g:E):Prop:=PE X e (tE X g)
def RT (X:Cx) (σ:L2.St) (H:Hp) (r:R D) (Q:Bool→Hp→Prop):Prop:=match r with
  | .ok (.bl b)=>∀ H',Same H H'→Q b H'
  | .ex C=>∀ Ca,X.mg C=some (.ref Ca)→∀ H',Same H H'→ew X Ca σ H'
  | _=>False
def tT (X:Cx) (g:E):TT:=fun σ H Q=>∃ δ,Stt X.K X.mg H σ δ∧RT X σ H (g δ) Q
@[irreducible] noncomputable def ST (X:Cx) (e:Expr) (g:E):Prop:=PT X e (tT X g)
@[irreducible] noncomputable def SW (X:Cx) (e:Expr) (g:E):Prop:=PW X e (tT X g)
def RA (X:Cx) (σ:L2.St) (H:Hp) (r:R (List D)) (Q:List V→Hp→Prop):Prop:=match r with
  | .ok ds=>∀ vs H',Same H H'→Reps X.K X.mg H' vs ds→Q vs H'
  | .ex C=>∀ Ca,X.mg C=some (.ref Ca)→∀ H',Same H H'→ew X Ca σ H'
  | .bad=>False
def tAs (X:Cx) (gs:List E):TA:=fun σ H Q=>∃ δ,Stt X.K X.mg H σ δ∧RA X σ H (evs gs δ) Q
@[irreducible] noncomputable def SA (X:Cx) (es:List Expr) (gs:List E):Prop:=PA X es (tAs X gs)
unseal SE ST SW SA
section
variable {X:Cx} {σ:L2.St} {H H1:Hp}
theorem PE.weak {e:Expr} {t t':TE} (h:PE X e t) (w:∀ σ H Q,t' σ H Q→t σ H Q):PE X e t':=fun pins s σ H Q I q=>h pins s σ H Q I (w σ H Q q)
theorem PT.weak {e:Expr} {t t':TT} (h:PT X e t) (w:∀ σ H Q,t' σ H Q→t σ H Q):PT X e t':=fun pins s σ H Q I q=>h pins s σ H Q I (w σ H Q q)
theorem PW.weak {e:Expr} {t t':TT} (h:PW X e t) (w:∀ σ H Q,t' σ H Q→t σ H Q):PW X e t':=fun wh pins s σ H Q I q=>h wh pins s σ H Q I (w σ H Q q)
theorem PA.weak {es:List Expr} {t t':TA} (h:PA X es t) (w:∀ σ H Q,t' σ H Q→t σ H Q):PA X es t':=fun pos pins s σ H Q I q=>h pos pins s σ H Q I (w σ H Q q)
theorem PS.weak {st:Stmt} {t t':TS} (h:PS X st t) (w:∀ D σ H,t' D σ H→t D σ H):PS X st t':=fun pins s σ H D I q=>h pins s σ H D I (w D σ H q)
theorem PSs.weak {st:List Stmt} {t t':TS} (h:PSs X st t) (w:∀ D σ H,t' D σ H→t D σ H):PSs X st t':=fun pins s σ H D I q=>h pins s σ H D I (w D σ H q)
theorem RQ.to {r:R D} {Q Q':VK} (h:RQ X σ H r Q) (g:∀ v H',Same H H'→Q v H'→Q' v H'):RQ X σ H r Q':=by
  cases r with
  | ok d=>exact fun v H' s r=>g v H' s (h v H' s r)
  | ex C=>exact h
  | bad=>exact h
theorem RQ.mono {r:R D} {Q:VK} (s:Same H H1) (h:RQ X σ H r Q):RQ X σ H1 r Q:=by
  cases r with
  | ok d=>exact fun v H' s' r=>h v H' (s.trans s') r
  | ex C=>exact fun Ca hc H' s'=>h Ca hc H' (s.trans s')
  | bad=>exact h
theorem RT.mono {r:R D} {Q:Bool→Hp→Prop} (s:Same H H1) (h:RT X σ H r Q):RT X σ H1 r Q:=by
  cases r with
  | ok d =>
    cases d with
    | bl b=>exact fun H' s'=>h H' (s.trans s')
    | _=>exact False.elim h
  | ex C=>exact fun Ca hc H' s'=>h Ca hc H' (s.trans s')
  | bad=>exact h
theorem RQ.bind {r:R D} {f:D→R D} {Q:VK} (h:RQ X σ H (r.bind f) Q):RQ X σ H r (fun v H'=>Same H H'∧∃ d,Rep X.K X.mg H' v d∧RQ X σ H' (f d) Q):=by
  cases r with
  | ok d=>exact fun v H' s r=>⟨s,d,r,h.mono s⟩
  | ex C=>exact h
  | bad=>exact h
theorem RA.bind {r:R (List D)} {f:List D→R D} {Q:VK} (h:RQ X σ H (r.bind f) Q):RA X σ H r (fun vs H'=>Same H H'∧∃ ds,Reps X.K X.mg H' vs ds∧RQ X σ H' (f ds) Q):=by
  cases r with
  | ok d=>exact fun v H' s r=>⟨s,d,r,h.mono s⟩
  | ex C=>exact h
  | bad=>exact h
theorem RT.bind {r:R D} {f:D→R D} {Q:Bool→Hp→Prop} (h:RT X σ H (r.bind f) Q):RQ X σ H r (fun v H'=>Same H H'∧∃ d,Rep X.K X.mg H' v d∧RT X σ H' (f d) Q):=by
  cases r with
  | ok d=>exact fun v H' s r=>⟨s,d,r,h.mono s⟩
  | ex C=>exact h
  | bad=>exact False.elim h
end
structure Sc (X:Cx) (N:List Str):Prop where
  n:X.N=N
  nd:N.Nodup
  vis:∀ x∈N,Vis X.env.scope x
  dbg:∀ x∈N,(x == ("__debug__":Str))=false∧(x == ("__classdict__":Str))=false
def Sto (X:Cx) (x:Str):Prop:=Loc X.env.scope x∧(X.fn x=true∨X.env.scope.names.lookup x=some .local)
structure Gb (X:Cx) (x:Str):Prop where
  g:X.env.scope.names.lookup x=some .globalImplicit
  d:(x == ("__debug__":Str))=false
  n:x≠"__name__"
section
variable {X:Cx} {N:List Str} {pos:Pos} {a b c e:Expr} {ga gb gc g:E}
theorem e_var (S:Sc X N) (i:Nat) {x:Str} (hN:N[i]? = some x):SE X (.Name x pos) (var i):=by
  have hm:x∈N:=List.mem_of_getElem? hN
  refine PE.weak (pe_var (i:=i) (by rw [S.n];exact hN) (S.vis x hm) (S.dbg x hm).1 (S.dbg x hm).2) fun σ H Q ⟨δ,hσ,h⟩ => ?_
  unfold var at h
  split at h
  · exact False.elim h
  · rename_i d _ hd
    obtain ⟨v,e,r⟩:=hσ.2 i d hd (by intro ds z;subst z;rename_i q;exact q ds rfl)
    exact ⟨v,e,h v H (Same.refl H) r⟩
  · exact False.elim h
theorem e_con {v:V} {d:D} (h:PE X e (tC v)) (r:∀ H,Rep X.K X.mg H v d):SE X e (con d):=PE.weak h fun σ H Q ⟨δ,hσ,q⟩=>q _ H (Same.refl H) (r H)
theorem e_int {i j}:SE X (.Constant (.int i) j pos) (con (.int i)):=e_con pe_int fun _=>.int i
theorem e_bl {b j}:SE X (.Constant (.bool b) j pos) (con (.bl b)):=e_con pe_bl fun _=>.bl b
theorem e_non {j}:SE X (.Constant .none j pos) (con .non):=e_con pe_non fun _=>.non
theorem e_str {x j}:SE X (.Constant (.str x) j pos) (con (.str x)):=e_con pe_str fun _=>.str x
theorem e_gInt {x:Str} {i:Int} (G:Gb X x) (h:∃ t,X.mg x=some (.int i t)):SE X (.Name x pos) (con (.int i)):=by
  obtain ⟨t,h⟩:=h
  exact e_con (pe_glob (v:=.int i) G.g h ⟨t,rfl⟩ G.d) fun _=>.int i
theorem e_gStr {x:Str} {i:Str} (G:Gb X x) (h:∃ t,X.mg x=some (.str i t)):SE X (.Name x pos) (con (.str i)):=by
  obtain ⟨t,h⟩:=h
  exact e_con (pe_glob (v:=.str i) G.g h ⟨t,rfl⟩ G.d) fun _=>.str i
theorem e_cls {x:String} {C:Addr} (G:Gb X x) (h:X.mg x=some (.ref C)):SE X (.Name x pos) (con (.cls x)):=e_con (pe_glob (v:=.ref C) G.g h rfl G.d) fun _=>.cls h
theorem e_ty {x:Str} {n:String} (G:Gb X x) (h:X.mg x=none) (hv:bootBuiltins x=some (.type n)):SE X (.Name x pos) (con (.ty n)) :=
  e_con (pe_bltn (v:=.ty n) G.g h hv rfl G.n G.d) fun _=>.ty n
def rD (X:Cx) (f:D→D→R D):R2:=fun x y H Q=>∃ dx dy d,Rep X.K X.mg H x dx∧Rep X.K X.mg H y dy∧f dx dy=.ok d∧∀ v H',Same H H'→Rep X.K X.mg H' v d→Q v H'
def NoX2 (f:D→D→R D):Prop:=∀ x y C,f x y ≠ .ex C
theorem RQ.op {σ:L2.St} {H:Hp} {f:D→D→R D} (nx:NoX2 f) {x y:V} {dx dy:D} {Q:VK} (r1:Rep X.K X.mg H x dx) (r2:Rep X.K X.mg H y dy) (h:RQ X σ H (f dx dy) Q):rD X f x y H Q:=by
  cases e:f dx dy with
  | ok d=>rw [e] at h;exact ⟨dx,dy,d,r1,r2,e,h⟩
  | ex C=>exact absurd e (nx dx dy C)
  | bad=>rw [e] at h;exact False.elim h
theorem bin_to {f:D→D→R D} {σ:L2.St} {H:Hp} {Q:VK} (h:tE X (EV.bin f ga gb) σ H Q):tE X ga σ H fun x H1=>tE X gb σ H1 fun y H2=>∃ dx dy,Rep X.K X.mg H2 x dx∧Rep X.K X.mg H2 y dy∧RQ X σ H2 (f dx dy) Q:=by
  obtain ⟨δ,hσ,h⟩:=h
  refine ⟨δ,hσ,(RQ.bind h).to fun x H1 s1 ⟨_,dx,r1,h1⟩ => ?_⟩
  refine ⟨δ,hσ.mono s1,(RQ.bind h1).to fun y H2 s2 ⟨_,dy,r2,h2⟩ => ?_⟩
  exact ⟨dx,dy,r1.mono s2,r2,h2⟩
theorem e_bin {op:Operator} {f:D→D→R D} (nx:NoX2 f) (ho:OpR X (binaryOp op) (rD X f)) (ha:SE X a ga) (hb:SE X b gb):SE X (.BinOp a op b pos) (EV.bin f ga gb) :=
  PE.weak (pe_op ho ha hb) fun σ H Q h=>by
    obtain ⟨δ,hσ,q⟩:=bin_to h
    refine ⟨δ,hσ,q.to fun x H1 s1 ⟨δ1,hσ1,q1⟩=>⟨δ1,hσ1,q1.to fun y H2 s2 ⟨dx,dy,r1,r2,q2⟩=>RQ.op nx r1 r2 q2⟩⟩
theorem e_cmp {op:CmpOp} {f:D→D→R D} (nx:NoX2 f) (ho:OpR X (compareOp op) (rD X f)) (ha:SE X a ga) (hb:SE X b gb) (hm:behindInMarks op b=false):SE X (.Compare a [op] [b] pos) (EV.bin f ga gb) :=
  PE.weak (pe_cmpR ho ha hb hm) fun σ H Q h=>by
    obtain ⟨δ,hσ,q⟩:=bin_to h
    refine ⟨δ,hσ,q.to fun x H1 s1 ⟨δ1,hσ1,q1⟩=>⟨δ1,hσ1,q1.to fun y H2 s2 ⟨dx,dy,r1,r2,q2⟩=>RQ.op nx r1 r2 q2⟩⟩
theorem bin_toT {f:D→D→R D} {σ:L2.St} {H:Hp} {Q:Bool→Hp→Prop} (h:tT X (EV.bin f ga gb) σ H Q):tE X ga σ H fun x H1=>tE X gb σ H1 fun y H2=>∃ dx dy,Rep X.K X.mg H2 x dx∧Rep X.K X.mg H2 y dy∧RT X σ H2 (f dx dy) Q:=by
  obtain ⟨δ,hσ,h⟩:=h
  refine ⟨δ,hσ,(RT.bind h).to fun x H1 s1 ⟨_,dx,r1,h1⟩ => ?_⟩
  refine ⟨δ,hσ.mono s1,(RT.bind h1).to fun y H2 s2 ⟨_,dy,r2,h2⟩ => ?_⟩
  exact ⟨dx,dy,r1.mono s2,r2,h2⟩
theorem RT.op {σ:L2.St} {H:Hp} {f:D→D→R D} (nx:NoX2 f) {x y:V} {dx dy:D} {Q:Bool→Hp→Prop} (r1:Rep X.K X.mg H x dx) (r2:Rep X.K X.mg H y dy) (h:RT X σ H (f dx dy) Q):rD X f x y H fun v H'=>∃ k,v=.bl k∧Q k H':=by
  cases e:f dx dy with
  | ok d =>
    rw [e] at h
    cases d with
    | bl k=>exact ⟨dx,dy,_,r1,r2,e,fun v H' s r=>by cases r;exact ⟨k,rfl,h H' s⟩⟩
    | _=>exact False.elim h
  | ex C=>exact absurd e (nx dx dy C)
  | bad=>rw [e] at h;exact False.elim h
theorem t_cmp {op:CmpOp} {f:D→D→R D} (nx:NoX2 f) (ho:OpR X (compareOp op) (rD X f)) (ha:SE X a ga) (hb:SE X b gb) (hm:behindInMarks op b=false):ST X (.Compare a [op] [b] pos) (EV.bin f ga gb) :=
  PT.weak (pt_cmpR ho ha hb hm) fun σ H Q h=>by
    obtain ⟨δ,hσ,q⟩:=bin_toT h
    refine ⟨δ,hσ,q.to fun x H1 s1 ⟨δ1,hσ1,q1⟩=>⟨δ1,hσ1,q1.to fun y H2 s2 ⟨dx,dy,r1,r2,q2⟩=>RT.op nx r1 r2 q2⟩⟩
theorem op_ofI {F:Value→Value→Sem Value} {f:D→D→R D} {C:Int→Int→Prop} {g:Int→Int→Int} (ho:OpR X F (rI C fun i j=>.int (g i j)))
    (hf:∀ dx dy d,f dx dy=.ok d→∃ i j,dx=.int i∧dy=.int j∧C i j∧d=.int (g i j)):OpR X F (rD X f):=by
  intro pins s σ H x y v u Q I rx ry ⟨dx,dy,d,r1,r2,e,q⟩
  obtain ⟨i,j,rfl,rfl,hc,rfl⟩:=hf dx dy d e
  cases r1
  cases r2
  exact ho pins s σ H _ _ v u Q I rx ry ⟨i,j,rfl,rfl,hc,q _ _ (Same.refl _) (.int _)⟩
theorem op_ofI0 {F:Value→Value→Sem Value} {f:D→D→R D} {g:Int→Int→Int} (ho:OpR X F (rI0 fun i j=>.int (g i j)))
    (hf:∀ dx dy d,f dx dy=.ok d→∃ i j,dx=.int i∧dy=.int j∧d=.int (g i j)):OpR X F (rD X f):=by
  intro pins s σ H x y v u Q I rx ry ⟨dx,dy,d,r1,r2,e,q⟩
  obtain ⟨i,j,rfl,rfl,rfl⟩:=hf dx dy d e
  cases r1
  cases r2
  exact ho pins s σ H _ _ v u Q I rx ry ⟨i,j,rfl,rfl,q _ _ (Same.refl _) (.int _)⟩
theorem op_ofB {F:Value→Value→Sem Value} {f:D→D→R D} {g:Int→Int→Bool} (ho:OpR X F (rI0 fun i j=>.bl (g i j)))
    (hf:∀ dx dy d,f dx dy=.ok d→∃ i j,dx=.int i∧dy=.int j∧d=.bl (g i j)):OpR X F (rD X f):=by
  intro pins s σ H x y v u Q I rx ry ⟨dx,dy,d,r1,r2,e,q⟩
  obtain ⟨i,j,rfl,rfl,rfl⟩:=hf dx dy d e
  cases r1
  cases r2
  exact ho pins s σ H _ _ v u Q I rx ry ⟨i,j,rfl,rfl,q _ _ (Same.refl _) (.bl _)⟩
end
theorem nb_eq (i:Int):nb i=Builtin.Int.intBits i:=by
  unfold nb Builtin.Int.intBits
  by_cases h:i=0
  · rw [if_pos h,if_pos (by rw [h];rfl)]
  · rw [if_neg h,if_neg (by simpa using h)]
theorem mulOk_ok {i j:Int} (h:MulOk i j):IntMulOk i j:=IntMulOk.of_le (m:=nb i) (n:=nb j) (Nat.le_of_eq (nb_eq i).symm) (Nat.le_of_eq (nb_eq j).symm) h
def rCatL (K:PySem.W.Frag):R2:=fun x y H Q=>∃ a b xs ys,x=.ref a∧y=.ref b∧SqL K H a xs∧SqL K H b ys∧xs.length+ys.length≤sizeLine∧∀ p,H p=none→Q (.ref p) (upd H p (.lst (xs++ys)))
section
variable {X:Cx}
theorem same_upd {H:Hp} {p:Addr} (h:H p=none) (o:HO):Same H (upd H p o):=fun b u q=>by rw [upd_ne (ne_of_none q h)];exact q
theorem list_addG (l b:Addr) (xs ys:Array Value) (n m:Nat) (d1 d2:Option Addr) (s1 s2:Array (Option Value)) (hz:xs.size+ys.size≤sizeLine) :
    Meets (Builtin.«list.__add__» ⟨[.ref l,.ref b],[]⟩) (fun _ R s=>s.heap.get? l=some { cls:=.type "list",dict:=d1,data:=.seq xs n,slots:=s1 }∧s.heap.get? b=some { cls:=.type "list",dict:=d2,data:=.seq ys m,slots:=s2 } ∧
      R (.ok (.ret (Value.ref s.heap.objs.size))) { s with heap:=s.heap.push { cls:=.type "list",data:=.seq (xs++ys) } }) :=
  .of_wp fun prog w A R s h=>by
    obtain ⟨hp,g,dd,tk,os⟩:=s
    obtain ⟨ha,hb,h⟩:=h
    have f3:=AutoSeq1.sub_list_list
    wp_walk using AutoSeq1.wpAny_loadPart' ha,AutoSeq1.wpAny_loadPart' hb
    exact ⟨_,rfl,h⟩
theorem op_catL:OpR X (binaryOp .Add) (rCatL X.K):=by
  intro pins s σ H x y v u Q I rx ry h
  obtain ⟨l,b,xs,zs,rfl,rfl,hH,hB,hz,q⟩:=h
  cases rx
  cases ry
  obtain ⟨its,r,⟨⟨c1,d1,t1,s1⟩,n,e,g1,g2,g3⟩,_⟩:=I.list hH
  obtain ⟨its2,r2,⟨⟨c2,d2,t2,s2⟩,n2,e2,k1,k2,k3⟩,_⟩:=I.list hB
  simp only at g1 g2 g3 k1 k2 k3
  subst g1 g2 g3 k1 k2 k3
  have hl:=r.length
  have hl2:=r2.length
  refine concat_meets ⟨_,e,rfl⟩ ⟨_,e2,rfl⟩ noFill_list_add seq_list_add F.slot_list_add F.entry_list_add (F.args_list_add_2 _ _) (list_addG l b its.toArray its2.toArray n n2 _ _ _ _ (by rw [List.size_toArray,List.size_toArray];omega)) ⟨e,e2,?_⟩
  have ea:its.toArray++its2.toArray=(its++its2).toArray:=by simp
  rw [ea]
  exact ⟨.ref _,_,I.lnew (t':=s.toks) (r.append r2) (by rw [List.length_append];omega),rfl,q _ I.fresh⟩
theorem nx_ite {c:Prop} [Decidable c] {d:D} {C:String}:(if c then R.ok d else R.bad)≠R.ex C:=by split<;>exact fun z=>nomatch z
theorem nxAdd:NoX2 oAdd:=fun x y C z=>by unfold oAdd at z;split at z<;>first | cases z | exact nx_ite z
theorem op_addD:OpR X (binaryOp .Add) (rD X oAdd):=by
  intro pins s σ H x y v u Q I rx ry ⟨dx,dy,d,r1,r2,e,q⟩
  unfold oAdd at e
  split at e
  · cases e;cases r1;cases r2
    exact op_add pins s σ H _ _ v u Q I rx ry ⟨_,_,rfl,rfl,q _ _ (Same.refl _) (.int _)⟩
  · split at e
    · rename_i hz
      cases e;cases r1;cases r2
      exact op_add_str pins s σ H _ _ v u Q I rx ry ⟨_,_,rfl,rfl,Nat.le_trans hz (by rw [sizeLine_eq];decide),q _ _ (Same.refl _) (.str _)⟩
    · cases e
  · split at e
    · rename_i hz
      cases e;cases r1;cases r2
      rename_i a xs h1 r1 b ys h2 r2
      exact op_catL pins s σ H _ _ v u Q I rx ry ⟨a,b,xs,ys,rfl,rfl,h1,h2,by rw [r1.length,r2.length];exact Nat.le_trans hz (by rw [sizeLine_eq];decide),fun p hp=>q _ _ (same_upd hp _) (.lst (SqL.of upd_same) ((r1.append r2).mono (same_upd hp _)))⟩
    · cases e
  · split at e
    · rename_i hz
      cases e;cases r1;cases r2
      rename_i a xs h1 r1 b ys h2 r2
      refine op_catT pins s σ H _ _ v u Q I rx ry ⟨a,b,xs,ys,rfl,rfl,h1,h2,fun z=>hz.1 ?_,by rw [r1.length,r2.length];exact Nat.le_trans hz.2 (by rw [sizeLine_eq];decide),fun z=>q _ _ (Same.refl _) ?_,fun _ p hp=>q _ _ (same_upd hp _) (.tup (SqT.of upd_same) ((r1.append r2).mono (same_upd hp _)))⟩
      · subst z
        cases r1;rfl
      · subst z
        cases r2
        rw [List.append_nil]
        exact .tup h1 r1
    · cases e
  · cases e
theorem nxSub:NoX2 oSub:=fun x y C z=>by unfold oSub at z;split at z<;>cases z
theorem op_subD:OpR X (binaryOp .Sub) (rD X oSub):=op_ofI0 op_sub fun dx dy d e=>by
  unfold oSub at e;split at e
  · cases e;exact ⟨_,_,rfl,rfl,rfl⟩
  · cases e
theorem nxMul:NoX2 oMul:=fun x y C z=>by unfold oMul at z;split at z<;>first | cases z | exact nx_ite z
theorem op_mulD:OpR X (binaryOp .Mult) (rD X oMul):=op_ofI (C:=IntMulOk) (opI fun _ _ _ _ _ _ _ hc q=>mul_int q hc) fun dx dy d e=>by
  unfold oMul at e;split at e
  · split at e
    · rename_i h;cases e;exact ⟨_,_,rfl,rfl,mulOk_ok h,rfl⟩
    · cases e
  · cases e
theorem nxDiv:NoX2 oDiv:=fun x y C z=>by unfold oDiv at z;split at z<;>first | cases z | exact nx_ite z
theorem noPy {i j:Int} (h:DivOk i j):Builtin.divisionGoesByPylong i j=false:=by
  obtain ⟨h0,h⟩:=h
  show (decide ((if j == 0 then 0 else j.natAbs.log2 / 30+1)>300)&&decide ((if i == 0 then 0 else i.natAbs.log2 / 30+1)>(if j == 0 then 0 else j.natAbs.log2 / 30+1)+150))=false
  have ej:(j == 0)=false:=by simp;omega
  unfold nb at h
  rw [if_neg (by omega:¬ j=0)] at h
  rw [ej]
  simp only [Bool.false_eq_true,if_false]
  rw [Bool.and_eq_false_iff,decide_eq_false_iff_not,decide_eq_false_iff_not]
  by_cases hi:i=0
  · rw [if_pos (by simp [hi])];omega
  · rw [if_neg (by simp [hi])]
    rw [if_neg hi] at h
    omega
theorem op_divD:OpR X (binaryOp .FloorDiv) (rD X oDiv):=op_ofI (C:=DivOk) (g:=fun i j=>i / j) (opI fun i j _ _ _ _ _ hc q=>by
    have h1:(0:Int)<j:=hc.1
    exact floordiv_int (by omega) (by rw [Int.fdiv_eq_ediv_of_nonneg i (by omega)];exact q) (.inl (noPy hc))) fun dx dy d e=>by
  unfold oDiv at e;split at e
  · split at e
    · rename_i h;cases e;exact ⟨_,_,rfl,rfl,h,rfl⟩
    · cases e
  · cases e
theorem nxMod:NoX2 oMod:=fun x y C z=>by unfold oMod at z;split at z<;>first | cases z | exact nx_ite z
theorem op_modD:OpR X (binaryOp .Mod) (rD X oMod):=op_ofI (C:=fun _ j=>0<j) (g:=fun i j=>i%j) op_mod fun dx dy d e=>by
  unfold oMod at e;split at e
  · split at e
    · rename_i h;cases e;exact ⟨_,_,rfl,rfl,h,rfl⟩
    · cases e
  · cases e
theorem nxShl:NoX2 oShl:=fun x y C z=>by unfold oShl at z;split at z<;>first | cases z | exact nx_ite z
theorem op_shlD:OpR X (binaryOp .LShift) (rD X oShl):=op_ofI (C:=fun i j=>0≤j∧(nb i:Int)+j≤134217728) (g:=fun i j=>i*pw j) (opI fun _ _ _ _ _ _ _ hc q=>lshift_int hc.1 (by rw [← nb_eq];exact hc.2) q) fun dx dy d e=>by
  unfold oShl at e;split at e
  · split at e
    · rename_i h;cases e;exact ⟨_,_,rfl,rfl,h,rfl⟩
    · cases e
  · cases e
theorem nxPow:NoX2 oPow:=fun x y C z=>by unfold oPow at z;split at z<;>first | cases z | exact nx_ite z
theorem op_powD:OpR X (binaryOp .Pow) (rD X oPow):=op_ofI (C:=fun i j=>0≤j∧(nb i:Int)*j≤134217728) (g:=fun i j=>i^j.toNat) (opI fun _ _ _ _ _ _ _ hc q=>pow_int hc.1 (by rw [← nb_eq];exact hc.2) q) fun dx dy d e=>by
  unfold oPow at e;split at e
  · split at e
    · rename_i h;cases e;exact ⟨_,_,rfl,rfl,h,rfl⟩
    · cases e
  · cases e
theorem nxBand:NoX2 oBand:=fun x y C z=>by unfold oBand at z;split at z<;>first | cases z | exact nx_ite z
theorem band_nn {i j:Int} (hi:0≤i) (hj:0≤j):Builtin.bitAnd i j=((i.toNat &&& j.toNat:Nat):Int):=by
  unfold Builtin.bitAnd
  rw [decide_eq_true hi,decide_eq_true hj]
theorem op_bandD:OpR X (binaryOp .BitAnd) (rD X oBand):=op_ofI0 op_and fun dx dy d e=>by
  unfold oBand at e;split at e
  · split at e
    · rename_i h;cases e;exact ⟨_,_,rfl,rfl,by rw [band_nn h.1 h.2]⟩
    · cases e
  · cases e
theorem nxLt:NoX2 oLt:=fun x y C z=>by unfold oLt at z;split at z<;>cases z
theorem nxLe:NoX2 oLe:=fun x y C z=>by unfold oLe at z;split at z<;>cases z
theorem nxGt:NoX2 oGt:=fun x y C z=>by unfold oGt at z;split at z<;>cases z
theorem nxGe:NoX2 oGe:=fun x y C z=>by unfold oGe at z;split at z<;>cases z
theorem op_ltD:OpR X (compareOp .Lt) (rD X oLt):=op_ofB op_lt fun dx dy d e=>by
  unfold oLt at e;split at e
  · cases e;exact ⟨_,_,rfl,rfl,rfl⟩
  · cases e
theorem op_leD:OpR X (compareOp .LtE) (rD X oLe):=op_ofB op_le fun dx dy d e=>by
  unfold oLe at e;split at e
  · cases e;exact ⟨_,_,rfl,rfl,rfl⟩
  · cases e
theorem op_gtD:OpR X (compareOp .Gt) (rD X oGt):=op_ofB op_gt fun dx dy d e=>by
  unfold oGt at e;split at e
  · cases e;exact ⟨_,_,rfl,rfl,rfl⟩
  · cases e
theorem op_geD:OpR X (compareOp .GtE) (rD X oGe):=op_ofB op_ge fun dx dy d e=>by
  unfold oGe at e;split at e
  · cases e;exact ⟨_,_,rfl,rfl,rfl⟩
  · cases e
end
section
variable {X:Cx} {pos:Pos} {a b c e:Expr} {ga gb gc g:E}
theorem e_add (ha:SE X a ga) (hb:SE X b gb):SE X (.BinOp a .Add b pos) (EV.bin oAdd ga gb):=e_bin nxAdd op_addD ha hb
theorem e_sub (ha:SE X a ga) (hb:SE X b gb):SE X (.BinOp a .Sub b pos) (EV.bin oSub ga gb):=e_bin nxSub op_subD ha hb
theorem e_mul (ha:SE X a ga) (hb:SE X b gb):SE X (.BinOp a .Mult b pos) (EV.bin oMul ga gb):=e_bin nxMul op_mulD ha hb
theorem e_div (ha:SE X a ga) (hb:SE X b gb):SE X (.BinOp a .FloorDiv b pos) (EV.bin oDiv ga gb):=e_bin nxDiv op_divD ha hb
theorem e_mod (ha:SE X a ga) (hb:SE X b gb):SE X (.BinOp a .Mod b pos) (EV.bin oMod ga gb):=e_bin nxMod op_modD ha hb
theorem e_shl (ha:SE X a ga) (hb:SE X b gb):SE X (.BinOp a .LShift b pos) (EV.bin oShl ga gb):=e_bin nxShl op_shlD ha hb
theorem e_pow (ha:SE X a ga) (hb:SE X b gb):SE X (.BinOp a .Pow b pos) (EV.bin oPow ga gb):=e_bin nxPow op_powD ha hb
theorem e_band (ha:SE X a ga) (hb:SE X b gb):SE X (.BinOp a .BitAnd b pos) (EV.bin oBand ga gb):=e_bin nxBand op_bandD ha hb
theorem e_lt (ha:SE X a ga) (hb:SE X b gb):SE X (.Compare a [.Lt] [b] pos) (EV.bin oLt ga gb):=e_cmp nxLt op_ltD ha hb (nomark _)
theorem e_ge (ha:SE X a ga) (hb:SE X b gb):SE X (.Compare a [.GtE] [b] pos) (EV.bin oGe ga gb):=e_cmp nxGe op_geD ha hb (nomark _)
theorem t_lt (ha:SE X a ga) (hb:SE X b gb):ST X (.Compare a [.Lt] [b] pos) (EV.bin oLt ga gb):=t_cmp nxLt op_ltD ha hb (nomark _)
theorem t_gt (ha:SE X a ga) (hb:SE X b gb):ST X (.Compare a [.Gt] [b] pos) (EV.bin oGt ga gb):=t_cmp nxGt op_gtD ha hb (nomark _)
theorem t_ge (ha:SE X a ga) (hb:SE X b gb):ST X (.Compare a [.GtE] [b] pos) (EV.bin oGe ga gb):=t_cmp nxGe op_geD ha hb (nomark _)
theorem e_neg (ha:SE X a ga):SE X (.UnaryOp .USub a pos) (un oNeg ga) :=
  PE.weak (pe_un un_neg ha) fun σ H Q ⟨δ,hσ,h⟩=>⟨δ,hσ,(RQ.bind h).to fun v H1 s1 ⟨_,d,r,q⟩=>by
    unfold oNeg at q
    split at q
    · cases r;exact ⟨_,rfl,q _ _ (Same.refl _) (.int _)⟩
    · exact False.elim q⟩
end
end ES
namespace ES
open PySem PySem.Spec PyProof.Rows L2 EV
unseal SE ST SW SA
mutual
def py:D→PyData
  | .non=>.none
  | .bl b=>.bool b
  | .int i=>.int i
  | .str x=>.str x
  | .tup ds=>.tuple (pys ds)
  | .lst ds=>.list (pys ds)
  | _=>.dict []
def pys:List D→List PyData
  | []=>[]
  | d::r=>py d::pys r
end
section
variable {X:Cx} {pins:List (Addr×Obj)} {σ:L2.St} {H:Hp} {s:Shared}
mutual
theorem reads_of (I:Inv X pins σ H s):∀ {v:V} {d:D} {u:Value},(py d).canLay0=true→Rep X.K X.mg H v d→RelV v u→∃ as,Reads s.heap u (py d) as
  | _,_,u,_,.non,r=>by cases r;exact ⟨_,.none⟩
  | _,_,u,_,.bl b,r=>by cases r;exact ⟨_,.bool b⟩
  | _,_,u,_,.int i,r=>by obtain ⟨t,rfl⟩:=r;exact ⟨_,.int i t⟩
  | _,_,u,_,.str x,r=>by obtain ⟨t,rfl⟩:=r;exact ⟨_,.str x t⟩
  | _,.tup ds,u,hc,.tup hq rs,r=>by
    cases r
    obtain ⟨its,rv,⟨o,h1,h2,n,h3⟩,_⟩:=I.tuple hq
    obtain ⟨as,ra⟩:=readsAll_of I (by simpa [py,PyData.canLay0] using hc) rs rv
    exact ⟨_,.tuple h1 h2 h3 (by simpa using ra)⟩
  | _,.lst ds,u,hc,.lst hq rs,r=>by
    cases r
    obtain ⟨its,rv,⟨o,n,h1,h2,_,h3⟩,_⟩:=I.list hq
    obtain ⟨as,ra⟩:=readsAll_of I (by simpa [py,PyData.canLay0] using hc) rs rv
    exact ⟨_,.list h1 h2 h3 (by simpa using ra)⟩
  | _,.ty n,u,hc,_,_=>by simp [py,PyData.canLay0] at hc
  | _,.cls a,u,hc,_,_=>by simp [py,PyData.canLay0] at hc
  | _,.exc a,u,hc,_,_=>by simp [py,PyData.canLay0] at hc
  | _,.ins a b,u,hc,_,_=>by simp [py,PyData.canLay0] at hc
theorem readsAll_of (I:Inv X pins σ H s):∀ {vs:List V} {ds:List D} {us:List Value},PyData.canLayAll0 (pys ds)=true→Reps X.K X.mg H vs ds→Vals vs us→∃ as,ReadsAll s.heap us (pys ds) as
  | _,_,_,_,.nil,r=>by cases r;exact ⟨_,.nil⟩
  | _,dd::dr,_,hc,.cons r t,q=>by
    cases q with
    | cons q1 q2 =>
      have hc':PyData.canLay0 (py dd)=true∧PyData.canLayAll0 (pys dr)=true:=by simpa [pys,PyData.canLayAll0] using hc
      obtain ⟨a1,r1⟩:=reads_of I hc'.1 r q1
      obtain ⟨a2,r2⟩:=readsAll_of I hc'.2 t q2
      exact ⟨_,.cons r1 r2⟩
end
end
mutual
theorem pl_lay:∀ (n:Nat) (d:D),D.pl n d=true→(py d).canLay0=true∧(py d).depth≤n
  | _,.non,_=>⟨rfl,Nat.zero_le _⟩
  | _,.bl _,_=>⟨rfl,Nat.zero_le _⟩
  | _,.int _,_=>⟨rfl,Nat.zero_le _⟩
  | _,.str x,h=>⟨by simpa [py,PyData.canLay0,PyData.strOk,D.pl] using h,Nat.zero_le _⟩
  | 0,.tup _,h=>by simp [D.pl] at h
  | 0,.lst _,h=>by simp [D.pl] at h
  | n+1,.tup ds,h=>by
    have z:=pls_lay n ds (by simpa [D.pl] using h)
    exact ⟨by simpa [py,PyData.canLay0] using z.1,by simp only [py,PyData.depth];omega⟩
  | n+1,.lst ds,h=>by
    have z:=pls_lay n ds (by simpa [D.pl] using h)
    exact ⟨by simpa [py,PyData.canLay0] using z.1,by simp only [py,PyData.depth];omega⟩
  | n,.own _,h=>by cases n<;>simp [D.pl] at h
  | n,.ty _,h=>by cases n<;>simp [D.pl] at h
  | n,.cls _,h=>by cases n<;>simp [D.pl] at h
  | n,.exc _,h=>by cases n<;>simp [D.pl] at h
  | n,.ins _ _,h=>by cases n<;>simp [D.pl] at h
theorem pls_lay:∀ (n:Nat) (ds:List D),(∀ d∈ds,D.pl n d=true)→PyData.canLayAll0 (pys ds)=true∧PyData.depthAll (pys ds)≤n
  | _,[],_=>⟨rfl,Nat.zero_le _⟩
  | n,d::r,h=>by
    have z1:=pl_lay n d (h d (.head _))
    have z2:=pls_lay n r (fun x hx=>h x (.tail _ hx))
    exact ⟨by simp [pys,PyData.canLayAll0,z1.1,z2.1],by simp only [pys,PyData.depthAll];omega⟩
end
mutual
theorem beq_eqv:∀ (n:Nat) (a b:D),D.pl n a=true→D.pl n b=true→D.beq a b=PyData.eqv (py a) (py b)
  | n,a,b,ha,hb=>by
    cases a<;>cases b<;>first
      | rfl
      | (cases n<;>simp [D.pl] at ha;done)
      | (cases n<;>simp [D.pl] at hb;done)
      | skip
    all_goals cases n with
      | zero=>simp [D.pl] at ha
      | succ n =>
        simp only [D.beq,py,PyData.eqv]
        exact beqs_eqv n _ _ (by simpa [D.pl] using ha) (by simpa [D.pl] using hb)
theorem beqs_eqv:∀ (n:Nat) (as bs:List D),(∀ d∈as,D.pl n d=true)→(∀ d∈bs,D.pl n d=true)→D.beqs as bs=PyData.eqvAll (pys as) (pys bs)
  | _,[],[],_,_=>rfl
  | _,[],_::_,_,_=>rfl
  | _,_::_,[],_,_=>rfl
  | n,a::as,b::bs,ha,hb=>by
    simp only [D.beqs,pys,PyData.eqvAll]
    rw [beq_eqv n a b (ha a (.head _)) (hb b (.head _)),beqs_eqv n as bs (fun x hx=>ha x (.tail _ hx)) (fun x hx=>hb x (.tail _ hx))]
end
section
variable {X:Cx}
theorem nxEq:NoX2 oEq:=fun x y C z=>by unfold oEq at z;exact nx_ite z
theorem nxNe:NoX2 oNe:=fun x y C z=>by unfold oNe at z;exact nx_ite z
theorem beq_V {H:Hp} {x y:V} {dx dy:D} (r1:Rep X.K X.mg H x dx) (r2:Rep X.K X.mg H y dy) (sx:dx.sc=true) (sy:dy.sc=true) (n:scal x y=true):decide (x=y)=D.beq dx dy:=by
  cases r1<;>cases sx<;>cases r2<;>cases sy<;>first
    | exact absurd (show false=true from n) Bool.false_ne_true
    | exact dec_int
    | exact dec_bl
    | exact dec_str
    | (simp [D.beq];done)
theorem eq_core (n:Bool) (hu:X.A.units+64<cLine) {pins:List (Addr×Obj)} {s:Shared} {σ:L2.St} {H:Hp} {x y:V} {v u:Value} {Q:VK} (I:Inv X pins σ H s) (rx:RelV x v) (ry:RelV y u) {dx dy:D} (r1:Rep X.K X.mg H x dx) (r2:Rep X.K X.mg H y dy)
    (hc:D.cmp dx dy=true) (q:Q (.bl (xor n (D.beq dx dy))) H):wpAny (model X.prog X.w) X.A (compareOp (if n then .NotEq else .Eq) v u) (EP X pins σ Q) X.xe s:=by
  unfold D.cmp at hc
  by_cases hp:(D.pl 8 dx&&D.pl 8 dy)=true
  · rw [Bool.and_eq_true] at hp
    obtain ⟨l1,d1⟩:=pl_lay 8 dx hp.1
    obtain ⟨l2,d2⟩:=pl_lay 8 dy hp.2
    obtain ⟨as,ra⟩:=reads_of I l1 r1 rx
    obtain ⟨bs,rb⟩:=reads_of I l2 r2 ry
    have e:=beq_eqv 8 dx dy hp.1 hp.2
    cases n with
    | false =>
      refine (SeqAt.rcAt_reads ra rb l1 l2 (by omega) X.prog X.w X.xe _ ?_:wpAny (model X.prog X.w) X.A (compareOp .Eq v u) _ _ _)
      exact fin_bl I q (by rw [Bool.false_xor,e])
    | true =>
      refine (SeqAt.rcNeAt_reads ra rb l1 l2 (by omega) X.prog X.w X.xe _ ?_:wpAny (model X.prog X.w) X.A (compareOp .NotEq v u) _ _ _)
      exact fin_bl I q (by rw [Bool.true_xor,e])
  · have hs:(dx.sc&&dy.sc)=true:=by
      rw [Bool.or_eq_true] at hc
      exact hc.resolve_right hp
    rw [Bool.and_eq_true] at hs
    have hsc:scal x y=true:=by
      cases r1<;>cases (hs.1)<;>cases r2<;>cases (hs.2)<;>first | rfl | exact absurd rfl hp
    have e:=beq_V r1 r2 hs.1 hs.2 hsc
    cases n with
    | false=>exact op_eq pins s σ H x y v u Q I rx ry ⟨hsc,by rw [e];rw [Bool.false_xor] at q;exact q⟩
    | true=>exact op_ne pins s σ H x y v u Q I rx ry ⟨hsc,by rw [e];rw [Bool.true_xor] at q;exact q⟩
theorem op_eqD (hu:X.A.units+64<cLine):OpR X (compareOp .Eq) (rD X oEq):=by
  intro pins s σ H x y v u Q I rx ry ⟨dx,dy,d,r1,r2,e,q⟩
  unfold oEq at e
  split at e
  · rename_i hc
    cases e
    exact eq_core false hu I rx ry r1 r2 hc (by rw [Bool.false_xor];exact q _ _ (Same.refl _) (.bl _))
  · cases e
theorem op_neD (hu:X.A.units+64<cLine):OpR X (compareOp .NotEq) (rD X oNe):=by
  intro pins s σ H x y v u Q I rx ry ⟨dx,dy,d,r1,r2,e,q⟩
  unfold oNe at e
  split at e
  · rename_i hc
    cases e
    exact eq_core true hu I rx ry r1 r2 hc (by rw [Bool.true_xor];exact q _ _ (Same.refl _) (.bl _))
  · cases e
theorem sc_flatV {H:Hp} {x:V} {d:D} (r:Rep X.K X.mg H x d) (h:d.sc=true):flatV x=true:=by cases r<;>first | rfl | cases h
theorem scs_flatV {H:Hp}:∀ {xs:List V} {ds:List D},Reps X.K X.mg H xs ds→ds.all D.sc=true→xs.all flatV=true
  | _,_,.nil,_=>rfl
  | _,_,.cons r t,h=>by
    rw [List.all_cons,Bool.and_eq_true] at h
    rw [List.all_cons,sc_flatV r h.1,scs_flatV t h.2];rfl
theorem eqV_beq {H:Hp} {x y:V} {dx dy:D} (r1:Rep X.K X.mg H x dx) (r2:Rep X.K X.mg H y dy) (sx:dx.sc=true) (sy:dy.sc=true):eqV x y=D.beq dx dy:=by
  cases r1<;>cases sx<;>cases r2<;>cases sy<;>rfl
theorem inV_beq {H:Hp} {x:V} {dx:D} (r:Rep X.K X.mg H x dx) (sx:dx.sc=true):∀ {xs:List V} {ds:List D},Reps X.K X.mg H xs ds→ds.all D.sc=true→inV x xs=ds.any fun y=>D.beq y dx
  | _,_,.nil,_=>rfl
  | _,_,.cons r' t,h=>by
    rw [List.all_cons,Bool.and_eq_true] at h
    unfold inV
    rw [List.any_cons,List.any_cons,eqV_beq r' r h.1 sx]
    exact congrArg _ (inV_beq r sx t h.2)
theorem in_core (neg:Bool) {pins:List (Addr×Obj)} {s:Shared} {σ:L2.St} {H:Hp} {x y:V} {v u:Value} {Q:VK} (I:Inv X pins σ H s) (rx:RelV x v) (ry:RelV y u) {dx dy:D} (r1:Rep X.K X.mg H x dx) (r2:Rep X.K X.mg H y dy) {k:Bool}
    (hc:oIn dx dy=.ok (.bl k)) (q:Q (.bl (xor neg k)) H):wpAny (model X.prog X.w) X.A (compareOp (if neg then .NotIn else .In) v u) (EP X pins σ Q) X.xe s:=by
  have seq:∀ {p:Addr} {xs:List V} {ds:List D},y=.ref p→(SqL X.K H p xs∨SqT X.K H p xs)→Reps X.K X.mg H xs ds→isIn dx ds=some k→wpAny (model X.prog X.w) X.A (compareOp (if neg then .NotIn else .In) v u) (EP X pins σ Q) X.xe s:=fun {p xs ds} ey hq rs hi=>by
    subst ey
    unfold isIn at hi
    split at hi
    · rename_i hs
      rw [Bool.and_eq_true] at hs
      cases hi
      have e:=inV_beq r1 hs.1 rs hs.2
      cases neg with
      | false=>exact op_in_seq pins s σ H _ _ v u Q I rx ry ⟨p,xs,rfl,hq,sc_flatV r1 hs.1,scs_flatV rs hs.2,by rw [if_neg (by decide),e];rw [Bool.false_xor] at q;exact q⟩
      | true=>exact op_notIn_seq pins s σ H _ _ v u Q I rx ry ⟨p,xs,rfl,hq,sc_flatV r1 hs.1,scs_flatV rs hs.2,by rw [if_pos rfl,e];rw [Bool.true_xor] at q;exact q⟩
    · cases hi
  have hseq:∀ {ds:List D},(match isIn dx ds with | some k=>R.ok (D.bl k) | none=>R.bad)=.ok (.bl k)→isIn dx ds=some k:=fun {ds} h=>by
    cases e:isIn dx ds with
    | none=>rw [e] at h;cases h
    | some k'=>rw [e] at h;cases h;rfl
  cases r2 with
  | tup hq rs=>exact seq rfl (.inr hq) rs (hseq (by cases dx<;>exact hc))
  | lst hq rs=>exact seq rfl (.inl hq) rs (hseq (by cases dx<;>exact hc))
  | str b =>
    cases r1 with
    | str a =>
      obtain ⟨⟨l⟩⟩:=a
      cases l with
      | nil=>cases hc
      | cons c t =>
        cases t with
        | cons _ _=>cases hc
        | nil =>
          cases hc
          have e:=empty_one b c
          cases neg with
          | false=>exact op_in_str pins s σ H _ _ v u Q I rx ry ⟨_,_,rfl,rfl,by rw [e,Bool.not_not];rw [Bool.false_xor] at q;exact q⟩
          | true=>exact op_notIn_str pins s σ H _ _ v u Q I rx ry ⟨_,_,rfl,rfl,by rw [e,Bool.not_not];rw [Bool.true_xor] at q;exact q⟩
    | _=>cases hc
  | _=>cases dx<;>cases hc
theorem oIn_ok {a b:D}:(∃ k,oIn a b=.ok (.bl k))∨oIn a b=.bad:=by
  unfold oIn
  split<;>first
    | exact .inr rfl
    | (split<;>first | exact .inl ⟨_,rfl⟩ | exact .inr rfl)
theorem nxIn:NoX2 oIn:=fun x y C z=>by rcases oIn_ok (a:=x) (b:=y) with ⟨k,e⟩ | e<;>rw [e] at z<;>cases z
theorem nxNotIn:NoX2 oNotIn:=fun x y C z=>by unfold oNotIn at z;rcases oIn_ok (a:=x) (b:=y) with ⟨k,e⟩ | e<;>rw [e] at z<;>cases z
theorem op_inD:OpR X (compareOp .In) (rD X oIn):=by
  intro pins s σ H x y v u Q I rx ry ⟨dx,dy,d,r1,r2,e,q⟩
  rcases oIn_ok (a:=dx) (b:=dy) with ⟨k,e'⟩ | e'<;>rw [e'] at e<;>cases e
  exact in_core false I rx ry r1 r2 e' (by rw [Bool.false_xor];exact q _ _ (Same.refl _) (.bl _))
theorem op_notInD:OpR X (compareOp .NotIn) (rD X oNotIn):=by
  intro pins s σ H x y v u Q I rx ry ⟨dx,dy,d,r1,r2,e,q⟩
  unfold oNotIn at e
  rcases oIn_ok (a:=dx) (b:=dy) with ⟨k,e'⟩ | e'<;>rw [e'] at e<;>cases e
  exact in_core true I rx ry r1 r2 e' (by rw [Bool.true_xor];exact q _ _ (Same.refl _) (.bl _))
end
section
variable {X:Cx} {pos:Pos} {a b c e:Expr} {ga gb gc g:E} {k:Nat}
theorem e_eq (hu:Room k X.A) (ha:SE X a ga) (hb:SE X b gb):SE X (.Compare a [.Eq] [b] pos) (EV.bin oEq ga gb):=e_cmp nxEq (op_eqD hu.units) ha hb (nomark _)
theorem e_ne (hu:Room k X.A) (ha:SE X a ga) (hb:SE X b gb):SE X (.Compare a [.NotEq] [b] pos) (EV.bin oNe ga gb):=e_cmp nxNe (op_neD hu.units) ha hb (nomark _)
theorem t_eq (hu:Room k X.A) (ha:SE X a ga) (hb:SE X b gb):ST X (.Compare a [.Eq] [b] pos) (EV.bin oEq ga gb):=t_cmp nxEq (op_eqD hu.units) ha hb (nomark _)
theorem t_ne (hu:Room k X.A) (ha:SE X a ga) (hb:SE X b gb):ST X (.Compare a [.NotEq] [b] pos) (EV.bin oNe ga gb):=t_cmp nxNe (op_neD hu.units) ha hb (nomark _)
theorem e_in (ha:SE X a ga) (hb:SE X b gb) (hm:behindInMarks .In b=false:=by rfl):SE X (.Compare a [.In] [b] pos) (EV.bin oIn ga gb):=e_cmp nxIn op_inD ha hb hm
theorem t_in (ha:SE X a ga) (hb:SE X b gb) (hm:behindInMarks .In b=false:=by rfl):ST X (.Compare a [.In] [b] pos) (EV.bin oIn ga gb):=t_cmp nxIn op_inD ha hb hm
theorem t_notIn (ha:SE X a ga) (hb:SE X b gb) (hm:behindInMarks .NotIn b=false:=by rfl):ST X (.Compare a [.NotIn] [b] pos) (EV.bin oNotIn ga gb):=t_cmp nxNotIn op_notInD ha hb hm
theorem tT_of_tE {σ:L2.St} {H:Hp} {Q:Bool→Hp→Prop} (h:tT X g σ H Q):tE X g σ H fun v H'=>∃ k,v=.bl k∧Q k H':=by
  obtain ⟨δ,hσ,h⟩:=h
  refine ⟨δ,hσ,?_⟩
  cases q:g δ with
  | ok d =>
    rw [q] at h
    cases d with
    | bl k=>exact fun v H' s r=>by cases r;exact ⟨k,rfl,h H' s⟩
    | _=>exact False.elim h
  | ex C=>rw [q] at h;exact h
  | bad=>rw [q] at h;exact False.elim h
theorem t_val (h:SE X e g) (he:∀ whole,isTrue e X.env whole=(do let v ← whole;standAt e.pos;holding [v] (truthy v)):=by intro _;rfl):ST X e g:=PT.weak (pt_val h he) fun σ H Q q=>tT_of_tE q
theorem RT.truth {σ:L2.St} {H:Hp} {r:R D} {t f:R D} {Q:Bool→Hp→Prop} (h:RT X σ H (r.bind fun d=>truth d t f) Q):RT X σ H r fun k H'=>Same H H'∧if k=true then RT X σ H' t Q else RT X σ H' f Q:=by
  cases r with
  | ok d =>
    cases d with
    | bl k =>
      cases k with
      | true=>exact fun H' s=>⟨s,iteT (RT.mono s h)⟩
      | false=>exact fun H' s=>⟨s,iteF (RT.mono s h)⟩
    | _=>exact False.elim h
  | ex C=>exact h
  | bad=>exact False.elim h
theorem RT.to {σ:L2.St} {H:Hp} {r:R D} {Q Q':Bool→Hp→Prop} (h:RT X σ H r Q) (g:∀ k H',Same H H'→Q k H'→Q' k H'):RT X σ H r Q':=by
  cases r with
  | ok d =>
    cases d with
    | bl k=>exact fun H' s=>g k H' s (h H' s)
    | _=>exact False.elim h
  | ex C=>exact h
  | bad=>exact False.elim h
theorem RQ.truthT {σ:L2.St} {H:Hp} {r:R D} {t f:R D} {Q:VK} (h:RQ X σ H (r.bind fun d=>truth d t f) Q):RT X σ H r fun k H'=>Same H H'∧if k=true then RQ X σ H' t Q else RQ X σ H' f Q:=by
  cases r with
  | ok d =>
    cases d with
    | bl k =>
      cases k with
      | true=>exact fun H' s=>⟨s,iteT (RQ.mono s h)⟩
      | false=>exact fun H' s=>⟨s,iteF (RQ.mono s h)⟩
    | _=>exact False.elim h
  | ex C=>exact h
  | bad=>exact False.elim h
theorem RQ.truth {σ:L2.St} {H:Hp} {r:R D} {t f:R D} {Q:VK} (h:RQ X σ H (r.bind fun d=>truth d t f) Q):RQ X σ H r fun v H'=>∃ k,v=.bl k∧if k=true then RQ X σ H' t Q else RQ X σ H' f Q:=by
  cases r with
  | ok d =>
    cases d with
    | bl k =>
      cases k with
      | true=>exact fun v H' s r=>by cases r;exact ⟨true,rfl,iteT (RQ.mono s h)⟩
      | false=>exact fun v H' s r=>by cases r;exact ⟨false,rfl,iteF (RQ.mono s h)⟩
    | _=>exact False.elim h
  | ex C=>exact h
  | bad=>exact False.elim h
theorem ite_to {k:Bool} {A B A' B':Prop} (h:if k=true then A else B) (f:A→A') (g:B→B'):if k=true then A' else B':=by
  cases k with
  | true=>exact iteT (f (by simpa using h))
  | false=>exact iteF (g (by simpa using h))
theorem t_not (h:ST X a ga):ST X (.UnaryOp .Not a pos) (not_ ga):=PT.weak (pt_not h) fun σ H Q ⟨δ,hσ,q⟩=>⟨δ,hσ,(RT.truth q).to fun k H' s ⟨_,z⟩=>by
  cases k with
  | true=>exact (show RT X σ H' (.ok (.bl false)) Q by simpa using z) H' (Same.refl _)
  | false=>exact (show RT X σ H' (.ok (.bl true)) Q by simpa using z) H' (Same.refl _)⟩
theorem t_w (h:SW X e g):ST X e g:=PW.pt h
theorem w_and1 (h:ST X a ga):SW X (.BoolOp .And [a] pos) ga:=pw_and1 h
theorem w_or1 (h:ST X a ga):SW X (.BoolOp .Or [a] pos) ga:=pw_or1 h
theorem w_and {rest:List Expr} (h:ST X a ga) (hb:SW X (.BoolOp .And (b::rest) pos) gb):SW X (.BoolOp .And (a::b::rest) pos) (and_ ga gb) :=
  PW.weak (pw_and h hb) fun σ H Q ⟨δ,hσ,q⟩=>⟨δ,hσ,(RT.truth q).to fun k H' s ⟨_,z⟩=>ite_to z (fun z=>⟨δ,hσ.mono s,z⟩) (fun z=>z H' (Same.refl _))⟩
theorem w_or {rest:List Expr} (h:ST X a ga) (hb:SW X (.BoolOp .Or (b::rest) pos) gb):SW X (.BoolOp .Or (a::b::rest) pos) (or_ ga gb) :=
  PW.weak (pw_or h hb) fun σ H Q ⟨δ,hσ,q⟩=>⟨δ,hσ,(RT.truth q).to fun k H' s ⟨_,z⟩=>ite_to z (fun z=>z H' (Same.refl _)) (fun z=>⟨δ,hσ.mono s,z⟩)⟩
theorem e_one {op} (h:SE X a g):SE X (.BoolOp op [a] pos) g:=pe_one h
theorem e_and {rest:List Expr} (h:SE X a ga) (hb:SE X (.BoolOp .And (b::rest) pos) gb):SE X (.BoolOp .And (a::b::rest) pos) (and_ ga gb) :=
  PE.weak (pe_and h hb) fun σ H Q ⟨δ,hσ,q⟩=>⟨δ,hσ,(RQ.truth q).to fun v H' s ⟨k,e,z⟩=>⟨k,e,ite_to z (fun z=>⟨δ,hσ.mono s,z⟩) (fun z=>z _ H' (Same.refl _) (.bl _))⟩⟩
theorem e_or {rest:List Expr} (h:SE X a ga) (hb:SE X (.BoolOp .Or (b::rest) pos) gb):SE X (.BoolOp .Or (a::b::rest) pos) (or_ ga gb) :=
  PE.weak (pe_or h hb) fun σ H Q ⟨δ,hσ,q⟩=>⟨δ,hσ,(RQ.truth q).to fun v H' s ⟨k,e,z⟩=>⟨k,e,ite_to z (fun z=>z _ H' (Same.refl _) (.bl _)) (fun z=>⟨δ,hσ.mono s,z⟩)⟩⟩
theorem e_not (h:SE X a ga):SE X (.UnaryOp .Not a pos) (not_ ga):=PE.weak (pe_not h) fun σ H Q ⟨δ,hσ,q⟩=>⟨δ,hσ,(RQ.truth q).to fun v H' s ⟨k,e,z⟩=>⟨k,e,by
  cases k with
  | true=>exact (show RQ X σ H' (.ok (.bl false)) Q by simpa using z) _ H' (Same.refl _) (.bl _)
  | false=>exact (show RQ X σ H' (.ok (.bl true)) Q by simpa using z) _ H' (Same.refl _) (.bl _)⟩⟩
theorem e_if (h:ST X c gc) (ha:SE X a ga) (hb:SE X b gb):SE X (.IfExp c a b pos) (ife gc ga gb) :=
  PE.weak (pe_ifExp h ha hb) fun σ H Q ⟨δ,hσ,q⟩=>⟨δ,hσ,(RQ.truthT q).to fun k H' s ⟨_,z⟩=>ite_to z (fun z=>⟨δ,hσ.mono s,z⟩) (fun z=>⟨δ,hσ.mono s,z⟩)⟩
theorem e_chain {op op':CmpOp} {f f':D→D→R D} (nx:NoX2 f) (nx':NoX2 f') (ho:OpR X (compareOp op) (rD X f)) (ho':OpR X (compareOp op') (rD X f')) (ha:SE X a ga) (hb:SE X b gb) (hc:SE X c gc)
    (hm:lastMarks [op,op'] [b,c]=false:=by with_unfolding_all rfl):SE X (.Compare a [op,op'] [b,c] pos) (chain f f' ga gb gc):=by
  refine PE.weak (pe_chain ho ho' ha hb hc hm) fun σ H Q ⟨δ,hσ,q⟩ => ?_
  refine ⟨δ,hσ,(RQ.bind q).to fun x H1 s1 ⟨_,dx,r1,q1⟩=>⟨δ,hσ.mono s1,(RQ.bind q1).to fun y H2 s2 ⟨_,dy,r2,q2⟩ => ?_⟩⟩
  have q3:=RQ.truth q2
  refine RQ.op nx (r1.mono s2) r2 (q3.to fun v H3 s3 ⟨k,e,z⟩=>⟨k,e,ite_to z (fun z=>⟨δ,((hσ.mono s1).mono s2).mono s3,(RQ.bind z).to fun w H4 s4 ⟨_,dw,r4,q4⟩ => ?_⟩) (fun z=>z _ H3 (Same.refl _) (.bl _))⟩)
  exact RQ.op nx' ((r2.mono s3).mono s4) r4 q4
theorem t_chain {op op':CmpOp} {f f':D→D→R D} (nx:NoX2 f) (nx':NoX2 f') (ho:OpR X (compareOp op) (rD X f)) (ho':OpR X (compareOp op') (rD X f')) (ha:SE X a ga) (hb:SE X b gb) (hc:SE X c gc)
    (hm:lastMarks [op,op'] [b,c]=false:=by with_unfolding_all rfl):ST X (.Compare a [op,op'] [b,c] pos) (chain f f' ga gb gc):=by
  refine PT.weak (pt_chain ho ho' ha hb hc hm) fun σ H Q h => ?_
  obtain ⟨δ,hσ,q⟩:=tT_of_tE h
  refine ⟨δ,hσ,(RQ.bind q).to fun x H1 s1 ⟨_,dx,r1,q1⟩=>⟨δ,hσ.mono s1,(RQ.bind q1).to fun y H2 s2 ⟨_,dy,r2,q2⟩ => ?_⟩⟩
  have q3:=RQ.truth q2
  refine RQ.op nx (r1.mono s2) r2 (q3.to fun v H3 s3 ⟨k,e,z⟩=>⟨k,e,ite_to z (fun z=>⟨δ,((hσ.mono s1).mono s2).mono s3,(RQ.bind z).to fun w H4 s4 ⟨_,dw,r4,q4⟩ => ?_⟩) (fun z=>z _ H3 (Same.refl _) (.bl _))⟩)
  exact RQ.op nx' ((r2.mono s3).mono s4) r4 q4
theorem a_nil:SA X [] []:=PA.weak pa_nil fun σ H Q ⟨δ,hσ,h⟩=>h [] H (Same.refl H) .nil
theorem RA.cons {σ:L2.St} {H:Hp} {δ:Dt} {g:E} {gs:List E} {Q:List V→Hp→Prop} (h:RA X σ H (evs (g::gs) δ) Q):RQ X σ H (g δ) fun v H1=>RA X σ H1 (evs gs δ) fun vs H2=>Same H1 H2→∀ d,Rep X.K X.mg H1 v d→Q (v::vs) H2:=by
  unfold evs at h
  cases q:g δ with
  | ok d =>
    rw [q] at h
    refine fun v H1 s1 r1 => ?_
    simp only [R.bind] at h
    cases q2:evs gs δ with
    | ok ds =>
      rw [q2] at h
      exact fun vs H2 s2 rs s2' d' r'=>h (v::vs) H2 (s1.trans s2) (.cons (r1.mono s2) rs)
    | ex C=>rw [q2] at h;exact fun Ca hc H' s'=>h Ca hc H' (s1.trans s')
    | bad=>rw [q2] at h;exact h
  | ex C=>rw [q] at h;exact h
  | bad=>rw [q] at h;exact h
theorem RA.to {σ:L2.St} {H:Hp} {r:R (List D)} {Q Q':List V→Hp→Prop} (h:RA X σ H r Q) (g:∀ v H',Same H H'→Q v H'→Q' v H'):RA X σ H r Q':=by
  cases r with
  | ok d=>exact fun v H' s r=>g v H' s (h v H' s r)
  | ex C=>exact h
  | bad=>exact h
theorem a_cons {es:List Expr} {gs:List E} (ha:SE X e g) (hr:SA X es gs) (hs:starEach (e::es) X.env=(false,eval e X.env)::starEach es X.env:=by rfl):SA X (e::es) (g::gs) :=
  PA.weak (pa_cons ha hr hs) fun σ H Q ⟨δ,hσ,h⟩=>by
    refine ⟨δ,hσ,?_⟩
    cases q:g δ with
    | ok d =>
      have h':=RA.cons h
      rw [q] at h'
      exact fun v H1 s1 r1=>⟨δ,hσ.mono s1,(h' v H1 s1 r1).to fun vs H2 s2 z=>z s2 d r1⟩
    | ex C =>
      have h':=RA.cons h
      rw [q] at h'
      exact h'
    | bad =>
      have h':=RA.cons h
      rw [q] at h'
      exact h'
theorem e_tup {es:List Expr} {gs:List E} {x1} (h:SA X es gs) (hl:es.length≤1000) (hg:gs.length=es.length:=by rfl):SE X (.Tuple es x1 pos) (tupE gs) :=
  PE.weak (pe_tup h) fun σ H Q ⟨δ,hσ,q⟩=>⟨δ,hσ,by
    have q':=RA.bind q
    cases e:evs gs δ with
    | ok ds =>
      have hd:ds.length=gs.length:=evs_len e
      rw [e] at q'
      refine fun vs H1 s1 rs => ?_
      obtain ⟨_,ds',rs',q2⟩:=q' vs H1 s1 rs
      refine ⟨by rw [rs.length,hd,hg];exact Nat.le_of_lt (small1000 hl),fun p hp=>q2 _ _ (same_upd hp _) (.tup (SqT.of upd_same) (rs'.mono (same_upd hp _)))⟩
    | ex C=>rw [e] at q';exact q'
    | bad=>rw [e] at q';exact q'⟩
where
  evs_len {δ:Dt}:∀ {gs:List E} {ds:List D},evs gs δ=.ok ds→ds.length=gs.length
    | [],ds,e=>by cases e;rfl
    | g::gs,ds,e=>by
      unfold evs at e
      cases q:g δ with
      | ok d =>
        rw [q] at e
        simp only [R.bind] at e
        cases q2:evs gs δ with
        | ok ds'=>rw [q2] at e;cases e;simp [evs_len q2]
        | ex C=>rw [q2] at e;cases e
        | bad=>rw [q2] at e;cases e
      | ex C=>rw [q] at e;cases e
      | bad=>rw [q] at e;cases e
theorem e_lst {es:List Expr} {gs:List E} (h:SA X es gs) (hl:es.length≤1000) (hg:gs.length=es.length:=by rfl):SE X (.List es pos) (lstE gs) :=
  PE.weak (pe_lst h) fun σ H Q ⟨δ,hσ,q⟩=>⟨δ,hσ,by
    have q':=RA.bind q
    cases e:evs gs δ with
    | ok ds =>
      have hd:ds.length=gs.length:=e_tup.evs_len e
      rw [e] at q'
      refine fun vs H1 s1 rs => ?_
      obtain ⟨_,ds',rs',q2⟩:=q' vs H1 s1 rs
      refine ⟨by rw [rs.length,hd,hg];exact Nat.le_of_lt (small1000 hl),fun p hp=>q2 _ _ (same_upd hp _) (.lst (SqL.of upd_same) (rs'.mono (same_upd hp _)))⟩
    | ex C=>rw [e] at q';exact q'
    | bad=>rw [e] at q';exact q'⟩
theorem nxIx:NoX2 oIx:=fun x y C z=>by
  unfold oIx at z
  split at z
  · split at z<;>cases z
  · split at z<;>cases z
  · split at z
    · split at z<;>cases z
    · cases z
  · cases z
theorem atI_reps {H:Hp} {xs:List V} {ds:List D} {i:Int} {d:D} (rs:Reps X.K X.mg H xs ds) (h:((EV.ixN ds.length i).bind fun j=>ds[j]?)=some d):∃ v,atI xs i=some v∧Rep X.K X.mg H v d:=by
  have el:=rs.length
  cases q:EV.ixN ds.length i with
  | none=>rw [q] at h;cases h
  | some j =>
    rw [q] at h
    obtain ⟨v,h1,h2⟩:=rs.get h
    refine ⟨v,?_,h2⟩
    unfold atI
    rw [el,show L2.ixN ds.length i=some j from q]
    exact h1
theorem ix_D:IxR X (rD X oIx):=by
  intro value slice pins s σ H x y v u Q I rx ry ⟨dx,dy,d,r1,r2,e,q⟩ hs
  unfold oIx at e
  split at e
  · split at e
    · rename_i h
      cases e;cases r1;cases r2
      rename_i a xs hq rs
      obtain ⟨w,h1,h2⟩:=atI_reps rs h
      exact ix_tup value slice pins s σ H _ _ v u Q I rx ry ⟨a,xs,_,w,rfl,rfl,hq,h1,q _ _ (Same.refl _) h2⟩ hs
    · cases e
  · split at e
    · rename_i h
      cases e;cases r1;cases r2
      rename_i a xs hq rs
      obtain ⟨w,h1,h2⟩:=atI_reps rs h
      exact ix_list value slice pins s σ H _ _ v u Q I rx ry ⟨a,xs,_,w,rfl,rfl,hq,h1,q _ _ (Same.refl _) h2⟩ hs
    · cases e
  · split at e
    · rename_i hz
      split at e
      · rename_i c h
        cases e;cases r1;cases r2
        refine ix_str value slice pins s σ H _ _ v u Q I rx ry ⟨_,_,c,rfl,rfl,Nat.le_trans hz (by rw [sizeLine_eq];decide),?_,q _ _ (Same.refl _) (.str _)⟩ hs
        exact h
      · cases e
    · cases e
  · cases e
theorem e_ix (ha:SE X a ga) (hb:SE X b gb) (hs:PlainIx b:=by intro _ _;rfl):SE X (.Subscript a b pos) (EV.bin oIx ga gb) :=
  PE.weak (pe_ix ix_D ha hb hs) fun σ H Q h=>by
    obtain ⟨δ,hσ,q⟩:=bin_to h
    refine ⟨δ,hσ,q.to fun x H1 s1 ⟨δ1,hσ1,q1⟩=>⟨δ1,hσ1,q1.to fun y H2 s2 ⟨dx,dy,r1,r2,q2⟩=>RQ.op nxIx r1 r2 q2⟩⟩
end
end ES
namespace ES
open PySem PySem.Spec PyProof.Rows L2 EV
unseal SE ST SW SA
abbrev Os:=List (Nat×Addr)
def adrs (os:Os):List Addr:=os.map (·.2)
def hide (H:Hp) (os:Os):Hp:=fun a=>if a∈adrs os then none else H a
theorem hide_nil (H:Hp):hide H []=H:=by
  funext a
  unfold hide adrs
  simp
theorem hide_in {H:Hp} {os:Os} {a:Addr} (h:a∈adrs os):hide H os a=none:=if_pos h
theorem hide_out {H:Hp} {os:Os} {a:Addr} (h:a∉adrs os):hide H os a=H a:=if_neg h
theorem hide_same (H:Hp) (os:Os):Same (hide H os) H:=fun b o e=>by
  unfold hide at e
  split at e
  · cases e
  · exact e
structure StO (X:Cx) (H:Hp) (σ:L2.St) (δ:Dt) (os:Os):Prop where
  st:Stt X.K X.mg (hide H os) σ δ
  lst:∀ p∈os,∃ xs ds,H p.2=some (.lst xs)∧σ[p.1]? = some (some (.ref p.2))∧δ[p.1]? = some (some (.own ds))∧Reps X.K X.mg (hide H os) xs ds
  own:∀ i ds,δ[i]? = some (some (.own ds))→∃ a,(i,a)∈os
  inj:∀ i j a,(i,a)∈os→(j,a)∈os→i=j
theorem mem_adrs {os:Os} {a:Addr} (h:a∈adrs os):∃ p∈os,p.2=a:=by
  obtain ⟨p,hp,e⟩:=List.mem_map.mp h
  exact ⟨p,hp,e⟩
theorem adrs_mem {os:Os} {p:Nat×Addr} (h:p∈os):p.2∈adrs os:=List.mem_map.mpr ⟨p,h,rfl⟩
def pinsOf (h:Heap) (os:Os):List (Addr×Obj):=pinsAt (adrs os) h
section
variable {X:Cx} {pins:List (Addr×Obj)} {σ:L2.St} {H H':Hp} {s s':Shared} {os:Os}
def Lsts (H:Hp) (os:Os):Prop:=∀ a∈adrs os,∃ xs,H a=some (.lst xs)
theorem inv_hide (I:Inv X pins σ H s) (hl:Lsts H os):Inv X (pins++pinsOf s.heap os) σ (hide H os) s:=by
  have ne:∀ {b:Addr} {o:HO},H b=some o→(∀ xs,o ≠ .lst xs)→hide H os b=some o:=fun {b o} e n=>by
    rw [hide_out fun z => ?_];exact e
    obtain ⟨xs,q⟩:=hl b z
    rw [e] at q
    exact n xs (Option.some.inj q)
  refine ⟨I.ok,I.os,I.bare,⟨I.base.keep,I.base.slot,fun b o e n hx => ?_,I.base.there,fun b xs e => ?_,fun b o u e => ?_,fun b ps e => ?_⟩,I.loc,I.cell,?_,fun x c e => ?_,fun p hp => ?_,fun a o e => ?_,I.len⟩
  · unfold hide;split
    · rfl
    · exact I.base.free b o e n hx
  · exact ne (I.base.tups b xs e) fun _ z=>nomatch z
  · exact ne (I.base.frzs b o u e) fun _ z=>nomatch z
  · obtain ⟨more,q⟩:=I.base.tbls b ps e
    exact ⟨more,ne q fun _ z=>nomatch z⟩
  · unfold hide;split
    · rfl
    · exact I.free
  · unfold hide;split
    · rfl
    · exact I.freeC x c e
  · rw [← List.append_assoc] at hp
    rcases List.mem_append.mp hp with z | z
    · obtain ⟨e,n,r⟩:=I.pin p z
      refine ⟨e,?_,r⟩
      unfold hide;split
      · rfl
      · exact n
    · obtain ⟨hb,e⟩:=of_pinsAt z
      obtain ⟨xs,q⟩:=hl p.1 hb
      obtain ⟨_,its,n,_,e'⟩:=I.hok p.1 _ q
      rw [e] at e'
      have e2:p.2={ cls:=.type "list",data:=.seq its.toArray n }:=Option.some.inj e'
      refine ⟨e,hide_in hb,fun z => ?_,fun z => ?_,fun v z => ?_⟩
      · rw [z,I.free] at q;cases q
      · have hx:p.1∉X.ex:=fun w=>I.ok.exfs p.1 w z
        obtain ⟨_,o0,ho0,_⟩:=I.ok.funs.mem z
        rw [I.base.free p.1 o0 ho0 (I.ok.frf p.1 z) hx] at q;cases q
      · rw [e2] at z;cases z
  · have hna:a∉adrs os:=fun z=>by rw [hide_in z] at e;cases e
    rw [hide_out hna] at e
    exact (I.hok a o e).stay (fun _ _ _ q=>q) (fun b q=>ne q fun _ z=>nomatch z) fun b xs q=>ne q fun _ z=>nomatch z
def show_ (H H':Hp) (os:Os):Hp:=fun a=>if a∈adrs os then H a else H' a
theorem hide_show {os:Os} (h:∀ a∈adrs os,H' a=none):hide (show_ H H' os) os=H':=by
  funext a
  unfold hide show_
  by_cases z:a∈adrs os
  · rw [if_pos z,h a z]
  · rw [if_neg z,if_neg z]
theorem inv_show (hx:X.ex=[]) (I0:Inv X pins σ H s) (hl:Lsts H os) (I:Inv X (pins++pinsOf s.heap os) σ H' s'):Inv X pins σ (show_ H H' os) s'∧∀ a∈adrs os,H' a=none:=by
  have pin:∀ a∈adrs os,∃ o,s.heap.get? a=some o∧s'.heap.get? a=some o∧H' a=none∧a≠X.env.locals∧a∉X.fs:=fun a ha=>by
    obtain ⟨xs,q⟩:=hl a ha
    obtain ⟨o,e⟩:∃ o,s.heap.get? a=some o:=by
      obtain ⟨_,its,n,_,e⟩:=I0.hok a _ q
      exact ⟨_,e⟩
    obtain ⟨e1,e2,e3,e4,_⟩:=I.pin (a,o) (List.mem_append_right _ (List.mem_append_right _ (mem_pinsAt ha e)))
    exact ⟨o,e,e1,e2,e3,e4⟩
  have hn:∀ a∈adrs os,H' a=none:=fun a ha=>(pin a ha).choose_spec.2.2.1
  have vis:∀ {b:Addr} {o:HO},H' b=some o→show_ H H' os b=some o:=fun {b o} e=>by
    unfold show_;rw [if_neg fun z => ?_];exact e
    rw [hn b z] at e;cases e
  refine ⟨⟨I.ok,I.os,I.bare,⟨I.base.keep,I.base.slot,fun b o e n hx' => ?_,I.base.there,fun b xs e=>vis (I.base.tups b xs e),fun b o u e=>vis (I.base.frzs b o u e),fun b ps e => ?_⟩,I.loc,I.cell,?_,fun x c e => ?_,fun p hp => ?_,fun a o e => ?_,I.len⟩,hn⟩
  · unfold show_;split
    · exact I0.base.free b o e n hx'
    · exact I.base.free b o e n hx'
  · obtain ⟨more,q⟩:=I.base.tbls b ps e
    exact ⟨more,vis q⟩
  · unfold show_;split
    · exact I0.free
    · exact I.free
  · unfold show_;split
    · exact I0.freeC x c e
    · exact I.freeC x c e
  · obtain ⟨e,n,r⟩:=I.pin p (by rw [← List.append_assoc];exact List.mem_append_left _ hp)
    refine ⟨e,?_,r⟩
    unfold show_;split
    · exact (I0.pin p hp).2.1
    · exact n
  · by_cases z:a∈adrs os
    · obtain ⟨ob,e0,e1,_⟩:=pin a z
      unfold show_ at e
      rw [if_pos z] at e
      obtain ⟨xs,q⟩:=hl a z
      rw [e] at q
      have q':o=.lst xs:=Option.some.inj q
      subst q'
      obtain ⟨hz,its,n,r,e2⟩:=I0.hok a _ e
      rw [e0] at e2
      have e3:ob=_:=Option.some.inj e2
      subst e3
      exact ⟨hz,its,n,r,e1⟩
    · unfold show_ at e
      rw [if_neg z] at e
      exact (I.hok a o e).stay (fun _ _ _ q=>q) (fun b q=>vis q) fun b xs q=>vis q
end
section
variable {K:PySem.W.Frag} {mg:Str→Option Value} {H H':Hp}
def NoL (H H':Hp):Prop:=∀ b o,H b=some o→(∀ xs,o ≠ .lst xs)→(∀ ob xs,o ≠ .frz ob (.lst xs))→H' b=some o
theorem seqT_nol (k:NoL H H') {a:Addr} {xs:List V} (h:SqT K H a xs):SqT K H' a xs:=by
  rcases h with (h | ⟨o,h⟩) | h
  · exact .inl (.inl (k _ _ h (fun _ z=>nomatch z) fun _ _ z=>nomatch z))
  · exact .inl (.inr ⟨o,k _ _ h (fun _ z=>nomatch z) fun _ _ z=>by cases z⟩)
  · exact .inr h
mutual
theorem rep_nol (k:NoL H H'):∀ {v:V} {d:D},d.flat=true→Rep K mg H v d→Rep K mg H' v d
  | _,_,_,.non=>.non
  | _,_,_,.bl b=>.bl b
  | _,_,_,.int i=>.int i
  | _,_,_,.str x=>.str x
  | _,.tup ds,f,.tup h r=>.tup (seqT_nol k h) (reps_nol k (by simpa [D.flat] using f) r)
  | _,.lst ds,f,_=>by simp [D.flat] at f
  | _,_,_,.ty n=>.ty n
  | _,_,_,.cls h=>.cls h
  | _,_,_,.exc h e=>.exc h (k _ _ e (fun _ z=>nomatch z) fun _ _ z=>nomatch z)
  | _,.ins n ds,f,.ins h e r=>.ins h (k _ _ e (fun _ z=>nomatch z) fun _ _ z=>nomatch z) (repf_nol k (by simpa [D.flat] using f) r)
theorem reps_nol (k:NoL H H'):∀ {vs:List V} {ds:List D},D.flats ds=true→Reps K mg H vs ds→Reps K mg H' vs ds
  | _,_,_,.nil=>.nil
  | _,d::r,f,.cons h t=>by
    have f':d.flat=true∧D.flats r=true:=by simpa [D.flats] using f
    exact .cons (rep_nol k f'.1 h) (reps_nol k f'.2 t)
theorem repf_nol (k:NoL H H'):∀ {vs:List (Str×V)} {ds:List (String×D)},D.flatf ds=true→Repf K mg H vs ds→Repf K mg H' vs ds
  | _,_,_,.nil=>.nil
  | _,(_,d)::r,f,.cons h t=>by
    have f':d.flat=true∧D.flatf r=true:=by simpa [D.flatf] using f
    exact .cons (rep_nol k f'.1 h) (repf_nol k f'.2 t)
end
end
section
variable {X:Cx} {σ:L2.St} {δ:Dt} {H H':Hp} {os:Os}
theorem StO.lsts (S:StO X H σ δ os):Lsts H os:=fun a ha=>by
  obtain ⟨p,hp,rfl⟩:=mem_adrs ha
  obtain ⟨xs,_,h,_⟩:=S.lst p hp
  exact ⟨xs,h⟩
theorem StO.nil (h:Stt X.K X.mg H σ δ) (hn:∀ (i:Nat) (ds:List D),δ[i]? ≠ some (some (.own ds))):StO X H σ δ []:=⟨by rw [hide_nil];exact h,fun p hp=>(nomatch hp),fun i ds e=>absurd e (hn i ds),fun _ _ _ z=>(nomatch z)⟩
theorem StO.shown (S:StO X H σ δ os) (s:Same (hide H os) H') (hn:∀ a∈adrs os,H' a=none):StO X (show_ H H' os) σ δ os:=by
  have e:=hide_show (H:=H) hn
  refine ⟨by rw [e];exact S.st.mono s,fun p hp => ?_,S.own,S.inj⟩
  obtain ⟨xs,ds,a,b,c,d⟩:=S.lst p hp
  exact ⟨xs,ds,by unfold show_;rw [if_pos (adrs_mem hp)];exact a,b,c,by rw [e];exact d.mono s⟩
theorem StO.noOwn (S:StO X H σ δ os) {H':Hp} (s:Same (hide H os) H'):Stt X.K X.mg H' σ (noOwn δ):=by
  refine ⟨by unfold EV.noOwn;rw [List.length_map];exact S.st.1,fun i d e n => ?_⟩
  unfold EV.noOwn at e
  rw [List.getElem?_map] at e
  cases q:δ[i]? with
  | none=>rw [q] at e;cases e
  | some c =>
    rw [q] at e
    cases c with
    | none=>cases e
    | some d0 =>
      by_cases ho:∃ ds,d0=.own ds
      · obtain ⟨ds,rfl⟩:=ho
        cases e
      · have e':d0=d:=by
          cases d0<;>first | exact absurd ⟨_,rfl⟩ ho | exact Option.some.inj (Option.some.inj e)
        subst e'
        obtain ⟨v,h1,h2⟩:=S.st.2 i d0 q n
        exact ⟨v,h1,h2.mono s⟩
end
def FQ (X:Cx) (σ:L2.St) (H:Hp) (os:Os) (δ:Dt) (r:R D) (Q:VK):Prop:=match r with
  | .ok d=>∀ v H',StO X H' σ δ os→Same (hide H os) (hide H' os)→Rep X.K X.mg (hide H' os) v d→Q v H'
  | .ex C=>∀ Ca,X.mg C=some (.ref Ca)→∀ H',Same (hide H os) H'→Stt X.K X.mg H' σ (noOwn δ)→ew X Ca σ H'
  | .bad=>False
def tF (X:Cx) (g:E):TE:=fun σ H Q=>∃ δ os,StO X H σ δ os∧FQ X σ H os δ (g δ) Q
def FT (X:Cx) (σ:L2.St) (H:Hp) (os:Os) (δ:Dt) (r:R D) (Q:Bool→Hp→Prop):Prop:=match r with
  | .ok (.bl b)=>∀ H',StO X H' σ δ os→Same (hide H os) (hide H' os)→Q b H'
  | .ex C=>∀ Ca,X.mg C=some (.ref Ca)→∀ H',Same (hide H os) H'→Stt X.K X.mg H' σ (noOwn δ)→ew X Ca σ H'
  | _=>False
def tFT (X:Cx) (g:E):TT:=fun σ H Q=>∃ δ os,StO X H σ δ os∧FT X σ H os δ (g δ) Q
section
variable {X:Cx} {e:Expr} {g:E}
theorem frameE (hx:X.ex=[]) (h:SE X e g):PE X e (tF X g):=by
  intro pins s σ H Q I ⟨δ,os,S,q⟩
  have hl:=S.lsts
  have hw:RQ X σ (hide H os) (g δ) (fun v H1=>Same (hide H os) H1∧∃ d,g δ=.ok d∧Rep X.K X.mg H1 v d):=by
    cases r:g δ with
    | ok d=>exact fun v H' s r=>⟨s,d,rfl,r⟩
    | ex C =>
      rw [r] at q
      exact fun Ca hc H' s'=>q Ca hc H' s' (S.noOwn s')
    | bad=>rw [r] at q;exact q
  refine thn (h _ s σ _ _ (inv_hide I hl) ⟨δ,S.st,hw⟩) fun u s' ⟨v,H1,I1,rv,sm,d,e,rd⟩ => ?_
  obtain ⟨I2,hn⟩:=inv_show hx I hl I1
  rw [e] at q
  have eh:=hide_show (H:=H) hn
  exact ⟨v,_,I2,rv,q v _ (S.shown sm hn) (by rw [eh];exact sm) (by rw [eh];exact rd)⟩
theorem frameT (hx:X.ex=[]) (h:ST X e g):PT X e (tFT X g):=by
  intro pins s σ H Q I ⟨δ,os,S,q⟩
  have hl:=S.lsts
  have hw:RT X σ (hide H os) (g δ) (fun b H1=>Same (hide H os) H1∧g δ=.ok (.bl b)):=by
    cases r:g δ with
    | ok d =>
      rw [r] at q
      cases d with
      | bl b=>exact fun H' s=>⟨s,rfl⟩
      | _=>exact False.elim q
    | ex C =>
      rw [r] at q
      exact fun Ca hc H' s'=>q Ca hc H' s' (S.noOwn s')
    | bad=>rw [r] at q;exact False.elim q
  refine thn (h _ s σ _ _ (inv_hide I hl) ⟨δ,S.st,hw⟩) fun b s' ⟨H1,I1,sm,e⟩ => ?_
  obtain ⟨I2,hn⟩:=inv_show hx I hl I1
  rw [e] at q
  have eh:=hide_show (H:=H) hn
  exact ⟨_,I2,q _ (S.shown sm hn) (by rw [eh];exact sm)⟩
def tB (X:Cx) (g:E):TE:=fun σ H Q=>∃ δ os,StO X H σ δ os∧(∀ d,g (view δ)=.ok d→d.flat=true)∧FQ X σ H os δ (g (view δ)) Q
end
def OQ (X:Cx) (D:Ends) (F:Hp):O→Prop
  | .nx δ=>∀ σ H os,StO X H σ δ os→Same F (hide H os)→D.nx σ H
  | .bk δ=>∀ σ H os,StO X H σ δ os→Same F (hide H os)→D.bk σ H
  | .ct δ=>∀ σ H os,StO X H σ δ os→Same F (hide H os)→D.ct σ H
  | .rt d=>∀ v H,Same F H→Rep X.K X.mg H v d→D.rt v H
  | .ex C δ=>∀ σ H,Same F H→Stt X.K X.mg H σ δ→∀ Ca,X.mg C=some (.ref Ca)→ew X Ca σ H
  | .mk C δ=>∀ σ H,Same F H→∀ Ca,X.mg C=some (.ref Ca)→em X Ca σ H
  | .bad=>False
def tS (X:Cx) (g:S):TS:=fun D σ H=>∃ δ os,StO X H σ δ os∧OQ X D (hide H os) (g δ)
@[irreducible] noncomputable def SS (X:Cx) (st:Stmt) (g:S):Prop:=PS X st (tS X g)
@[irreducible] noncomputable def SSs (X:Cx) (st:List Stmt) (g:S):Prop:=PSs X st (tS X g)
unseal SS SSs
theorem OQ.mono {X:Cx} {D:Ends} {F F':Hp} {o:O} (s:Same F F') (h:OQ X D F o):OQ X D F' o:=by
  cases o with
  | nx δ=>exact fun σ H os S s'=>h σ H os S (s.trans s')
  | bk δ=>exact fun σ H os S s'=>h σ H os S (s.trans s')
  | ct δ=>exact fun σ H os S s'=>h σ H os S (s.trans s')
  | rt d=>exact fun v H s' r=>h v H (s.trans s') r
  | ex C δ=>exact fun σ H s' S=>h σ H (s.trans s') S
  | mk C δ=>exact fun σ H s'=>h σ H (s.trans s')
  | bad=>exact h
theorem OQ.lv {X:Cx} {D:Ends} {F:Hp} {o:O} {n:L2.St→Hp→Prop} (hn:∀ δ,o ≠ .nx δ) (h:OQ X D F o):OQ X { D with nx:=n } F o:=by
  cases o with
  | nx δ=>exact absurd rfl (hn δ)
  | _=>exact h
section
variable {X:Cx} {N:List Str} {H:Hp} {σ:L2.St} {δ:Dt} {os:Os}
theorem os_drop (os:Os) (i:Nat):∀ p∈os.filter (fun p=>p.1 != i),p∈os∧p.1≠i:=fun p hp=>by
  have:=List.mem_filter.mp hp
  exact ⟨this.1,by simpa using this.2⟩
theorem hide_less {os os':Os} (h:∀ p∈os',p∈os):Same (hide H os) (hide H os'):=fun b o e=>by
  have hb:b∉adrs os:=fun z=>by rw [hide_in z] at e;cases e
  rw [hide_out hb] at e
  rw [hide_out fun z => ?_];exact e
  obtain ⟨p,hp,rfl⟩:=mem_adrs z
  exact hb (adrs_mem (h p hp))
theorem StO.set {v:V} {d:D} {i:Nat} (S:StO X H σ δ os) (r:Rep X.K X.mg (hide H os) v d):StO X H (σ.set i (some v)) (δ.set i (some d)) (os.filter fun p=>p.1 != i)∧Same (hide H os) (hide H (os.filter fun p=>p.1 != i)):=by
  have sm:Same (hide H os) (hide H (os.filter fun p=>p.1 != i)):=hide_less fun p hp=>(os_drop os i p hp).1
  refine ⟨⟨(S.st.mono sm).set (r.mono sm),fun p hp => ?_,fun j ds e => ?_,fun a b c h1 h2=>S.inj a b c (os_drop os i _ h1).1 (os_drop os i _ h2).1⟩,sm⟩
  · obtain ⟨hp',ne⟩:=os_drop os i p hp
    obtain ⟨xs,ds,h1,h2,h3,h4⟩:=S.lst p hp'
    exact ⟨xs,ds,h1,by rw [List.getElem?_set_ne (Ne.symm ne)];exact h2,by rw [List.getElem?_set_ne (Ne.symm ne)];exact h3,h4.mono sm⟩
  · by_cases hj:j=i
    · subst hj
      by_cases hl:j<δ.length
      · rw [List.getElem?_set_self hl] at e
        have e':d=.own ds:=Option.some.inj (Option.some.inj e)
        subst e'
        cases r
      · rw [List.getElem?_eq_none (by simp;omega)] at e
        cases e
    · rw [List.getElem?_set_ne (Ne.symm hj)] at e
      obtain ⟨a,ha⟩:=S.own j ds e
      exact ⟨a,List.mem_filter.mpr ⟨ha,by simpa using hj⟩⟩
structure Sx (X:Cx) (N:List Str):Prop where
  sc:Sc X N
  ex:X.ex=[]
variable {e c:Expr} {g gc:E} {pos:Pos} {st:Stmt} {rest body els:List Stmt} {gs gr gb ge:S}
theorem FQ.then {r:R EV.D} {Q:VK} {D:Ends} {f:EV.D→O} (h:OQ X D (hide H os) (match r with | .ok d=>f d | .ex C=>.ex C (noOwn δ) | .bad=>.bad))
    (hq:∀ d v H',r=.ok d→StO X H' σ δ os→Same (hide H os) (hide H' os)→Rep X.K X.mg (hide H' os) v d→OQ X D (hide H' os) (f d)→Q v H'):FQ X σ H os δ r Q:=by
  cases r with
  | ok d=>exact fun v H' S s r=>hq d v H' rfl S s r (OQ.mono s h)
  | ex C=>exact fun Ca hc H' s' st=>h σ H' s' st Ca hc
  | bad=>exact h
theorem s_nil:SSs X [] pass_:=PSs.weak pss_nil fun D σ H ⟨δ,os,S,h⟩=>h σ H os S (Same.refl _)
theorem s_one (h:SS X st gs):SSs X [st] gs:=pss_one h
theorem s_cons (h:SS X st gs) (hr:SSs X rest gr):SSs X (st::rest) (seq gs gr):=PSs.weak (pss_cons h hr) fun D σ H ⟨δ,os,S,h⟩=>⟨δ,os,S,by
  unfold seq at h
  cases q:gs δ with
  | nx δ' =>
    rw [q] at h
    exact fun σ' H' os' S' s'=>⟨δ',os',S',OQ.mono s' h⟩
  | _=>rw [q] at h;exact OQ.lv (fun _ z=>nomatch z) h⟩
theorem s_set (C:Sx X N) (i:Nat) {x:Str} {pos':Pos} (hN:N[i]? = some x) (hx:Sto X x) (h:SE X e g) (hsw:swapsWith e (some (.Name x pos')) pos.line X.env=pure false:=by rfl):SS X (.Assign [.Name x pos'] e pos) (assign i g) :=
  PS.weak (ps_set (i:=i) (by rw [C.sc.n];exact C.sc.nd) (by rw [C.sc.n];exact hN) hx.1 (frameE C.ex h) hsw hx.2) fun D σ H ⟨δ,os,S,q⟩=>⟨δ,os,S,FQ.then q fun d v H' e S' s r q'=>by
    obtain ⟨S2,s2⟩:=S'.set (i:=i) r
    exact q' _ _ _ S2 s2⟩
theorem s_expr (C:Sx X N) (h:SE X e g) (hs:swapsWith e none pos.line X.env=pure false:=by rfl):SS X (.Expr e pos) (expr g) :=
  PS.weak (ps_expr (frameE C.ex h) hs) fun D σ H ⟨δ,os,S,q⟩=>⟨δ,os,S,FQ.then q fun d v H' e S' s r q'=>q' _ _ _ S' (Same.refl _)⟩
theorem s_ret (C:Sx X N) (h:SE X e g):SS X (.Return (some e) pos) (ret g) :=
  PS.weak (ps_ret (frameE C.ex h)) fun D σ H ⟨δ,os,S,q⟩=>⟨δ,os,S,FQ.then q fun d v H' e S' s r q'=>q' v H' (hide_same _ _) (r.mono (hide_same _ _))⟩
theorem FT.then {r:R EV.D} {Q:Bool→Hp→Prop} {D:Ends} {ta fa:O} (h:OQ X D (hide H os) (match r with | .ok (.bl true)=>ta | .ok (.bl false)=>fa | .ex C=>.ex C (noOwn δ) | _=>.bad))
    (hq:∀ b H',StO X H' σ δ os→Same (hide H os) (hide H' os)→OQ X D (hide H' os) (if b=true then ta else fa)→Q b H'):FT X σ H os δ r Q:=by
  cases r with
  | ok d =>
    cases d with
    | bl b =>
      cases b with
      | true=>exact fun H' S s=>hq true H' S s (by rw [if_pos rfl];exact OQ.mono s h)
      | false=>exact fun H' S s=>hq false H' S s (by rw [if_neg (by decide)];exact OQ.mono s h)
    | _=>exact h
  | ex C=>exact fun Ca hc H' s' st=>h σ H' s' st Ca hc
  | bad=>exact h
theorem s_if (C:Sx X N) (hc:ST X c gc) (ha:SSs X body gb) (hb:SSs X els ge):SS X (.If c body els pos) (ifs gc gb ge) :=
  PS.weak (ps_if (frameT C.ex hc) ha hb) fun D σ H ⟨δ,os,S,q⟩=>⟨δ,os,S,FT.then q fun b H' S' s q'=>by
    cases b with
    | true=>exact iteT ⟨δ,os,S',by simpa using q'⟩
    | false=>exact iteF ⟨δ,os,S',by simpa using q'⟩⟩
theorem drop_cons_of {α:Type} {xs:List α} {n:Nat} {x:α} (h:xs[n]? = some x):xs.drop n=x::xs.drop (n+1):=by
  obtain ⟨h1,h2⟩:=List.getElem?_eq_some_iff.mp h
  rw [List.drop_eq_getElem_cons h1,h2]
def Pv (X:Cx) (D:Ends) (F F1:Hp) (i:Nat) (gb:S) (ds:List EV.D) (n:Nat) (σ:L2.St) (H:Hp):Prop:=∃ δ os,StO X H σ δ os∧Same F1 (hide H os)∧Same F F1∧OQ X D F (forL i gb (ds.drop n) δ)
theorem turn_ok {D:Ends} {F F1:Hp} {i n:Nat} {ds:List EV.D} {d:EV.D} {v:V} (hd:ds[n]? = some d) (r:∀ H',Same F1 H'→Rep X.K X.mg H' v d) (p:Pv X D F F1 i gb ds n σ H) :
    gName i v σ H fun σ2 H2=>tS X gb { D with nx:=Pv X D F F1 i gb ds (n+1),ct:=Pv X D F F1 i gb ds (n+1),bk:=D.nx } σ2 H2:=by
  obtain ⟨δ,os,S,s1,s0,q⟩:=p
  rw [drop_cons_of hd] at q
  obtain ⟨S2,s2⟩:=S.set (i:=i) (r _ s1)
  refine ⟨_,_,S2,?_⟩
  unfold forL trn at q
  have s3:=(s0.trans s1).trans s2
  cases e:gb (δ.set i (some d)) with
  | nx δ1=>rw [e] at q;exact fun σ' H' os' S' s'=>⟨δ1,os',S',(s1.trans s2).trans s',s0,q⟩
  | ct δ1=>rw [e] at q;exact fun σ' H' os' S' s'=>⟨δ1,os',S',(s1.trans s2).trans s',s0,q⟩
  | bk δ1=>rw [e] at q;exact fun σ' H' os' S' s'=>q σ' H' os' S' (s3.trans s')
  | rt d'=>rw [e] at q;exact fun v' H' s' r'=>q v' H' (s3.trans s') r'
  | ex C δ1=>rw [e] at q;exact fun σ' H' s' r'=>q σ' H' (s3.trans s') r'
  | mk C δ1=>rw [e] at q;exact fun σ' H' s'=>q σ' H' (s3.trans s')
  | bad=>rw [e] at q;exact q
theorem end_ok {D:Ends} {F F1:Hp} {i n:Nat} {ds:List EV.D} (hn:ds.length≤n) (p:Pv X D F F1 i gb ds n σ H):D.nx σ H:=by
  obtain ⟨δ,os,S,s1,s0,q⟩:=p
  rw [List.drop_eq_nil_of_le hn] at q
  exact q σ H os S (s0.trans s1)
structure Lp (X:Cx):Prop where
  own:PassesOwn (model X.prog X.w) X.A X.env X.xe
  calm:X.calm=true
end
end ES
namespace ES
open PySem PySem.Spec PyProof.Rows L2 EV
unseal SE ST SW SA SS SSs
theorem obj_there {P:Program} {w:World} {H:Hp} {h:Heap} {a:Addr} {o:HO} (x:ObjOk P w H h a o):∃ ob,h.get? a=some ob:=by
  cases o with
  | lst xs=>obtain ⟨_,_,_,_,e⟩:=x;exact ⟨_,e⟩
  | tup xs=>obtain ⟨_,_,_,ob,e,_⟩:=x;exact ⟨_,e⟩
  | dK kvs=>obtain ⟨_,_,_,_,ob,_,_,e,_⟩:=x;exact ⟨_,e⟩
  | dT kvs=>obtain ⟨_,_,_,_,ob,_,_,e,_⟩:=x;exact ⟨_,e⟩
  | set S n=>obtain ⟨ob,_,_,_,e,_⟩:=x;exact ⟨_,e⟩
  | ins C dx fs=>obtain ⟨_,_,_,e,_⟩:=x;exact ⟨_,e⟩
  | own y=>exact x
  | xd fs=>obtain ⟨_,⟨_,_,_,e,_⟩,_⟩:=x;exact ⟨_,e⟩
  | rng lo hi=>obtain ⟨_,_,_,e⟩:=x;exact ⟨_,e⟩
  | frz ob u=>obtain ⟨e,_⟩:=x;exact ⟨_,e⟩
  | tbl ps=>exact ⟨_,(show h.get? a=some _ from x)⟩
  | met f y=>exact ⟨_,(show h.get? a=some _ from x)⟩
  | ext φ=>obtain ⟨_,e,_⟩:=x;exact e
theorem un_fly {fs:List Addr} {H H':Hp} {h h1 h2 B:Heap} (u:Un fs [] H H' h h1) (same:Same H H') (i1:∀ b o,h.get? b=some o→H b=none→b∉fs→B.get? b=some o)
    (i2:∀ b u o,H' b=some u→h1.get? b=some o→B.get? b=some o) (st:B.StaysIn h2) (up:h1.UpToSlots h2) (ff:∀ b∈fs,∀ o,h1.get? b=some o→∀ vs,o.data ≠ .fields vs):Un fs [] H H' h h2:=by
  have slot:∀ b o,h.get? b=some o→H b=none→b∈fs→b∉([]:List Addr)→∃ sl,h2.get? b=some { o with slots:=sl }:=fun b o e n hb hx=>by
    obtain ⟨sl,e1⟩:=u.slot b o e n hb hx
    obtain ⟨sl2,e2⟩:=up b _ e1 (ff b hb _ e1)
    exact ⟨sl2,e2⟩
  refine ⟨fun b o e n hb _=>st b o (i1 b o e n hb),slot,u.free,fun b o e hx => ?_,u.tups,u.frzs,u.tbls⟩
  cases n:H b with
  | none =>
    by_cases hb:b∈fs
    · obtain ⟨sl,e2⟩:=slot b o e n hb hx
      exact ⟨_,e2⟩
    · exact ⟨o,st b o (i1 b o e n hb)⟩
  | some x =>
    obtain ⟨o',e1⟩:=u.there b o e hx
    exact ⟨o',st b o' (i2 b x o' (same b x n) e1)⟩
theorem hok_fly {P:Program} {w:World} {H':Hp} {h1 h2 B:Heap} (hok:HOk P w H' h1) (i2:∀ b u o,H' b=some u→h1.get? b=some o→B.get? b=some o) (st:B.StaysIn h2):HOk P w H' h2:=fun a o e =>
  (hok a o e).stay (fun b u hb q=>by
    rcases hb with rfl | hb
    · exact st b u (i2 b o u e q)
    · exact st b u (i2 b _ u hb q)) (fun _ q=>q) fun _ _ q=>q
theorem i2_fly {P:Program} {w:World} {H':Hp} {h1 h2 B:Heap} (hok:HOk P w H' h1) (i2:∀ b u o,H' b=some u→h1.get? b=some o→B.get? b=some o) (st:B.StaysIn h2):∀ b u o,H' b=some u→h2.get? b=some o→B.get? b=some o:=fun b u o e q=>by
  obtain ⟨ob,e1⟩:=obj_there (hok b u e)
  have e2:=i2 b u ob e e1
  have e3:=st b ob e2
  rw [q] at e3
  cases e3
  exact e2
theorem ff_of {base h:Heap} {l:List Env} (x:h.FunFrames base l):∀ b∈frs l,∀ o,h.get? b=some o→∀ vs,o.data ≠ .fields vs:=fun b hb o e=>by
  obtain ⟨_,o',e',d⟩:=x.mem hb
  rw [e] at e'
  cases e'
  exact d
section
variable {X:Cx} {pins:List (Addr×Obj)} {σ:L2.St} {H H':Hp} {s s':Shared} {C ea:Addr}
structure Own (X:Cx):Prop where
  stk:X.stack=X.env::X.outer
  frm:X.env.frame=some X.env.locals
  ex:X.ex=[]
theorem Own.frs (h:Own X):L2.frs X.stack=X.env.locals::X.fs:=by
  rw [h.stk]
  unfold L2.frs
  rw [List.filterMap_cons,h.frm]
  rfl
theorem first_of (I:Inv X pins σ H s) (O:Own X) {B:Heap} (i1:∀ b o,s.heap.get? b=some o→H b=none→b∉L2.frs X.stack→B.get? b=some o):∀ b o,X.s₀.heap.get? b=some o→X.H₀ b=none→b∉X.fs→B.get? b=some o:=fun b o e n hb=>by
  have hx:b∉X.ex:=by rw [O.ex];simp
  refine i1 b o (I.base.keep b o e n hb hx) (I.base.free b o e n hx) fun z => ?_
  rw [O.frs] at z
  rcases List.mem_cons.mp z with q | q
  · exact absurd (Nat.lt_of_lt_of_le (Heap.lt_size e) I.ok.above) (by rw [q];exact Nat.lt_irrefl _)
  · exact hb q
theorem new_of (I:Inv X pins σ H s) (O:Own X) (h:s.heap.get? ea=none):X.s₀.heap.get? ea=none:=by
  cases q:X.s₀.heap.get? ea with
  | none=>rfl
  | some o =>
    obtain ⟨o',e⟩:=I.base.there ea o q (by rw [O.ex];simp)
    rw [h] at e
    cases e
theorem base_nil (I:Inv X pins σ H s) (O:Own X):Un X.fs [] X.H₀ H X.s₀.heap s.heap:=by
  have z:=I.base
  rw [O.ex] at z
  exact z
theorem fly_inv (I:Inv X pins σ H s) (F:FlyX X.prog X.w X.stack H s C H' ea s'):Inv X pins σ H' s':=I.call' (ch:=[]) F.os F.un F.hok F.bare fun b z=>absurd z (by simp)
theorem leaves_on {M:Model} {E:Value→Shared→Prop} {Q:Unit→Shared→Prop} (I:Inv X pins σ H s) (O:Own X) (F:FlyX X.prog X.w X.stack H s C H' ea s') (same:Same X.H₀ H')
    (hQ:∀ s'',FlyX X.prog X.w X.outer X.H₀ X.s₀ C H' ea s''→Q () s''):wpAny M X.A (leaving X.env (.ref ea)) Q E s':=by
  obtain ⟨a0,B,hfl,i1,i2⟩:=F.fly
  have I':=fly_inv I F
  have ff:=ff_of hfl.2.2.1
  rw [O.stk] at hfl
  refine wpAny_leaves_onW (by rw [I.ok.frames,O.stk]) O.frm hfl fun h' f1 up=>hQ _ ⟨F.os.trans I.os,F.bare,?_,hok_fly F.hok i2 f1.1,same,new_of I O F.new,a0,B,f1,first_of I O i1,i2_fly F.hok i2 f1.1⟩
  exact un_fly (base_nil I' O) same (first_of I O i1) i2 f1.1 up fun b hb=>ff b (by rw [O.frs];exact List.mem_cons_of_mem _ hb)
theorem leaves_made {M:Model} {E:Value→Shared→Prop} {Q:Unit→Shared→Prop} {h1:Heap} {vs:List Value} (I:Inv X pins σ H s) (O:Own X) (made:Heap.MadeExcOf s.heap h1 ea (.ref C) vs) (same:Same X.H₀ H)
    (hQ:∀ s'',FlyX X.prog X.w X.outer X.H₀ X.s₀ C H ea s''→Q () s''):wpAny M X.A (leaving X.env (.ref ea)) Q E { s with heap:=h1 }:=by
  have hst:=I.stack
  have ff:=ff_of hst
  have i1:∀ b o,s.heap.get? b=some o→H b=none→b∉L2.frs X.stack→(PySem.W.hideAll s.heap (L2.frs X.stack)).get? b=some o:=fun b o e _ hb=>PySem.W.hideAll_get _ e hb
  have i2:∀ b u o,H b=some u→s.heap.get? b=some o→(PySem.W.hideAll s.heap (L2.frs X.stack)).get? b=some o:=fun b u o e q=>PySem.W.hideAll_get _ q fun z=>by
    rw [I.stkFree b z] at e
    cases e
  have hl:=PySem.W.funFrames_hide (as:=L2.frs X.stack) hst fun env he b hb=>List.mem_filterMap.mpr ⟨env,he,hb⟩
  rw [O.stk] at hl
  refine wpAny_leaves_madeW (s:={ s with heap:=h1 }) (base:=PySem.W.hideAll s.heap (L2.frs X.stack)) (by rw [I.ok.frames,O.stk]) O.frm (fun b o e=>PySem.W.of_hideAll _ e) (by rw [O.stk] at *;exact hl) made fun h' t f1 _ _ up=>hQ _ ⟨I.os,I.bare,?_,hok_fly I.hok i2 f1.1,same,new_of I O made.new,_,_,f1,first_of I O i1,i2_fly I.hok i2 f1.1⟩
  exact un_fly (base_nil I O) same (first_of I O i1) i2 f1.1 ((Heap.UpToSlots.of_keeps made.keeps).trans up) fun b hb=>ff b (by rw [O.frs];exact List.mem_cons_of_mem _ hb)
end
def CXF (P:Program) (w:World):CXT:=fun outer H s E e s'=>∃ C H' ea,e=.ref ea∧FlyX P w outer H s C H' ea s'∧E (.ref C) none H'
def spP (K:PySem.W.Frag) (mg:Str→Option Value) (f:List D→R D):Sp:=fun vs H Q E=>∃ ds,Reps K mg H vs ds∧match f ds with
  | .ok d=>∀ v H',Same H H'→Rep K mg H' v d→Q v H'
  | .ex C=>∀ Ca,mg C=some (.ref Ca)→∀ H',Same H H'→E (.ref Ca) none H'
  | .bad=>False
theorem own_def {CX:CXT} {P:Program} {w:World} {K:PySem.W.Frag} {mg:Str→Option Value} {base:Heap} {N:List Str} {qual:Str} {sc:Scope} {f:Addr} {cdv:Value} {A:Around} {outer:List Env} {s:Shared} {H:Hp} {E:XK} :
    Own (cxOf CX P w K mg base N qual sc f cdv A outer s H E):=⟨rfl,rfl,rfl⟩
section
variable {P:Program} {w:World} {K:PySem.W.Frag} {mg:Str→Option Value} {base:Heap} {N:List Str} {qual:Str} {sc:Scope} {f:Addr} {cdv:Value} {A:Around} {outer:List Env} {s:Shared} {H H':Hp} {E:XK} {C:Addr} {σ:L2.St}
theorem ew_def (same:Same H H') (hE:E (.ref C) none H'):ew (cxOf (CXF P w) P w K mg base N qual sc f cdv A outer s H E) C σ H' :=
  fun pins H1 s1 ea s' I F=>leaves_on I own_def F same fun s'' F'=>⟨C,H',ea,rfl,F',hE⟩
theorem em_def (same:Same H H') (hE:E (.ref C) none H'):em (cxOf (CXF P w) P w K mg base N qual sc f cdv A outer s H E) C σ H' :=
  fun pins s1 h' ea vs I made=>leaves_made I own_def made same fun s'' F'=>⟨C,H',ea,rfl,F',hE⟩
end
structure ScF (N G ps:List Str) (sc:Scope):Prop where
  fs:FnScope N ps sc
  loc:∀ x∈N,Loc sc x
  glb:∀ x∈G,sc.names.lookup x=some .globalImplicit
  dbg:∀ x∈N,(x == ("__debug__":Str))=false∧(x == ("__classdict__":Str))=false
  dbgG:∀ x∈G,(x == ("__debug__":Str))=false∧x≠"__name__"
structure Pl (X:Cx) (N G:List Str):Prop extends Sx X N where
  sto:∀ x∈N,Sto X x
  gb:∀ x∈G,Gb X x
instance locDec {sc:Scope} {x:Str}:Decidable (Loc sc x):=inferInstanceAs (Decidable (_∨_))
theorem locVis {sc:Scope} {x:Str} (h:Loc sc x):Vis sc x:=h.elim .inl fun z=>.inr (.inl z)
theorem stt_start {K:PySem.W.Frag} {mg:Str→Option Value} {H:Hp} {N:List Str} {n m:Nat}:∀ {vs:List V} {ds:List D},Reps K mg H vs ds→ds.length=n→N.length=m→Stt K mg H (L2.start N vs) (EV.start n m ds):=by
  intro vs ds r hn hm
  have hl:=r.length
  refine ⟨by simp [L2.start,EV.start,hl,hn,hm],fun i d e _ => ?_⟩
  unfold EV.start at e
  by_cases hi:i<ds.length
  · rw [List.getElem?_append_left (by simpa using hi),List.getElem?_map] at e
    cases q:ds[i]? with
    | none=>rw [q] at e;cases e
    | some d' =>
      rw [q] at e
      have e':d'=d:=Option.some.inj (Option.some.inj e)
      subst e'
      obtain ⟨v,h1,h2⟩:=r.get q
      exact ⟨v,by unfold L2.start;rw [List.getElem?_append_left (by simp;omega),List.getElem?_map,h1];rfl,h2⟩
  · rw [List.getElem?_append_right (by simpa using hi),List.getElem?_replicate] at e
    split at e<;>cases e
theorem start_noOwn {K:PySem.W.Frag} {mg:Str→Option Value} {H:Hp} {n m:Nat} {vs:List V} {ds:List D} (r:Reps K mg H vs ds) (i:Nat) (es:List D):(EV.start n m ds)[i]? ≠ some (some (.own es)):=fun e=>by
  unfold EV.start at e
  by_cases hi:i<ds.length
  · rw [List.getElem?_append_left (by simpa using hi),List.getElem?_map] at e
    cases q:ds[i]? with
    | none=>rw [q] at e;cases e
    | some d' =>
      rw [q] at e
      have e':d'=.own es:=Option.some.inj (Option.some.inj e)
      subst e'
      obtain ⟨v,h1,h2⟩:=r.get q
      cases h2
  · rw [List.getElem?_append_right (by simpa using hi),List.getElem?_replicate] at e
    split at e<;>cases e
theorem fn_ok {P:Program} {w:World} {K:PySem.W.Frag} {mg:Str→Option Value} {base:Heap} {x qual:Str} {st:Stmt} {f:Addr} {fd:FuncData} {N G ps:List Str} {k n m:Nat} {g:S}
    (F:Fun K x qual st f fd) (S:ScF N G ps (defScope st)) (hn:ps.length=n) (hm:N.length=m)
    (hbody:∀ X:Cx,X.prog=P→X.w=w→X.K=K→X.mg=mg→X.base=base→Room k X.A→Lp X→Own X→Pl X N G→X.env.scope=defScope st→SSs X (defBody st) g) :
    FnOk P w K mg base (CXF P w) (k+1) f fd ps (spP K mg (fn n m g)):=by
  obtain ⟨oc,od,kV,doc,pm,an,cdv,ct,osl,rfl,lk,hcd⟩:=F.ex
  have len:∀ {ds:List D},fn n m g ds ≠ .bad→ds.length=n:=fun {ds} h=>by
    unfold fn at h
    split at h
    · assumption
    · exact absurd rfl h
  refine fn_of lk hcd S.fs (fun vs H Q E h => ?_) fun A outer s H vs Q E hr h => ?_
  · obtain ⟨ds,rs,h⟩:=h
    rw [rs.length,hn]
    refine len fun z => ?_
    rw [z] at h
    exact h
  · obtain ⟨ds,rs,h⟩:=h
    have hl:ds.length=n:=len fun z=>by rw [z] at h;exact h
    refine ⟨_,hbody (cxOf (CXF P w) P w K mg base N qual (defScope st) f cdv A outer s H E) rfl rfl rfl rfl rfl hr ⟨PassesOwn.leaving,rfl⟩ own_def ⟨⟨⟨rfl,S.fs.nd,fun y hy=>locVis (S.loc y hy),S.dbg⟩,rfl⟩,fun y hy=>⟨S.loc y hy,.inl rfl⟩,fun y hy=>⟨S.glb y hy,(S.dbgG y hy).1,(S.dbgG y hy).2⟩⟩ rfl,_,[],StO.nil (stt_start rs hl hm) (start_noOwn rs),?_⟩
    rw [hide_nil]
    unfold fn at h
    rw [if_pos hl] at h
    cases e:g (EV.start n m ds) with
    | nx δ=>rw [e] at h;exact fun σ H' os _ s'=>h .non H' (s'.trans (hide_same _ _)) .non
    | rt d=>rw [e] at h;exact fun v H' s' r=>h v H' s' r
    | ex C δ=>rw [e] at h;exact fun σ H' s' _ Ca hc=>ew_def s' (h Ca hc H' s')
    | mk C δ=>rw [e] at h;exact fun σ H' s' Ca hc=>em_def s' (h Ca hc H' s')
    | bk δ=>rw [e] at h;exact False.elim h
    | ct δ=>rw [e] at h;exact False.elim h
    | bad=>rw [e] at h;exact False.elim h
abbrev at5 (X:Cx) (P:Program) (w:World) (K:PySem.W.Frag) (mg:Str→Option Value) (base:Heap):Cx:={ X with prog:=P,w:=w,K:=K,mg:=mg,base:=base }
theorem fn_ok2 {P:Program} {w:World} {K:PySem.W.Frag} {mg:Str→Option Value} {base:Heap} {x qual:Str} {st:Stmt} {f:Addr} {fd:FuncData} {N G ps:List Str} {k n m:Nat} {g:S}
    (F:Fun K x qual st f fd) (S:ScF N G ps (defScope st)) (hn:ps.length=n) (hm:N.length=m)
    (hbody:∀ X:Cx,Room k (at5 X P w K mg base).A→Lp (at5 X P w K mg base)→Own (at5 X P w K mg base)→Pl (at5 X P w K mg base) N G→(at5 X P w K mg base).env.scope=defScope st→SSs (at5 X P w K mg base) (defBody st) g) :
    FnOk P w K mg base (CXF P w) (k+1) f fd ps (spP K mg (fn n m g)):=fn_ok F S hn hm fun X hP hw hK hM hB hr L O Pl hS=>by
  subst hP hw hK hM hB
  exact hbody X hr L O Pl hS
theorem us1 {C:List Value→Prop} (h:∀ a,C [a]) (us:List Value) (hl:us.length=1):C us:=by
  match us,hl with
  | [_],_=>exact h _
theorem us2 {C:List Value→Prop} (h:∀ a b,C [a,b]) (us:List Value) (hl:us.length=2):C us:=by
  match us,hl with
  | a::us,hl=>exact us1 (C:=fun us=>C (a::us)) (h a) us (Nat.succ.inj hl)
theorem us3 {C:List Value→Prop} (h:∀ a b c,C [a,b,c]) (us:List Value) (hl:us.length=3):C us:=by
  match us,hl with
  | a::us,hl=>exact us2 (C:=fun us=>C (a::us)) (h a) us (Nat.succ.inj hl)
theorem us4 {C:List Value→Prop} (h:∀ a b c d,C [a,b,c,d]) (us:List Value) (hl:us.length=4):C us:=by
  match us,hl with
  | a::us,hl=>exact us3 (C:=fun us=>C (a::us)) (h a) us (Nat.succ.inj hl)
theorem us5 {C:List Value→Prop} (h:∀ a b c d e,C [a,b,c,d,e]) (us:List Value) (hl:us.length=5):C us:=by
  match us,hl with
  | a::us,hl=>exact us4 (C:=fun us=>C (a::us)) (h a) us (Nat.succ.inj hl)
theorem us6 {C:List Value→Prop} (h:∀ a b c d e f,C [a,b,c,d,e,f]) (us:List Value) (hl:us.length=6):C us:=by
  match us,hl with
  | a::us,hl=>exact us5 (C:=fun us=>C (a::us)) (h a) us (Nat.succ.inj hl)
theorem binds1 {K:PySem.W.Frag} {x qual:Str} {st:Stmt} {f:Addr} {fd:FuncData} {ps:List Str} (F:Fun K x qual st f fd) (hp:ps.length=1)
    (h:∀ (kV doc pm:Value) (an:Option Addr) (cdv ct:Value) (a:Value),bindArgs (PySem.W.fnOf x qual (defArgs st) (defBody st) (defScope st) .none kV doc pm an cdv ct) ⟨[a],[]⟩=pure (ps.zip [a])):Binds K fd ps [] :=
  F.binds fun kV doc pm an cdv ct us hl=>us1 (C:=fun us=>bindArgs (PySem.W.fnOf x qual (defArgs st) (defBody st) (defScope st) .none kV doc pm an cdv ct) ⟨us,[]⟩=pure (ps.zip us)) (h kV doc pm an cdv ct) us (hl.trans hp)
theorem binds2 {K:PySem.W.Frag} {x qual:Str} {st:Stmt} {f:Addr} {fd:FuncData} {ps:List Str} (F:Fun K x qual st f fd) (hp:ps.length=2)
    (h:∀ (kV doc pm:Value) (an:Option Addr) (cdv ct:Value) (a b:Value),bindArgs (PySem.W.fnOf x qual (defArgs st) (defBody st) (defScope st) .none kV doc pm an cdv ct) ⟨[a,b],[]⟩=pure (ps.zip [a,b])):Binds K fd ps [] :=
  F.binds fun kV doc pm an cdv ct us hl=>us2 (C:=fun us=>bindArgs (PySem.W.fnOf x qual (defArgs st) (defBody st) (defScope st) .none kV doc pm an cdv ct) ⟨us,[]⟩=pure (ps.zip us)) (h kV doc pm an cdv ct) us (hl.trans hp)
theorem binds3 {K:PySem.W.Frag} {x qual:Str} {st:Stmt} {f:Addr} {fd:FuncData} {ps:List Str} (F:Fun K x qual st f fd) (hp:ps.length=3)
    (h:∀ (kV doc pm:Value) (an:Option Addr) (cdv ct:Value) (a b c:Value),bindArgs (PySem.W.fnOf x qual (defArgs st) (defBody st) (defScope st) .none kV doc pm an cdv ct) ⟨[a,b,c],[]⟩=pure (ps.zip [a,b,c])):Binds K fd ps [] :=
  F.binds fun kV doc pm an cdv ct us hl=>us3 (C:=fun us=>bindArgs (PySem.W.fnOf x qual (defArgs st) (defBody st) (defScope st) .none kV doc pm an cdv ct) ⟨us,[]⟩=pure (ps.zip us)) (h kV doc pm an cdv ct) us (hl.trans hp)
theorem binds4 {K:PySem.W.Frag} {x qual:Str} {st:Stmt} {f:Addr} {fd:FuncData} {ps:List Str} (F:Fun K x qual st f fd) (hp:ps.length=4)
    (h:∀ (kV doc pm:Value) (an:Option Addr) (cdv ct:Value) (a b c d:Value),bindArgs (PySem.W.fnOf x qual (defArgs st) (defBody st) (defScope st) .none kV doc pm an cdv ct) ⟨[a,b,c,d],[]⟩=pure (ps.zip [a,b,c,d])):Binds K fd ps [] :=
  F.binds fun kV doc pm an cdv ct us hl=>us4 (C:=fun us=>bindArgs (PySem.W.fnOf x qual (defArgs st) (defBody st) (defScope st) .none kV doc pm an cdv ct) ⟨us,[]⟩=pure (ps.zip us)) (h kV doc pm an cdv ct) us (hl.trans hp)
theorem binds5 {K:PySem.W.Frag} {x qual:Str} {st:Stmt} {f:Addr} {fd:FuncData} {ps:List Str} (F:Fun K x qual st f fd) (hp:ps.length=5)
    (h:∀ (kV doc pm:Value) (an:Option Addr) (cdv ct:Value) (a b c d e:Value),bindArgs (PySem.W.fnOf x qual (defArgs st) (defBody st) (defScope st) .none kV doc pm an cdv ct) ⟨[a,b,c,d,e],[]⟩=pure (ps.zip [a,b,c,d,e])):Binds K fd ps [] :=
  F.binds fun kV doc pm an cdv ct us hl=>us5 (C:=fun us=>bindArgs (PySem.W.fnOf x qual (defArgs st) (defBody st) (defScope st) .none kV doc pm an cdv ct) ⟨us,[]⟩=pure (ps.zip us)) (h kV doc pm an cdv ct) us (hl.trans hp)
theorem binds6 {K:PySem.W.Frag} {x qual:Str} {st:Stmt} {f:Addr} {fd:FuncData} {ps:List Str} (F:Fun K x qual st f fd) (hp:ps.length=6)
    (h:∀ (kV doc pm:Value) (an:Option Addr) (cdv ct:Value) (a b c d e f:Value),bindArgs (PySem.W.fnOf x qual (defArgs st) (defBody st) (defScope st) .none kV doc pm an cdv ct) ⟨[a,b,c,d,e,f],[]⟩=pure (ps.zip [a,b,c,d,e,f])):Binds K fd ps [] :=
  F.binds fun kV doc pm an cdv ct us hl=>us6 (C:=fun us=>bindArgs (PySem.W.fnOf x qual (defArgs st) (defBody st) (defScope st) .none kV doc pm an cdv ct) ⟨us,[]⟩=pure (ps.zip us)) (h kV doc pm an cdv ct) us (hl.trans hp)
structure FnP (P:Program) (w:World) (K:PySem.W.Frag) (mg:Str→Option Value) (base:Heap) (x:Str) (k:Nat) (f:List D→R D):Prop where
  ex:∃ fa fd ps,FnOk P w K mg base (CXF P w) k fa fd ps (spP K mg f)∧mg x=some (.ref fa)∧PySem.W.keepIn K (.ref fa)=true∧Binds K fd ps []
theorem fn_def {P:Program} {w:World} {K:PySem.W.Frag} {mg:Str→Option Value} {base:Heap} {x:Str} {fa:Addr} {fd:FuncData} {ps:List Str} {k:Nat} {f:List D→R D}
    (F:FnOk P w K mg base (CXF P w) k fa fd ps (spP K mg f)) (kp:PySem.W.keepIn K (.ref fa)=true) (hm:mg x=some (.ref fa)) (hb:Binds K fd ps []):FnP P w K mg base x k f:=⟨fa,fd,ps,F,hm,kp,hb⟩
structure Callee (X:Cx) (x:Str) (f:List D→R D):Prop where
  ex:∃ k fa fd ps,FnOk X.prog X.w X.K X.mg X.base (CXF X.prog X.w) k fa fd ps (spP X.K X.mg f)∧Room k X.A∧X.mg x=some (.ref fa)∧PySem.W.keepIn X.K (.ref fa)=true∧Binds X.K fd ps []
theorem FnP.callee {X:Cx} {x:Str} {k j:Nat} {f:List D→R D} (F:FnP X.prog X.w X.K X.mg X.base x k f) (hr:Room j X.A) (h:k≤j):Callee X x f:=by
  obtain ⟨fa,fd,ps,a,b,c,d⟩:=F.ex
  exact ⟨k,fa,fd,ps,a,hr.mono h,b,c,d⟩
section
variable {X:Cx} {x:Str} {f:List D→R D} {e:Expr} {es:List Expr} {gs:List E} {p pos:Pos}
theorem run_p {k:Nat} {fa:Addr} {fd:FuncData} {ps:List Str} {pins:List (Addr×Obj)} {σ:L2.St} {H:Hp} {s:Shared} {Q:VK} {us:List Value} {vs:List V} {ds:List D}
    (F:FnOk X.prog X.w X.K X.mg X.base (CXF X.prog X.w) k fa fd ps (spP X.K X.mg f)) (hr:Room k X.A) (hb:Binds X.K fd ps []) (I:Inv X pins σ H s) (r:Vals vs us) (rs:Reps X.K X.mg H vs ds) (q:RQ X σ H (f ds) Q) :
    wpAny (model X.prog X.w) X.A (PySem.call (.ref fa) us) (EP X pins σ Q) X.xe s:=by
  have hsp:spP X.K X.mg f vs H Q (fun c _ H'=>∃ C Ca,f ds=.ex C∧X.mg C=some (.ref Ca)∧c=.ref Ca∧Same H H'):=⟨ds,rs,by
    cases e:f ds with
    | ok d=>rw [e] at q;exact q
    | ex C=>exact fun Ca hc H' s'=>⟨C,Ca,rfl,hc,rfl,s'⟩
    | bad=>rw [e] at q;exact q⟩
  have hl:us.length=ps.length:=by rw [← r.length];exact F.len _ _ _ _ hsp
  have hb':=hb s us I.kIn (by rw [List.append_nil];exact hl)
  rw [List.append_nil] at hb'
  refine wpAny_call (codeAny_mono (F.run X.A X.stack s H ⟨us,[]⟩ us vs _ _ hr I.env0 hb' r hsp) fun r s' hq => ?_)
  cases r with
  | error er =>
    obtain ⟨C',H',ea,rfl,FX,C,Ca,e1,hc,e2,s2⟩:=hq
    cases e2
    rw [e1] at q
    exact q C' hc H' s2 pins H s ea s' I FX
  | ok fl =>
    cases fl with
    | ret u=>exact I.after hq
    | next=>exact False.elim hq
    | brk=>exact False.elim hq
    | cont=>exact False.elim hq
theorem e_call (c:Callee X x f) (G:Gb X x) (ha:SA X (e::es) gs) (he:starEach (e::es) X.env=(false,eval e X.env)::starEach es X.env:=by rfl) (hpl:(backTo pos (starEach es X.env)).any (·.1)=false:=by rfl) :
    SE X (.Call (.Name x p) (e::es) [] pos) (EV.call f gs):=by
  obtain ⟨k,fa,fd,ps,F,hr,hm,hk,hb⟩:=c.ex
  intro pins s σ H Q I ⟨δ,hσ,h⟩
  refine wpAny_Call_Name_kw (ld_glob I G.g hm ?_ G.d)
  refine PySem.W.callWith_K (h₀:=X.base) I.ok.mod.kin hk (thn (ha pos pins s σ H _ I ⟨δ,hσ,RA.bind h⟩) fun us s1 ⟨vs,H1,I1,r,sm,ds,rs,q⟩=>⟨I1.kIn,run_p F hr hb I1 r rs q⟩) he hpl
end
theorem own_obj {K:PySem.W.Frag} {h:Heap} {C:Addr} {bmB:List Value} {newId:String} (KX:K.In h) (q:PySem.W.excIn K C bmB newId=true) :
    ∃ bm M nm qn bs hd sn sub ab col dd k0 k1 k2 k3 k5 mN,h.get? C=some (excClassObj nm qn C M bs bm hd sn sub ab col dd k0 k1 k2 k3 k5 newId)∧h.Ns M mN∧mN "__init__"=none∧OwnTail h bmB bm:=by
  unfold PySem.W.excIn at q
  split at q
  · rename_i d1 cd sl hlk
    split at q
    · rename_i C' bm k0 k1 k2 k3 n k5 e1 e2
      simp only [Bool.and_eq_true,beq_iff_eq,Bool.not_eq_true'] at q
      obtain ⟨⟨⟨⟨⟨r1,r2⟩,r3⟩,r4⟩,r5⟩,r6⟩:=q
      subst r1 r2
      obtain ⟨nm,bs,mro,ns,qn,hd,sn,sub,ab,col,del⟩:=cd
      dsimp only at e1 r3 r5 r6
      subst e1 r3
      have e3:sl = #[k0,k1,k2,k3,some (.builtin n),k5]:=by
        obtain ⟨l⟩:=sl
        simp only at e2
        rw [e2]
      subst e3
      exact ⟨bm,ns,nm,qn,bs,hd,sn,sub,ab,col,d1,k0,k1,k2,k3,k5,_,KX _ _ hlk,.of_isNs (PySem.W.isNs_of_in KX r5),PySem.W.nsMap_none_of_in KX r5 r6,PySem.W.tail_of_in KX r4⟩
    · cases q
  · cases q
def bmV:List Value:=[.type "ValueError",.type "Exception",.type "BaseException",.type "object"]
section
variable {X:Cx} {pos:Pos} {x:String} {C:Addr}
theorem s_raise (hc:X.calm=true) {np cp p3:Pos} {m:Str} {j:Nat} (G:Gb X x) (hm:X.mg x=some (.ref C)) (hq:PySem.W.excIn X.K C bmV "ValueError.__new__"=true) :
    SS X (.Raise (some (.Call (.Name x np) [.Constant (.str m) j p3] [] cp)) none pos) (raise x):=by
  intro pins s σ H D I ⟨δ,os,S,h⟩
  obtain ⟨bm,M,nm,qn,bs,hd,sn,sub,ab,col,dd,k0,k1,k2,k3,k5,mN,hC,hN,hni,T⟩:=own_obj I.mod.kin hq
  have FB:ExcBaseFacts "ValueError" "ValueError.__new__" "ValueError.__init__" bmV:=PySem.F.excBase_ValueError
  refine wpAny_Raise_call_subT (C:=C) (nm:=nm) (q:=qn) (N:=M) (bs:=bs) (bm:=bm) (hdct:=hd) (sn:=sn) (sub:=sub) (ab:=ab) (col:=col) (dd:=dd) (k0:=k0) (k1:=k1) (k2:=k2) (k3:=k3) (k5:=k5)
    FB (mN:=mN) (T.hasType FB.hasBase) (I.ok.hd hc) rfl hni (ld_glob I G.g hm ⟨rfl,?_⟩ G.d)
  have hsp:=(pa_cons (X:=X) (pe_str (x:=m) (j:=j) (pos:=p3)) pa_nil) cp pins s σ H (fun vs H1=>vs.length=1∧H1=H) I (show (1=1∧H=H) from ⟨rfl,rfl⟩)
  refine Calls.evalArgs_plain (thn hsp fun us s2 ⟨vs,H1,I1,r,q1,q2⟩ => ?_)
  subst q2
  have hl:us.length=1:=by rw [← r.length];exact q1
  exact ⟨rfl,by show us.length≤_;rw [hl,sizeLine_eq];decide,I1.bk _ _ hC,hN.keeps I1.bk,T.keeps I1.bk,fun h' e1 made=>h σ H1 (hide_same _ _) C hm pins s2 h' e1 us I1 made⟩
end
section
variable {K:PySem.W.Frag} {M:Model} {h:Heap} {C C' e:Addr}
open PySem.W in
theorem xc_matches {A:Around} {E:Value→Shared→Prop} {s:Shared} {Q:Bool→Shared→Prop} (KX:K.In s.heap) (he:∃ o,s.heap.get? e=some o∧o.cls=.ref C) (c1:(clsIn K C').isSome=true) (c2:typeIn K (.ref C')=some (.type "type"))
    (c3:subIn K (.type "type") (.type "tuple")=some false) (c4:mroIn K C' (.type "BaseException")=some true) (c5:mroIn K C (.ref C')=some true) (h:Q true s):wpAny M A (excMatches (.ref e) (.ref C')) Q E s:=by
  obtain ⟨o,ho,hcl⟩:=he
  have L1:Looks M s.heap (isInstance (.ref C') (.type "tuple")) false:=(looks_typeIn KX c2).andThen (looks_subIn KX c3)
  have L2:Looks M s.heap (isType (.ref C')) true:=by
    obtain ⟨cd,c1⟩:=Option.isSome_iff_exists.mp c1
    unfold clsIn at c1
    split at c1
    · rename_i hlk
      intro A' Q' E' s' k q
      unfold isType loadHead
      exact wpAny_bind (wpAny_loadPart (k _ _ (KX _ _ hlk)) (wpAny_pure q))
    · cases c1
  have L3:Looks M s.heap (isExcClass (.ref C')) true:=L2.andThen (looks_mroIn KX c4)
  have L4:Looks M s.heap (typeOf (.ref e)) (.ref C):=hcl▸(Looks.ld ho).andThen .now
  have L5:Looks M s.heap (isSubtype (.ref C) (.ref C')) true:=looks_mroIn KX c5
  unfold excMatches
  refine wpAny_bind (L1.here ?_)
  simp only [Bool.false_eq_true,if_false]
  refine wpAny_bind (wpAny_pure ?_)
  simp only [List.forIn_cons,List.forIn_nil]
  refine wpAny_bind (wpAny_bind (wpAny_bind (L3.here ?_)))
  simp only [Bool.not_true,Bool.false_eq_true,if_false]
  refine wpAny_pure ?_
  refine wpAny_pure ?_
  refine wpAny_bind (L4.here ?_)
  refine wpAny_bind (wpAny_bind (wpAny_bind (L5.here ?_)))
  simp only [if_true]
  exact wpAny_pure (wpAny_pure (wpAny_pure h))
end
abbrev tryCx (X:Cx) (pins:List (Addr×Obj)) (W:Value→Shared→Prop):Cx:={ X with xe:=W,pn:=X.pn++pins }
abbrev inCx (X:Cx) (ea:Addr):Cx:={ X with A:=X.A.mark (some (.ref ea)),calm:=false,xe:=fun _ _=>False }
section
variable {X:Cx} {pins:List (Addr×Obj)} {σ:L2.St} {H H':Hp} {s s':Shared} {C ea:Addr} {W:Value→Shared→Prop}
theorem ok_try (o:X.Ok):(tryCx X pins W).Ok:=⟨o.mod,o.kind,o.glob,o.blt,o.above,o.inj,o.has,o.cab,o.hd,o.frames,o.stk,o.exf,o.bs,o.bsz,o.noex,o.exfs,o.funs,o.frf⟩
theorem inv_try (I:Inv X pins σ H s):Inv (tryCx X pins W) [] σ H s :=
  ⟨ok_try I.ok,I.os,I.bare,I.base,I.loc,I.cell,I.free,I.freeC,fun p hp=>I.pin p (by rw [List.append_nil] at hp;exact hp),I.hok,I.len⟩
theorem inv_untry {p2:List (Addr×Obj)} (ok:X.Ok) (I:Inv (tryCx X pins W) p2 σ H s):Inv X pins σ H s :=
  ⟨ok,I.os,I.bare,I.base,I.loc,I.cell,I.free,I.freeC,fun p hp=>I.pin p (List.mem_append_left _ hp),I.hok,I.len⟩
theorem inv_in (I:Inv X pins σ H s) (ea:Addr):Inv (inCx X ea) pins σ H s :=
  let o:=I.ok
  ⟨⟨o.mod,o.kind,o.glob,o.blt,o.above,o.inj,o.has,o.cab,(fun z=>absurd z Bool.false_ne_true),o.frames,o.stk,o.exf,o.bs,o.bsz,o.noex,o.exfs,o.funs,o.frf⟩,I.os,I.bare,I.base,I.loc,I.cell,I.free,I.freeC,I.pin,I.hok,I.len⟩
theorem inv_out (ok:X.Ok) (I:Inv (inCx X ea) pins σ H s):Inv X pins σ H s:=⟨ok,I.os,I.bare,I.base,I.loc,I.cell,I.free,I.freeC,I.pin,I.hok,I.len⟩
theorem inv_gone (I:Inv X pins σ H s) {i:Nat} {n:Str} {m:Str→Option Value} {v:Option Value} {h':Heap} {tk:Nat} (hN:X.N.Nodup) (hi:X.N[i]? = some n)
    (hl:∀ (i:Nat) (x:Str) (v:V),X.N[i]? = some x→σ[i]? = some (some v)→Vis X.env.scope x→∃ u,RelV v u∧Look X.env s.heap m x u)
    (hn':h'.Ns X.env.locals (fun x=>if x=n then v else m x)) (hs:Heap.SameBut X.env.locals s.heap h'):Inv X pins (σ.set i none) H { s with heap:=h',toks:=tk }:=by
  have cne:=I.cne
  obtain ⟨m0,hn0,_⟩:=id I.loc
  have iσ:i<σ.length:=by rw [I.len];exact (List.getElem?_eq_some_iff.mp hi).1
  have ne0:∀ {b:Addr} {o:Obj},X.s₀.heap.get? b=some o→b≠X.env.locals:=fun {b o} e=>Nat.ne_of_lt (Nat.lt_of_lt_of_le (Heap.lt_size e) I.ok.above)
  refine ⟨I.ok,I.os,I.bare,⟨fun b o e k hb hx => ?_,fun b o e k hb hx => ?_,I.base.free,fun b o e hx => ?_,I.base.tups,I.base.frzs,I.base.tbls⟩,⟨_,hn',fun j y v' e1 e2 e3 => ?_⟩,fun y c e => ?_,I.free,I.freeC,fun p hp => ?_,fun b ob e => ?_,by rw [List.length_set];exact I.len⟩
  · exact (hs.2 b (ne0 e)).trans (I.base.keep b o e k hb hx)
  · obtain ⟨sl,q⟩:=I.base.slot b o e k hb hx
    exact ⟨sl,(hs.2 b (ne0 e)).trans q⟩
  · obtain ⟨o',q⟩:=I.base.there b o e hx
    exact ⟨o',(hs.2 b (ne0 e)).trans q⟩
  · by_cases hj:j=i
    · subst hj
      rw [List.getElem?_set_self iσ] at e2
      cases e2
    · rw [List.getElem?_set_ne (Ne.symm hj)] at e2
      obtain ⟨u,r,q⟩:=hl j y v' e1 e2 e3
      refine ⟨u,r,?_⟩
      rcases q with ⟨k,e⟩ | ⟨k,c,e,z⟩
      · refine .inl ⟨k,?_⟩
        have:y≠n:=fun q=>hj (nodup_ix hN e1 (q▸hi))
        simp [this,e]
      · exact .inr ⟨k,c,e,z.sameBut hs (cne y c e)⟩
  · obtain ⟨w',z⟩:=I.cell y c e
    exact ⟨w',z.sameBut hs (cne y c e)⟩
  · obtain ⟨e,k,ne,nf,d⟩:=I.pin p hp
    exact ⟨(hs.2 p.1 ne).trans e,k,ne,nf,d⟩
  · refine (I.hok b ob e).stay (fun c w' hc q=>(hs.2 c ?_).trans q) (fun _ q=>q) fun _ _ q=>q
    rintro rfl
    rcases hc with rfl | hc
    · rw [I.free] at e;cases e
    · rw [I.free] at hc;cases hc
theorem un_track {fs:List Addr} {h h2:Heap} {o:HO} (u:Un fs [] H H' h h2) (k1:h.get? ea=none) (k2:H' ea=none):Un fs [] H (upd H' ea o) h h2:=by
  have ne1:∀ {b:Addr} {ob:Obj},h.get? b=some ob→b≠ea:=fun {b ob} e z=>by rw [z,k1] at e;cases e
  have ne2:∀ {b:Addr} {x:HO},H' b=some x→b≠ea:=fun {b x} e z=>by rw [z,k2] at e;cases e
  refine ⟨u.keep,u.slot,fun b ob e n hx=>by rw [upd_ne (ne1 e)];exact u.free b ob e n hx,u.there,fun b xs e => ?_,fun b ob x e => ?_,fun b ps e => ?_⟩
  · have q:=u.tups b xs e
    rw [upd_ne (ne2 q)];exact q
  · have q:=u.frzs b ob x e
    rw [upd_ne (ne2 q)];exact q
  · obtain ⟨more,q⟩:=u.tbls b ps e
    exact ⟨more,by rw [upd_ne (ne2 q)];exact q⟩
theorem hok_track {P:Program} {w:World} {h2:Heap} (hok:HOk P w H' h2) (k2:H' ea=none) (he:∃ o vs,h2.get? ea=some o∧o.cls=.ref C∧o.data=.fields vs):HOk P w (upd H' ea (excO ea C)) h2:=fun b u e=>by
  by_cases hb:b=ea
  · subst hb
    rw [upd_same] at e
    cases e
    obtain ⟨o,vs,h1,h2',h3⟩:=he
    exact ⟨⟨o,vs,h1,h2',h3⟩,⟨o,h1⟩,fun g1 g2 ⟨o1,vs1,q1,q2⟩ k=>⟨o1,vs1,k o1 q1,q2⟩⟩
  · rw [upd_ne hb] at e
    refine (hok b u e).stay (fun _ _ _ q=>q) (fun c q => ?_) fun c xs q => ?_
    · rw [upd_ne (fun z=>by rw [z,k2] at q;cases q)];exact q
    · rw [upd_ne (fun z=>by rw [z,k2] at q;cases q)];exact q
end
structure Catch (K:PySem.W.Frag) (C C':Addr):Prop where
  c1:(PySem.W.clsIn K C').isSome=true
  c2:PySem.W.typeIn K (.ref C')=some (.type "type")
  c3:PySem.W.subIn K (.type "type") (.type "tuple")=some false
  c4:PySem.W.mroIn K C' (.type "BaseException")=some true
  c5:PySem.W.mroIn K C (.ref C')=some true
section
variable {X:Cx} {N G:List Str} {pos np hpos:Pos} {n:Str} {cls:String} {C':Addr} {body suite:List Stmt} {b₀:Stmt} {gb gs:S}
def Catches (X:Cx) (cls:String) (C':Addr):Prop:=∀ (C:String) (Ca:Addr),exSub C cls=true→X.mg C=some (.ref Ca)→Catch X.K Ca C'
theorem noOwn_stt {K:PySem.W.Frag} {mg:Str→Option Value} {H:Hp} {σ:L2.St} {δ:Dt} (h:Stt K mg H σ δ):Stt K mg H σ (noOwn δ):=by
  refine ⟨by unfold noOwn;rw [List.length_map];exact h.1,fun i d e n => ?_⟩
  unfold noOwn at e
  rw [List.getElem?_map] at e
  cases q:δ[i]? with
  | none=>rw [q] at e;cases e
  | some c =>
    rw [q] at e
    cases c with
    | none=>cases e
    | some d0 =>
      by_cases ho:∃ ds,d0=.own ds
      · obtain ⟨ds,rfl⟩:=ho
        cases e
      · have e':d0=d:=by
          cases d0<;>first | exact absurd ⟨_,rfl⟩ ho | exact Option.some.inj (Option.some.inj e)
        subst e'
        exact h.2 i d0 q n
theorem noOwn_ne {δ:Dt} {i:Nat} {d:D} (hd:∀ ds,d ≠ .own ds) (j:Nat) (ds:List D):((noOwn δ).set i (some d))[j]? ≠ some (some (.own ds)):=fun e=>by
  by_cases hj:j=i
  · subst hj
    by_cases hl:j<(noOwn δ).length
    · rw [List.getElem?_set_self hl] at e
      exact hd ds (Option.some.inj (Option.some.inj e))
    · rw [List.getElem?_eq_none (by rw [List.length_set];omega)] at e
      cases e
  · rw [List.getElem?_set_ne (Ne.symm hj)] at e
    unfold noOwn at e
    rw [List.getElem?_map] at e
    cases q:δ[j]? with
    | none=>rw [q] at e;cases e
    | some c =>
      rw [q] at e
      cases c with
      | none=>cases e
      | some d0=>cases d0<;>cases e
theorem caught (P:Pl X N G) (O:Own X) (i:Nat) (hn:N[i]? = some n) (hloc:X.env.scope.names.lookup n=some .local) (GC:Gb X cls) (hm:X.mg cls=some (.ref C')) {C:String} {Ca:Addr} (hC:X.mg C=some (.ref Ca)) (hk:Catch X.K Ca C')
    (hs:∀ ea,SSs (inCx X ea) (b₀::suite) gs) {δe δ2:Dt} (eg:gs (δe.set i (some (.exc C)))=.nx δ2)
    (ne':∀ (j:Nat) (ds:List D),(δe.set i (some (.exc C)))[j]? ≠ some (some (.own ds)))
    {pins:List (Addr×Obj)} {σ:L2.St} {H1 H':Hp} {s1 s':Shared} {ea:Addr} {D:Ends} {hrest:List ExceptHandler}
    (I1:Inv X pins σ H1 s1) (F:FlyX X.prog X.w X.stack H1 s1 Ca H' ea s') (hσ:Stt X.K X.mg H' σ δe) (hD:∀ σ2 H2 os,Same H' (hide H2 os)→StO X H2 σ2 (δ2.set i none) os→D.nx σ2 H2) :
    wpAny (model X.prog X.w) X.A (noteFrame (.ref ea) X.env) (fun _ s2=>wpAny (model X.prog X.w) X.A (setFlight (.ref ea) none) (fun _ s3 =>
      wpAny (model X.prog X.w) X.A (handleBy (.ref ea) X.env (.ExceptHandler (some (.Name cls np)) (some n) (b₀::suite) hpos::hrest)) (SP X pins D) X.xe s3) X.xe s2) X.xe s':=by
  have hmn:n∈N:=List.mem_of_getElem? hn
  obtain ⟨a0,B,hfl,i1,i2⟩:=F.fly
  have ff:=ff_of hfl.2.2.1
  have noea:H' ea=none:=by
    cases q:H' ea with
    | none=>rfl
    | some u =>
      obtain ⟨ob,e⟩:=obj_there (F.hok ea u q)
      have z:=i2 ea u ob q e
      rw [hfl.2.1] at z
      cases z
  rw [O.stk] at hfl
  refine wpAny_looks_onW (by rw [I1.ok.frames,O.stk]) O.frm hfl fun h4 held4 up4 => ?_
  refine wpAny_landsW held4 fun h5 fl5 up5 => ?_
  have up45:=up4.trans up5
  have at_:∀ {h6:Heap} {g:Nat},B.StaysIn h6→s'.heap.UpToSlots h6→Inv X pins σ H' { s' with heap:=h6,toks:=g }:=fun {h6 g} st up =>
    I1.call' (s':={ s' with heap:=h6,toks:=g }) (ch:=[]) F.os (un_fly F.un F.same i1 i2 st up ff) (hok_fly F.hok i2 st) F.bare fun b z=>absurd z (by simp)
  have I5:=at_ (g:=s'.toks) fl5.1 up45
  refine wpAny_handleBy_cons (codeAny_handlers_test ?_) (by intro q;cases q)
  refine ld_glob (X:=inCx X ea) (inv_in I5 ea) GC.g hm ?_ GC.d
  refine xc_matches (K:=X.K) I5.kIn fl5.there hk.c1 hk.c2 hk.c3 hk.c4 hk.c5 ?_
  refine codeAny_handlers_suite_as ?_
  refine lands_againW fl5 fun h6 fl6 up6 => ?_
  have up456:=up45.trans up6
  have u6:=un_fly F.un F.same i1 i2 fl6.1 up456 ff
  have fl6':∃ o vs,h6.get? ea=some o∧o.cls=.ref Ca∧o.data=.fields vs:=by
    obtain ⟨_,_,_,oe,vs,_,_,_,he,hc,hd,_⟩:=fl6
    exact ⟨oe,vs,he,hc.1,hd⟩
  have I6:Inv X pins σ (upd H' ea (excO ea Ca)) { s' with heap:=h6 } :=
    I1.call' (s':={ s' with heap:=h6 }) (ch:=[]) F.os (un_track u6 F.new noea) (hok_track (hok_fly F.hok i2 fl6.1) noea fl6') F.bare fun b z=>absurd z (by simp)
  have same2:Same H' (upd H' ea (excO ea Ca)):=same_upd noea _
  have J6:=inv_in I6 ea
  refine store_ok (X:=inCx X ea) (v:=.ref ea) (i:=i) J6 (by rw [show (inCx X ea).N=X.N from rfl,P.sc.n];exact P.sc.nd) (by rw [show (inCx X ea).N=X.N from rfl,P.sc.n];exact hn) (.inl hloc) rfl (fun s7 J7 => ?_) (.inr hloc)
  have hσ7:Stt X.K X.mg (upd H' ea (excO ea Ca)) (σ.set i (some (.ref ea))) (δe.set i (some (.exc C))):=(hσ.mono same2).set (.exc hC upd_same)
  have S7:StO (inCx X ea) (upd H' ea (excO ea Ca)) (σ.set i (some (.ref ea))) (δe.set i (some (.exc C))) []:=StO.nil hσ7 ne'
  refine wpAny_mono (hs ea pins s7 _ _ { nx:=fun σ2 H2=>∃ os,Same (upd H' ea (excO ea Ca)) (hide H2 os)∧StO X H2 σ2 δ2 os,rt:=fun _ _=>False } J7 ⟨_,[],S7,by rw [eg];exact fun σ2 H2 os S sm=>⟨os,by rw [hide_nil] at sm;exact sm,⟨S.st,S.lst,S.own,S.inj⟩⟩⟩) (fun f s8 q8 => ?_) fun _ _ z=>False.elim z
  cases f with
  | ret v=>obtain ⟨_,_,_,_,_,z⟩:=q8;exact z.elim
  | brk=>obtain ⟨_,_,_,z⟩:=q8;exact z.elim
  | cont=>obtain ⟨_,_,_,z⟩:=q8;exact z.elim
  | next =>
    obtain ⟨σ8,H8,J8,os,sm,S8⟩:=q8
    have I8:=inv_out I1.ok J8
    obtain ⟨m,hns,hl⟩:=id I8.loc
    refine wpAny_nameGoes_keeps hloc hns (by rw [I8.ok.kind];rfl) fun h9 v hn9 hs9 => ?_
    have hless:Same (hide H8 os) (hide H8 (os.filter fun p=>p.1 != i)):=hide_less fun p hp=>(os_drop os i p hp).1
    refine ⟨σ8.set i none,H8,inv_gone I8 (by rw [P.sc.n];exact P.sc.nd) (by rw [P.sc.n];exact hn) hl hn9 hs9,hD _ _ (os.filter fun p=>p.1 != i) ((same2.trans sm).trans hless) ?_⟩
    have setn:∀ {α:Type} {l:List (Option α)} {j:Nat} {d:α},(l.set i none)[j]? = some (some d)→l[j]? = some (some d)∧j≠i:=fun {α l j d} e=>by
      by_cases hj:j=i
      · subst hj
        by_cases hjl:j<l.length
        · rw [List.getElem?_set_self hjl] at e;cases e
        · rw [List.getElem?_eq_none (by rw [List.length_set];omega)] at e;cases e
      · rw [List.getElem?_set_ne (Ne.symm hj)] at e
        exact ⟨e,hj⟩
    refine ⟨⟨by rw [List.length_set,List.length_set];exact S8.st.1,fun j d e nd => ?_⟩,fun p hp => ?_,fun j ds e => ?_,fun a b c h1 h2=>S8.inj a b c (os_drop os i _ h1).1 (os_drop os i _ h2).1⟩
    · obtain ⟨e,hj⟩:=setn e
      obtain ⟨v1,q1,q2⟩:=S8.st.2 j d e nd
      exact ⟨v1,by rw [List.getElem?_set_ne (Ne.symm hj)];exact q1,q2.mono hless⟩
    · obtain ⟨hp',hne⟩:=os_drop os i p hp
      obtain ⟨xs,ds,h1,h2,h3,h4⟩:=S8.lst p hp'
      exact ⟨xs,ds,h1,by rw [List.getElem?_set_ne (Ne.symm hne)];exact h2,by rw [List.getElem?_set_ne (Ne.symm hne)];exact h3,h4.mono hless⟩
    · obtain ⟨e,hj⟩:=setn e
      obtain ⟨a,ha⟩:=S8.own j ds e
      exact ⟨a,List.mem_filter.mpr ⟨ha,by simpa using hj⟩⟩
theorem s_try (P:Pl X N G) (O:Own X) (i:Nat) (hn:N[i]? = some n) (hloc:X.env.scope.names.lookup n=some .local) (GC:Gb X cls) (hm:X.mg cls=some (.ref C')) (hk:Catches X cls C')
    (hb:∀ pins W,SSs (tryCx X pins W) body gb) (hs:∀ ea,SSs (inCx X ea) (b₀::suite) gs) :
    SS X (.Try body [.ExceptHandler (some (.Name cls np)) (some n) (b₀::suite) hpos] [] [] pos) (try_ gb cls i gs):=by
  intro pins s σ H D I ⟨δ,os,S,h⟩
  refine wpAny_Try_except ?_
  have S':∀ W,StO (tryCx X pins W) H σ δ os:=fun W=>⟨S.st,S.lst,S.own,S.inj⟩
  unfold try_ tryO at h
  cases e:gb δ with
  | nx δ1 =>
    rw [e] at h
    refine wpAny_mono (hb pins _ [] s σ H { nx:=D.nx,rt:=fun _ _=>False } (inv_try I) ⟨δ,os,S' _,by rw [e];exact fun σ1 H1 os1 S1 s1=>h σ1 H1 os1 ⟨S1.st,S1.lst,S1.own,S1.inj⟩ s1⟩) (fun f s1 q => ?_) fun _ _ z=>z
    cases f with
    | next =>
      obtain ⟨σ1,H1,I1,q⟩:=q
      exact wpAny_execs_nil ⟨σ1,H1,inv_untry I.ok I1,q⟩
    | ret v=>obtain ⟨_,_,_,_,_,z⟩:=q;exact z.elim
    | brk=>obtain ⟨_,_,_,z⟩:=q;exact z.elim
    | cont=>obtain ⟨_,_,_,z⟩:=q;exact z.elim
  | ex C δe =>
    rw [e] at h
    simp only [forget] at h
    split at h
    · rename_i hcl
      cases eg:gs ((noOwn δe).set i (some (.exc C))) with
      | nx δ2 =>
        rw [eg] at h
        have ho:∀ W,(∀ ea s',(∃ p2 Hc sc σ1 H1 Ca,Inv X pins σ1 Hc sc∧Same (hide H os) H1∧Stt X.K X.mg H1 σ1 δe∧X.mg C=some (.ref Ca)∧FlyX X.prog X.w X.stack Hc sc Ca H1 ea s'∧p2=pins)→W (.ref ea) s')→OQ (tryCx X pins W) { nx:=fun _ _=>False,rt:=fun _ _=>False } (hide H os) (gb δ):=fun W hW=>by
          rw [e]
          exact fun σ1 H1 s1 hσ1 Ca hCa p2 Hc sc ea s' Ic F=>hW ea s' ⟨pins,Hc,sc,σ1,H1,Ca,inv_untry I.ok Ic,s1,hσ1,hCa,F,rfl⟩
        refine wpAny_mono (hb pins _ [] s σ H _ (inv_try I) ⟨δ,os,S' _,ho _ ?_⟩) (fun f s1 q => ?_) fun _ _ z=>z
        · rintro ea s' ⟨p2,Hc,sc,σ1,H1,Ca,Ic,s1,hσ1,hCa,F,_⟩
          exact caught P O i hn hloc GC hm hCa (hk C Ca hcl hCa) hs eg (noOwn_ne (fun _ z=>nomatch z)) Ic F (noOwn_stt hσ1) fun σ2 H2 os2 sm S2=>h σ2 H2 os2 S2 (s1.trans sm)
        · cases f with
          | next=>obtain ⟨_,_,_,z⟩:=q;exact z.elim
          | ret v=>obtain ⟨_,_,_,_,_,z⟩:=q;exact z.elim
          | brk=>obtain ⟨_,_,_,z⟩:=q;exact z.elim
          | cont=>obtain ⟨_,_,_,z⟩:=q;exact z.elim
      | _=>rw [eg] at h;exact False.elim h
    · exact False.elim h
  | _=>rw [e] at h;exact False.elim h
theorem Pl.try (P:Pl X N G) (p:List (Addr×Obj)) (W:Value→Shared→Prop):Pl (tryCx X p W) N G:=⟨⟨⟨P.sc.n,P.sc.nd,P.sc.vis,P.sc.dbg⟩,P.ex⟩,P.sto,fun x hx=>⟨(P.gb x hx).g,(P.gb x hx).d,(P.gb x hx).n⟩⟩
theorem Pl.inn (P:Pl X N G) (ea:Addr):Pl (inCx X ea) N G:=⟨⟨⟨P.sc.n,P.sc.nd,P.sc.vis,P.sc.dbg⟩,P.ex⟩,P.sto,fun x hx=>⟨(P.gb x hx).g,(P.gb x hx).d,(P.gb x hx).n⟩⟩
end
end ES
namespace ES
open PySem PySem.Spec PyProof.Rows L2 EV
unseal SE ST SW SA SS SSs
def rC (X:Cx) (f:List D→R D):List V→Hp→VK→Prop:=fun vs H Q=>∃ ds d,Reps X.K X.mg H vs ds∧f ds=.ok d∧∀ v H',Same H H'→Rep X.K X.mg H' v d→Q v H'
def NoX (f:List D→R D):Prop:=∀ ds C,f ds ≠ .ex C
theorem RQ.cl {X:Cx} {σ:L2.St} {H:Hp} {f:List D→R D} (nx:NoX f) {vs:List V} {ds:List D} {Q:VK} (r:Reps X.K X.mg H vs ds) (h:RQ X σ H (f ds) Q):rC X f vs H Q:=by
  cases e:f ds with
  | ok d=>rw [e] at h;exact ⟨ds,d,r,e,h⟩
  | ex C=>exact absurd e (nx ds C)
  | bad=>rw [e] at h;exact False.elim h
section
variable {X:Cx} {x:Str} {id T:String} {f:List D→R D} {e o:Expr} {es:List Expr} {gs:List E} {g:E} {p pos apos:Pos}
theorem e_bltn (hc:CallR X (.builtin id) (rC X f)) (nx:NoX f) (G:Gb X x) (hm:X.mg x=none) (hv:bootBuiltins x=some (.builtin id)) (ha:SA X (e::es) gs)
    (he:starEach (e::es) X.env=(false,eval e X.env)::starEach es X.env:=by rfl) (hpl:(backTo pos (starEach es X.env)).any (·.1)=false:=by rfl):SE X (.Call (.Name x p) (e::es) [] pos) (EV.call f gs) :=
  PE.weak (pe_callB hc G.g hm hv ha G.n G.d he hpl) fun σ H Q ⟨δ,hσ,h⟩=>⟨δ,hσ,(RA.bind h).to fun vs H' s ⟨_,ds,rs,q⟩=>RQ.cl nx rs q⟩
theorem e_btyp (hc:CallR X (.type T) (rC X f)) (nx:NoX f) (G:Gb X x) (hm:X.mg x=none) (hv:bootBuiltins x=some (.type T)) (ha:SA X (e::es) gs)
    (he:starEach (e::es) X.env=(false,eval e X.env)::starEach es X.env:=by rfl) (hpl:(backTo pos (starEach es X.env)).any (·.1)=false:=by rfl):SE X (.Call (.Name x p) (e::es) [] pos) (EV.call f gs) :=
  PE.weak (pe_callTy hc G.g hm hv ha G.n G.d he hpl) fun σ H Q ⟨δ,hσ,h⟩=>⟨δ,hσ,(RA.bind h).to fun vs H' s ⟨_,ds,rs,q⟩=>RQ.cl nx rs q⟩
theorem reps1 {H:Hp} {vs:List V} {d:D} (r:Reps X.K X.mg H vs [d]):∃ v,vs=[v]∧Rep X.K X.mg H v d:=by
  cases r with
  | cons r rr=>cases rr;exact ⟨_,rfl,r⟩
theorem reps2 {H:Hp} {vs:List V} {d d':D} (r:Reps X.K X.mg H vs [d,d']):∃ v v',vs=[v,v']∧Rep X.K X.mg H v d∧Rep X.K X.mg H v' d':=by
  cases r with
  | cons r rr =>
    cases rr with
    | cons r' rr=>cases rr;exact ⟨_,_,rfl,r,r'⟩
theorem nxLen:NoX bLen:=fun ds C z=>by unfold bLen at z;split at z<;>first | cases z | exact nx_ite z
theorem c_len:CallR X (.builtin "len") (rC X bLen):=by
  intro pins s σ H xs us Q I rs ⟨ds,d,r,e,q⟩
  unfold bLen at e
  split at e
  · cases e
    obtain ⟨v,rfl,r1⟩:=reps1 r
    cases r1 with
    | @lst a ys _ hq rr=>exact call_len_seq pins s σ H _ us Q I rs ⟨a,ys,rfl,.inl hq,by rw [rr.length];exact q _ _ (Same.refl _) (.int _)⟩
  · cases e
    obtain ⟨v,rfl,r1⟩:=reps1 r
    cases r1 with
    | @tup a ys _ hq rr=>exact call_len_seq pins s σ H _ us Q I rs ⟨a,ys,rfl,.inr hq,by rw [rr.length];exact q _ _ (Same.refl _) (.int _)⟩
  · split at e
    · rename_i hz
      cases e
      obtain ⟨v,rfl,r1⟩:=reps1 r
      cases r1
      exact call_len_str pins s σ H _ us Q I rs ⟨_,rfl,Nat.le_trans hz (by rw [sizeLine_eq];decide),q _ _ (Same.refl _) (.int _)⟩
    · cases e
  · cases e
theorem nxMax:NoX bMax:=fun ds C z=>by unfold bMax at z;split at z<;>cases z
theorem c_max (hc:X.calm=true):CallR X (.builtin "max") (rC X bMax):=by
  intro pins s σ H xs us Q I rs ⟨ds,d,r,e,q⟩
  unfold bMax at e
  split at e
  · cases e
    obtain ⟨v,v',rfl,r,r'⟩:=reps2 r
    cases r;cases r'
    exact call_max2 hc pins s σ H _ us Q I rs ⟨_,_,rfl,q _ _ (Same.refl _) (.int _)⟩
  · cases e
theorem nxInt:NoX bInt:=fun ds C z=>by unfold bInt at z;split at z<;>cases z
theorem c_int:CallR X (.type "int") (rC X bInt):=by
  intro pins s σ H xs us Q I rs ⟨ds,d,r,e,q⟩
  unfold bInt at e
  split at e
  · cases e
    obtain ⟨v,rfl,r1⟩:=reps1 r
    cases r1
    exact call_int1 pins s σ H _ us Q I rs (.inl ⟨_,rfl,q _ _ (Same.refl _) (.int _)⟩)
  · cases e
    obtain ⟨v,rfl,r1⟩:=reps1 r
    cases r1
    exact call_int1 pins s σ H _ us Q I rs (.inr ⟨_,rfl,q _ _ (Same.refl _) (.int _)⟩)
  · cases e
theorem mt_bitlen:MtR X "int.bit_length" (fun x xs H Q=>∃ i,x=.int i∧xs=[]∧Q (.int (nb i)) H):=by
  intro pins s σ H x xs v us Q I rx rs ⟨i,ex,exs,q⟩
  subst ex exs
  obtain ⟨t,rfl⟩:=rx
  cases rs
  refine call_int_bit_length ⟨.int (nb i),H,I.tok _,⟨_,by rw [nb_eq]⟩,q⟩
theorem e_bitlen (ho:SE X o g) (hbase:attributeBase o "bit_length" X.env (eval o X.env)=eval o X.env:=by rfl) (hline:(apos.endLine == pos.line)=true:=by rfl):SE X (.Call (.Attribute o "bit_length" apos) [] [] pos) (EV.call bBitLen [g]) :=
  PE.weak (pe_bm0 PySem.F.plainAttrs_int PySem.F.slot_int_bit_length PySem.F.type_int_bit_length mt_bitlen ho hbase hline) fun σ H Q ⟨δ,hσ,h⟩=>⟨δ,hσ,by
    have h':RQ X σ H ((g δ).bind fun d=>bBitLen [d]) Q:=by
      unfold EV.call evs at h
      cases r:g δ with
      | ok d=>rw [r] at h;exact h
      | ex C=>rw [r] at h;exact h
      | bad=>rw [r] at h;exact h
    refine (RQ.bind h').to fun v H' s ⟨_,d,r,q⟩ => ?_
    unfold bBitLen at q
    split at q
    · rename_i e
      cases e
      cases r
      exact ⟨rfl,_,rfl,rfl,q _ _ (Same.refl _) (.int _)⟩
    · exact False.elim q⟩
def tyV (mg:Str→Option Value):D→Option Value
  | .non=>some (.type "NoneType")
  | .bl _=>some (.type "bool")
  | .int _=>some (.type "int")
  | .str _=>some (.type "str")
  | .tup _=>some (.type "tuple")
  | .lst _=>some (.type "list")
  | .exc n=>mg n
  | _=>none
def clsV (mg:Str→Option Value):D→Option Value
  | .ty n=>some (.type n)
  | .cls n=>mg n
  | _=>none
def Isi (X:Cx) (c:D):Prop:=∀ d k t u,bIsi [d,c]=.ok (.bl k)→tyV X.mg d=some t→clsV X.mg c=some u→PySem.W.kitOne X.K t u=some k
def ExcKit (X:Cx):Prop:=∀ (e C:Addr) (n:String),excNames.contains n=true→X.mg n=some (.ref C)→PySem.W.KitX X.K (.ref e) (.ref C) (fun h=>∃ o vs,h.get? e=some o∧o.cls=.ref C∧o.data=.fields vs)
theorem bIsi_ok {ds:List D}:(∃ d c k,ds=[d,c]∧bIsi ds=.ok (.bl k))∨bIsi ds=.bad:=by
  unfold bIsi
  split<;>first
    | exact .inr rfl
    | (split<;>first | exact .inl ⟨_,_,_,rfl,rfl⟩ | exact .inr rfl)
theorem exc_known {n:String} {c:D} {k:Bool} (h:bIsi [.exc n,c]=.ok (.bl k)):excNames.contains n=true:=by
  cases c with
  | cls B =>
    unfold bIsi at h
    simp only at h
    split at h
    · rename_i z;rw [Bool.and_eq_true] at z;exact z.1
    · cases h
  | ty B =>
    unfold bIsi at h
    simp only at h
    split at h
    · rename_i z;rw [Bool.and_eq_true] at z;exact z.1
    · cases h
  | _=>cases h
theorem c_isi {c:D} (hI:Isi X c) (hE:ExcKit X):CallR X (.builtin "isinstance") (fun vs H Q=>∃ dx d,Reps X.K X.mg H vs [dx,c]∧bIsi [dx,c]=.ok d∧∀ v H',Same H H'→Rep X.K X.mg H' v d→Q v H'):=by
  intro pins s σ H xs us Q I rs ⟨dx0,d,r,e,q⟩
  rcases bIsi_ok (ds:=[dx0,c]) with ⟨dx,dc,k,ez,e'⟩ | e'<;>rw [e'] at e<;>cases e
  cases ez
  obtain ⟨v,v',rfl,r1,r2⟩:=reps2 r
  cases rs with
  | cons h1 h2 =>
    cases h2 with
    | cons h2 h3 =>
      cases h3
      rename_i u w
      have fin:∀ tk,EP X pins σ Q (.bool k) { s with toks:=tk }:=fun tk=>⟨.bl k,H,I.tok tk,rfl,q _ _ (Same.refl _) (.bl k)⟩
      have hw:clsV X.mg c=some w:=by
        cases r2 with
        | ty n=>cases h2;rfl
        | cls hc=>cases h2;exact hc
        | _=>cases dx0<;>cases e'
      cases r1 with
      | non=>cases (show u=Value.none from h1);exact PySem.W.kia_one PySem.W.kitx_none I.kIn True.intro (hI _ k _ _ e' rfl hw) (fun z=>nomatch z) fin
      | bl y=>cases (show u=Value.bool y from h1);exact PySem.W.kia_one PySem.W.kitx_bool I.kIn True.intro (hI _ k _ _ e' rfl hw) (fun z=>nomatch z) fin
      | int i=>obtain ⟨t,z⟩:=(show ∃ t,u=Value.int i t from h1);cases z;exact PySem.W.kia_one PySem.W.kitx_int I.kIn True.intro (hI _ k _ _ e' rfl hw) (fun z=>nomatch z) fin
      | str y=>obtain ⟨t,z⟩:=(show ∃ t,u=Value.str y t from h1);cases z;exact PySem.W.kia_one PySem.W.kitx_str I.kIn True.intro (hI _ k _ _ e' rfl hw) (fun z=>nomatch z) fin
      | @tup a ys ds hq rr =>
        cases (show u=Value.ref a from h1)
        obtain ⟨its,_,⟨o,g1,g2,_⟩,_⟩:=I.tuple hq
        exact PySem.W.kia_one PySem.W.kitx_tuple I.kIn ⟨o,g1,g2⟩ (hI _ k _ _ e' rfl hw) (fun z=>nomatch z) fin
      | @lst a ys ds hq rr =>
        cases (show u=Value.ref a from h1)
        obtain ⟨its,_,⟨o,n,g1,g2,_⟩,_⟩:=I.list hq
        exact PySem.W.kia_one PySem.W.kitx_list I.kIn ⟨o,g1,g2⟩ (hI _ k _ _ e' rfl hw) (fun z=>nomatch z) fin
      | @exc a C n hn hq =>
        cases (show u=Value.ref a from h1)
        exact PySem.W.kia_one (hE a C n (exc_known e') hn) I.kIn (I.hok a _ hq).1 (hI _ k _ _ e' hn hw) (fun z=>nomatch z) fin
      | ty n=>cases c<;>cases e'
      | cls _=>cases c<;>cases e'
      | ins _ _ _=>cases c<;>cases e'
theorem e_isi {e2:Expr} {c:D} (hI:Isi X c) (hE:ExcKit X) (G:Gb X "isinstance") (hm:X.mg "isinstance"=none) (ha:SE X e g) (hb:SE X e2 (con c))
    (hs:starEach [e,e2] X.env=(false,eval e X.env)::starEach [e2] X.env:=by rfl) (hs2:starEach [e2] X.env=[(false,eval e2 X.env)]:=by rfl) (hpl:(backTo pos (starEach [e2] X.env)).any (·.1)=false:=by rfl) :
    SE X (.Call (.Name "isinstance" p) [e,e2] [] pos) (EV.call bIsi [g,con c]) :=
  PE.weak (pe_callB (c_isi hI hE) G.g hm PyProof.Rows.boot_isinstance (a_cons ha (a_cons hb a_nil hs2) hs) G.n G.d hs hpl) fun σ H Q ⟨δ,hσ,h⟩=>⟨δ,hσ,by
    cases r:g δ with
    | ok d =>
      have e1:evs [g,con c] δ=.ok [d,c]:=by simp [evs,r,con,R.bind]
      unfold EV.call at h
      rw [e1] at h ⊢
      refine fun vs H' s rs => ?_
      have h':RQ X σ H' (bIsi [d,c]) Q:=RQ.mono s h
      rcases bIsi_ok (ds:=[d,c]) with ⟨_,_,k,_,e'⟩ | e'
      · rw [e'] at h';exact ⟨d,_,rs,e',h'⟩
      · rw [e'] at h';exact False.elim h'
    | ex C =>
      have e1:evs [g,con c] δ=.ex C:=by simp [evs,r,R.bind]
      unfold EV.call at h
      rw [e1] at h ⊢
      exact h
    | bad =>
      have e1:evs [g,con c] δ=.bad:=by simp [evs,r,R.bind]
      unfold EV.call at h
      rw [e1] at h
      exact False.elim h⟩
end
end ES
namespace ES
open PySem PySem.Spec PyProof.Rows L2 EV
unseal SE ST SW SA SS SSs
section
variable {prog:Program} {w:World} {A:Around} {s:Shared} {K:PySem.W.Frag} {e C:Addr}
open PySem.W PySem.Builtin PySem.Builtin.Getset_descriptor in
theorem xk_get {R:Result→Shared→Prop} {tp:Value} (L1:Looks (model prog w) s.heap (isSubtype (.ref C) (.type "object")) true) (L0:Looks (model prog w) s.heap (typeOf (.ref e)) (.ref C)) (done:R (.ok (.ret (.ref C))) s) :
    codeAny (model prog w) A (.call (.builtin "getset_descriptor.__get__") ⟨[.builtin "object.__class__",.ref e,tp],[]⟩) R s:=by
  obtain ⟨hh,g,dr,t,os⟩:=s
  refine codeAny_call_builtin KF.slot_gs.plain KF.entry_gs (KF.slot_gs.check _ _ _ _ _ _ _ _ KF.type_class (KF.args_gs _ _ tp) ?_)
  unfold Builtin.«getset_descriptor.__get__»;unfold descrGet;rw [dga_obj]
  refine wpAny_bind (wpAny_pure ?_)
  simp only [descrGetter,descrCheckInstance,descrNameAndClass,isInstance,KF.owner_class]
  repeat lk
  refine ⟨Code.quiet_builtin _ (by decide +kernel),?_⟩
  refine codeAny_builtin KF.entry_class ?_
  unfold Builtin.«object.__class__»;unfold shownTypeOf
  repeat lk
  exact done
open PySem.W PySem.Builtin PySem.Builtin.Getset_descriptor in
theorem xk_entry {E:Value→Shared→Prop} {Q:Fin→Shared→Prop} {tk:Tok} (L1:Looks (model prog w) s.heap (isSubtype (.ref C) (.type "object")) true) (L0:Looks (model prog w) s.heap (typeOf (.ref e)) (.ref C))
    (L2:Looks (model prog w) s.heap (typeLookup (.ref C) "__class__") (some (.builtin "object.__class__"))) (done:Q (.done (.ret (.ref C))) s) :
    wpAny (model prog w) A (Builtin.«object.__getattribute__» ⟨[.ref e,.str "__class__" tk],[]⟩) Q E s:=by
  obtain ⟨hh,g,dr,t,os⟩:=s
  have f5:=F.typeOf_object_class
  have f6:=F.slot_gs_get.lookup
  have f7:=F.slot_gs_set.lookup
  have hT5:(⟨hh,g,dr,t,os⟩:Shared).TypeIs (.builtin "object.__class__") "getset_descriptor":=F.typeOf_object_class
  repeat (any_goals (first | assumption | with_reducible refine L0.at ?_ | with_reducible refine L2.at ?_ | wp_step))
  refine xk_get L1 L0 ?_
  repeat (any_goals (first | assumption | wp_step))
open PySem.W PySem.Builtin PySem.Builtin.Getset_descriptor in
theorem xk_check {M:Model} {E:Value→Shared→Prop} {nameV:Value} {Q:Unit→Shared→Prop} (L3:Looks M s.heap (isSubtype (.ref C) (.type "BaseException")) true) (L0:Looks M s.heap (typeOf (.ref e)) (.ref C)) (done:Q () s) :
    wpAny M A (checkBuiltinCall "BaseException.__getattribute__" ⟨[.ref e,nameV],[]⟩) Q E s:=by
  obtain ⟨hh,g,dr,t,os⟩:=s
  have k1:builtinKind "BaseException.__getattribute__"=some .slot:=by decide +kernel
  have k2:splitId "BaseException.__getattribute__"=some ("BaseException","__getattribute__"):=by decide +kernel
  have ha:=F.args_bexc_ga (.ref e) nameV
  simp only [checkBuiltinCall,k1,k2]
  refine wpAny_bind ?_
  unfold isInstance
  repeat (first | with_reducible refine L0.at ?_ | with_reducible refine L3.at ?_ | wp_step)
  exact done
structure XCls (K:PySem.W.Frag) (C:Addr):Prop where
  c0:PySem.W.mroIn K C (.type "object")=some true
  c1:PySem.W.mroIn K C (.type "BaseException")=some true
  c2:PySem.W.findIn K (.ref C) "__class__"=some (some (.builtin "object.__class__"))
  c3:PySem.W.findIn K (.ref C) "__getattribute__"=some (some (.builtin "BaseException.__getattribute__"))
  c4:PySem.W.findIn K (.ref C) "__getattr__"=some none
  c5:∃ cd,PySem.W.clsIn K C=some cd
open PySem.W PySem.Builtin PySem.Builtin.Getset_descriptor in
theorem xk_by {E:Value→Shared→Prop} {Q:Value→Shared→Prop} {tk:Tok} (FB:ExcAttrFacts "ValueError") (L0:Looks (model prog w) s.heap (typeOf (.ref e)) (.ref C)) (c:XCls K C) (KX:K.In s.heap) (done:Q (.ref C) s) :
    wpAny (model prog w) A (getAttrBy (.ref e) (.str "__class__" tk) false) Q E s:=by
  have L1:Looks (model prog w) s.heap (isSubtype (.ref C) (.type "object")) true:=looks_mroIn KX c.c0
  have L3:Looks (model prog w) s.heap (isSubtype (.ref C) (.type "BaseException")) true:=looks_mroIn KX c.c1
  have L2:Looks (model prog w) s.heap (typeLookup (.ref C) "__class__") (some (.builtin "object.__class__")):=looks_findIn KX c.c2
  have L4:Looks (model prog w) s.heap (typeLookup (.ref C) "__getattribute__") (some (.builtin "BaseException.__getattribute__")):=looks_findIn KX c.c3
  have L5:Looks (model prog w) s.heap (typeLookup (.ref C) "__getattr__") none:=looks_findIn KX c.c4
  obtain ⟨hh,g,dr,t,os⟩:=s
  have f3:=FB.ga.bind (.ref e)
  have q2:(Value.builtin "BaseException.__getattribute__" == Value.builtin "object.__getattribute__")=false:=by decide +kernel
  have q0:(false&&onTheHeap (Value.builtin "BaseException.__getattribute__"))=false:=rfl
  have q1:(onTheHeap (Value.ref C)&&Value.builtin "BaseException.__getattribute__" == Value.builtin "object.__getattribute__")=false:=by rw [q2];rfl
  repeat (any_goals (first | assumption | with_reducible refine L0.at ?_ | with_reducible refine L4.at ?_ | with_reducible refine L5.at ?_ | wp_step))
  refine codeAny_call_builtin FB.ga.plain F.entry_bexc_ga (xk_check L3 L0 (xk_entry L1 L0 L2 ?_))
  repeat (any_goals (first | assumption | wp_step))
open PySem.W in
theorem exc_kit (c:XCls K C):KitX K (.ref e) (.ref C) (fun h=>∃ o vs,h.get? e=some o∧o.cls=.ref C∧o.data=.fields vs) where
  ty:=fun M h KX ⟨o,vs,h1,h2,h3⟩=>h2▸(Looks.ld h1).andThen .now
  it:=fun M h KX _=>by
    obtain ⟨cd,hc⟩:=c.c5
    unfold clsIn at hc
    split at hc
    · rename_i hlk
      intro A' Q' E' s' k q
      unfold isType loadHead
      exact wpAny_bind (wpAny_loadPart (k _ _ (KX _ _ hlk)) (wpAny_pure q))
    · cases hc
  ne:=fun h tp dd its n sl KX htp=>by
    obtain ⟨cd,hc⟩:=c.c5
    unfold clsIn at hc
    split at hc
    · rename_i hlk
      have h1:=KX _ _ hlk
      by_cases z:C=tp
      · subst z
        rw [htp] at h1
        cases h1
      · simpa using z
    · cases hc
  ca:=fun {prog w A E Q s} KX ⟨o,vs,h1,h2,h3⟩ q=>by
    obtain ⟨hh,g,dr,t,os⟩:=s
    have L0:Looks (model prog w) hh (typeOf (.ref e)) (.ref C):=h2▸(Looks.ld h1).andThen .now
    have by_:∀ {tk:Tok} {t':Nat} {E':Value→Shared→Prop} {Q':Value→Shared→Prop},Q' (.ref C) ⟨hh,g,dr,t',os⟩→wpAny (model prog w) A (getAttrBy (.ref e) (.str "__class__" tk) false) Q' E' ⟨hh,g,dr,t',os⟩:=fun {tk t' E' Q'} done=>xk_by (s:=⟨hh,g,dr,t',os⟩) PySem.F.excAttr_ValueError L0 c KX done
    clear h1
    unfold getAttr? getAttrBy?
    repeat (any_goals (first | assumption | with_reducible apply by_ | wp_step))
end
theorem excKit_of {X:Cx} (h:∀ (n:String) (C:Addr),excNames.contains n=true→X.mg n=some (.ref C)→XCls X.K C):ExcKit X:=fun e C n hx hn=>exc_kit (h n C hx hn)
end ES
namespace ES
open PySem PySem.Spec PyProof.Rows L2 EV
unseal SE ST SW SA SS SSs
theorem boot_ValueError:bootBuiltins "ValueError"=some (.type "ValueError"):=by decide +kernel
theorem mG {G:List Str} (i:Nat) {x:Str} (h:G[i]? = some x:=by rfl):x∈G:=List.mem_of_getElem? h
structure XF (K:PySem.W.Frag) (mg:Str→Option Value) (n:String):Prop where
  ex:mg n=none∨∃ C,mg n=some (.ref C)∧XCls K C
theorem xcls_of {K:PySem.W.Frag} {mg:Str→Option Value} (h:∀ n∈excNames,XF K mg n) (n:String) (C:Addr) (hn:excNames.contains n=true) (hm:mg n=some (.ref C)):XCls K C:=by
  rcases (h n (by simpa using hn)).ex with z | ⟨C',z,x⟩
  · rw [hm] at z;cases z
  · rw [hm] at z;cases z;exact x
structure CF (K:PySem.W.Frag) (mg:Str→Option Value) (B:Addr) (n:String):Prop where
  ex:mg n=none∨∃ C,mg n=some (.ref C)∧PySem.W.mroIn K C (.ref B)=some true
structure CB (K:PySem.W.Frag) (B:Addr):Prop where
  c1:∃ cd,PySem.W.clsIn K B=some cd
  c2:PySem.W.typeIn K (.ref B)=some (.type "type")
  c3:PySem.W.subIn K (.type "type") (.type "tuple")=some false
  c4:PySem.W.mroIn K B (.type "BaseException")=some true
theorem catches_of {X:Cx} {cls:String} {B:Addr} (b:CB X.K B) (h:∀ n∈excNames,exSub n cls=true→CF X.K X.mg B n):Catches X cls B:=fun C Ca hs hm=>by
  have hn:C∈excNames:=by
    unfold exSub at hs
    rw [Bool.and_eq_true] at hs
    simpa using hs.1
  rcases (h C hn hs).ex with z | ⟨C',z,x⟩
  · rw [hm] at z;cases z
  · rw [hm] at z;cases z;exact ⟨by obtain ⟨_,e⟩:=b.c1;rw [e];rfl,b.c2,b.c3,b.c4,x⟩
theorem isi_ty {X:Cx} {n:String} (hn:n≠"ValueError") (i0:PySem.W.kitOne X.K (.type "NoneType") (.type n)=some false) (i1:PySem.W.kitOne X.K (.type "bool") (.type n)=some (n == "int"||n == "bool")) (i2:PySem.W.kitOne X.K (.type "int") (.type n)=some (n == "int"))
    (i3:PySem.W.kitOne X.K (.type "str") (.type n)=some (n == "str")) (i4:PySem.W.kitOne X.K (.type "tuple") (.type n)=some (n == "tuple")) (i5:PySem.W.kitOne X.K (.type "list") (.type n)=some (n == "list")):Isi X (.ty n):=by
  intro d k t u e ht hu
  cases hu
  cases d with
  | exc C =>
    unfold bIsi at e
    simp only at e
    split at e
    · rename_i z
      rw [Bool.and_eq_true,beq_iff_eq] at z
      exact absurd z.2 hn
    · cases e
  | non=>cases ht;unfold bIsi at e;simp only at e;split at e<;>cases e;exact i0
  | bl b=>cases ht;unfold bIsi at e;simp only at e;split at e<;>cases e;exact i1
  | int b=>cases ht;unfold bIsi at e;simp only at e;split at e<;>cases e;exact i2
  | str b=>cases ht;unfold bIsi at e;simp only at e;split at e<;>cases e;exact i3
  | tup b=>cases ht;unfold bIsi at e;simp only at e;split at e<;>cases e;exact i4
  | lst b=>cases ht;unfold bIsi at e;simp only at e;split at e<;>cases e;exact i5
  | _=>cases e
structure IF (K:PySem.W.Frag) (mg:Str→Option Value) (c:Value) (k:Bool) (n:String):Prop where
  ex:mg n=none∨∃ C,mg n=some (.ref C)∧PySem.W.kitOne K (.ref C) c=some k
theorem IF.get {K:PySem.W.Frag} {mg:Str→Option Value} {c:Value} {k:Bool} {n:String} {C:Addr} (f:IF K mg c k n) (hm:mg n=some (.ref C)):PySem.W.kitOne K (.ref C) c=some k:=by
  rcases f.ex with z | ⟨C',z,x⟩
  · rw [hm] at z;cases z
  · rw [hm] at z;cases z;exact x
theorem isi_ve {X:Cx} (hX:∀ n C,excNames.contains n=true→X.mg n=some (.ref C)→True) (hr:∀ (n:String) u,excNames.contains n=true→X.mg n=some u→∃ C,u=.ref C) (i0:PySem.W.kitOne X.K (.type "NoneType") (.type "ValueError")=some false) (i1:PySem.W.kitOne X.K (.type "bool") (.type "ValueError")=some false) (i2:PySem.W.kitOne X.K (.type "int") (.type "ValueError")=some false)
    (i3:PySem.W.kitOne X.K (.type "str") (.type "ValueError")=some false) (i4:PySem.W.kitOne X.K (.type "tuple") (.type "ValueError")=some false) (i5:PySem.W.kitOne X.K (.type "list") (.type "ValueError")=some false) (ix:∀ n∈excNames,IF X.K X.mg (.type "ValueError") true n):Isi X (.ty "ValueError"):=by
  intro d k t u e ht hu
  cases hu
  cases d with
  | exc C =>
    unfold bIsi at e
    simp only at e
    split at e
    · rename_i z
      rw [Bool.and_eq_true] at z
      cases e
      obtain ⟨Ca,rfl⟩:=hr C t z.1 ht
      exact (ix C (by simpa using z.1)).get ht
    · cases e
  | non=>cases ht;cases e;exact i0
  | bl b=>cases ht;cases e;exact i1
  | int b=>cases ht;cases e;exact i2
  | str b=>cases ht;cases e;exact i3
  | tup b=>cases ht;cases e;exact i4
  | lst b=>cases ht;cases e;exact i5
  | _=>cases e
theorem isi_cls {X:Cx} {B:String} {Ba:Addr} (hB:X.mg B=some (.ref Ba)) (hr:∀ (n:String) u,excNames.contains n=true→X.mg n=some u→∃ C,u=.ref C) (i0:PySem.W.kitOne X.K (.type "NoneType") (.ref Ba)=some false) (ix:∀ n∈excNames,IF X.K X.mg (.ref Ba) (n == B||B == "MillError") n):Isi X (.cls B):=by
  intro d k t u e ht hu
  have hu':X.mg B=some u:=hu
  rw [hB] at hu'
  cases hu'
  cases d with
  | exc C =>
    unfold bIsi at e
    simp only at e
    split at e
    · rename_i z
      rw [Bool.and_eq_true] at z
      cases e
      obtain ⟨Ca,rfl⟩:=hr C t z.1 ht
      exact (ix C (by simpa using z.1)).get ht
    · cases e
  | non =>
    cases ht
    unfold bIsi at e
    simp only at e
    split at e<;>cases e
    exact i0
  | _=>cases e
theorem ref_of {K:PySem.W.Frag} {mg:Str→Option Value} (h:∀ n∈excNames,XF K mg n) (n:String) (u:Value) (hn:excNames.contains n=true) (hm:mg n=some u):∃ C,u=.ref C:=by
  rcases (h n (by simpa using hn)).ex with z | ⟨C',z,x⟩
  · rw [hm] at z;cases z
  · rw [hm] at z;cases z;exact ⟨_,rfl⟩
theorem bits_of_weight:∀ {ns:List Int},PySem.W.WData.weightAll (ns.map PySem.W.WData.int)≤2^20→∀ n∈ns,nb n≤2^20
  | [],_,_,h=>nomatch h
  | m::r,hw,n,h=>by
    rw [List.map_cons,PySem.W.WData.weightAll] at hw
    rcases List.mem_cons.mp h with rfl | h
    · have:PySem.W.WData.weight (.int n)=Builtin.Int.intBits n:=by simp only [PySem.W.WData.weight,Builtin.Int.intBits]
      rw [nb_eq]
      omega
    · exact bits_of_weight (ns:=r) (by omega) n h
open PySem.W PySem.Calls Att in
theorem attach_bits {l:OpenLaw} {n:Nat} {q:Program} {loose:List Str} {XP:(Str→Option Value)→Heap→Prop} {YP:World→Heap→Prop} {d:DefRec}
    (hn:l.most=some n) (hdf:d.params.defaults=[])
    (call:∀ (w:World) (s₀ s₁:Shared) (mg mb:Str→Option Value) (fa:Addr) (a:Addr) (vs:List Value) (ns:List Int),
      Ground q loose [] XP w s₀ mg mb s₁.heap→YP w s₁.heap→mg d.name=some (.ref fa) →
      s₁.heap.get? a=some { cls:=.type "list",data:=.seq vs.toArray }→IntsAre vs ns→ns.length≤n→(∀ m∈ns,nb m≤2^20)→s₁.gens = #[] →
      codeAny (model l.prog w) callerA (.call (.ref fa) ⟨[.ref a],[]⟩) (fun r s'=>r=.ok (.ret (.bool true))∧OldK s₁.heap s'.heap∧s'.os=s₁.os∧AllBare s'.gens) s₁) :
    WalkO q loose XP YP l.row.toRowW d [] (fun f vs=>PySem.call f vs):=by
  intro w s₀ s₁ mg mb G Y fa o pm cd doc dV kV ho hd hcd hD hmg hg args vals as hpre hlay hrd hwl hlo
  obtain rfl:dV=.none:=Dflts.none hD hdf
  obtain rfl:kV=.none:=Dflts.noKw hD
  obtain ⟨a,vs,ns,rfl,rfl,hobj,hints,hlen⟩:=script_of hn hpre hwl
  have hb:∀ m∈ns,nb m≤2^20:=by
    have h1:=(layableW_iff.mp (layW_cons hlay).1).2.2
    rw [WData.weight] at h1
    exact bits_of_weight h1
  refine enter_call (codeAny_mono (call w s₀ s₁ mg mb fa a vs ns G Y hmg hobj hints hlen hb hg) fun r s' hq => ?_)
  obtain ⟨rfl,h2,h3,h4⟩:=hq
  exact ⟨.inl ⟨.bool true,.bool true,[],rfl,fun _=>rfl,.bool true,post_true l _,fun _=>⟨List.Pairwise.nil,fun _ hm=>(nomatch hm)⟩⟩,h2,h3,h4⟩
theorem walk_law {l:PySem.W.OpenLaw} {k:Nat} {q:Program} {loose:List Str} {XP:(Str→Option Value)→Heap→Prop} {YP:World→Heap→Prop} {d:DefRec} {K:Params→PySem.W.Frag} {x:Str} {f:List D→R D}
    (hf:Good f) (hn:l.most=some 63) (hdf:d.params.defaults=[]) (hr:Room k callerA)
    (hY:∀ (w:World) (h:Heap),YP w h→(K w.params).In h)
    (F:∀ (w:World) (mg:Str→Option Value) (fa:Addr) (h:Heap),(K w.params).In h→h.Ns mainGlobals mg→mg d.name=some (.ref fa) →
      ∃ fd:FuncData,(∀ (s:Shared) (u:Value),BindsTo s fd ⟨[u],[]⟩ [(x,u)]) ∧
        ∀ base:Heap,(K w.params).In base→base.Ns mainGlobals mg→FnOk l.prog w (K w.params) mg base (CXF l.prog w) k fa fd [x] (spP (K w.params) mg f)) :
    PySem.W.WalkO q loose XP YP l.row.toRowW d [] (fun f vs=>PySem.call f vs):=by
  refine attach_bits hn hdf fun w s₀ s₁ mg mb fa a vs ns G Y hmg hobj hints hlen hbits hg => ?_
  have KX:=hY w _ Y
  obtain ⟨fd,hb,hF⟩:=F w mg fa _ KX G.T.g hmg
  refine law_call KX G.T.g G.T.b G.T.builtins G.T.nolimit hg hobj hints (Nat.le_trans hlen (by decide)) hr hF hb (fun H hO hS=>⟨[.lst (ns.map .int)],.cons (.lst hS (Reps.ints ns)) .nil,?_⟩) fun H e s' ⟨_,_,_,_,_,z⟩=>z
  rw [hf ns hlen hbits]
  exact fun v H' _ r=>by cases r;rfl
end ES
namespace ES
open PySem PySem.Spec PyProof.Rows L2 EV
unseal SE ST SW SA SS SSs
structure FldOk (X:Cx) (cn f:String):Prop where
  ex:∃ C,X.mg cn=some (.ref C)∧Cls X.K C∧NoAttr X.K C f
structure MethOk (X:Cx) (cn m:String) (F:List D→R D):Prop where
  ex:∃ C fa k fd ps,X.mg cn=some (.ref C)∧Cls X.K C∧Meth X.K C m fa∧FnOk X.prog X.w X.K X.mg X.base (CXF X.prog X.w) k fa fd ps (spP X.K X.mg F)∧Room k X.A∧Binds X.K fd ps []
section
variable {X:Cx} {o e:Expr} {es:List Expr} {go:E} {gs:List E} {pos apos p:Pos} {cn f m:String} {F:List D→R D}
theorem e_fld (h:FldOk X cn f) (ho:SE X o go) (hb:attributeBase o f X.env (eval o X.env)=eval o X.env:=by rfl):SE X (.Attribute o f pos) (un (oFld cn f) go):=by
  obtain ⟨C,hC,cl,na⟩:=h.ex
  refine PE.weak (pe_fld ho hb) fun σ H Q ⟨δ,hσ,h⟩=>⟨δ,hσ,(RQ.bind h).to fun v H' s ⟨_,d,r,q⟩ => ?_⟩
  cases r with
  | @ins a C' dx n fs ds hn ha rf =>
    unfold oFld at q
    simp only at q
    split at q
    · rename_i hcn
      rw [beq_iff_eq] at hcn
      subst hcn
      split at q
      · rename_i d hd
        obtain ⟨v,e1,e2⟩:=rf.lookup hd
        rw [hC] at hn
        cases hn
        exact ⟨a,C,dx,fs,v,rfl,ha,cl,na,e1,q _ _ (Same.refl _) e2⟩
      · exact False.elim q
    · exact False.elim q
  | _=>exact False.elim q
theorem meth_to {σ:L2.St} {H:Hp} {δ:Dt} {d:D} {es:List E} {Q:VK} (h:RQ X σ H (if isMeth cn m d then (evs es δ).bind fun ds=>F (d::ds) else .bad) Q):isMeth cn m d=true∧RA X σ H (evs es δ) fun vs H'=>Same H H'∧∃ ds,Reps X.K X.mg H' vs ds∧RQ X σ H' (F (d::ds)) Q:=by
  by_cases hm:isMeth cn m d=true
  · rw [if_pos hm] at h
    refine ⟨hm,?_⟩
    have h2:RQ X σ H ((evs es δ).bind fun ds=>F (d::ds)) Q:=h
    cases r:evs es δ with
    | ok ds=>rw [r] at h2;exact fun vs H' s rs=>⟨s,ds,rs,RQ.mono s h2⟩
    | ex C=>rw [r] at h2;exact h2
    | bad=>rw [r] at h2;exact h2
  · rw [if_neg hm] at h;exact False.elim h
theorem e_meth {pl:Sem Bool} (h:MethOk X cn m F) (ho:SE X o go) (ha:SA X (e::es) gs)
    (hst:starEach (e::es) X.env=(false,eval e X.env)::starEach es X.env:=by rfl) (hpl:(backTo pos (starEach es X.env)).any (·.1)=false:=by rfl)
    (ht:eval (.Call (.Attribute o m apos) (e::es) [] pos) X.env=(do
      let ov ← eval o X.env
      standAt apos.atName
      let (f,first) ← holding [ov] (getMethod ov m pl)
      callWith pos f first (backTo pos (starEach (e::es) X.env)) (backToKw pos (keywordEach [] X.env))):=by rfl) :
    SE X (.Call (.Attribute o m apos) (e::es) [] pos) (meth cn m F go gs):=by
  obtain ⟨C,fa,k,fd,ps,hC,cl,hm,FO,hr,hb⟩:=h.ex
  intro pins s σ H Q I ⟨δ,hσ,h⟩
  refine PySem.W.methodCall_KW (pl:=pl) (thn (ho pins s σ H _ I ⟨δ,hσ,RQ.bind h⟩) fun u s1 ⟨x,H1,I1,rx,sm,d,rd,q⟩ => ?_) ht
  obtain ⟨im,qa⟩:=meth_to q
  cases rd with
  | @ins a C' dx n fs ds hn hA rf =>
    unfold isMeth at im
    rw [Bool.and_eq_true,beq_iff_eq] at im
    obtain ⟨e1,e2⟩:=im
    subst e1
    rw [hC] at hn
    cases hn
    have l:fs.lookup (m:Str)=none:=rf.lookupN (by simpa using e2)
    obtain rfl:u=Value.ref a:=rx
    refine getmeth_ok I1 hA cl hm l ?_
    refine PySem.W.callWith_K (first:=[.ref a]) (h₀:=X.base) I.ok.mod.kin hm.kp (thn (ha pos pins s1 σ H1 _ I1 ⟨δ,hσ.mono sm,qa⟩) fun us s2 ⟨vs,H2,I2,r,sm2,ds',rs,q2⟩=>⟨I2.kIn,?_⟩) hst hpl
    exact run_p (us:=.ref a::us) (vs:=.ref a::vs) FO hr hb I2 (.cons rfl r) (.cons (.ins hC (sm2 _ _ hA) (rf.mono sm2)) rs) q2
  | _=>cases im
def spI (K:PySem.W.Frag) (f:Str):Sp:=fun vs H Q _=>∃ x v C dx,vs=[.ref x,v]∧H x=some (.ins C dx [])∧Cls K C∧NoAttr K C f∧Q .non (upd H x (.ins C dx [(f,v)]))
theorem init_ok {P:Program} {w:World} {K:PySem.W.Frag} {mg:Str→Option Value} {base:Heap} {x qual ps pa f:Str} {st:Stmt} {fa:Addr} {fd:FuncData} {p1 p2 p3 p4:Pos} {k:Nat} (F:Fun K x qual st fa fd)
    (S:FnScope [ps,pa] [ps,pa] (defScope st)) (h0:(defScope st).names.lookup ps=some .local) (h1:(defScope st).names.lookup pa=some .local) (d0:(ps == ("__debug__":Str))=false∧(ps == ("__classdict__":Str))=false) (d1:(pa == ("__debug__":Str))=false∧(pa == ("__classdict__":Str))=false)
    (hb:defBody st=[.Assign [.Attribute (.Name ps p1) f p2] (.Name pa p3) p4]) (hsw:∀ env,swapsWith (.Name pa p3) (some (.Attribute (.Name ps p1) f p2)) p4.line env=pure false):FnOk P w K mg base CX0 (k+1) fa fd [ps,pa] (spI K f):=by
  refine F.ok S (fun vs H Q E h => ?_) fun cdv A outer s H vs Q E hr h => ?_
  · obtain ⟨_,_,_,_,rfl,_⟩:=h
    rfl
  · obtain ⟨a,v,C,dx,rfl,hH,cl,na,q⟩:=h
    rw [hb]
    refine ⟨_,pss_one (ps_fld (pe_var (i:=0) rfl (.inl h0) d0.1 d0.2) (pe_var (i:=1) rfl (.inl h1) d1.1 d1.2) (hsw _)),?_⟩
    exact ⟨v,rfl,_,rfl,a,C,dx,[],rfl,hH,cl,na,by decide,q⟩
structure MakeOk (X:Cx) (cn f:String):Prop where
  ex:∃ C fa k fd ps,X.mg cn=some (.ref C)∧Cls X.K C∧NoAttr X.K C f∧Mk X.K C fa∧FnOk X.prog X.w X.K X.mg X.base CX0 k fa fd ps (spI X.K f)∧Room (k+1) X.A∧Binds X.K fd ps []
theorem e_make1 (h:MakeOk X cn f) (G:Gb X cn) (ha:SA X (e::es) gs) (he:starEach (e::es) X.env=(false,eval e X.env)::starEach es X.env:=by rfl) (hpl:(backTo pos (starEach es X.env)).any (·.1)=false:=by rfl) :
    SE X (.Call (.Name cn p) (e::es) [] pos) (EV.call (mk1 cn f) gs):=by
  obtain ⟨C,fa,k,fd,ps,hC,cl,na,M,F,hr,hb⟩:=h.ex
  refine PE.weak (pe_make (E:=fun _ _ _=>False) M F hr G.g hC hb .nil pass0 ha G.d he hpl) fun σ H Q ⟨δ,hσ,h⟩=>⟨δ,hσ,(RA.bind h).to fun vs H' s ⟨_,ds,rs,q⟩ x dx hx hdx hne => ?_⟩
  unfold mk1 at q
  split at q
  · rename_i d
    obtain ⟨v,rfl,r⟩:=reps1 rs
    refine ⟨x,v,C,dx,rfl,upd_same,cl,na,rfl,?_⟩
    have s1:Same H' (upd H' dx (.own x)):=same_upd hdx _
    have hx1:(upd H' dx (.own x)) x=none:=by rw [upd_ne (Ne.symm hne)];exact hx
    have s2:Same (upd H' dx (.own x)) (upd (upd H' dx (.own x)) x (.ins C dx [])):=same_upd hx1 _
    have s3:Same H' (upd (upd (upd H' dx (.own x)) x (.ins C dx [])) x (.ins C dx [((f:Str),v)])):=fun b o e=>by
      have hb:b≠x:=ne_of_none e hx
      rw [upd_ne hb,upd_ne hb]
      exact s1 b o e
    exact q _ _ s3 (.ins hC upd_same (.cons (r.mono s3) .nil))
  · exact False.elim q
end
end ES
namespace ES
open PySem PySem.Spec PyProof.Rows L2 EV
unseal SE ST SW SA SS SSs
def WalkI (X:Cx) (J:It) (H:Hp) (ds:List D):Prop:=∀ Hc,Same H Hc →
  (∀ i d,ds[i]? = some d→J.go i Hc∧∀ x H',J.yld i Hc x H'→H'=Hc∧Rep X.K X.mg H x d)∧∀ i,ds.length≤i→J.stop i Hc
def RI (X:Cx) (σ:L2.St) (H:Hp) (r:R (List D)) (Q:It→Hp→Prop):Prop:=match r with
  | .ok ds=>∀ J H',Same H H'→WalkI X J H' ds→Q J H'
  | .ex C=>∀ Ca,X.mg C=some (.ref Ca)→∀ H',Same H H'→ew X Ca σ H'
  | .bad=>False
def tI (X:Cx) (g:IT):TI:=fun σ H Q=>∃ δ,Stt X.K X.mg H σ δ∧RI X σ H (g δ) Q
@[irreducible] noncomputable def SI (X:Cx) (tg iter:Expr) (g:IT):Prop:=PI X tg iter (tI X g)
unseal SI
section
variable {X:Cx} {tg e a b:Expr} {g ga gb:E} {σ:L2.St} {H H1:Hp}
theorem RI.mono {r:R (List D)} {Q:It→Hp→Prop} (s:Same H H1) (h:RI X σ H r Q):RI X σ H1 r Q:=by
  cases r with
  | ok d=>exact fun v H' s' r=>h v H' (s.trans s') r
  | ex C=>exact fun Ca hc H' s'=>h Ca hc H' (s.trans s')
  | bad=>exact h
theorem RI.bind {r:R D} {f:D→R (List D)} {Q:It→Hp→Prop} (h:RI X σ H (r.bind f) Q):RQ X σ H r (fun v H'=>Same H H'∧∃ d,Rep X.K X.mg H' v d∧RI X σ H' (f d) Q):=by
  cases r with
  | ok d=>exact fun v H' s r=>⟨s,d,r,h.mono s⟩
  | ex C=>exact h
  | bad=>exact h
theorem PI.weak {t t':TI} (h:PI X tg e t) (w:∀ σ H Q,t' σ H Q→t σ H Q):PI X tg e t':=fun pins s σ H Q I q=>h pins s σ H Q I (w σ H Q q)
end
def FI (X:Cx) (σ:L2.St) (H:Hp) (os:Os) (δ:Dt) (r:R (List D)) (Q:It→Hp→Prop):Prop:=match r with
  | .ok ds=>∀ J H',StO X H' σ δ os→Same (hide H os) (hide H' os)→WalkI X J (hide H' os) ds→Q J H'
  | .ex C=>∀ Ca,X.mg C=some (.ref Ca)→∀ H',Same (hide H os) H'→Stt X.K X.mg H' σ (noOwn δ)→ew X Ca σ H'
  | .bad=>False
def tFI (X:Cx) (g:IT):TI:=fun σ H Q=>∃ δ os,StO X H σ δ os∧FI X σ H os δ (g δ) Q
section
variable {X:Cx} {N:List Str} {tg e:Expr} {g:IT}
theorem frameI (hx:X.ex=[]) (h:SI X tg e g):PI X tg e (tFI X g):=by
  intro pins s σ H Q I ⟨δ,os,S,q⟩
  have hl:=S.lsts
  have hw:RI X σ (hide H os) (g δ) (fun J H1=>Same (hide H os) H1∧∃ ds,g δ=.ok ds∧WalkI X J H1 ds):=by
    cases r:g δ with
    | ok d=>exact fun v H' s r=>⟨s,d,rfl,r⟩
    | ex C =>
      rw [r] at q
      exact fun Ca hc H' s'=>q Ca hc H' s' (S.noOwn s')
    | bad=>rw [r] at q;exact q
  refine thn (h _ s σ _ _ (inv_hide I hl) ⟨δ,S.st,hw⟩) fun v s1 h1=>thn h1 fun itv s2 h2 => ?_
  obtain ⟨it,fp,tn,J,H1,e1,I1,T,st,fpk,sm,ds,e2,wk⟩:=h2
  obtain ⟨I2,hn⟩:=inv_show hx I hl I1
  rw [e2] at q
  have eh:=hide_show (H:=H) hn
  refine ⟨it,fp,tn,J,show_ H H1 os,e1,I2,T,st,fun b hb => ?_,q J _ (S.shown sm hn) (by rw [eh];exact sm) (by rw [eh];exact wk)⟩
  obtain ⟨f0,f1,f2,f3,f4,f5⟩:=fpk b hb
  have nb:b∉adrs os:=fun z=>by
    obtain ⟨xs,hh⟩:=hl b z
    obtain ⟨o,eo⟩:∃ o,s.heap.get? b=some o:=by
      obtain ⟨_,its,n,_,eo⟩:=I.hok b _ hh
      exact ⟨_,eo⟩
    exact f5 (b,o) (List.mem_append_right _ (List.mem_append_right _ (mem_pinsAt z eo))) rfl
  refine ⟨by unfold show_;rw [if_neg nb];exact f0,f1,f2,f3,f4,fun p hp=>f5 p ?_⟩
  rw [← List.append_assoc]
  exact List.mem_append_left _ hp
variable {body:List Stmt} {gb:S} {pos:Pos}
theorem s_forI (C:Sx X N) (L:Lp X) (i:Nat) {x:Str} {pos':Pos} (hN:N[i]? = some x) (hx:Sto X x) (he:SI X (.Name x pos') e g) (hb:SSs X body gb) (hs:∀ x,foldedSetIterable e X.env x=pure x:=by intro _;rfl) :
    SS X (.For (.Name x pos') e body [] pos) (forI i g gb):=by
  refine PS.weak (ps_for L.own L.calm (frameI C.ex he) (pg_name (i:=i) (by rw [C.sc.n];exact C.sc.nd) (by rw [C.sc.n];exact hN) hx.1 hx.2) hb hs) fun D σ H ⟨δ,os,S,q⟩=>⟨δ,os,S,?_⟩
  unfold forI ovI at q
  cases r:g δ with
  | ok ds =>
    rw [r] at q
    intro J H1 S1 s1 wk
    refine ⟨fun n m σ' H'=>m=ds.length - n∧n≤ds.length∧Pv X D (hide H os) (hide H1 os) i gb ds n σ' H',⟨ds.length,by simp,Nat.zero_le _,δ,os,S1,Same.refl _,s1,by rw [List.drop_zero];exact q⟩,?_⟩
    rintro n m σ' H' ⟨rfl,hn,p⟩
    obtain ⟨δ',os',S',s',s0,q'⟩:=id p
    have w:=wk H' (s'.trans (hide_same _ _))
    by_cases hlt:n<ds.length
    · have hd:ds[n]? = some ds[n]:=List.getElem?_eq_getElem hlt
      refine .inr ⟨(w.1 n _ hd).1,Pv X D (hide H os) (hide H1 os) i gb ds (n+1),fun σ2 H2 z=>⟨ds.length - (n+1),by omega,rfl,by omega,z⟩,fun x H'' y => ?_⟩
      obtain ⟨e1,r1⟩:=(w.1 n _ hd).2 x H'' y
      subst e1
      exact turn_ok hd (fun H' s'=>r1.mono s') p
    · exact .inl ⟨w.2 n (by omega),end_ok (by omega) p⟩
  | ex C=>rw [r] at q;exact fun Ca hc H' s' st=>q σ H' s' st Ca hc
  | bad=>rw [r] at q;exact q
end
end ES
namespace ES
open PySem PySem.Spec PyProof.Rows L2 EV
unseal SE ST SW SA SS SSs SI
def clOf (env:Env):List (Str×NameKind)→List (Str×Addr)→List (Str×Addr)
  | [],cs=>cs
  | (n,k)::r,cs=>clOf env r (if k == .free then (n,(env.cells.lookup n).getD 0)::cs else cs)
theorem closure_is {sc:Scope} {env:Env} (h:∀ y,(y,NameKind.free)∈sc.names→∃ c,env.cells.lookup y=some c):closureFor sc env=pure (clOf env sc.names []):=by
  unfold closureFor
  have key:∀ (l:List (Str×NameKind)) (cs:List (Str×Addr)),(∀ y,(y,NameKind.free)∈l→∃ c,env.cells.lookup y=some c) →
      (forIn l cs fun x (r:List (Str×Addr))=>(match x with | (name,kind)=>if (kind == NameKind.free)=true then do let a ← cellOf env name;pure (ForInStep.yield ((name,a)::r)) else pure (ForInStep.yield r)):Sem _)=pure (clOf env l cs):=by
    intro l
    induction l with
    | nil=>intro cs _;rfl
    | cons p r ih =>
      intro cs hl
      obtain ⟨n,k⟩:=p
      rw [List.forIn_cons]
      by_cases hk:(k == NameKind.free)=true
      · obtain ⟨c,hc⟩:=hl n (by rw [beq_iff_eq] at hk;subst hk;exact .head _)
        simp only [hk,if_true,cellOf,hc,clOf]
        exact ih _ fun y hy=>hl y (.tail _ hy)
      · simp only [hk,Bool.false_eq_true,if_false,clOf]
        exact ih _ fun y hy=>hl y (.tail _ hy)
  simp only [key sc.names [] h]
  rfl
theorem cl_sub {env:Env}:∀ {l:List (Str×NameKind)} {cs:List (Str×Addr)},(∀ y,(y,NameKind.free)∈l→∃ c,env.cells.lookup y=some c)→(∀ y c,cs.lookup y=some c→env.cells.lookup y=some c)→∀ y c,(clOf env l cs).lookup y=some c→env.cells.lookup y=some c
  | [],_,_,h=>h
  | (n,k)::r,cs,hl,h=>by
    refine cl_sub (l:=r) (fun y hy=>hl y (.tail _ hy)) fun y c e => ?_
    by_cases hk:(k == NameKind.free)=true
    · rw [if_pos hk,List.lookup_cons] at e
      cases q:(y == n) with
      | true =>
        rw [q] at e
        obtain ⟨c',hc⟩:=hl n (by rw [beq_iff_eq] at hk;subst hk;exact .head _)
        rw [beq_iff_eq] at q
        subst q
        rw [hc] at e ⊢
        simpa using e
      | false=>rw [q] at e;exact h y c e
    · rw [if_neg hk] at e;exact h y c e
theorem cl_has {env:Env}:∀ {l:List (Str×NameKind)} {cs:List (Str×Addr)} {y:Str},((y,NameKind.free)∈l∨∃ c,cs.lookup y=some c)→∃ c,(clOf env l cs).lookup y=some c
  | [],_,_,h=>h.elim (fun z=>nomatch z) id
  | (n,k)::r,cs,y,h=>by
    refine cl_has (l:=r) ?_
    rcases h with h | ⟨c,h⟩
    · rcases List.mem_cons.mp h with z | z
      · cases z
        exact .inr ⟨_,by rw [if_pos (show (NameKind.free == NameKind.free)=true from rfl),List.lookup_cons,beq_self_eq_true]⟩
      · exact .inl z
    · refine .inr ?_
      by_cases hk:(k == NameKind.free)=true
      · rw [if_pos hk,List.lookup_cons]
        cases q:(y == n) with
        | true=>exact ⟨_,rfl⟩
        | false=>exact ⟨c,h⟩
      · rw [if_neg hk];exact ⟨c,h⟩
theorem relabel_same {sc:Scope} {env:Env} {x:Str} {k:NameKind} (hk:k ≠ .free):sc.names.lookup x=some k→(relabel sc env).names.lookup x=some k:=by
  unfold relabel
  simp only
  generalize sc.names=l
  induction l with
  | nil=>intro h;cases h
  | cons p r ih =>
    obtain ⟨n,k'⟩:=p
    intro h
    rw [List.lookup_cons] at h
    rw [List.map_cons]
    cases q:(x == n) with
    | true =>
      rw [q] at h
      have e:k'=k:=by simpa using h
      subst e
      have:(k' == NameKind.free)=false:=by simpa using hk
      simp [this,List.lookup_cons,q]
    | false =>
      rw [q] at h
      split<;>(rw [List.lookup_cons,q];exact ih h)
theorem relabel_free {sc:Scope} {env:Env} {x:Str} (hf:env.scope.kind=.function) (hc:env.kindOf x=some .cell):sc.names.lookup x=some .free→(relabel sc env).names.lookup x=some .cell:=by
  unfold relabel
  simp only
  generalize sc.names=l
  induction l with
  | nil=>intro h;cases h
  | cons p r ih =>
    obtain ⟨n,k'⟩:=p
    intro h
    rw [List.lookup_cons] at h
    rw [List.map_cons]
    cases q:(x == n) with
    | true =>
      rw [q] at h
      have e:k'=.free:=by simpa using h
      subst e
      rw [beq_iff_eq] at q
      subst q
      simp [hf,hc,List.lookup_cons]
    | false =>
      rw [q] at h
      split<;>(rw [List.lookup_cons,q];exact ih h)
theorem relabel_of {sc:Scope} {env:Env} {x:Str} {k:NameKind}:(relabel sc env).names.lookup x=some k→sc.names.lookup x=some k∨(sc.names.lookup x=some .free∧k=.cell):=by
  unfold relabel
  simp only
  generalize sc.names=l
  induction l with
  | nil=>intro h;cases h
  | cons p r ih =>
    obtain ⟨n,k'⟩:=p
    intro h
    rw [List.map_cons] at h
    rw [List.lookup_cons]
    cases q:(x == n) with
    | true =>
      split at h
      · rename_i hc
        rw [List.lookup_cons,q] at h
        have e:NameKind.cell=k:=by simpa using h
        simp only [Bool.and_eq_true,beq_iff_eq] at hc
        exact .inr ⟨by rw [hc.1.1],e.symm⟩
      · rw [List.lookup_cons,q] at h
        have e:k'=k:=by simpa using h
        exact .inl (by rw [e])
    | false=>split at h<;>(rw [List.lookup_cons,q] at h;exact ih h)
structure ScC (x:Str) (ks G:List Str) (sc:Scope):Prop where
  kind:sc.kind=.function
  noc:∀ y∈sc.names,y.2 ≠ .cell
  nms:∀ y∈sc.names,y.2=.local→sc.names.lookup y.1=some .local
  loc:sc.names.lookup x=some .local
  fre:∀ y∈ks,sc.names.lookup y=some .free
  all:∀ y∈sc.names,y.2=.free→y.1∈ks
  glb:∀ y∈G,sc.names.lookup y=some .globalImplicit
  nd:(x::ks).Nodup
  dbg:∀ y∈x::ks,(y == ("__debug__":Str))=false∧(y == ("__classdict__":Str))=false
  dbgG:∀ y∈G,(y == ("__debug__":Str))=false∧y≠"__name__"
def cxC (X:Cx) (x:Str) (ks:List Str) (sc:Scope) (C:Addr) (fp:List Addr) (s:Shared) (H:Hp):Cx :=
  { X with N:=x::ks,s₀:=s,H₀:=H,env:={ newEnv sc C X.env.globals (clOf X.env sc.names []) X.env.qual none .none (some X.env) X.env.builtins with scope:=relabel sc X.env },outer:=X.stack,stack:=X.stack,ex:=fp,fn:=fun _=>false,pn:=[],xe:=fun _ _=>False }
theorem un_but {fs ex:List Addr} {H H':Hp} {h h1 h2:Heap} {C:Addr} (u:Un fs ex H H' h h1) (hC:h.objs.size≤C) (sb:Heap.SameBut C h1 h2):Un fs ex H H' h h2:=by
  have ne:∀ {b:Addr} {o:Obj},h.get? b=some o→b≠C:=fun {b o} e=>Nat.ne_of_lt (Nat.lt_of_lt_of_le (Heap.lt_size e) hC)
  refine ⟨fun b o e n hb hx=>(sb.2 b (ne e)).trans (u.keep b o e n hb hx),fun b o e n hb hx => ?_,u.free,fun b o e hx => ?_,u.tups,u.frzs,u.tbls⟩
  · obtain ⟨sl,q⟩:=u.slot b o e n hb hx
    exact ⟨sl,(sb.2 b (ne e)).trans q⟩
  · obtain ⟨o',q⟩:=u.there b o e hx
    exact ⟨o',(sb.2 b (ne e)).trans q⟩
theorem hok_but {P:Program} {w:World} {H:Hp} {h1 h2:Heap} {C:Addr} (hok:HOk P w H h1) (hC:H C=none) (sb:Heap.SameBut C h1 h2):HOk P w H h2:=fun b u e =>
  (hok b u e).stay (fun c o hc q=>(sb.2 c (fun z=>by
    subst z
    rcases hc with rfl | hc
    · rw [hC] at e;cases e
    · rw [hC] at hc;cases hc)).trans q) (fun _ q=>q) fun _ _ q=>q
theorem loop_comp {prog:Program} {w:World} {A:Around} {R:Result→Shared→Prop} {s:Shared} {elt target iter:Expr} {ifs:List Expr} {scope:Scope} {pos:Pos} {it acc:Value} {env:Env} (J:Nat→Shared→Prop)
    (turn:∀ n s,J n s→wpAny (model prog w) A (pyNext it) (fun r s1=>match r with
      | none=>R (.ok .next) s1
      | some v=>wpAny (model prog w) A (letOwnedTupleGo target it v) (fun _ s2=>wpAny (model prog w) A (assign target env v) (fun _ s3 =>
          wpAny (model prog w) A (forIn ifs true fun c r=>if r=true then do let ok ← isTrue c env (eval c env);pure (ForInStep.yield ok) else pure (ForInStep.yield r)) (fun ok s4 =>
            if ok=true then wpAny (model prog w) A (eval elt env) (fun x s5=>wpAny (model prog w) A (PySem.call (.builtin "list.append") [acc,x]) (fun _ s6=>∃ m,m<n∧J m s6) (fun _ _=>False) s5) (fun _ _=>False) s4
            else ∃ m,m<n∧J m s4) (fun _ _=>False) s3) (fun _ _=>False) s2) (fun _ _=>False) s1) (fun _ _=>False) s)
    (n:Nat) (h:J n s):codeAny (model prog w) A (.compLoop (.ListComp elt [⟨target,iter,ifs,0⟩] scope pos) 0 it acc env) R s:=by
  refine codeAny_loop rfl J (fun n s hJ => ?_) n h
  show wpAny _ _ ((compTurn (.ListComp elt [⟨target,iter,ifs,0⟩] scope pos) 0 it acc env).onRaise fun x=>do
    noteFrame x env
    theTreesLotGoes x) _ _ s
  refine wpAny_noted ?_
  rw [compTurn_list]
  refine wpAny_bind (wpAny_standAt (wpAny_bind (wpAny_mono (turn n s hJ) (fun r s1 h1 => ?_) fun _ _ z=>z.elim)))
  cases r with
  | none=>exact wpAny_pure h1
  | some v =>
    refine wpAny_bind (wpAny_mono h1 (fun _ s2 h2 => ?_) fun _ _ z=>z.elim)
    refine wpAny_bind (wpAny_mono h2 (fun _ s3 h3 => ?_) fun _ _ z=>z.elim)
    refine wpAny_bind (wpAny_mono h3 (fun ok s4 h4 => ?_) fun _ _ z=>z.elim)
    cases ok with
    | true =>
      rw [if_pos rfl] at h4
      simp only [if_true]
      refine wpAny_bind (wpAny_bind (wpAny_mono h4 (fun x s5 h5 => ?_) fun _ _ z=>z.elim))
      exact wpAny_bind (wpAny_mono h5 (fun _ s6 h6=>wpAny_pure (wpAny_pure ⟨rfl,h6⟩)) fun _ _ z=>z.elim)
    | false =>
      rw [if_neg Bool.false_ne_true] at h4
      simp only [Bool.false_eq_true,if_false]
      first
        | exact wpAny_pure ⟨rfl,h4⟩
        | exact wpAny_bind (wpAny_pure (wpAny_pure ⟨rfl,h4⟩))
theorem runC_app {st:D→R (Option D)}:∀ {l1 l2 rs:List D},runC st (l1++l2)=.ok rs→∃ r1 r2,runC st l1=.ok r1∧runC st l2=.ok r2∧rs=r1++r2
  | [],l2,rs,h=>⟨[],rs,rfl,h,rfl⟩
  | d::l1,l2,rs,h=>by
    rw [List.cons_append] at h
    simp only [runC] at h ⊢
    cases q:st d with
    | ok o =>
      rw [q] at h
      simp only [R.bind] at h ⊢
      cases q2:runC st (l1++l2) with
      | ok r =>
        rw [q2] at h
        obtain ⟨r1,r2,e1,e2,e3⟩:=runC_app q2
        rw [e1]
        cases o with
        | none =>
          have e:r=rs:=by simpa using h
          exact ⟨r1,r2,rfl,e2,by rw [← e,e3]⟩
        | some x =>
          have e:x::r=rs:=by simpa using h
          exact ⟨x::r1,r2,rfl,e2,by rw [← e,e3];rfl⟩
      | ex C=>rw [q2] at h;cases h
      | bad=>rw [q2] at h;cases h
    | ex C=>rw [q] at h;cases h
    | bad=>rw [q] at h;cases h
theorem runC_snoc {st:D→R (Option D)} {l:List D} {d:D} {r1:List D} {o:Option D} (h1:runC st l=.ok r1) (h2:st d=.ok o):runC st (l++[d])=.ok (r1++o.toList):=by
  induction l generalizing r1 with
  | nil =>
    cases h1
    rw [List.nil_append]
    unfold runC
    rw [h2]
    cases o<;>rfl
  | cons x l ih =>
    rw [List.cons_append]
    unfold runC at h1 ⊢
    cases q:st x with
    | ok o' =>
      rw [q] at h1
      simp only [R.bind] at h1 ⊢
      cases q2:runC st l with
      | ok r =>
        rw [q2] at h1
        rw [ih q2]
        cases o'<;>(cases h1;rfl)
      | ex C=>rw [q2] at h1;cases h1
      | bad=>rw [q2] at h1;cases h1
    | ex C=>rw [q] at h1;cases h1
    | bad=>rw [q] at h1;cases h1
theorem flats_app:∀ {a b:List D},D.flats (a++b)=true→D.flats a=true∧D.flats b=true
  | [],b,h=>⟨rfl,h⟩
  | d::a,b,h=>by
    rw [List.cons_append] at h
    have h':d.flat=true∧D.flats (a++b)=true:=by simpa [D.flats] using h
    obtain ⟨h1,h2⟩:=flats_app h'.2
    exact ⟨by simp [D.flats,h'.1,h1],h2⟩
theorem noEx_nex {α:Type} {r:R α} {C:String} (h:noEx r=.ex C):False:=by cases r<;>cases h
theorem noEx_ok {α:Type} {r:R α} {a:α} (h:noEx r=.ok a):r=.ok a:=by
  cases r with
  | ok x=>exact h
  | ex C=>cases h
  | bad=>cases h
theorem stC_ok {c g:E} {ks:List Nat} {δ:Dt} {x:D} {o:Option D} (h:EV.stC c g ks δ x=.ok o):(∃ r,c (inC ks δ x)=.ok (.bl true)∧g (inC ks δ x)=.ok r∧o=some r)∨(c (inC ks δ x)=.ok (.bl false)∧o=none):=by
  unfold EV.stC at h
  cases q:noEx (c (inC ks δ x)) with
  | ok d =>
    rw [q] at h
    have q':=noEx_ok q
    cases d with
    | bl b =>
      cases b with
      | true =>
        simp only [R.bind,truth] at h
        cases q2:noEx (g (inC ks δ x)) with
        | ok r=>rw [q2] at h;cases h;exact .inl ⟨r,q',noEx_ok q2,rfl⟩
        | ex C=>rw [q2] at h;cases h
        | bad=>rw [q2] at h;cases h
      | false=>cases h;exact .inr ⟨q',rfl⟩
    | _=>cases h
  | ex C=>rw [q] at h;cases h
  | bad=>rw [q] at h;cases h
inductive Tst (X':Cx):List Expr→E→Prop
  | nil:Tst X' [] (con (.bl true))
  | one {c:Expr} {g:E}:ST X' c g→Tst X' [c] g
theorem tst_run {X':Cx} {ifs:List Expr} {g:E} (h:Tst X' ifs g) {pins:List (Addr×Obj)} {s:Shared} {σ:L2.St} {H:Hp} {δ:Dt} {k:Bool} (I:Inv X' pins σ H s) (hσ:Stt X'.K X'.mg H σ δ) (hg:g δ=.ok (.bl k)) {E:Value→Shared→Prop} (hE:∀ e s,X'.xe e s→E e s) :
    wpAny (model X'.prog X'.w) X'.A (forIn ifs true fun c r=>if r=true then do let ok ← isTrue c X'.env (eval c X'.env);pure (ForInStep.yield ok) else pure (ForInStep.yield r)) (fun ok s'=>ok=k∧∃ H',Inv X' pins σ H' s'∧Same H H') E s:=by
  cases h with
  | nil=>cases hg;exact wpAny_tests_nil ⟨rfl,H,I,Same.refl _⟩
  | one h =>
    refine wpAny_mono (wpAny_tests_one (E:=X'.xe) (thn (h pins s σ H (fun b H'=>b=k∧Same H H') I ⟨δ,hσ,?_⟩) fun b s' ⟨H',I',e,sm⟩=>⟨e,H',I',sm⟩)) (fun _ _ x=>x) hE
    rw [hg]
    exact fun H' sm=>⟨rfl,sm⟩
section
variable {X:Cx}
set_option maxHeartbeats 2000000 in
theorem comp_core (hc:X.calm=true) {N:List Str} (S:Sc X N) {x:Str} {ksn G:List Str} {ks:List Nat} {elt iter:Expr} {ifs:List Expr} {px pos ps:Pos} {sc:Scope} {git:IT} {gc ge:E} (SC:ScC x ksn G sc)
    (hks:ks.map (fun k=>N.getD k "")=ksn) (hlt:∀ k∈ks,k<N.length) (hcell:∀ y∈ksn,X.env.scope.names.lookup y=some .cell)
    (he:SI X (.Name x px) iter git)
    (htst:∀ C fp s H,Sc (cxC X x ksn sc C fp s H) (x::ksn)→(∀ y∈G,Gb (cxC X x ksn sc C fp s H) y)→Tst (cxC X x ksn sc C fp s H) ifs gc)
    (helt:∀ C fp s H,Sc (cxC X x ksn sc C fp s H) (x::ksn)→(∀ y∈G,Gb (cxC X x ksn sc C fp s H) y)→SE (cxC X x ksn sc C fp s H) elt ge)
    (hs:∀ z,foldedSetIterable iter X.env z=pure z) {use:Option (Value→Sem Unit)} {Qf:Value→Shared→Prop} {Q:VK}
    {pins:List (Addr×Obj)} {s:Shared} {σ:L2.St} {H:Hp} {δ:Dt} (I:Inv X pins σ H s) (hσ:Stt X.K X.mg H σ δ) (h:RQ X σ H (compIf git ks gc ge δ) Q)
    (hfin:∀ (s1:Shared) (Hc:Hp) (D C:Addr) (ys:List V) (rs:List EV.D),compIf git ks gc ge δ=.ok (.lst rs)→EV.D.flats rs=true→H D=none→Hc D=some (.lst ys)→Reps X.K X.mg Hc ys rs→Same H Hc→Q (.ref D) Hc →
      FpOk X pins Hc C→Inv X pins σ Hc s1→(∃ m,s1.heap.Ns C m)→(∀ h',Heap.SameBut C s1.heap h'→Inv X pins σ Hc { s1 with heap:=h' })→compPost (model X.prog X.w) X.A X.xe use Qf (.ref D) C (.ok .next) s1) :
    wpAny (model X.prog X.w) X.A (comprehension (.ListComp elt [⟨.Name x px,iter,ifs,0⟩] sc pos) sc X.env ps (newList []) false (eval iter X.env) use) Qf X.xe s:=by
  have lenks:ksn.length=ks.length:=by rw [← hks,List.length_map]
  have atk:∀ (j:Nat) (y:Str),ksn[j]? = some y→∃ k,ks[j]? = some k∧N[k]? = some y:=fun j y e=>by
    rw [← hks,List.getElem?_map] at e
    cases q:ks[j]? with
    | none=>rw [q] at e;cases e
    | some k =>
      rw [q] at e
      have e':N.getD k ""=y:=Option.some.inj e
      have hk:=hlt k (List.mem_of_getElem? q)
      exact ⟨k,rfl,by rw [← e',List.getD_eq_getElem?_getD,List.getElem?_eq_getElem hk];rfl⟩
  have frec:∀ y,(y,NameKind.free)∈sc.names→∃ c,X.env.cells.lookup y=some c:=fun y hy=>I.ok.has y (.inl (hcell y (SC.all _ hy rfl)))
  have hcomp:∀ ds rs,git δ=.ok ds→ds.length≤100000→runC (EV.stC gc ge ks δ) ds=.ok rs→EV.D.flats rs=true→compIf git ks gc ge δ=.ok (.lst rs):=fun ds rs e1 e2 e3 e4=>by
    unfold compIf
    rw [e1]
    simp only [R.bind]
    rw [if_pos e2,e3]
    simp only [R.bind,flatR]
    rw [if_pos e4]
  refine wpAny_comprehension_free (use:=use) rfl hs (closure_is frec) SC.kind SC.nms ?_
  have sub:∀ y c,(clOf X.env sc.names []).lookup y=some c→X.env.cells.lookup y=some c:=cl_sub frec fun y c e=>nomatch e
  have hq:RI X σ H (git δ) (fun J H'=>Same H H'∧∃ ds,git δ=.ok ds∧WalkI X J H' ds):=by
    unfold compIf at h
    cases r:git δ with
    | ok ds=>exact fun J H' s w=>⟨s,ds,rfl,w⟩
    | ex C=>rw [r] at h;exact h
    | bad=>rw [r] at h;exact h
  refine thn (he pins s σ H _ I ⟨δ,hσ,hq⟩) fun v s1 h1=>thn h1 fun itv s2 h2 => ?_
  obtain ⟨it,fp,tn,J,H2,e,I2,T,st2,f2,sm2,ds,eds,wk⟩:=h2
  subst e
  have hσ2:Stt X.K X.mg H2 σ δ:=hσ.mono sm2
  unfold compIf at h
  rw [eds] at h
  simp only [R.bind] at h
  obtain ⟨hz,rs,ers,hfl,hQ⟩:ds.length≤100000∧∃ rs,runC (EV.stC gc ge ks δ) ds=.ok rs∧D.flats rs=true∧∀ v H',Same H H'→Rep X.K X.mg H' v (.lst rs)→Q v H':=by
    split at h
    · rename_i hz
      refine ⟨hz,?_⟩
      cases r:runC (EV.stC gc ge ks δ) ds with
      | ok rs =>
        rw [r] at h
        simp only [R.bind,flatR] at h
        split at h
        · rename_i hf
          exact ⟨rs,rfl,hf,h⟩
        · exact False.elim h
      | ex C =>
        exfalso
        have:∀ l C,runC (EV.stC gc ge ks δ) l ≠ .ex C:=fun l C=>by
          induction l with
          | nil=>exact fun z=>nomatch z
          | cons a l ih =>
            intro z
            unfold runC at z
            cases q:EV.stC gc ge ks δ a with
            | ok o =>
              rw [q] at z
              simp only [R.bind] at z
              cases q2:runC (EV.stC gc ge ks δ) l with
              | ok r=>rw [q2] at z;cases z
              | ex C'=>exact ih.elim (by rw [q2] at z;cases z;exact q2)
              | bad=>rw [q2] at z;cases z
            | ex C' =>
              unfold EV.stC at q
              cases q3:noEx (gc (inC ks δ a)) with
              | ok d =>
                rw [q3] at q
                cases d with
                | bl b =>
                  cases b with
                  | true =>
                    simp only [R.bind,truth] at q
                    cases q4:noEx (ge (inC ks δ a)) with
                    | ok r=>rw [q4] at q;cases q
                    | ex C''=>exact noEx_nex q4
                    | bad=>rw [q4] at q;cases q
                  | false=>cases q
                | _=>cases q
              | ex C''=>exact noEx_nex q3
              | bad=>rw [q3] at q;cases q
            | bad=>rw [q] at z;cases z
        exact this _ _ r
      | bad=>rw [r] at h;exact False.elim h
    · exact False.elim h
  refine wpAny_newList ?_ (Nat.zero_le _)
  have I3:Inv X pins σ (upd H2 s2.heap.objs.size (.lst [])) { s2 with heap:=s2.heap.push { cls:=.type "list",data:=.seq ([]:List Value).toArray } }:=I2.lnew (t':=s2.toks) .nil (Nat.zero_le _)
  have hnew:H2 s2.heap.objs.size=none:=I2.fresh
  have sm3:Same H2 (upd H2 s2.heap.objs.size (.lst [])):=same_upd hnew _
  generalize hD:s2.heap.objs.size=D at *
  generalize hH3:upd H2 D (.lst [])=H3 at *
  have hD3:H3 D=some (.lst []):=by rw [← hH3];exact upd_same
  have keep3:∀ b o,s2.heap.get? b=some o→(s2.heap.push { cls:=.type "list",data:=.seq ([]:List Value).toArray }).get? b=some o:=fun b o q=>Heap.get?_push_of_some _ q
  have st3:tn 0 (s2.heap.push { cls:=.type "list",data:=.seq ([]:List Value).toArray }):=T.keep 0 _ _ st2 fun b _ o q=>keep3 b o q
  have ne3:∀ b∈fp,b≠D:=fun b hb z=>by
    obtain ⟨o,e,_⟩:=T.obj 0 _ st2 b hb
    exact absurd (Heap.lt_size e) (by rw [z,← hD];exact Nat.lt_irrefl _)
  have f3:∀ b∈fp,FpOk X pins H3 b:=fun b hb=>⟨by rw [← hH3,upd_ne (ne3 b hb)];exact (f2 b hb).1,(f2 b hb).2⟩
  generalize hs3:({ s2 with heap:=s2.heap.push { cls:=.type "list",data:=.seq ([]:List Value).toArray } }:Shared)=s3 at *
  have st3':tn 0 s3.heap:=by rw [← hs3];exact st3
  refine wpAny_newFunctionEnv SC.noc (fun y z=>nomatch z) (fun h4 ns4 sb4 => ?_) SC.kind
  have kp4:∀ b o,s3.heap.get? b=some o→h4.get? b=some o:=fun b o q=>by
    rw [sb4.2 b (Nat.ne_of_lt (Heap.lt_size q))]
    exact Heap.get?_push_of_some _ q
  have nst:∀ b∈fp,b∉frs X.stack:=fun b hb z=>by
    rcases List.mem_cons.mp (I3.stkSub b z) with q | q
    · exact (f3 b hb).2.1 q
    · exact (f3 b hb).2.2.1 q
  have neC:∀ b∈fp,b≠s3.heap.objs.size:=fun b hb=>by
    obtain ⟨ob,e,_⟩:=T.obj 0 _ st3' b hb
    exact Nat.ne_of_lt (Heap.lt_size e)
  have fpcl:∀ b∈fp,∀ y c,(clOf X.env sc.names []).lookup y=some c→c≠b:=fun b hb y c e=>(f3 b hb).2.2.2.2.1 y c (sub y c e)
  have ok4:(cxC X x ksn sc s3.heap.objs.size fp s3 H3).Ok:=by
    have o:=I3.ok
    refine ⟨o.mod,SC.kind,o.glob,o.blt,Nat.le_refl _,fun y z c e1 e2=>o.inj y z c (sub y c e1) (sub z c e2),fun y hy => ?_,fun y c z e=>absurd z Bool.false_ne_true,o.hd,o.frames,.inl rfl,fun b hb=>⟨neC b hb,fpcl b hb⟩,I3.bs,Nat.le_trans o.bsz I3.sz,fun b ob e hb => ?_,fun b hb=>nst b hb,I3.stack,I3.stkFree⟩
    · have hy:(relabel sc X.env).names.lookup y=some .cell∨(relabel sc X.env).names.lookup y=some .free:=hy
      have hf:sc.names.lookup y=some .free:=by
        rcases hy with hy | hy
        · rcases relabel_of hy with q | ⟨q,_⟩
          · exact absurd rfl (SC.noc _ (PySem.mem_of_lookup q))
          · exact q
        · rcases relabel_of hy with q | ⟨_,q⟩
          · exact q
          · cases q
      exact cl_has (.inl (PySem.mem_of_lookup hf))
    · rcases (f3 b hb).2.2.2.1 with q | q
      · exact o.noex b ob e q
      · exact absurd (Heap.lt_size (o.bs b ob e).1) (Nat.not_lt.mpr q)
  have fun4:X.env.scope.kind=.function:=I3.ok.kind
  have S4:Sc (cxC X x ksn sc s3.heap.objs.size fp s3 H3) (x::ksn):=by
    refine ⟨rfl,SC.nd,fun y hy => ?_,SC.dbg⟩
    rcases List.mem_cons.mp hy with z | z
    · subst z;exact .inl (relabel_same (by decide) SC.loc)
    · exact .inr (.inl (relabel_free fun4 (hcell y z) (SC.fre y z)))
  have G4:∀ y∈G,Gb (cxC X x ksn sc s3.heap.objs.size fp s3 H3) y:=fun y hy=>⟨relabel_same (by decide) (SC.glb y hy),(SC.dbgG y hy).1,(SC.dbgG y hy).2⟩
  have E4:=helt s3.heap.objs.size fp s3 H3 S4 G4
  have T4:=htst s3.heap.objs.size fp s3 H3 S4 G4
  have hCn:H3 s3.heap.objs.size=none:=I3.fresh
  have hσ3:Stt X.K X.mg H3 σ δ:=hσ2.mono sm3
  have lenσ3:σ.length=N.length:=by rw [I3.len,S.n]
  have I4:Inv (cxC X x ksn sc s3.heap.objs.size fp s3 H3) [] (none::ks.map fun k=>σ.getD k none) H3 { s3 with heap:=h4,toks:=s3.toks+([]:List (Str×Value)).length }:=by
    refine ⟨ok4,rfl,I3.bare,Un.kept kp4,⟨_,ns4,fun j y v e1 e2 e3 => ?_⟩,fun y c e => ?_,hCn,fun y c e=>I3.freeC y c (sub y c e),fun p hp=>absurd (show p∈([]:List (Addr×Obj)) from hp) (by simp),I3.hok.kept kp4,by show _=(x::ksn).length;rw [List.length_cons,List.length_cons,List.length_map,lenks]⟩
    · cases j with
      | zero=>cases e2
      | succ j =>
        have e1':ksn[j]? = some y:=e1
        obtain ⟨k,ek,eN⟩:=atk j y e1'
        rw [List.getElem?_cons_succ,List.getElem?_map,ek] at e2
        have e2':σ.getD k none=some v:=Option.some.inj e2
        have eσ:σ[k]? = some (some v):=by
          rw [List.getD_eq_getElem?_getD] at e2'
          cases q:σ[k]? with
          | none=>rw [q] at e2';cases e2'
          | some o=>rw [q] at e2';have:o=some v:=e2';rw [this]
        have hy:=List.mem_of_getElem? e1'
        have hyc:=hcell y hy
        obtain ⟨m',hn',hl'⟩:=I3.loc
        obtain ⟨u,ru,lu⟩:=hl' k y v (by rw [S.n];exact eN) eσ (.inr (.inl hyc))
        refine ⟨u,ru,?_⟩
        rcases lu with ⟨k1,_⟩ | ⟨_,c,hcc,ic⟩
        · have:(some NameKind.local)=some .cell:=k1.symm.trans hyc
          cases this
        · obtain ⟨c',hc'⟩:=cl_has (env:=X.env) (cs:=[]) (.inl (PySem.mem_of_lookup (SC.fre y hy)))
          have:c'=c:=by have:=sub y c' hc';rw [hcc] at this;exact (Option.some.inj this).symm
          subst this
          obtain ⟨oc,hoc,hd⟩:=ic
          exact .inr ⟨.inl (relabel_free fun4 hyc (SC.fre y hy)),c',hc',oc,kp4 _ _ hoc,hd⟩
    · obtain ⟨v,oc,hoc,hd⟩:=I3.cell y c (sub y c e)
      exact ⟨v,oc,kp4 _ _ hoc,hd⟩
  have fpc:∀ {Hc:Hp},(∀ b∈fp,Hc b=none)→∀ b∈fp,FpOk (cxC X x ksn sc s3.heap.objs.size fp s3 H3) [] Hc b:=fun {Hc} hn b hb =>
    ⟨hn b hb,neC b hb,nst b hb,.inl hb,fpcl b hb,fun p hp=>absurd (show p∈([]:List (Addr×Obj)) from hp) (by simp)⟩
  have st4:tn 0 h4:=T.keep 0 _ _ st3' fun b _ o q=>kp4 b o q
  have kc2:∀ {Hc:Hp},(∀ b o,b≠D→H3 b=some o→Hc b=some o)→Same H2 Hc:=fun {Hc} kc b o e=>kc b o (fun z=>by rw [z,hnew] at e;cases e) (sm3 b o e)
  have R4:codeAny (model X.prog X.w) X.A (.compLoop (.ListComp elt [⟨.Name x px,iter,ifs,0⟩] sc pos) 0 (.ref it) (.ref D) (cxC X x ksn sc s3.heap.objs.size fp s3 H3).env)
      (compPost (model X.prog X.w) X.A X.xe use Qf (.ref D) s3.heap.objs.size)
      { s3 with heap:=h4,toks:=s3.toks+([]:List (Str×Value)).length }:=by
    refine loop_comp (fun n s'=>∃ i σc Hc ys rsi,Inv (cxC X x ksn sc s3.heap.objs.size fp s3 H3) [] σc Hc s'∧tn i s'.heap∧(∀ b∈fp,Hc b=none)∧n=ds.length - i∧i≤ds.length∧Hc D=some (.lst ys)∧runC (EV.stC gc ge ks δ) (ds.take i)=.ok rsi∧ys.length≤i∧Reps X.K X.mg Hc ys rsi∧(∀ b o,b≠D→H3 b=some o→Hc b=some o)∧σc.tail=(ks.map fun k=>σ.getD k none)) ?_ ds.length
      ⟨0,_,H3,[],[],I4,st4,fun b hb=>(f3 b hb).1,rfl,Nat.zero_le _,hD3,by rw [List.take_zero];rfl,Nat.zero_le _,.nil,fun _ _ _ q=>q,rfl⟩
    rintro n s' ⟨i,σc,Hc,ys,rsi,Ic,st,fr,rfl,hi,hDc,ersi,hyl,hys,kc,tlσ⟩
    have smc:=kc2 kc
    have wkc:=wk Hc smc
    by_cases hlt':i<ds.length
    · have hd:ds[i]? = some ds[i]:=List.getElem?_eq_getElem hlt'
      generalize ds[i]=d at hd
      have etk:ds=ds.take i++(d::ds.drop (i+1)):=by
        have:=List.take_append_drop i ds
        rw [drop_cons_of hd] at this
        exact this.symm
      obtain ⟨r1,r2,er1,er2,ersx⟩:=runC_app (by rw [etk] at ers;exact ers)
      rw [ersi] at er1
      cases er1
      have fl1:EV.D.flats rsi=true:=(flats_app (by rw [ersx] at hfl;exact hfl)).1
      have fl2:EV.D.flats r2=true:=(flats_app (by rw [ersx] at hfl;exact hfl)).2
      obtain ⟨o,eo⟩:∃ o,EV.stC gc ge ks δ d=.ok o:=by
        unfold runC at er2
        cases q:EV.stC gc ge ks δ d with
        | ok o=>exact ⟨o,rfl⟩
        | ex C=>rw [q] at er2;cases er2
        | bad=>rw [q] at er2;cases er2
      have flo:∀ r,o=some r→EV.D.flat r=true:=fun r e=>by
        subst e
        unfold runC at er2
        rw [eo] at er2
        simp only [R.bind] at er2
        cases q:runC (EV.stC gc ge ks δ) (ds.drop (i+1)) with
        | ok z =>
          rw [q] at er2
          have:r::z=r2:=by simpa using er2
          rw [← this] at fl2
          have:EV.D.flat r=true∧EV.D.flats z=true:=by simpa [EV.D.flats] using fl2
          exact this.1
        | ex C=>rw [q] at er2;cases er2
        | bad=>rw [q] at er2;cases er2
      have ertk:runC (EV.stC gc ge ks δ) (ds.take (i+1))=.ok (rsi++o.toList):=by
        rw [List.take_add_one,hd]
        exact runC_snoc ersi eo
      refine thn (T.item (cxC X x ksn sc s3.heap.objs.size fp s3 H3) rfl rfl rfl hc i [] s' σc Hc (fun _ _=>False) Ic (fpc fr) st (wkc.1 i d hd).1) fun r s1 ⟨u,hr,h4'⟩ => ?_
      subst hr
      refine thn h4' fun _ s5 ⟨v,H5,I5,r5,yl,st5,fr5⟩ => ?_
      obtain ⟨e5,rd⟩:=(wkc.1 i d hd).2 v H5 yl
      subst e5
      have I5':=I5.pinned (fpc fr5) (T.obj _ _ st5)
      have pinf:∀ {σ7:L2.St} {H7:Hp} {s7:Shared},Inv (cxC X x ksn sc s3.heap.objs.size fp s3 H3) ([]++pinsAt fp s5.heap) σ7 H7 s7→∀ b∈fp,∀ o,s5.heap.get? b=some o→s7.heap.get? b=some o∧H7 b=none:=fun {σ7 H7 s7} I7 b hb o q =>
        have z:=I7.pin (b,o) (List.mem_append_right _ (List.mem_append_right _ (mem_pinsAt hb q)))
        ⟨z.1,z.2.1⟩
      have lenσ:σc.length=ks.length+1:=by
        have:=Ic.len
        rw [this]
        show (x::ksn).length=_
        rw [List.length_cons,lenks]
      have hxl:(cxC X x ksn sc s3.heap.objs.size fp s3 H3).env.scope.names.lookup x=some .local:=relabel_same (by decide) SC.loc
      refine thn (pg_name (X:=(cxC X x ksn sc s3.heap.objs.size fp s3 H3)) (i:=0) (x:=x) (by rw [S4.n];exact S4.nd) rfl (.inl hxl) (.inr hxl) _ s5 σc _ v u (fun σ6 H6=>σ6=σc.set 0 (some v)∧H6=H5) I5' r5 ⟨rfl,rfl⟩) fun _ s6 ⟨σ6,H6,I6,e6,e6'⟩ => ?_
      subst e6 e6'
      have hσ6:Stt X.K X.mg H6 (σc.set 0 (some v)) (inC ks δ d):=by
        unfold inC
        refine ⟨by rw [List.length_set,lenσ,List.length_cons,List.length_map],fun j d' e nown => ?_⟩
        cases j with
        | zero =>
          have e':d=d':=by simpa using e
          subst e'
          exact ⟨v,by rw [List.getElem?_set_self (by omega)],rd.mono smc⟩
        | succ j =>
          rw [List.getElem?_cons_succ,List.getElem?_map] at e
          cases ek:ks[j]? with
          | none=>rw [ek] at e;cases e
          | some k =>
            rw [ek] at e
            have e':δ.getD k none=some d':=Option.some.inj e
            have eδ:δ[k]? = some (some d'):=by
              rw [List.getD_eq_getElem?_getD] at e'
              cases q:δ[k]? with
              | none=>rw [q] at e';cases e'
              | some o=>rw [q] at e';have:o=some d':=e';rw [this]
            obtain ⟨w,ew',rw'⟩:=hσ2.2 k d' eδ nown
            refine ⟨w,?_,rw'.mono smc⟩
            rw [List.getElem?_set_ne (by omega)]
            have ht:σc.tail[j]? = some (some w):=by
              rw [tlσ,List.getElem?_map,ek]
              show some (σ.getD k none)=_
              rw [List.getD_eq_getElem?_getD,ew']
              rfl
            rw [List.getElem?_tail] at ht
            exact ht
      have tl6:(σc.set 0 (some v)).tail=(ks.map fun k=>σ.getD k none):=by
        rw [← tlσ]
        cases σc<;>rfl
      obtain ⟨k,ek,kcase⟩:∃ k,gc (inC ks δ d)=.ok (.bl k)∧((k=true∧∃ r,ge (inC ks δ d)=.ok r∧o=some r)∨(k=false∧o=none)):=by
        rcases stC_ok eo with ⟨r,q1,q2,q3⟩ | ⟨q1,q2⟩
        · exact ⟨true,q1,.inl ⟨rfl,r,q2,q3⟩⟩
        · exact ⟨false,q1,.inr ⟨rfl,q2⟩⟩
      refine thn (tst_run T4 I6 hσ6 ek (E:=fun _ _=>False) fun _ _ z=>z) fun ok s7 ⟨eok,H7,I7,sm7⟩ => ?_
      subst eok
      rcases kcase with ⟨rfl,r,eg,rfl⟩ | ⟨rfl,rfl⟩
      · rw [if_pos rfl]
        refine thn (E4 _ s7 _ H7 (fun v8 H8=>Same H7 H8∧Rep X.K X.mg H8 v8 r) I7 ⟨inC ks δ d,hσ6.mono sm7,by rw [eg];exact fun v8 H8 sm rp=>⟨sm,rp⟩⟩) fun u8 s8 ⟨v8,H8,I8,r8,sm8,rp8⟩ => ?_
        have sm78:=sm7.trans sm8
        have hD8:H8 D=some (.lst ys):=sm78 _ _ hDc
        refine thn (mt_append (X:=(cxC X x ksn sc s3.heap.objs.size fp s3 H3)) _ s8 _ H8 (.ref D) [v8] (.ref D) [u8] (fun _ H9=>H9=upd H8 D (.lst (ys++[v8]))) I8 rfl (.cons r8 .nil) ⟨D,ys,v8,rfl,rfl,hD8,by rw [sizeLine_eq];omega,rfl⟩) fun _ s9 ⟨_,H9,I9,_,e9⟩ => ?_
        subst e9
        have k9:NoL H8 (upd H8 D (.lst (ys++[v8]))):=fun b ob e n _=>by
          rw [upd_ne fun z => ?_];exact e
          rw [z,hD8] at e
          exact n ys (Option.some.inj e).symm
        have k9':∀ b ob,b≠D→H8 b=some ob→upd H8 D (.lst (ys++[v8])) b=some ob:=fun b ob hb q=>by rw [upd_ne hb];exact q
        refine ⟨ds.length - (i+1),by omega,i+1,_,_,ys++[v8],rsi++[r],I9.unpinned,T.keep _ _ _ st5 (fun b hb o q=>(pinf I9 b hb o q).1),fun b hb => ?_,rfl,by omega,upd_same,ertk,by rw [List.length_append];simp;omega,?_,fun b ob hb q=>k9' b ob hb (sm78 _ _ (kc b ob hb q)),tl6⟩
        · obtain ⟨ob,e,_⟩:=T.obj _ _ st5 b hb
          exact (pinf I9 b hb ob e).2
        · exact (reps_nol k9 fl1 (hys.mono sm78)).append (.cons (rep_nol k9 (flo r rfl) rp8) .nil)
      · rw [if_neg Bool.false_ne_true]
        refine ⟨ds.length - (i+1),by omega,i+1,_,_,ys,rsi,I7.unpinned,T.keep _ _ _ st5 (fun b hb o q=>(pinf I7 b hb o q).1),fun b hb => ?_,rfl,by omega,sm7 _ _ hDc,by rw [ertk];simp,by omega,hys.mono sm7,fun b ob hb q=>sm7 _ _ (kc b ob hb q),tl6⟩
        obtain ⟨ob,e,_⟩:=T.obj _ _ st5 b hb
        exact (pinf I7 b hb ob e).2
    · have ei:i=ds.length:=by omega
      subst ei
      refine thn (T.done (cxC X x ksn sc s3.heap.objs.size fp s3 H3) rfl rfl rfl hc ds.length [] s' σc Hc (fun _ _=>False) Ic (fpc fr) st (wkc.2 _ (Nat.le_refl _))) fun r s1 ⟨hr,I9⟩ => ?_
      subst hr
      obtain ⟨m,hns,_⟩:=id I9.loc
      have I10:∀ h',Heap.SameBut s3.heap.objs.size s1.heap h'→Inv X pins σ Hc { s1 with heap:=h' }:=fun h' sb=>I3.call' (s':={ s1 with heap:=h' }) (ch:=fp) I9.os (un_but I9.base (Nat.le_refl _) sb) (hok_but I9.hok I9.free sb) I9.bare fun b hb =>
        ⟨(f3 b hb).2.2.2.1,(f3 b hb).2.1,(f3 b hb).2.2.2.2.1,(f3 b hb).2.2.2.2.2⟩
      rw [List.take_of_length_le (Nat.le_refl _),ers] at ersi
      cases ersi
      have hHD:H D=none:=by
        cases q:H D with
        | none=>rfl
        | some o=>have:=sm2 D o q;rw [hnew] at this;cases this
      exact hfin s1 Hc D s3.heap.objs.size ys rs (hcomp ds rs eds hz ers hfl) hfl hHD hDc hys (sm2.trans smc) (hQ _ _ (sm2.trans smc) (.lst (SqL.of hDc) hys)) (I3.fpOk (Nat.le_refl _) I9.free)
        (I10 s1.heap (Heap.SameBut.refl _ _)) ⟨m,hns⟩ I10
  exact codeAny_compStart_list R4 (T.self _ 0 _ _ _ st4 R4)
theorem e_compIf (hc:X.calm=true) {N:List Str} (S:Sc X N) {x:Str} {ksn G:List Str} {ks:List Nat} {elt iter:Expr} {ifs:List Expr} {px pos:Pos} {sc:Scope} {git:IT} {gc ge:E} (SC:ScC x ksn G sc)
    (hks:ks.map (fun k=>N.getD k "")=ksn) (hlt:∀ k∈ks,k<N.length) (hcell:∀ y∈ksn,X.env.scope.names.lookup y=some .cell)
    (he:SI X (.Name x px) iter git)
    (htst:∀ C fp s H,Sc (cxC X x ksn sc C fp s H) (x::ksn)→(∀ y∈G,Gb (cxC X x ksn sc C fp s H) y)→Tst (cxC X x ksn sc C fp s H) ifs gc)
    (helt:∀ C fp s H,Sc (cxC X x ksn sc C fp s H) (x::ksn)→(∀ y∈G,Gb (cxC X x ksn sc C fp s H) y)→SE (cxC X x ksn sc C fp s H) elt ge)
    (hs:∀ z,foldedSetIterable iter X.env z=pure z:=by intro _;rfl):SE X (.ListComp elt [⟨.Name x px,iter,ifs,0⟩] sc pos) (compIf git ks gc ge):=by
  intro pins s σ H Q I ⟨δ,hσ,h⟩
  rw [eval_ListComp]
  exact comp_core hc S SC hks hlt hcell he htst helt hs (use:=none) I hσ h fun s1 Hc D C ys rs e1 e2 e3 e4 e5 e6 q fC I1 ⟨m,ns⟩ turn=>⟨m,ns,fun h' sb=>⟨.ref D,Hc,turn h' sb,rfl,q⟩⟩
theorem e_comp (hc:X.calm=true) {N:List Str} (S:Sc X N) {x:Str} {ksn G:List Str} {ks:List Nat} {elt iter:Expr} {px pos:Pos} {sc:Scope} {git:IT} {ge:E} (SC:ScC x ksn G sc)
    (hks:ks.map (fun k=>N.getD k "")=ksn) (hlt:∀ k∈ks,k<N.length) (hcell:∀ y∈ksn,X.env.scope.names.lookup y=some .cell)
    (he:SI X (.Name x px) iter git)
    (helt:∀ C fp s H,Sc (cxC X x ksn sc C fp s H) (x::ksn)→(∀ y∈G,Gb (cxC X x ksn sc C fp s H) y)→SE (cxC X x ksn sc C fp s H) elt ge)
    (hs:∀ z,foldedSetIterable iter X.env z=pure z:=by intro _;rfl):SE X (.ListComp elt [⟨.Name x px,iter,[],0⟩] sc pos) (comp git ks ge) :=
  e_compIf hc S SC hks hlt hcell he (fun _ _ _ _ _ _=>.nil) helt hs
end
end ES
namespace ES
open PySem PySem.Spec PyProof.Rows L2 EV
unseal SE ST SW SA SS SSs SI
structure GC (X:Cx) (x:String) (d:D):Prop where
  ex:∃ v u,X.mg x=some u∧RelV v u∧∀ H,Rep X.K X.mg H v d
section
variable {X:Cx} {pos p:Pos} {x:String} {d:D} {e e2:Expr} {g:E}
theorem e_gC (G:Gb X x) (h:GC X x d):SE X (.Name x pos) (con d):=by
  obtain ⟨v,u,hm,r,hr⟩:=h.ex
  exact e_con (pe_glob (v:=v) G.g hm r G.d) hr
theorem gc_strs {a:Addr} {dd:Option Addr} {ss:List String} {its:Array Value} {n:Nat} {sl:Array (Option Value)} (hm:X.mg x=some (.ref a)) (hk:X.K.lookup a=some ⟨.type "tuple",dd,.seq its n,sl⟩) (hi:Vals (ss.map fun s=>V.str (Str.ofString s)) its.toList) (hz:its.size≤1000):GC X x (.tup (ss.map fun s=>D.str (Str.ofString s))):=by
  refine ⟨.ref a,.ref a,hm,rfl,fun H=>.tup (.inr ⟨_,its,n,hk,rfl,rfl,Nat.le_of_lt (small1000 hz),hi⟩) ?_⟩
  clear hi
  induction ss with
  | nil=>exact .nil
  | cons s r ih=>exact .cons (.str _) ih
theorem vals_strs:∀ {ss:List String} {ts:List Tok} {its:List Value},its=(ss.zip ts).map (fun p=>Value.str (Str.ofString p.1) p.2)→ts.length=ss.length→Vals (ss.map fun s=>V.str (Str.ofString s)) its
  | [],_,_,e,_=>by subst e;exact .nil
  | s::r,[],_,_,h=>by simp at h
  | s::r,t::ts,_,e,h=>by
    subst e
    exact .cons ⟨t,rfl⟩ (vals_strs (ts:=ts) rfl (by simpa using h))
theorem any_kit {cs:List D} {dx:D} {t:Value} {k:Bool} (hI:∀ c∈cs,Isi X c) (ht:tyV X.mg dx=some t) {us:List Value} (hu:Paired (fun (c:D) (u:Value)=>clsV X.mg c=some u) cs us) (h:isiAny dx cs=.ok (.bl k)):PySem.W.kitAny X.K t us=some k:=by
  induction hu generalizing k with
  | nil=>cases h;rfl
  | @cons c u cs us hc hr ih =>
    unfold isiAny at h
    rcases bIsi_ok (ds:=[dx,c]) with ⟨d',c',k',e0,e'⟩ | e'
    · cases e0
      rw [e'] at h
      have h1:=hI c (.head _) dx k' t u e' ht hc
      unfold PySem.W.kitAny
      rw [h1]
      cases k' with
      | true=>cases h;rfl
      | false=>exact ih (fun c hc=>hI c (.tail _ hc)) h
    · rw [e'] at h;cases h
theorem isiAny_ok {d:D}:∀ {cs:List D},(∃ k,isiAny d cs=.ok (.bl k))∨isiAny d cs=.bad
  | []=>.inl ⟨false,rfl⟩
  | c::r=>by
    unfold isiAny
    rcases bIsi_ok (ds:=[d,c]) with ⟨_,_,k',_,e'⟩ | e'
    · rw [e']
      cases k' with
      | true=>exact .inl ⟨true,rfl⟩
      | false=>exact isiAny_ok (cs:=r)
    · rw [e'];exact .inr rfl
theorem cls_vals {H:Hp}:∀ {cs:List D} {xs:List V} {us:List Value},(∀ c∈cs,∃ n,c=.cls n∨c=.ty n)→Reps X.K X.mg H xs cs→Vals xs us→Paired (fun (c:D) (u:Value)=>clsV X.mg c=some u) cs us
  | [],_,_,_,.nil,.nil=>.nil
  | c::cs,_,_,hc,.cons r rs,.cons v vs=>by
    refine .cons ?_ (cls_vals (fun c h=>hc c (.tail _ h)) rs vs)
    obtain ⟨n,rfl | rfl⟩:=hc c (.head _)
    · cases r with | cls h=>cases v;exact h
    · cases r;cases v;rfl
theorem exc_knownT {n:String}:∀ {cs:List D} {k:Bool},cs≠[]→isiAny (.exc n) cs=.ok (.bl k)→excNames.contains n=true
  | [],_,h,_=>absurd rfl h
  | c::r,k,_,h=>by
    unfold isiAny at h
    rcases bIsi_ok (ds:=[.exc n,c]) with ⟨_,_,k',e0,e'⟩ | e'
    · cases e0;exact exc_known e'
    · rw [e'] at h;cases h
theorem c_isiT {cs:List D} (hcs:cs≠[]) (hk:∀ c∈cs,∃ n,c=.cls n∨c=.ty n) (hI:∀ c∈cs,Isi X c) (hE:ExcKit X):CallR X (.builtin "isinstance") (fun vs H Q=>∃ dx d,Reps X.K X.mg H vs [dx,.tup cs]∧isiAny dx cs=.ok d∧∀ v H',Same H H'→Rep X.K X.mg H' v d→Q v H'):=by
  intro pins s σ H xs us Q I rs ⟨dx,d,r,e,q⟩
  rcases isiAny_ok (d:=dx) (cs:=cs) with ⟨k,e'⟩ | e'<;>rw [e'] at e<;>cases e
  obtain ⟨v,v',rfl,r1,r2⟩:=reps2 r
  cases rs with
  | cons h1 h2 =>
    cases h2 with
    | cons h2 h3 =>
      cases h3
      rename_i u w
      have fin:∀ tk,EP X pins σ Q (.bool k) { s with toks:=tk }:=fun tk=>⟨.bl k,H,I.tok tk,rfl,q _ _ (Same.refl _) (.bl k)⟩
      cases r2 with
      | @tup tp ys _ hq rr =>
        cases (show w=Value.ref tp from h2)
        obtain ⟨its,rv,⟨ot,g1,g2,nt,g3⟩,_⟩:=I.tuple hq
        obtain ⟨ct,dt,tt,slt⟩:=ot
        simp only at g2 g3
        subst g2 g3
        have ka:∀ t,tyV X.mg dx=some t→PySem.W.kitAny X.K t its=some k:=fun t ht=>any_kit hI ht (cls_vals hk rr rv) e'
        cases r1 with
        | non=>cases (show u=Value.none from h1);exact PySem.W.kia_tup PySem.W.kitx_none I.kIn True.intro g1 (ka _ rfl) (fun z=>nomatch z) fin
        | bl y=>cases (show u=Value.bool y from h1);exact PySem.W.kia_tup PySem.W.kitx_bool I.kIn True.intro g1 (ka _ rfl) (fun z=>nomatch z) fin
        | int i=>obtain ⟨t,z⟩:=(show ∃ t,u=Value.int i t from h1);cases z;exact PySem.W.kia_tup PySem.W.kitx_int I.kIn True.intro g1 (ka _ rfl) (fun z=>nomatch z) fin
        | str y=>obtain ⟨t,z⟩:=(show ∃ t,u=Value.str y t from h1);cases z;exact PySem.W.kia_tup PySem.W.kitx_str I.kIn True.intro g1 (ka _ rfl) (fun z=>nomatch z) fin
        | @tup a ys ds hq rr =>
          cases (show u=Value.ref a from h1)
          obtain ⟨its',_,⟨o,q1,q2,_⟩,_⟩:=I.tuple hq
          exact PySem.W.kia_tup PySem.W.kitx_tuple I.kIn ⟨o,q1,q2⟩ g1 (ka _ rfl) (fun z=>nomatch z) fin
        | @lst a ys ds hq rr =>
          cases (show u=Value.ref a from h1)
          obtain ⟨its',_,⟨o,n,q1,q2,_⟩,_⟩:=I.list hq
          exact PySem.W.kia_tup PySem.W.kitx_list I.kIn ⟨o,q1,q2⟩ g1 (ka _ rfl) (fun z=>nomatch z) fin
        | @exc a C n hn hq =>
          cases (show u=Value.ref a from h1)
          exact PySem.W.kia_tup (hE a C n (exc_knownT hcs e') hn) I.kIn (I.hok a _ hq).1 g1 (ka _ hn) (fun z=>nomatch z) fin
        | _ =>
          cases cs with
          | nil=>exact absurd rfl hcs
          | cons c r=>obtain ⟨n,rfl | rfl⟩:=hk c (.head _)<;>cases e'
theorem evs_con {δ:Dt}:∀ {cs:List D},evs (cs.map con) δ=.ok cs
  | []=>rfl
  | c::r=>by rw [List.map_cons];unfold evs;rw [evs_con (cs:=r)];rfl
theorem e_isiT {cs:List D} (hcs:cs≠[]) (hk:∀ c∈cs,∃ n,c=.cls n∨c=.ty n) (hI:∀ c∈cs,Isi X c) (hE:ExcKit X) (G:Gb X "isinstance") (hm:X.mg "isinstance"=none) (ha:SE X e g) (hb:SE X e2 (tupE (cs.map con)))
    (hs:starEach [e,e2] X.env=(false,eval e X.env)::starEach [e2] X.env:=by rfl) (hs2:starEach [e2] X.env=[(false,eval e2 X.env)]:=by rfl) (hpl:(backTo pos (starEach [e2] X.env)).any (·.1)=false:=by rfl) :
    SE X (.Call (.Name "isinstance" p) [e,e2] [] pos) (EV.call bIsiT [g,con (.tup cs)]) :=
  PE.weak (pe_callB (c_isiT hcs hk hI hE) G.g hm PyProof.Rows.boot_isinstance (a_cons ha (a_cons hb a_nil hs2) hs) G.n G.d hs hpl) fun σ H Q ⟨δ,hσ,h⟩=>⟨δ,hσ,by
    cases r:g δ with
    | ok d =>
      have e1:evs [g,tupE (cs.map con)] δ=.ok [d,.tup cs]:=by simp [evs,r,tupE,evs_con,R.bind]
      have e2:evs [g,con (.tup cs)] δ=.ok [d,.tup cs]:=by simp [evs,r,con,R.bind]
      unfold EV.call at h
      rw [e2] at h
      rw [e1]
      refine fun vs H' s rs => ?_
      have h':RQ X σ H' (isiAny d cs) Q:=RQ.mono s h
      rcases isiAny_ok (d:=d) (cs:=cs) with ⟨k,e'⟩ | e'
      · rw [e'] at h';exact ⟨d,_,rs,e',h'⟩
      · rw [e'] at h';exact False.elim h'
    | ex C =>
      have e1:evs [g,tupE (cs.map con)] δ=.ex C:=by simp [evs,r,R.bind]
      have e2:evs [g,con (.tup cs)] δ=.ex C:=by simp [evs,r,R.bind]
      unfold EV.call at h
      rw [e2] at h
      rw [e1]
      exact h
    | bad =>
      have e2:evs [g,con (.tup cs)] δ=.bad:=by simp [evs,r,R.bind]
      unfold EV.call at h
      rw [e2] at h
      exact False.elim h⟩
end
section
variable {X:Cx} {x y:Str} {ksn:List Str} {sc:Scope} {C:Addr} {fp:List Addr} {s:Shared} {H:Hp} {f:List D→R D} {cn m:String} {F:List D→R D}
end
def clsBody:Stmt→List Stmt
  | .ClassDef _ _ _ b _ _ _ _ _ _ _=>b
  | _=>[]
end ES
namespace ES
open EV
theorem isis_nil {X:L2.Cx}:∀ c∈([]:List D),Isi X c:=fun _ h=>nomatch h
theorem isis_cons {X:L2.Cx} {c:D} {cs:List D} (h:Isi X c) (hs:∀ c∈cs,Isi X c):∀ c'∈c::cs,Isi X c':=fun c' hc=>(List.mem_cons.mp hc).elim (fun e=>e▸h) (hs c')
end ES
namespace ES
open PySem PySem.Spec PyProof.Rows L2 EV
unseal SE ST SW SA SS SSs SI
def ROp (X:Cx) (σ:L2.St) (H:Hp) (r:R (Option Int)) (Q:Option Int→Hp→Prop):Prop:=match r with
  | .ok o=>∀ H',Same H H'→Q o H'
  | .ex C=>∀ Ca,X.mg C=some (.ref Ca)→∀ H',Same H H'→ew X Ca σ H'
  | .bad=>False
def tPo (X:Cx) (g:Option E):TO:=fun σ H Q=>∃ δ,Stt X.K X.mg H σ δ∧ROp X σ H (part g δ) Q
@[irreducible] noncomputable def SO (X:Cx) (e:Option Expr) (g:Option E):Prop:=PO X e (tPo X g)
unseal SO
section
variable {X:Cx} {tg e a:Expr} {lo hi:Option Expr} {g:E} {gl gu:Option E} {σ:L2.St} {H H1:Hp} {pos p2:Pos}
theorem PO.weak {o:Option Expr} {t t':TO} (h:PO X o t) (w:∀ σ H Q,t' σ H Q→t σ H Q):PO X o t':=fun pins s σ H Q I q=>h pins s σ H Q I (w σ H Q q)
theorem po_none':SO X none none:=PO.weak po_none fun σ H Q ⟨δ,hσ,q⟩=>q H (Same.refl _)
theorem po_some' (h:SE X e g):SO X (some e) (some g):=PO.weak (po_some h) fun σ H Q ⟨δ,hσ,q⟩=>⟨δ,hσ,by
  simp only [EV.part] at q
  cases r:g δ with
  | ok d =>
    rw [r] at q
    cases d with
    | int i=>exact fun v H' s r=>by cases r;exact ⟨i,rfl,q H' s⟩
    | _=>exact False.elim q
  | ex C=>rw [r] at q;exact q
  | bad=>rw [r] at q;exact q⟩
theorem ROp.bind {r:R (Option Int)} {f:Option Int→R D} {Q:VK} (h:RQ X σ H (r.bind f) Q):ROp X σ H r (fun o H'=>Same H H'∧RQ X σ H' (f o) Q):=by
  cases r with
  | ok d=>exact fun H' s=>⟨s,h.mono s⟩
  | ex C=>exact h
  | bad=>exact h
theorem ROp.to {r:R (Option Int)} {Q Q':Option Int→Hp→Prop} (h:ROp X σ H r Q) (g:∀ o H',Same H H'→Q o H'→Q' o H'):ROp X σ H r Q':=by
  cases r with
  | ok d=>exact fun H' s=>g d H' s (h H' s)
  | ex C=>exact h
  | bad=>exact h
end
theorem all16 {P:String→Prop} (h0:P "MillError") (h1:P "NoSize") (h2:P "NoBits") (h3:P "NoParts") (h4:P "NoRank") (h5:P "NotFinite") (h6:P "NoWay") (h7:P "NoFlags") (h8:P "NoFraction") (h9:P "Unlike") (h10:P "Empty") (h11:P "NoLeft") (h12:P "NoText") (h13:P "NoRow") (h14:P "NoName") (h15:P "Stopped"):∀ n∈excNames,P n:=by
  intro n hn
  simp only [excNames,List.mem_cons,List.not_mem_nil,or_false] at hn
  rcases hn with rfl | rfl | rfl | rfl | rfl | rfl | rfl | rfl | rfl | rfl | rfl | rfl | rfl | rfl | rfl | rfl
  all_goals assumption
end ES
namespace ES
open PySem PySem.Spec PyProof.Rows L2 EV
unseal SE ST SW SA SS SSs SI SO
section
variable {X:Cx} {tg:Expr} {H:Hp} {a b c:Expr} {ga gb gc:E}
end
theorem fn_bad {P:Program} {w:World} {K:PySem.W.Frag} {mg:Str→Option Value} {base:Heap} {CX:CXT} {k:Nat} {f:Addr} {fd:FuncData} {ps:List Str}:FnOk P w K mg base CX k f fd ps (spP K mg fun _=>.bad) :=
  ⟨fun vs H Q E ⟨ds,rs,h⟩=>False.elim h,fun A outer s H args us vs Q E hr he hb hv ⟨ds,rs,h⟩=>False.elim h⟩
theorem up1 {P:Program} {w:World} {K:PySem.W.Frag} {mg:Str→Option Value} {base:Heap} {CX:CXT} {i j:Nat} {f:Addr} {fd:FuncData} {ps:List Str} {sp:Sp} (F:FnOk P w K mg base CX (i+j+1) f fd ps sp):FnOk P w K mg base CX (i+1+j) f fd ps sp:=F.mono (by omega)
end ES
namespace ES
open PySem PySem.Spec PyProof.Rows L2 EV
unseal SE ST SW SA SS SSs SI SO
section
variable {X:Cx} {N:List Str} {H:Hp} {σ:L2.St} {δ:Dt} {os:Os}
variable {e:Expr} {g:E} {pos:Pos} {st:Stmt} {gs:S}
end
end ES
namespace ES
open PySem PySem.Spec PyProof.Rows L2 EV
unseal SE ST SW SA SS SSs SI SO
section
variable {X:Cx} {N:List Str} {H:Hp} {σ:L2.St} {δ:Dt} {os:Os}
variable {e c k v:Expr} {g gc gk gv:E} {pos:Pos} {st:Stmt} {body els:List Stmt} {gs gb ge:S}
end
end ES
namespace ES
open PySem PySem.Spec PyProof.Rows L2 EV
unseal SE ST SW SA SS SSs SI SO
def OQF (X:Cx) (D:Ends) (F:Hp):O→Prop
  | .rt (.lst rs)=>∀ a xs H,Same F H→F a=none→H a=some (.lst xs)→Reps X.K X.mg H xs rs→EV.D.flats rs=true→D.rt (.ref a) H
  | .rt _=>False
  | o=>OQ X D F o
def tSF (X:Cx) (g:S):TS:=fun D σ H=>∃ δ os,StO X H σ δ os∧OQF X D (hide H os) (g δ)
@[irreducible] noncomputable def SSF (X:Cx) (st:List Stmt) (g:S):Prop:=PSs X st (tSF X g)
unseal SSF
section
variable {X:Cx} {N:List Str}
variable {st:Stmt} {rest:List Stmt} {gs gr:S} {e:Expr} {g:E} {pos:Pos}
end
def spF (K:PySem.W.Frag) (mg:Str→Option Value) (f:List D→R D):Sp:=fun vs H Q E=>∃ ds,Reps K mg H vs ds∧match f ds with
  | .ok (.lst rs)=>∀ a xs H',Same H H'→H a=none→H' a=some (.lst xs)→Reps K mg H' xs rs→EV.D.flats rs=true→Q (.ref a) H'
  | .ex C=>∀ Ca,mg C=some (.ref Ca)→∀ H',Same H H'→E (.ref Ca) none H'
  | _=>False
structure FnF (P:Program) (w:World) (K:PySem.W.Frag) (mg:Str→Option Value) (base:Heap) (x:Str) (k:Nat) (f:List D→R D):Prop where
  ex:∃ fa fd ps,FnOk P w K mg base (CXF P w) k fa fd ps (spF K mg f)∧mg x=some (.ref fa)∧PySem.W.keepIn K (.ref fa)=true∧Binds K fd ps []
structure CalleeF (X:Cx) (x:Str) (f:List D→R D):Prop where
  ex:∃ k fa fd ps,FnOk X.prog X.w X.K X.mg X.base (CXF X.prog X.w) k fa fd ps (spF X.K X.mg f)∧Room k X.A∧X.mg x=some (.ref fa)∧PySem.W.keepIn X.K (.ref fa)=true∧Binds X.K fd ps []
section
variable {X:Cx} {N:List Str} {x:Str} {f:List D→R D} {e:Expr} {es:List Expr} {gs:List E} {p pos:Pos} {g:E}
end
end ES
namespace EV
def boolsOf:List D→Option (List Bool)
  | []=>some []
  | .bl b::r=>(boolsOf r).map (b::·)
  | _=>none
end EV
namespace ES
open PySem PySem.Spec PyProof.Rows L2 EV
unseal SE ST SW SA SS SSs SI SO
section
variable {X:Cx} {N:List Str} {e:Expr} {g:E} {pos:Pos}
end
end ES
namespace ES
open PySem PySem.Spec PyProof.Rows L2 EV
unseal SE ST SW SA SS SSs SI SO
section
variable {prog:Program} {w:World} {A:Around} {R:Result→Shared→Prop} {I:Addr} {fp wr:List Addr} {n:Nat} {P:Nat→Value→Prop} {St:Nat→Heap→Prop}
end
section
variable {prog:Program} {w:World} {A:Around} {E:Value→Shared→Prop} {s:Shared} {l:Addr} {xs:Array (Int×Tok)}
end
section
variable {X:Cx} {N:List Str} {e:Expr} {g:E} {pos:Pos}
end
end ES
namespace ES
open PySem PySem.Spec PyProof.Rows L2 EV
unseal SE ST SW SA SS SSs SI SO
section
variable {X:Cx} {N:List Str} {e:Expr} {g:E} {pos:Pos}
theorem bools_vals {H:Hp}:∀ {xs:List V} {ds:List D} {bs:List Bool} {us:List Value},boolsOf ds=some bs→Reps X.K X.mg H xs ds→Vals xs us→us=bs.map Value.bool
  | _,[],_,_,e,.nil,.nil=>by cases e;rfl
  | _,.bl b::r,bs,_,e,.cons h t,.cons h' t'=>by
    cases h
    unfold boolsOf at e
    cases q:boolsOf r with
    | none=>rw [q] at e;cases e
    | some ms =>
      rw [q] at e
      have e':b::ms=bs:=Option.some.inj e
      subst e'
      cases h'
      rw [bools_vals q t t',List.map_cons]
  | _,.non::_,_,_,e,_,_=>by cases e
  | _,.int _::_,_,_,e,_,_=>by cases e
  | _,.str _::_,_,_,e,_,_=>by cases e
  | _,.tup _::_,_,_,e,_,_=>by cases e
  | _,.lst _::_,_,_,e,_,_=>by cases e
  | _,.own _::_,_,_,e,_,_=>by cases e
  | _,.ty _::_,_,_,e,_,_=>by cases e
  | _,.cls _::_,_,_,e,_,_=>by cases e
  | _,.exc _::_,_,_,e,_,_=>by cases e
  | _,.ins _ _::_,_,_,e,_,_=>by cases e
end
end ES
namespace ES
open PySem PySem.Spec PyProof.Rows L2 EV
structure DA (K:PySem.W.Frag) (n:Str) (st:Stmt):Prop where
  ex:∃ f fd,PySem.W.nsIn K mainGlobals n=some (some (.ref f))∧Fun K n n st f fd
theorem da_mk {K:PySem.W.Frag} {n:Str} {st:Stmt} {f:Addr} {oc:Value} {od an:Option Addr} {osl:Array (Option Value)} {kV doc pm cdv ct:Value} (a:PySem.W.nsIn K mainGlobals n=some (some (.ref f))) (l:K.lookup f=some ⟨oc,od,.func (PySem.W.fnOf n n (defArgs st) (defBody st) (defScope st) .none kV doc pm an cdv ct),osl⟩)
    (c:PySem.W.codeIn K cdv n=true) (k:PySem.W.keepIn K (.ref f)=true):DA K n st:=⟨_,_,a,fun_mk l c k⟩
theorem DA.fn {P:Program} {w:World} {K:PySem.W.Frag} {h:Heap} {mg:Str→Option Value} {base:Heap} {n:Str} {st:Stmt} {N G ps:List Str} {k a m:Nat} {g:S}
    (q:DA K n st) (KX:K.In h) (GG:h.Ns mainGlobals mg) (S:ScF N G ps (defScope st)) (hn:ps.length=a) (hm:N.length=m) (B:∀ {f:Addr} {fd:FuncData},Fun K n n st f fd→Binds K fd ps [])
    (hbody:∀ X:Cx,Room k (at5 X P w K mg base).A→Lp (at5 X P w K mg base)→Own (at5 X P w K mg base)→Pl (at5 X P w K mg base) N G→(at5 X P w K mg base).env.scope=defScope st→SSs (at5 X P w K mg base) (defBody st) g) :
    FnP P w K mg base n (k+1) (fn a m g):=by
  obtain ⟨f,fd,a,F⟩:=q.ex
  exact fn_def (fn_ok2 F S hn hm hbody) F.kp (PySem.W.mg_of KX GG a) (B F)
theorem FnP.c {X:Cx} {x:Str} {k j:Nat} {f:List D→R D} (F:FnP X.prog X.w X.K X.mg X.base x k f) (hr:Room j X.A) (h:k≤j:=by decide):Callee X x f:=F.callee hr h
end ES
local macro_rules | `(tactic| walk_at "S")=>`(tactic| exact ⟨⟨rfl,rfl,rfl,by decide +kernel,by decide +kernel,by decide +kernel,by decide +kernel⟩,by decide +kernel,by decide +kernel,by decide +kernel,by decide +kernel⟩)
namespace EV
def putU:List Nat→Dt→List D→Option Dt
  | [],δ,[]=>some δ
  | i::is,δ,d::ds=>putU is (δ.set i (some d)) ds
  | _,_,_=>none
end EV
namespace ES
open PySem PySem.Spec PyProof.Rows L2 EV
unseal SE ST SW SA SS SSs SI SO
section
variable {X:Cx}
end
end ES
namespace ES
open PySem PySem.Spec PyProof.Rows L2 EV
unseal SE ST SW SA SS SSs SI SO
def gIs:List Nat→TGs
  | []=>gNil
  | i::is=>gCons (gName i) (gIs is)
section
variable {X:Cx} {N:List Str} {e:Expr} {es:List Expr} {g:IT} {gb:S} {body:List Stmt} {is:List Nat} {pos:Pos}
theorem puts {H:Hp} {Q:L2.St→Hp→Prop}:∀ {is:List Nat} {xs:List V} {ds:List D} {σ:L2.St} {δ δ2:Dt} {os:List (Nat×Addr)},StO X H σ δ os→Reps X.K X.mg (hide H os) xs ds→putU is δ ds=some δ2→(∀ σ2 os2,StO X H σ2 δ2 os2→Same (hide H os) (hide H os2)→Q σ2 H)→gIs is xs σ H Q
  | [],xs,ds,σ,δ,δ2,os,S,r,e,q=>by
    cases r with
    | nil=>cases e;exact ⟨rfl,q _ _ S (Same.refl _)⟩
    | cons _ _=>cases e
  | i::is,xs,ds,σ,δ,δ2,os,S,r,e,q=>by
    cases r with
    | nil=>cases e
    | cons ra rr =>
      obtain ⟨S2,s2⟩:=S.set (i:=i) ra
      exact ⟨_,_,rfl,puts S2 (rr.mono s2) e fun σ2 os2 S3 s3=>q σ2 os2 S3 (s2.trans s3)⟩
end
end ES
namespace ES
open PySem PySem.Spec PyProof.Rows L2 EV
section
variable {X:Cx} {N G:List Str} {e e1 e2 e3 e4:Expr} {es:List Expr} {g g1 g2 g3 g4:E} {gs:List E} {x:Str} {p pos:Pos} {f:List D→R D}
theorem Pl.v (P:Pl X N G) (i:Nat) (h:N[i]? = some x:=by rfl):SE X (.Name x pos) (var i):=e_var P.sc i h
theorem Pl.w (P:Pl X N G) (i:Nat) (h:G[i]? = some x:=by rfl):Gb X x:=P.gb _ (mG i h)
theorem Pl.set (P:Pl X N G) (i:Nat) (h:SE X e g) (hN:N[i]? = some x:=by rfl) (hsw:swapsWith e (some (.Name x p)) pos.line X.env=pure false:=by rfl):SS X (.Assign [.Name x p] e pos) (assign i g):=s_set P.toSx i hN (P.sto _ (mG i hN)) h hsw
theorem Pl.ret (P:Pl X N G) (h:SE X e g):SS X (.Return (some e) pos) (ret g):=s_ret P.toSx h
theorem Pl.if_ {c:Expr} {gc:E} {body els:List Stmt} {gb ge:S} (P:Pl X N G) (hc:ST X c gc) (ha:SSs X body gb) (hb:SSs X els ge):SS X (.If c body els pos) (ifs gc gb ge):=s_if P.toSx hc ha hb
theorem Pl.xp (P:Pl X N G) (h:SE X e g) (hs:swapsWith e none pos.line X.env=pure false:=by rfl):SS X (.Expr e pos) (expr g):=s_expr P.toSx h hs
theorem Pl.y {k:Int} {j} {p1 p2:Pos} (P:Pl X N G) (i:Nat) (h:N[i]? = some x:=by rfl):SE X (.Subscript (.Name x p1) (.Constant (.int k) j p2) pos) (bin oIx (var i) (con (.int k))):=e_ix (e_var P.sc i h) e_int
theorem Pl.call (P:Pl X N G) (i:Nat) (c:Callee X x f) (ha:SA X (e::es) gs) (h:G[i]? = some x:=by rfl) (he:starEach (e::es) X.env=(false,eval e X.env)::starEach es X.env:=by rfl) (hpl:(backTo pos (starEach es X.env)).any (·.1)=false:=by rfl) :
    SE X (.Call (.Name x p) (e::es) [] pos) (EV.call f gs):=e_call c (P.gb _ (mG i h)) ha he hpl
theorem a1 (h1:SE X e1 g1) (s1:starEach [e1] X.env=(false,eval e1 X.env)::starEach [] X.env:=by rfl):SA X [e1] [g1]:=a_cons h1 a_nil s1
theorem a2 (h1:SE X e1 g1) (h2:SE X e2 g2) (s1:starEach [e1,e2] X.env=(false,eval e1 X.env)::starEach [e2] X.env:=by rfl) (s2:starEach [e2] X.env=(false,eval e2 X.env)::starEach [] X.env:=by rfl):SA X [e1,e2] [g1,g2]:=a_cons h1 (a_cons h2 a_nil s2) s1
theorem a3 (h1:SE X e1 g1) (h2:SE X e2 g2) (h3:SE X e3 g3) (s1:starEach [e1,e2,e3] X.env=(false,eval e1 X.env)::starEach [e2,e3] X.env:=by rfl) (s2:starEach [e2,e3] X.env=(false,eval e2 X.env)::starEach [e3] X.env:=by rfl) (s3:starEach [e3] X.env=(false,eval e3 X.env)::starEach [] X.env:=by rfl):SA X [e1,e2,e3] [g1,g2,g3]:=a_cons h1 (a_cons h2 (a_cons h3 a_nil s3) s2) s1
end
end ES
local macro_rules | `(tactic| walk_at "C")=>`(tactic| exact ⟨rfl,by decide +kernel,by decide +kernel,by decide +kernel,by decide +kernel,by decide +kernel,by decide +kernel,by decide +kernel,by decide +kernel,by decide +kernel⟩)
namespace ES
open PySem PySem.Spec PyProof.Rows L2 EV
unseal SE ST SW SA SS SSs SI SO
section
variable {X:Cx} {pos:Pos} {a b:Expr} {ga gb:E}
end
end ES
namespace EV
end EV
namespace ES
open PySem PySem.Spec PyProof.Rows L2 EV
unseal SE ST SW SA SS SSs SI SO
section
variable {X:Cx} {pos:Pos} {a b:Expr} {ga gb:E}
end
end ES
namespace EV
def cutS (x:PySem.Str) (lo hi:Option Int):PySem.Str:=⟨(cut x.cps.toList lo hi).toArray⟩
def oSlS:D→Option Int→Option Int→R D
  | .str x,lo,hi=>if x.cps.size≤1000000 then .ok (.str (cutS x lo hi)) else .bad
  | _,_,_=>.bad
def slcS (a:E) (lo hi:Option E):E:=fun δ=>(a δ).bind fun d=>(part lo δ).bind fun l=>(part hi δ).bind fun h=>oSlS d l h
theorem u_slcS {a:E} {lo hi:Option E} {δ:Dt}:slcS a lo hi δ=(a δ).bind fun d=>(part lo δ).bind fun l=>(part hi δ).bind fun h=>oSlS d l h:=rfl
theorem oSlS_str {x:PySem.Str} {lo hi:Option Int} (h:x.cps.size≤1000000):oSlS (.str x) lo hi=.ok (.str (cutS x lo hi)):=by unfold oSlS;simp only;rw [if_pos h]
theorem part_some {e:E} {δ:Dt}:part (some e) δ=(e δ).bind fun d=>match d with | .int i=>.ok (some i) | _=>.bad:=rfl
end EV
namespace ES
open PySem PySem.Spec PyProof.Rows L2 EV
unseal SE ST SW SA SS SSs SI SO
section
variable {X:Cx} {pos p p2:Pos} {a e:Expr} {g:E} {lo hi:Option Expr} {gl gu:Option E}
theorem sIx_in {n d:Nat} (h:d≤n) (i:Option Int):sIx n d i≤n:=by
  cases i with
  | none=>exact h
  | some j =>
    unfold sIx
    by_cases q:j<0
    · simp only [if_pos q];omega
    · simp only [if_neg q];exact Nat.min_le_right _ _
theorem ind_cut (n:Nat) (l u:Option Int):PySem.Builtin.Str.strSliceIndices l u 1 n=(List.range (sIx n n u - sIx n 0 l)).map (sIx n 0 l + ·):=by
  rw [← PySem.sliceRange_one]
  unfold PySem.Builtin.Str.strSliceIndices
  simp only [show (1:Int)>0 by decide,if_true]
  congr 1
  · cases l with
    | none=>rfl
    | some i=>simp only [sIx];by_cases h:i<0<;>simp only [h,if_true,if_false]<;>omega
  · cases u with
    | none=>rfl
    | some i=>simp only [sIx];by_cases h:i<0<;>simp only [h,if_true,if_false]<;>omega
theorem slice_cut (x:Str) (l u:Option Int):PySem.Txt.slice x l u=cutS x l u:=by
  have hn:x.cps.toList.length=x.length:=by simp [Str.length]
  have h1:=sIx_in (Nat.le_refl x.length) u
  unfold PySem.Txt.slice cutS EV.cut
  rw [ind_cut,PySem.pick_run,hn]
  split
  · rename_i h
    simp only [beq_self_eq_true,Bool.true_and,List.length_map,List.length_range,beq_iff_eq] at h
    by_cases z:x.length=0
    · have:x.cps.toList=[]:=List.length_eq_zero_iff.mp (by rw [hn];exact z)
      rw [this]
      simp only [List.drop_nil,List.take_nil]
      cases x with | mk c=>simp at this;rw [this]
    · have e0:sIx x.length 0 l=0:=by omega
      rw [e0,List.drop_zero,List.take_of_length_le (by rw [hn];omega)]
  · rfl
def rSS (X:Cx):V→Option Int→Option Int→Hp→VK→Prop:=fun x l u H Q=>∃ dx d,Rep X.K X.mg H x dx∧oSlS dx l u=.ok d∧∀ v H',Same H H'→Rep X.K X.mg H' v d→Q v H'
theorem sl_S:SlR X (rSS X):=by
  intro pins s σ H x v vl vu l u sl Q I rx hs pl pu ⟨dx,d,r,e,q⟩
  cases dx with
  | str z =>
    unfold oSlS at e
    simp only at e
    split at e
    · rename_i hz
      cases e;cases r
      obtain ⟨t,rfl⟩:=rx
      have hsz:z.length≤sizeLine:=Nat.le_trans hz (by decide)
      have fin:∀ t' k,EP X pins σ Q (.str (PySem.Txt.slice z l u) t') { s with toks:=k }:=fun t' k=>⟨.str (PySem.Txt.slice z l u),H,I.tok k,⟨_,rfl⟩,by rw [slice_cut];exact q _ _ (Same.refl _) (.str _)⟩
      have hl:=Nat.le_trans (PySem.Txt.slice_le z l u) hsz
      refine ⟨"str",_,F.slot_str_getitem.lookup,typeIs_str _ _ _,?_⟩
      cases pl with
      | none =>
        cases pu with
        | none=>exact wpAny_getItem_str_slice (l:=none) (u:=none) (st:=none) hs rfl (post_val_or_str ⟨hl,fin⟩)
        | int j uj=>exact wpAny_getItem_str_slice (l:=none) (u:=some (j,uj)) (st:=none) hs rfl (post_val_or_str ⟨hl,fin⟩)
      | int i ui =>
        cases pu with
        | none=>exact wpAny_getItem_str_slice (l:=some (i,ui)) (u:=none) (st:=none) hs rfl (post_val_or_str ⟨hl,fin⟩)
        | int j uj=>exact wpAny_getItem_str_slice (l:=some (i,ui)) (u:=some (j,uj)) (st:=none) hs rfl (post_val_or_str ⟨hl,fin⟩)
    · cases e
  | _=>cases e
theorem e_slcS (ha:SE X a g) (hl:SO X lo gl) (hu:SO X hi gu):SE X (.Subscript a (.Slice lo hi none p2) pos) (slcS g gl gu) :=
  PE.weak (pe_slice sl_S ha hl hu) fun σ H Q ⟨δ,hσ,q⟩=>⟨δ,hσ,(RQ.bind q).to fun x H1 _ ⟨s1,d,r1,q1⟩=>⟨δ,hσ.mono s1,(ROp.bind q1).to fun l H2 _ ⟨s2,q2⟩=>⟨δ,hσ.mono (s1.trans s2),(ROp.bind q2).to fun u H3 _ ⟨s3,q3⟩=>by
    have r3:=r1.mono (s2.trans s3)
    cases e:oSlS d l u with
    | ok z=>rw [e] at q3;exact ⟨d,z,r3,e,q3⟩
    | ex C =>
      exfalso
      unfold oSlS at e
      split at e
      · split at e<;>cases e
      · cases e
    | bad=>rw [e] at q3;exact False.elim q3⟩⟩⟩
structure IsW (X:Cx) (n:String) (C:Addr):Prop where
  mg:X.mg n=some (.ref C)
  cl:Cls X.K C
  ha:PySem.W.findIn X.K (.ref C) "__class__"=some (some (.builtin "object.__class__"))
  hn:PySem.W.specialIn X.K (.builtin "object.__class__") "__get__"=some (some (.builtin "getset_descriptor.__get__"))
  htk:PySem.W.takesIn X.K (.builtin "object.__class__")=some true
  hm:PySem.W.mroIn X.K C (.type "object")=some true
  kit:PySem.W.kitOne X.K (.ref C) (.ref C)=some true
end
end ES
namespace EV
def mS (f:PySem.Str→D→R D) (a b:E):E:=fun δ=>(a δ).bind fun d=>match d with | .str z=>(b δ).bind (f z) | _=>.bad
def bStr:List D→R D
  | [.int i]=>if nb i≤1900 then .ok (.str (toString i)) else .bad
  | _=>.bad
def zf (x:PySem.Str) (i:Int):PySem.Str:=if i≤x.cps.size then x else ⟨(List.replicate (i.toNat - x.cps.size) 48).toArray++x.cps⟩
def mZfill (x:PySem.Str):D→R D
  | .int i=>if 0≤i∧i≤100000∧x.cps[0]? ≠ some 43∧x.cps[0]? ≠ some 45 then .ok (.str (zf x i)) else .bad
  | _=>.bad
def oRepS:D→D→R D
  | .str x,.int n=>if x.cps.size=1 ∧ -100000≤n∧n≤100000 then .ok (.str ⟨(List.replicate n.toNat (x.cps.getD 0 0)).toArray⟩) else .bad
  | _,_=>.bad
theorem u_mS {f:PySem.Str→D→R D} {a b:E} {δ:Dt}:mS f a b δ=(a δ).bind fun d=>match d with | .str z=>(b δ).bind (f z) | _=>.bad:=rfl
end EV
namespace ES
open PySem PySem.Spec PyProof.Rows L2 EV
open Builtin Builtin.Str Builtin.Int in
theorem long_no {n:Nat} (h:n≤100000):tooLong n=false:=by
  unfold tooLong
  exact decide_eq_false (by have:sizeLine=16777216:=rfl;omega)
unseal SE ST SW SA SS SSs SI SO
section
variable {X:Cx} {pos:Pos} {a b:Expr} {ga gb:E}
theorem nxStr:NoX bStr:=fun ds C z=>by unfold bStr at z;split at z<;>first | cases z | exact nx_ite z
theorem c_str:CallR X (.type "str") (rC X bStr):=by
  intro pins s σ H xs us Q I rs ⟨ds,d,r,e,q⟩
  unfold bStr at e
  split at e
  · rename_i i
    split at e
    · rename_i hz
      cases e
      obtain ⟨v,rfl,r1⟩:=reps1 r
      cases r1
      refine call_str_int pins s σ H _ us Q I rs ⟨i,rfl,?_,q _ _ (Same.refl _) (.str _)⟩
      unfold nb at hz
      split at hz
      · rename_i z;subst z;decide
      · omega
    · cases e
  · cases e
def rM (X:Cx) (f:Str→D→R D):V→List V→Hp→VK→Prop:=fun x vs H Q=>∃ z v dy d,x=.str z∧vs=[v]∧Rep X.K X.mg H v dy∧f z dy=.ok d∧∀ w H',Same H H'→Rep X.K X.mg H' w d→Q w H'
def NoXS (f:Str→D→R D):Prop:=∀ x y C,f x y ≠ .ex C
theorem e_mS {f:Str→D→R D} {name:Str} {id:String} {apos cpos:Pos} (nx:NoXS f) (slot:Slot "str" name id) (hty:typeOf (.builtin id)=pure (.type "method_descriptor")) (hm:MtR X id (rM X f)) (ho:SE X a ga) (ha:SE X b gb)
    (hbase:attributeBase a name X.env (eval a X.env)=eval a X.env:=by rfl)
    (hfew:((backTo cpos (starEach [b] X.env)).all (fun x => !x.1)&&(backToKw cpos (keywordEach [] X.env)).all (fun x=>x.1.isSome)
      && decide ([b].length+([]:List Keyword).length+(if ([]:List Keyword).isEmpty then 0 else 1)<30))=true:=by rfl)
    (hline:(apos.endLine == cpos.line)=true:=by rfl) (hs:starEach [b] X.env=[(false,eval b X.env)]:=by rfl) :
    SE X (.Call (.Attribute a name apos) [b] [] cpos) (mS f ga gb):=by
  refine PE.weak (pe_bm F.plainAttrs_str slot hty hm ho (pa_cons ha pa_nil hs) hbase hfew hline hs (by rfl)) fun σ H Q ⟨δ,hσ,h⟩=>⟨δ,hσ,(RQ.bind h).to fun x H1 s1 ⟨_,dx,r1,q1⟩ => ?_⟩
  cases dx with
  | str z =>
    cases r1
    refine ⟨rfl,δ,hσ.mono s1,(RQ.bind q1).to fun y H2 s2 ⟨_,dy,r2,q2⟩ => ?_⟩
    cases e:f z dy with
    | ok d=>rw [e] at q2;exact ⟨z,y,dy,d,rfl,rfl,r2,e,q2⟩
    | ex C=>exact absurd e (nx z dy C)
    | bad=>rw [e] at q2;exact False.elim q2
  | _=>exact False.elim q1
theorem nxZfill:NoXS mZfill:=fun x y C z=>by unfold mZfill at z;split at z<;>first | cases z | exact nx_ite z
theorem zf_is {x:Str} {i:Int} (h1:x.cps[0]? ≠ some 43) (h2:x.cps[0]? ≠ some 45):Txt.zfill x i=zf x i:=by
  unfold Txt.zfill zf
  show (if i≤(x.cps.size:Int) then x else _)=_
  split
  · rfl
  · unfold zfilled
    split
    · rename_i z;exact absurd z h1
    · rename_i z;exact absurd z h2
    · show Builtin.Str.padded x (i.toNat - x.cps.size) 0 48=_
      unfold Builtin.Str.padded
      simp
theorem pad_ok {i:Int} (h0:0≤i) (h1:i≤100000):PadOk i=true:=by
  unfold PadOk fitsSsize
  have a:¬ i < -(2^63:Int):=by omega
  have b:¬ i≥2^63:=by omega
  rw [decide_eq_false a,decide_eq_false b,long_no (by omega)]
  rfl
theorem mt_zfill:MtR X "str.zfill" (rM X mZfill):=by
  intro pins s σ H x vs v us Q I rx rv h
  obtain ⟨z,w,dy,d,rfl,rfl,r,e,q⟩:=h
  unfold mZfill at e
  split at e
  · rename_i i
    split at e
    · rename_i hc
      cases e
      cases r
      obtain ⟨t,rfl⟩:=rx
      obtain ⟨u,rfl,t',rfl⟩:=vals1 rv
      refine SC.zfill (pad_ok hc.1 hc.2.1) fun t' k => ?_
      rw [zf_is hc.2.2.1 hc.2.2.2]
      exact ⟨.str _,H,I.tok _,⟨_,rfl⟩,q _ _ (Same.refl _) (.str _)⟩
    · cases e
  · cases e
theorem fold_rep {a:Nat}:∀ (k:Nat) (acc:Array Nat),(List.replicate k #[a]).foldl (·++·) acc=acc++(List.replicate k a).toArray
  | 0,acc=>by simp
  | k+1,acc=>by
    rw [List.replicate_succ,List.foldl_cons,fold_rep k,List.replicate_succ,Array.append_assoc]
    exact congrArg (acc++·) (by apply Array.ext';simp [-List.toArray_replicate])
theorem nxRepS:NoX2 oRepS:=fun x y C z=>by unfold oRepS at z;split at z<;>first | cases z | exact nx_ite z
theorem op_repS:OpR X (binaryOp .Mult) (rD X oRepS):=by
  intro pins s σ H x y v u Q I rx ry h
  obtain ⟨dx,dy,d,r1,r2,e,q⟩:=h
  unfold oRepS at e
  split at e
  · rename_i z n
    split at e
    · rename_i hc
      cases e
      cases r1
      cases r2
      obtain ⟨t,rfl⟩:=rx
      obtain ⟨t',rfl⟩:=ry
      have fin:∀ t' k (w:Str),w=⟨(List.replicate n.toNat (z.cps.getD 0 0)).toArray⟩→EP X pins σ Q (.str w t') { s with toks:=k }:=fun t' k w hw=>⟨.str w,H,I.tok k,⟨_,rfl⟩,by rw [hw];exact q _ _ (Same.refl _) (.str _)⟩
      have zz:z=⟨#[z.cps.getD 0 0]⟩:=by
        cases z with
        | mk c =>
          have hs:c.size=1:=hc.1
          congr 1
          apply Array.ext
          · simp [hs]
          · intro i h1 h2
            have:i=0:=by omega
            subst this
            simp [Array.getD,hs]
      refine PySem.P.mul_str (by
        rw [decide_eq_false (show ¬ n < -(2^63:Int) by omega),decide_eq_false (show ¬ n≥2^63 by omega)];rfl) (fun h1 h2 => ?_) (fun h1 h2 => ?_) ?_
      · have:(z.length:Int)=1:=by show ((z.cps.size:Nat):Int)=1;rw [hc.1];rfl
        rw [this]
        have:1≤(2^63 - 1) / n:=(Int.le_ediv_iff_mul_le (by omega)).mpr (by omega)
        omega
      · have:z.length=1:=hc.1
        exact long_no (by rw [this];omega)
      · by_cases g:n<1
        · rw [if_pos g]
          exact ⟨by decide,fin _ _ _ (by rw [show n.toNat=0 by omega];rfl)⟩
        · rw [if_neg g]
          by_cases g2:n=1
          · rw [if_pos (by simp [g2])]
            exact fin t s.toks z (by rw [g2];exact zz)
          · rw [if_neg (by have:z.length=1:=hc.1;simp [g2,this])]
            have ef:∀ k:Nat,(List.replicate k z.cps).foldl (·++·) (#[]:Array Nat)=(List.replicate k (z.cps.getD 0 0)).toArray:=by
              intro k
              have zc:z.cps = #[z.cps.getD 0 0]:=congrArg Str.cps zz
              generalize z.cps.getD 0 0=a at zc ⊢
              rw [zc,fold_rep]
              simp
            refine ⟨?_,fin _ _ _ (by rw [ef])⟩
            rw [ef]
            show (List.replicate n.toNat (z.cps.getD 0 0)).toArray.size≤sizeLine
            simp
            have:sizeLine=16777216:=rfl
            omega
    · cases e
  · cases e
theorem e_repS (ha:SE X a ga) (hb:SE X b gb):SE X (.BinOp a .Mult b pos) (EV.bin oRepS ga gb):=e_bin nxRepS op_repS ha hb
end
end ES
namespace EV
def cutBy (goes:Nat→Bool) (a b:Bool) (l:List Nat):List Nat :=
  let lo:=if a then (l.takeWhile goes).length else 0
  let hi:=if b then l.length - ((l.drop lo).reverse.takeWhile goes).length else l.length
  (l.take hi).drop lo
def mCut (a b:Bool) (x:PySem.Str):D→R D
  | .str y=>if x.cps.size≤1000000 then .ok (.str ⟨(cutBy y.cps.contains a b x.cps.toList).toArray⟩) else .bad
  | _=>.bad
def mStrip:=mCut true true
def mStartswith (x:PySem.Str):D→R D
  | .str y=>.ok (.bl (decide (y.cps.size≤x.cps.size)&&(x.cps.extract 0 y.cps.size == y.cps)))
  | _=>.bad
end EV
namespace ES
open PySem PySem.Spec PyProof.Rows L2 EV
unseal SE ST SW SA SS SSs SI SO
section
variable {X:Cx} {pos:Pos} {a b:Expr} {ga gb:E}
theorem nxCut {a b:Bool}:NoXS (mCut a b):=fun x y C z=>by unfold mCut at z;split at z<;>first | cases z | exact nx_ite z
theorem nxStrip:NoXS mStrip:=nxCut
theorem nxStartswith:NoXS mStartswith:=fun x y C z=>by unfold mStartswith at z;split at z<;>cases z
theorem strip_is (goes:Nat→Bool) (a b:Bool) (x:Str):Txt.stripBy goes a b x=⟨(cutBy goes a b x.cps.toList).toArray⟩:=by
  have hn:x.cps.toList.length=x.length:=by simp [Str.length]
  unfold Txt.stripBy cutBy
  split
  · rename_i h
    unfold stripSame at h
    rw [Bool.and_eq_true,beq_iff_eq,beq_iff_eq] at h
    obtain ⟨h1,h2⟩:=h
    rw [h1] at h2
    unfold stripLo at h1
    unfold stripHi at h2
    rw [← hn] at h2
    rw [List.drop_zero] at h2
    simp only [h1,List.drop_zero,h2,List.take_length]
  · unfold stripped Builtin.Str.strSub stripLo stripHi
    rw [← hn]
    congr 1
    apply Array.ext'
    simp [List.drop_take]
theorem mt_cut {id:String} {p q:Bool} (hc:∀ (s:Shared) (x y:Str) (t u:Tok) (Q:Value→Shared→Prop) (E:Value→Shared→Prop),x.length≤sizeLine→(∀ t' k,Q (.str (Txt.stripBy y.cps.contains p q x) t') { s with toks:=k })→wpAny (model X.prog X.w) X.A (call (.builtin id) [.str x t,.str y u]) Q E s) :
    MtR X id (rM X (mCut p q)):=by
  intro pins s σ H x vs v us Q I rx rv h
  obtain ⟨z,w,dy,d,rfl,rfl,r,e,q⟩:=h
  unfold mCut at e
  split at e
  · split at e
    · rename_i hz
      cases e
      cases r
      obtain ⟨t,rfl⟩:=rx
      obtain ⟨u,rfl,t',rfl⟩:=vals1 rv
      refine hc s z _ t t' _ _ (Nat.le_trans hz (by decide)) fun t'' k => ?_
      rw [strip_is]
      exact ⟨.str _,H,I.tok _,⟨_,rfl⟩,q _ _ (Same.refl _) (.str _)⟩
    · cases e
  · cases e
theorem mt_strip:MtR X "str.strip" (rM X mStrip):=mt_cut fun s x y t u Q E hz h=>SC.stripChars h hz
theorem mt_startswith:MtR X "str.startswith" (rM X mStartswith):=by
  intro pins s σ H x vs v us Q I rx rv h
  obtain ⟨z,w,dy,d,rfl,rfl,r,e,q⟩:=h
  unfold mStartswith at e
  split at e
  · cases e
    cases r
    obtain ⟨t,rfl⟩:=rx
    obtain ⟨u,rfl,t',rfl⟩:=vals1 rv
    refine SC.startswith ⟨.bl _,H,I,rfl,q _ _ (Same.refl _) ?_⟩
    have:∀ y:Str,Txt.startswith z y=(decide (y.cps.size≤z.cps.size)&&(z.cps.extract 0 y.cps.size == y.cps)):=fun y=>by
      unfold Txt.startswith Builtin.Str.subAt
      simp [Str.length]
    rw [this]
    exact .bl _
  · cases e
end
end ES
namespace EV
def partL (c:Nat) (l:List Nat):List Nat×List Nat×List Nat:=if c∈l then (l.takeWhile (· != c),[c],(l.dropWhile (· != c)).tail) else (l,[],[])
def mPartition (x:PySem.Str):D→R D
  | .str y=>match y.cps.toList with
    | [c]=>if x.cps.size≤1000000 then .ok (.tup [.str ⟨(partL c x.cps.toList).1.toArray⟩,.str ⟨(partL c x.cps.toList).2.1.toArray⟩,.str ⟨(partL c x.cps.toList).2.2.toArray⟩]) else .bad
    | _=>.bad
  | _=>.bad
def dv (l:List Nat):Nat:=l.foldl (fun a c=>a*10+(c - 48)) 0
def figs (l:List Nat):Bool:=l.all fun c=>decide (48≤c∧c≤57)
def bIntS:List D→R D
  | [.str x]=>if figs x.cps.toList=true∧x.cps.toList≠[]∧x.cps.size≤640 then .ok (.int (dv x.cps.toList)) else .bad
  | _=>.bad
def bAll:List D→R D
  | [.lst ds]=>match boolsOf ds with | some bs=>.ok (.bl (bs.all id)) | none=>.bad
  | _=>.bad
def asS:D→R (List D)
  | .str x=>if x.cps.size≤100000 then .ok (x.cps.toList.map fun c=>.str ⟨#[c]⟩) else .bad
  | _=>.bad
def itS (g:E):IT:=fun δ=>(g δ).bind asS
def oRepT:D→D→R D
  | .str x,.int n=>if x.cps.size*n.toNat≤100000∧x.cps.size≤100000 ∧ -100000≤n∧n≤100000 then .ok (.str ⟨(List.replicate n.toNat x.cps.toList).flatten.toArray⟩) else .bad
  | _,_=>.bad
theorem u_itS {g:E} {δ:Dt}:itS g δ=(g δ).bind asS:=rfl
theorem asS_str {x:PySem.Str} (h:x.cps.size≤100000):asS (.str x)=.ok (x.cps.toList.map fun c=>.str ⟨#[c]⟩):=by unfold asS;simp only;rw [if_pos h]
end EV
namespace ES
open PySem PySem.Spec PyProof.Rows L2 EV
unseal SE ST SW SA SS SSs SI SO
section
variable {X:Cx} {pos:Pos} {tg e a b:Expr} {g ga gb:E}
theorem nxPartition:NoXS mPartition:=fun x y C z=>by
  unfold mPartition at z
  split at z
  · split at z
    · exact nx_ite z
    · cases z
  · cases z
theorem part_at {l:List Nat} {c i:Nat} (h:l[i]? = some c) (hn:∀ k,k<i→l[k]? ≠ some c):partL c l=(l.take i,[c],l.drop (i+1)):=by
  have hm:c∈l:=List.mem_of_getElem? h
  unfold partL
  rw [if_pos hm]
  have key:∀ (l:List Nat) (i:Nat),l[i]? = some c→(∀ k,k<i→l[k]? ≠ some c)→l.takeWhile (· != c)=l.take i∧(l.dropWhile (· != c)).tail=l.drop (i+1):=by
    intro l
    induction l with
    | nil=>intro i h _;cases h
    | cons x r ih =>
      intro i h hn
      cases i with
      | zero =>
        cases h
        simp
      | succ i =>
        have hx:x≠c:=fun z=>hn 0 (Nat.succ_pos i) (by rw [z];rfl)
        obtain ⟨h1,h2⟩:=ih i h fun k hk=>hn (k+1) (Nat.succ_lt_succ hk)
        have hx':(x != c)=true:=by simpa using hx
        rw [List.takeWhile_cons,if_pos hx',List.dropWhile_cons,if_pos hx',h1,h2]
        simp
  obtain ⟨h1,h2⟩:=key l i h hn
  rw [h1,h2]
theorem part_is (x:Str) (c:Nat):Txt.partition x ⟨#[c]⟩=(⟨(partL c x.cps.toList).1.toArray⟩,⟨(partL c x.cps.toList).2.1.toArray⟩,⟨(partL c x.cps.toList).2.2.toArray⟩):=by
  rcases partition_whole x ⟨#[c]⟩ with ⟨hp,hn⟩ | ⟨i,hp,hi,hn⟩
  · have:c∉x.cps.toList:=fun hm=>by
      obtain ⟨i,hi⟩:=(mem_iff_at x c).mp hm
      exact hn i hi
    unfold partL
    rw [if_neg this,hp]
    rfl
  · have e:=part_at ((StrLaws.subAt_one x c i).mp hi) fun k hk z=>hn k hk ((StrLaws.subAt_one x c k).mpr z)
    rw [e,hp]
    have hl:x.cps.toList.length=x.cps.size:=by simp
    refine Prod.ext ?_ (Prod.ext rfl ?_)
    · show Builtin.Str.strSub x 0 i=_
      unfold Builtin.Str.strSub
      congr 1
      apply Array.ext'
      simp
    · show Builtin.Str.strSub x (i+1) x.cps.size=_
      unfold Builtin.Str.strSub
      congr 1
      apply Array.ext'
      simp
      exact List.take_of_length_le (by rw [List.length_drop];omega)
theorem call_partition {s:Shared} {x y:Str} {t u:Tok} {Q E:Value→Shared→Prop} (hy:(y.length == 0)=false) (hx:x.length≤sizeLine)
    (h:∀ ta tb tc k,Q (.ref s.heap.objs.size) { s with heap:=s.heap.push { cls:=.type "tuple",data:=.seq [.str (Txt.partition x y).1 ta,.str (Txt.partition x y).2.1 tb,.str (Txt.partition x y).2.2 tc].toArray },toks:=k }) :
    wpAny (model X.prog X.w) X.A (call (.builtin "str.partition") [.str x t,.str y u]) Q E s:=by
  refine call_meets F.slot_str_partition (typeIs_str _ _ _) F.entry_str_partition (F.args_str_partition_2 _ _) (meets_str_partition x y t u hy hx) ?_
  have h':=h
  unfold Txt.partition at h'
  revert h'
  cases Builtin.Str.occurrences x y 0 x.length 1 with
  | nil=>intro h';exact h' _ _ _ _
  | cons i r=>intro h';exact h' _ _ _ _
theorem mt_partition:MtR X "str.partition" (rM X mPartition):=by
  intro pins s σ H x vs v us Q I rx rv h
  obtain ⟨z,w,dy,d,rfl,rfl,r,e,q⟩:=h
  unfold mPartition at e
  split at e
  · rename_i y
    split at e
    · rename_i c hc
      split at e
      · rename_i hz
        cases e
        cases r
        obtain ⟨t,rfl⟩:=rx
        obtain ⟨u,rfl,t',rfl⟩:=vals1 rv
        have ey:y=⟨#[c]⟩:=by
          cases y with
          | mk cs=>congr 1;apply Array.ext';exact hc
        subst ey
        refine call_partition rfl (Nat.le_trans hz (by decide)) fun ta tb tc k => ?_
        rw [part_is]
        have hn:H s.heap.objs.size=none:=I.hok.fresh (Nat.le_refl _)
        generalize partL c z.cps.toList=pp at *
        refine ⟨.ref s.heap.objs.size,upd H s.heap.objs.size (.tup [.str ⟨pp.1.toArray⟩,.str ⟨pp.2.1.toArray⟩,.str ⟨pp.2.2.toArray⟩]),?_,rfl,q _ _ (same_upd hn _) (.tup (SqT.of upd_same) (.cons (.str _) (.cons (.str _) (.cons (.str _) .nil))))⟩
        refine I.laid (fun b o e=>Heap.get?_push_of_some _ e) (Nat.le_refl _) ⟨by simp only [List.length_cons,List.length_nil];rw [sizeLine_eq];decide,[.str ⟨pp.1.toArray⟩ ta,.str ⟨pp.2.1.toArray⟩ tb,.str ⟨pp.2.2.toArray⟩ tc],.cons ⟨_,rfl⟩ (.cons ⟨_,rfl⟩ (.cons ⟨_,rfl⟩ .nil)),?_⟩
        exact ⟨_,Heap.get?_push_size s.heap rfl,rfl,0,rfl⟩
      · cases e
    · cases e
  · cases e
theorem nxIntS:NoX bIntS:=fun ds C z=>by unfold bIntS at z;split at z<;>first | cases z | exact nx_ite z
theorem c_intS:CallR X (.type "int") (rC X bIntS):=by
  intro pins s σ H xs us Q I rs ⟨ds,d,r,e,q⟩
  unfold bIntS at e
  split at e
  · rename_i x
    split at e
    · rename_i hz
      cases e
      obtain ⟨v,rfl,r1⟩:=reps1 r
      cases r1
      obtain ⟨u,rfl,t,rfl⟩:=vals1 rs
      have hd:NumText.AllDigits x.cps.toList:=fun c hc=>by
        have:=hz.1
        unfold figs at this
        have:=List.all_eq_true.mp this c hc
        simpa using this
      have hx:x.length≤640:=hz.2.2
      exact PySem.W.KIN.call_text (PySem.intText_digits hd hz.2.1 (by omega)) hx ⟨.int _,H,I.tok _,⟨_,rfl⟩,q _ _ (Same.refl _) (.int _)⟩
    · cases e
  · cases e
theorem nxAll:NoX bAll:=fun ds C z=>by
  unfold bAll at z
  split at z
  · split at z<;>cases z
  · cases z
theorem c_all (hc:X.calm=true):CallR X (.builtin "all") (rC X bAll):=by
  intro pins s σ H xs us Q I rs ⟨ds,d,r,e,q⟩
  unfold bAll at e
  split at e
  · rename_i ds'
    cases hbs:boolsOf ds' with
    | none=>rw [hbs] at e;cases e
    | some bs =>
      rw [hbs] at e
      cases e
      obtain ⟨v,rfl,r1⟩:=reps1 r
      cases r1 with
      | @lst a ys _ hq rr =>
        obtain ⟨its,rv,pl,_⟩:=I.list hq
        have e1:=bools_vals hbs rr rv
        cases rs with
        | cons h1 h2 =>
          cases h2
          cases h1
          have hl:=pl.isList
          rw [e1] at hl
          have hlt:a<s.heap.objs.size:=by obtain ⟨_,z,_⟩:=hl;exact Heap.lt_size z
          refine call_all_walk (wpAny_pyIter_list hl ⟨_,_,_,_,_,_,fun i=>(bs[i]?).getD false,rfl,Walks.list (A:=X.A.in1) (I.ok.hd hc) _ a (Nat.ne_of_lt hlt) (bs.map Value.bool).toArray,⟨⟨_,Heap.get?_push_size _ rfl,rfl,rfl⟩,hl.push _⟩,?_,fun h' tk hk => ?_⟩)
          · intro i v s' Q' E' hP hQ
            have hQ':Q' ((bs[i]?).getD false) s':=hQ
            have hP':((bs.map Value.bool).toArray)[i]? = some v:=hP
            rw [List.getElem?_toArray,List.getElem?_map] at hP'
            cases hb:bs[i]? with
            | none=>rw [hb] at hP';cases hP'
            | some b =>
              rw [hb] at hP' hQ'
              cases hP'
              exact wpAny_truthy_bool hQ'
          · have hold:∀ b o,s.heap.get? b=some o→h'.get? b=some o:=fun b o z=>hk b o (fun hm=>by
              rcases List.mem_cons.mp hm with e2 | hm
              · exact absurd (e2▸Heap.lt_size z) (Nat.lt_irrefl _)
              · cases hm) (Heap.get?_push_of_some _ z)
            have ea:(List.range (bs.map Value.bool).toArray.size).all (fun i=>(bs[i]?).getD false)=bs.all id:=by
              rw [List.size_toArray,List.length_map]
              apply Bool.eq_iff_iff.mpr
              simp only [List.all_eq_true,List.mem_range,id]
              constructor
              · intro z b hb
                obtain ⟨i,hi,rfl⟩:=List.getElem_of_mem hb
                have:=z i hi
                rw [List.getElem?_eq_getElem hi] at this
                exact this
              · intro z i hi
                rw [List.getElem?_eq_getElem hi]
                exact z _ (List.getElem_mem hi)
            rw [ea]
            exact ⟨.bl _,H,I.kept (t':=tk) hold,rfl,q _ _ (Same.refl _) (.bl _)⟩
  · cases e
def Its (x:Str):It:=⟨fun i _=>i<x.cps.size,fun i H v H'=>H'=H∧∃ c,x.cps[i]? = some c∧v=.str ⟨#[c]⟩,fun i _=>x.cps.size≤i⟩
theorem turn_ascii {P:Program} {w:World} {K:PySem.W.Frag} (x:Str) (t:Tok) (it:Addr):Turn P w K tg (Its x) [it] it (fun i h=>h.IsStrIter it "str_ascii_iterator" x t i) where
  mem:=by simp
  obj:=fun i h st b hb=>by
    have e:b=it:=by simpa using hb
    subst e
    obtain ⟨o,e,c,d⟩:=st
    exact ⟨o,e,fun v z=>by rw [d] at z;cases z⟩
  keep:=fun i h h' st k=>let ⟨o,ho,r⟩:=st;⟨o,k it (by simp) o ho,r⟩
  item:=by
    intro X hP hw hK hc i pins s σ H E I hf st hg
    subst hP hw hK
    have hg:i<x.cps.size:=hg
    obtain ⟨f0,f1,f2,f3,f4,f5⟩:=hf it (by simp)
    refine wpAny_pyNext_ascii_item st (c:=x.cps[i]) (by simp [hg]) fun h' st' sb => ?_
    have I1:Inv X pins σ H { s with heap:=h',toks:=s.toks+1 }:=I.turned (fun b o hb e=>sb.extBut b o hb e) f0 f1 f3 f4 f5
    obtain ⟨o,e,c,d⟩:=id st'
    exact ⟨_,rfl,go_of (s:={ s with heap:=h',toks:=s.toks+1 }) e c d (by decide) ⟨.str ⟨#[x.cps[i]]⟩,H,I1,⟨_,rfl⟩,⟨rfl,_,by simp [hg],rfl⟩,st',fun b hb=>(hf b hb).1⟩⟩
  done:=by
    intro X hP hw hK hc i pins s σ H E I hf st hg
    subst hP hw hK
    have hg:x.cps.size≤i:=hg
    obtain ⟨f0,f1,f2,f3,f4,f5⟩:=hf it (by simp)
    exact wpAny_pyNext_ascii_end (I.ok.hd hc) st (by simp [hg]) fun h' eb=>⟨rfl,I.turned (t':=s.toks) (fun b o hb e=>eb b o hb e) f0 f1 f3 f4 f5⟩
  self:=fun _ _ _ _ _ st h=>wpAny_pyIter_striter_ascii st h
theorem turn_wide {P:Program} {w:World} {K:PySem.W.Frag} (x:Str) (t:Tok) (it:Addr):Turn P w K tg (Its x) [it] it (fun i h=>h.IsStrIter it "str_iterator" x t i) where
  mem:=by simp
  obj:=fun i h st b hb=>by
    have e:b=it:=by simpa using hb
    subst e
    obtain ⟨o,e,c,d⟩:=st
    exact ⟨o,e,fun v z=>by rw [d] at z;cases z⟩
  keep:=fun i h h' st k=>let ⟨o,ho,r⟩:=st;⟨o,k it (by simp) o ho,r⟩
  item:=by
    intro X hP hw hK hc i pins s σ H E I hf st hg
    subst hP hw hK
    have hg:i<x.cps.size:=hg
    obtain ⟨f0,f1,f2,f3,f4,f5⟩:=hf it (by simp)
    refine wpAny_pyNext_wide_item st (c:=x.cps[i]) (by simp [hg]) fun h' st' sb => ?_
    have I1:Inv X pins σ H { s with heap:=h',toks:=s.toks+1 }:=I.turned (fun b o hb e=>sb.extBut b o hb e) f0 f1 f3 f4 f5
    obtain ⟨o,e,c,d⟩:=id st'
    exact ⟨_,rfl,go_of (s:={ s with heap:=h',toks:=s.toks+1 }) e c d (by decide) ⟨.str ⟨#[x.cps[i]]⟩,H,I1,⟨_,rfl⟩,⟨rfl,_,by simp [hg],rfl⟩,st',fun b hb=>(hf b hb).1⟩⟩
  done:=by
    intro X hP hw hK hc i pins s σ H E I hf st hg
    subst hP hw hK
    have hg:x.cps.size≤i:=hg
    obtain ⟨f0,f1,f2,f3,f4,f5⟩:=hf it (by simp)
    exact wpAny_pyNext_wide_end (I.ok.hd hc) st (by simp [hg]) fun h' eb=>⟨rfl,I.turned (t':=s.toks) (fun b o hb e=>eb b o hb e) f0 f1 f3 f4 f5⟩
  self:=fun _ _ _ _ _ st h=>wpAny_pyIter_striter_wide st h
def iStr (tl:TE):TI:=fun σ H R=>tl σ H fun v H1=>∃ x,v=.str x∧R (Its x) H1
theorem pi_str {l:Expr} {tl:TE} (hl:PE X l tl):PI X tg l (iStr tl):=by
  intro pins s σ H R I h
  refine thn (hl pins s σ H _ I h) fun v s1 ⟨x,H1,I1,r1,q1⟩ => ?_
  obtain ⟨x,e,q⟩:=q1
  subst e
  obtain ⟨t,rfl⟩:=r1
  have fp:∀ b∈[s1.heap.objs.size],FpOk X pins H1 b:=fun b hb=>by
    have e:b=s1.heap.objs.size:=by simpa using hb
    subst e
    exact I1.fpOk (Nat.le_refl _) (I1.hok.fresh (Nat.le_refl _))
  cases ha:x.cps.all (· < 128)
  · refine wpAny_pyIter_wide ha ?_
    exact ⟨s1.heap.objs.size,[s1.heap.objs.size],_,_,H1,rfl,I1.kept (t':=s1.toks) fun b o e=>Heap.get?_push_of_some _ e,turn_wide x t _,⟨_,Heap.get?_push_size _ rfl,rfl,rfl⟩,fp,q⟩
  · refine wpAny_pyIter_ascii ha ?_
    exact ⟨s1.heap.objs.size,[s1.heap.objs.size],_,_,H1,rfl,I1.kept (t':=s1.toks) fun b o e=>Heap.get?_push_of_some _ e,turn_ascii x t _,⟨_,Heap.get?_push_size _ rfl,rfl,rfl⟩,fp,q⟩
theorem i_str (h:SE X e g):SI X tg e (itS g):=PI.weak (pi_str h) fun σ H Q ⟨δ,hσ,q⟩=>⟨δ,hσ,(RI.bind q).to fun v H' s ⟨_,d,r,q⟩=>by
  cases d with
  | str x =>
    cases r
    unfold asS at q
    simp only at q
    split at q
    · refine ⟨x,rfl,q _ _ (Same.refl _) fun Hc sc=>⟨fun i d hd => ?_,fun i hi => ?_⟩⟩
      · rw [List.getElem?_map] at hd
        have hx:x.cps.toList[i]? = x.cps[i]? := by simp
        rw [hx] at hd
        cases hc:x.cps[i]? with
        | none=>rw [hc] at hd;cases hd
        | some c =>
          rw [hc] at hd
          cases hd
          refine ⟨?_,fun y H'' ⟨e2,c',e3,e4⟩=>⟨e2,?_⟩⟩
          · show i<x.cps.size
            exact (Array.getElem?_eq_some_iff.mp hc).1
          · rw [hc] at e3
            cases e3
            subst e4
            exact .str _
      · show x.cps.size≤i
        simpa using hi
    · exact False.elim q
  | _=>exact False.elim q⟩
theorem fold_reps {c:Array Nat}:∀ (k:Nat) (acc:Array Nat),(List.replicate k c).foldl (·++·) acc=acc++(List.replicate k c.toList).flatten.toArray
  | 0,acc=>by simp
  | k+1,acc=>by
    rw [List.replicate_succ,List.foldl_cons,fold_reps k,List.replicate_succ,Array.append_assoc]
    exact congrArg (acc++·) (by apply Array.ext';simp)
theorem nxRepT:NoX2 oRepT:=fun x y C z=>by unfold oRepT at z;split at z<;>first | cases z | exact nx_ite z
theorem op_repT:OpR X (binaryOp .Mult) (rD X oRepT):=by
  intro pins s σ H x y v u Q I rx ry h
  obtain ⟨dx,dy,d,r1,r2,e,q⟩:=h
  unfold oRepT at e
  split at e
  · rename_i z n
    split at e
    · rename_i hc
      cases e
      cases r1
      cases r2
      obtain ⟨t,rfl⟩:=rx
      obtain ⟨t',rfl⟩:=ry
      have fin:∀ t' k (w:Str),w=⟨(List.replicate n.toNat z.cps.toList).flatten.toArray⟩→EP X pins σ Q (.str w t') { s with toks:=k }:=fun t' k w hw=>⟨.str w,H,I.tok k,⟨_,rfl⟩,by rw [hw];exact q _ _ (Same.refl _) (.str _)⟩
      have zl:z.length=z.cps.size:=rfl
      refine PySem.P.mul_str (by
        rw [decide_eq_false (show ¬ n < -(2^63:Int) by omega),decide_eq_false (show ¬ n≥2^63 by omega)];rfl) (fun h1 h2 => ?_) (fun h1 h2 => ?_) ?_
      · rw [zl]
        have:(z.cps.size:Int)≤(2^63 - 1) / n:=(Int.le_ediv_iff_mul_le (by omega)).mpr (by
          have:(z.cps.size:Int)*n≤100000*100000:=Int.mul_le_mul (by omega) (by omega) (by omega) (by omega)
          omega)
        omega
      · exact long_no (by rw [zl];exact hc.1)
      · by_cases g:n<1
        · rw [if_pos g]
          exact ⟨by decide,fin _ _ _ (by rw [show n.toNat=0 by omega];rfl)⟩
        · rw [if_neg g]
          by_cases g2:(n == 1||z.length == 0)=true
          · rw [if_pos g2]
            refine fin t s.toks z ?_
            rcases Bool.or_eq_true_iff.mp g2 with g3 | g3
            · have:n=1:=by simpa using g3
              rw [this]
              cases z
              simp
            · have g3:z.cps.size=0:=by simpa [zl] using g3
              have:z.cps = #[]:=Array.eq_empty_of_size_eq_zero g3
              cases z with
              | mk cs =>
                have hcs:cs = #[]:=this
                subst hcs
                congr 1
                apply Array.ext'
                simp
          · rw [if_neg g2]
            have ef:(List.replicate n.toNat z.cps).foldl (·++·) (#[]:Array Nat)=(List.replicate n.toNat z.cps.toList).flatten.toArray:=by
              rw [fold_reps]
              simp
            refine ⟨?_,fin _ _ _ (by rw [ef])⟩
            rw [ef]
            show (List.replicate n.toNat z.cps.toList).flatten.toArray.size≤sizeLine
            rw [List.size_toArray,List.length_flatten,List.map_replicate,List.sum_replicate_nat]
            have:sizeLine=16777216:=rfl
            have h1:=hc.1
            rw [Nat.mul_comm] at h1
            simp only [Array.length_toList]
            omega
    · cases e
  · cases e
theorem e_repT (ha:SE X a ga) (hb:SE X b gb):SE X (.BinOp a .Mult b pos) (EV.bin oRepT ga gb):=e_bin nxRepT op_repT ha hb
end
end ES
namespace T
open EV
def g_law_mark_by:S :=
  ret (bin oIx (lstE [con (.str ""),con (.str "-"),con (.str "+")]) (bin oMod (var 0) (con (.int 3))))
def p_law_mark_by:List D→R D:=fn 1 1 g_law_mark_by
def g_law_cell_at:S :=
  seq (ifs (bin oLt (var 1) (call bLen [var 0])) (ret (bin oIx (var 0) (var 1))) (pass_))
  (ret (con (.int 0)))
def p_law_cell_at:List D→R D:=fn 2 2 g_law_cell_at
def g_law_run:S :=
  seq (assign 2 (mS mZfill (call bStr [bin oMod (bin oMul (var 0) (con (.int 73846150927364518273645509182736455091827))) (bin oPow (con (.int 10)) (con (.int 60)))]) (con (.int 60))))
  (ret (slcS (bin oRepT (var 2) (con (.int 7))) (some (bin oSub (con (.int 420)) (var 1))) none))
def p_law_run:List D→R D:=fn 2 3 g_law_run
def g_law_numeral_by:S :=
  seq (assign 1 (call p_law_mark_by [call p_law_cell_at [var 0,con (.int 0)]]))
  (seq (assign 1 (bin oAdd (var 1) (call p_law_run [call p_law_cell_at [var 0,con (.int 1)],bin oAdd (con (.int 1)) (bin oMod (call p_law_cell_at [var 0,con (.int 2)]) (con (.int 12)))])))
  (seq (ifs (bin oEq (bin oMod (call p_law_cell_at [var 0,con (.int 3)]) (con (.int 2))) (con (.int 1))) (assign 1 (bin oAdd (bin oAdd (var 1) (con (.str "."))) (call p_law_run [call p_law_cell_at [var 0,con (.int 4)],bin oAdd (con (.int 1)) (bin oMod (bin oDiv (call p_law_cell_at [var 0,con (.int 3)]) (con (.int 2))) (con (.int 13)))]))) (pass_))
  (seq (ifs (bin oEq (bin oMod (call p_law_cell_at [var 0,con (.int 5)]) (con (.int 2))) (con (.int 1))) (seq (assign 1 (bin oAdd (bin oAdd (var 1) (con (.str "e"))) (call p_law_mark_by [call p_law_cell_at [var 0,con (.int 6)]])))
  (assign 1 (bin oAdd (var 1) (call p_law_run [bin oDiv (call p_law_cell_at [var 0,con (.int 6)]) (con (.int 3)),bin oAdd (con (.int 1)) (bin oMod (bin oDiv (call p_law_cell_at [var 0,con (.int 5)]) (con (.int 2))) (con (.int 4)))])))) (pass_))
  (ret (var 1)))))
def p_law_numeral_by:List D→R D:=fn 1 2 g_law_numeral_by
def g_law_step:S :=
  seq (assign 2 (bin oIn (var 1) (con (.str "0123456789"))))
  (seq (ifs (and_ (bin oEq (var 0) (con (.int 0))) (or_ (bin oEq (var 1) (con (.str "+"))) (bin oEq (var 1) (con (.str "-"))))) (ret (con (.int 1))) (pass_))
  (seq (ifs (and_ (bin oLt (var 0) (con (.int 3))) (var 2)) (ret (con (.int 2))) (pass_))
  (seq (ifs (and_ (bin oEq (var 0) (con (.int 2))) (bin oEq (var 1) (con (.str ".")))) (ret (con (.int 3))) (pass_))
  (seq (ifs (and_ (or_ (bin oEq (var 0) (con (.int 3))) (bin oEq (var 0) (con (.int 4)))) (var 2)) (ret (con (.int 4))) (pass_))
  (seq (ifs (and_ (or_ (bin oEq (var 0) (con (.int 2))) (bin oEq (var 0) (con (.int 4)))) (bin oEq (var 1) (con (.str "e")))) (ret (con (.int 5))) (pass_))
  (seq (ifs (and_ (bin oEq (var 0) (con (.int 5))) (or_ (bin oEq (var 1) (con (.str "+"))) (bin oEq (var 1) (con (.str "-"))))) (ret (con (.int 6))) (pass_))
  (seq (ifs (and_ (or_ (bin oEq (var 0) (con (.int 5))) (bin oEq (var 0) (con (.int 6)))) (var 2)) (ret (con (.int 7))) (pass_))
  (seq (ifs (and_ (chain oLe oLe (con (.int 7)) (var 0) (con (.int 9))) (var 2)) (ret (bin oAdd (var 0) (con (.int 1)))) (pass_))
  (ret (con (.int 99)))))))))))
def p_law_step:List D→R D:=fn 2 3 g_law_step
def g_law_is_numeral:S :=
  seq (ifs (bin oGt (call bLen [var 0]) (con (.int 400))) (ret (con (.bl false))) (pass_))
  (seq (assign 1 (con (.int 0)))
  (seq (forI 2 (itS (mS mStrip (var 0) (con (.str " ")))) (assign 1 (call p_law_step [var 1,var 2])))
  (ret (or_ (bin oEq (var 1) (con (.int 2))) (or_ (bin oEq (var 1) (con (.int 4))) (chain oLe oLe (con (.int 7)) (var 1) (con (.int 10))))))))
def p_law_is_numeral:List D→R D:=fn 1 3 g_law_is_numeral
def g_law_alone:S :=
  seq (ifs (or_ (not_ (call bIsi [var 0,con (.cls "NoText")])) (not_ (call bIsi [var 0,con (.ty "ValueError")]))) (ret (con (.bl false))) (pass_))
  (seq (ifs (call bIsiT [var 0,con (.tup [.cls "NoSize",.cls "NoBits",.cls "NoParts",.cls "NoRank",.cls "NotFinite",.cls "NoWay",.cls "NoFlags"])]) (ret (con (.bl false))) (pass_))
  (ret (not_ (call bIsiT [var 0,con (.tup [.cls "NoFraction",.cls "Unlike",.cls "Empty",.cls "NoLeft",.cls "NoRow",.cls "NoName",.cls "Stopped"])]))))
def p_law_alone:List D→R D:=fn 1 1 g_law_alone
def g_sign_and_word:S :=
  seq (ifs (mS mStartswith (var 0) (con (.str "-"))) (ret (tupE [con (.int 1),slcS (var 0) (some (con (.int 1))) none])) (pass_))
  (seq (ifs (mS mStartswith (var 0) (con (.str "+"))) (ret (tupE [con (.int 0),slcS (var 0) (some (con (.int 1))) none])) (pass_))
  (ret (tupE [con (.int 0),var 0])))
def p_sign_and_word:List D→R D:=fn 1 1 g_sign_and_word
def g_bare_line:S :=
  seq (ifs (bin oGt (call bLen [var 0]) (con (.int 400))) (raise "NoText") (pass_))
  (ret (mS mStrip (var 0) (con (.str " "))))
def p_bare_line:List D→R D:=fn 1 1 g_bare_line
def g_all_figures:S :=
  ret (and_ (bin oNe (var 0) (con (.str ""))) (call bAll [comp (itS (var 0)) [] (bin oIn (var 0) (con (.str "0123456789")))]))
def p_all_figures:List D→R D:=fn 1 1 g_all_figures
def g_exponent_of:S :=
  seq (assign 1 (call p_sign_and_word [var 0]))
  (seq (ifs (or_ (not_ (call p_all_figures [bin oIx (var 1) (con (.int 1))])) (bin oGt (call bLen [bin oIx (var 1) (con (.int 1))]) (con (.int 4)))) (raise "NoText") (pass_))
  (ret (ife (bin oEq (bin oIx (var 1) (con (.int 0))) (con (.int 1))) (un oNeg (call bIntS [bin oIx (var 1) (con (.int 1))])) (call bIntS [bin oIx (var 1) (con (.int 1))]))))
def p_exponent_of:List D→R D:=fn 1 2 g_exponent_of
def g_spelled:S :=
  seq (assign 1 (call p_sign_and_word [call p_bare_line [var 0]]))
  (seq (assign 2 (mS mPartition (bin oIx (var 1) (con (.int 1))) (con (.str "e"))))
  (seq (assign 3 (ife (bin oEq (bin oIx (var 2) (con (.int 1))) (con (.str "e"))) (call p_exponent_of [bin oIx (var 2) (con (.int 2))]) (con (.int 0))))
  (seq (assign 4 (mS mPartition (bin oIx (var 2) (con (.int 0))) (con (.str "."))))
  (seq (ifs (not_ (call p_all_figures [bin oIx (var 4) (con (.int 0))])) (raise "NoText") (pass_))
  (seq (ifs (and_ (bin oEq (bin oIx (var 4) (con (.int 1))) (con (.str "."))) (not_ (call p_all_figures [bin oIx (var 4) (con (.int 2))]))) (raise "NoText") (pass_))
  (ret (tupE [bin oIx (var 1) (con (.int 0)),call bIntS [bin oAdd (bin oIx (var 4) (con (.int 0))) (bin oIx (var 4) (con (.int 2)))],bin oSub (var 3) (call bLen [bin oIx (var 4) (con (.int 2))])])))))))
def p_spelled:List D→R D:=fn 1 5 g_spelled
def g_way_of:S :=
  seq (ifs (bin oNotIn (var 0) (con (.tup [.str "even",.str "away",.str "nought",.str "up",.str "down"]))) (raise "NoWay") (pass_))
  (ret (call (mk1 "Way" "name") [var 0]))
def p_way_of:List D→R D:=fn 1 1 g_way_of
def g_ten_to (P0:List D→R D):S :=
  seq (ifs (bin oEq (var 0) (con (.int 0))) (ret (con (.int 1))) (pass_))
  (seq (assign 1 (call P0 [bin oDiv (var 0) (con (.int 2))]))
  (ret (ife (bin oEq (bin oBand (var 0) (con (.int 1))) (con (.int 1))) (bin oMul (bin oMul (var 1) (var 1)) (con (.int 10))) (bin oMul (var 1) (var 1)))))
def p_ten_to:Nat→List D→R D
  | 0=>fun _=>.bad
  | j+1=>fn 1 2 (g_ten_to (p_ten_to j))
def g_tenfold:S :=
  seq (ifs (bin oGe (var 2) (con (.int 0))) (ret (tupE [bin oMul (var 0) (call (p_ten_to 20) [var 2]),var 1])) (pass_))
  (ret (tupE [var 0,bin oMul (var 1) (call (p_ten_to 20) [un oNeg (var 2)])]))
def p_tenfold:List D→R D:=fn 3 3 g_tenfold
def g_check_fraction:S :=
  ifs (or_ (bin oLt (var 0) (con (.int 0))) (bin oLt (var 1) (con (.int 1)))) (raise "NoFraction") (pass_)
def p_check_fraction:List D→R D:=fn 2 2 g_check_fraction
def g_scaled:S :=
  seq (ifs (bin oGe (var 2) (con (.int 0))) (ret (tupE [var 0,bin oShl (var 1) (var 2)])) (pass_))
  (ret (tupE [bin oShl (var 0) (un oNeg (var 2)),var 1]))
def p_scaled:List D→R D:=fn 3 3 g_scaled
def g_bias:S :=
  ret (bin oSub (bin oShl (con (.int 1)) (bin oSub (bin oIx (var 0) (con (.int 0))) (con (.int 1)))) (con (.int 1)))
def p_bias:List D→R D:=fn 1 1 g_bias
def g_low:S :=
  ret (bin oSub (bin oSub (con (.int 1)) (call p_bias [var 0])) (bin oIx (var 0) (con (.int 1))))
def p_low:List D→R D:=fn 1 1 g_low
def g_rest_by_middle:S :=
  seq (ifs (bin oEq (var 0) (con (.int 0))) (ret (con (.int 0))) (pass_))
  (seq (ifs (bin oLt (var 1) (var 2)) (ret (con (.int 1))) (pass_))
  (ret (ife (bin oEq (var 1) (var 2)) (con (.int 2)) (con (.int 3)))))
def p_rest_by_middle:List D→R D:=fn 3 3 g_rest_by_middle
def g_rest_of:S :=
  ret (call p_rest_by_middle [var 0,bin oMul (con (.int 2)) (var 0),var 1])
def p_rest_of:List D→R D:=fn 2 2 g_rest_of
def g_height:S :=
  seq (assign 2 (bin oSub (call bBitLen [var 0]) (call bBitLen [var 1])))
  (seq (assign 3 (call p_scaled [var 0,var 1,var 2]))
  (ret (ife (bin oLt (bin oIx (var 3) (con (.int 0))) (bin oIx (var 3) (con (.int 1)))) (var 2) (bin oAdd (var 2) (con (.int 1))))))
def p_height:List D→R D:=fn 2 4 g_height
def g_cut:S :=
  seq (expr (call p_check_fraction [var 1,var 2]))
  (seq (ifs (bin oEq (var 1) (con (.int 0))) (ret (tupE [con (.int 0),call p_low [var 0],con (.int 0)])) (pass_))
  (seq (assign 3 (call bMax [call p_low [var 0],bin oSub (bin oSub (call p_height [var 1,var 2]) (bin oIx (var 0) (con (.int 1)))) (con (.int 1))]))
  (seq (assign 4 (call p_scaled [var 1,var 2,var 3]))
  (ret (tupE [bin oDiv (bin oIx (var 4) (con (.int 0))) (bin oIx (var 4) (con (.int 1))),var 3,call p_rest_of [bin oMod (bin oIx (var 4) (con (.int 0))) (bin oIx (var 4) (con (.int 1))),bin oIx (var 4) (con (.int 1))]])))))
def p_cut:List D→R D:=fn 3 5 g_cut
def g_last_field:S :=
  ret (bin oSub (bin oShl (con (.int 1)) (bin oIx (var 0) (con (.int 0)))) (con (.int 1)))
def p_last_field:List D→R D:=fn 1 1 g_last_field
def g_endless:S :=
  ret (bin oShl (call p_last_field [var 0]) (bin oIx (var 0) (con (.int 1))))
def p_endless:List D→R D:=fn 1 1 g_endless
def g_sign_bit:S :=
  ret (bin oShl (con (.int 1)) (bin oAdd (bin oIx (var 0) (con (.int 0))) (bin oIx (var 0) (con (.int 1)))))
def p_sign_bit:List D→R D:=fn 1 1 g_sign_bit
def g_signed:S :=
  ret (bin oAdd (bin oMul (var 1) (call p_sign_bit [var 0])) (var 2))
def p_signed:List D→R D:=fn 3 3 g_signed
def g_lost_flags:S :=
  seq (ifs (bin oEq (var 2) (call p_endless [var 0])) (ret (bin oAdd (con (.int 1)) (con (.int 4)))) (pass_))
  (seq (assign 3 (bin oLt (var 1) (bin oShl (con (.int 1)) (bin oIx (var 0) (con (.int 1))))))
  (ret (ife (var 3) (bin oAdd (con (.int 1)) (con (.int 2))) (con (.int 1)))))
def p_lost_flags:List D→R D:=fn 3 4 g_lost_flags
def g_Way_flees_nought:S :=
  seq (ifs (bin oEq (un (oFld "Way" "name") (var 0)) (con (.str "up"))) (ret (bin oEq (var 1) (con (.int 0)))) (pass_))
  (ret (and_ (bin oEq (un (oFld "Way" "name") (var 0)) (con (.str "down"))) (bin oEq (var 1) (con (.int 1)))))
def p_Way_flees_nought:List D→R D:=fn 2 2 g_Way_flees_nought
def g_Way_grows:S :=
  seq (ifs (bin oEq (var 3) (con (.int 0))) (ret (con (.bl false))) (pass_))
  (seq (ifs (bin oEq (un (oFld "Way" "name") (var 0)) (con (.str "even"))) (ret (or_ (bin oEq (var 3) (con (.int 3))) (and_ (bin oEq (var 3) (con (.int 2))) (var 2)))) (pass_))
  (seq (ifs (bin oEq (un (oFld "Way" "name") (var 0)) (con (.str "away"))) (ret (bin oGe (var 3) (con (.int 2)))) (pass_))
  (ret (meth "Way" "flees_nought" p_Way_flees_nought (var 0) [var 1]))))
def p_Way_grows:List D→R D:=fn 4 4 g_Way_grows
def g_Way_bursts:S :=
  seq (ifs (bin oIn (un (oFld "Way" "name") (var 0)) (tupE [con (.str "even"),con (.str "away")])) (ret (con (.bl true))) (pass_))
  (ret (meth "Way" "flees_nought" p_Way_flees_nought (var 0) [var 1]))
def p_Way_bursts:List D→R D:=fn 2 2 g_Way_bursts
def g_settled:S :=
  seq (assign 6 (call p_way_of [var 1]))
  (seq (assign 7 (bin oAdd (bin oShl (bin oSub (var 4) (call p_low [var 0])) (bin oIx (var 0) (con (.int 1)))) (var 3)))
  (seq (assign 8 (call p_endless [var 0]))
  (seq (ifs (bin oGe (var 7) (var 8)) (seq (assign 9 (ife (meth "Way" "bursts" p_Way_bursts (var 6) [var 2]) (var 8) (bin oSub (var 8) (con (.int 1)))))
  (ret (tupE [call p_signed [var 0,var 2,var 9],bin oAdd (con (.int 1)) (con (.int 4))]))) (pass_))
  (seq (ifs (bin oEq (var 5) (con (.int 0))) (ret (tupE [call p_signed [var 0,var 2,var 7],con (.int 0)])) (pass_))
  (seq (assign 9 (ife (meth "Way" "grows" p_Way_grows (var 6) [var 2,bin oEq (bin oBand (var 7) (con (.int 1))) (con (.int 1)),var 5]) (bin oAdd (var 7) (con (.int 1))) (var 7)))
  (ret (tupE [call p_signed [var 0,var 2,var 9],call p_lost_flags [var 0,var 7,var 9]])))))))
def p_settled:List D→R D:=fn 6 10 g_settled
def g_rounded:S :=
  seq (expr (call p_way_of [var 1]))
  (seq (assign 5 (call p_cut [var 0,var 3,var 4]))
  (ret (call p_settled [var 0,var 1,var 2,bin oIx (var 5) (con (.int 0)),bin oIx (var 5) (con (.int 1)),bin oIx (var 5) (con (.int 2))])))
def p_rounded:List D→R D:=fn 5 6 g_rounded
def g_no_number:S :=
  ret (bin oAdd (call p_endless [var 0]) (bin oShl (con (.int 1)) (bin oSub (bin oIx (var 0) (con (.int 1))) (con (.int 1)))))
def p_no_number:List D→R D:=fn 1 1 g_no_number
def g_read:S :=
  seq (expr (call p_way_of [var 1]))
  (seq (assign 3 (call p_sign_and_word [call p_bare_line [var 2]]))
  (seq (ifs (bin oEq (bin oIx (var 3) (con (.int 1))) (con (.str "endless"))) (ret (tupE [call p_signed [var 0,bin oIx (var 3) (con (.int 0)),call p_endless [var 0]],con (.int 0)])) (pass_))
  (seq (ifs (bin oEq (bin oIx (var 3) (con (.int 1))) (con (.str "none"))) (ret (tupE [call p_no_number [var 0],con (.int 0)])) (pass_))
  (seq (assign 4 (call p_spelled [var 2]))
  (seq (assign 5 (call p_tenfold [bin oIx (var 4) (con (.int 1)),con (.int 1),bin oIx (var 4) (con (.int 2))]))
  (ret (call p_rounded [var 0,var 1,bin oIx (var 4) (con (.int 0)),bin oIx (var 5) (con (.int 0)),bin oIx (var 5) (con (.int 1))])))))))
def p_read:List D→R D:=fn 3 6 g_read
def g_law_refused:S :=
  seq (assign 3 (con .non))
  (seq (try_ (ifs (bin oEq (var 1) (con (.str ""))) (expr (call p_spelled [var 0])) (expr (call p_read [var 2,var 1,var 0]))) "MillError" 4 (assign 3 (var 4)))
  (ret (call p_law_alone [var 3])))
def p_law_refused:List D→R D:=fn 3 5 g_law_refused
def g_law_spoiled:S :=
  seq (assign 4 (bin oMod (var 2) (bin oAdd (call bLen [var 0]) (con (.int 1)))))
  (seq (ifs (bin oEq (var 1) (con (.int 0))) (ret (bin oAdd (bin oAdd (slcS (var 0) none (some (var 4))) (var 3)) (slcS (var 0) (some (var 4)) none))) (pass_))
  (seq (ifs (bin oEq (var 1) (con (.int 1))) (ret (bin oAdd (bin oAdd (slcS (var 0) none (some (var 4))) (var 3)) (slcS (var 0) (some (bin oAdd (var 4) (con (.int 1)))) none))) (pass_))
  (seq (ifs (bin oEq (var 1) (con (.int 2))) (ret (bin oAdd (slcS (var 0) none (some (var 4))) (slcS (var 0) (some (bin oAdd (var 4) (con (.int 1)))) none))) (pass_))
  (ret (bin oAdd (slcS (var 0) (some (var 4)) none) (slcS (var 0) none (some (var 4))))))))
def p_law_spoiled:List D→R D:=fn 4 5 g_law_spoiled
def g_law_odd_by:S :=
  seq (assign 1 (lstE [con (.str ""),con (.str " "),con (.str "+"),con (.str "-"),con (.str "."),con (.str "e"),con (.str "e5"),con (.str ".5"),con (.str "5."),con (.str "-.5"),con (.str "+.e1"),con (.str "1e"),con (.str "1e+"),con (.str "1e-"),con (.str "1.e5"),con (.str "1e5.0")]))
  (seq (assign 1 (bin oAdd (var 1) (lstE [con (.str "1 e5"),con (.str "1e 5"),con (.str "+ 1"),con (.str "--1"),con (.str "+-1"),con (.str "1e00001"),con (.str "1e12345"),con (.str "0x1"),con (.str "1E5"),con (.str "1_0"),con (.str "1,5"),con (.str "none")])))
  (seq (assign 1 (bin oAdd (var 1) (lstE [con (.str "endless"),con (.str "1/2")])))
  (ret (bin oIx (var 1) (bin oMod (var 0) (con (.int 30)))))))
def p_law_odd_by:List D→R D:=fn 1 2 g_law_odd_by
def g_law_way_by:S :=
  ret (bin oIx (lstE [con (.str "even"),con (.str "away"),con (.str "nought"),con (.str "up"),con (.str "down")]) (bin oMod (var 0) (con (.int 5))))
def p_law_way_by:List D→R D:=fn 1 1 g_law_way_by
def g_law_size_by:S :=
  seq (assign 1 (bin oMod (var 0) (con (.int 8))))
  (seq (assign 2 (bin oDiv (var 0) (con (.int 8))))
  (seq (ifs (bin oEq (var 1) (con (.int 0))) (ret (tupE [con (.int 5),con (.int 10)])) (pass_))
  (seq (ifs (bin oEq (var 1) (con (.int 1))) (ret (tupE [con (.int 8),con (.int 23)])) (pass_))
  (seq (ifs (bin oEq (var 1) (con (.int 2))) (ret (tupE [con (.int 11),con (.int 52)])) (pass_))
  (seq (ifs (bin oEq (var 1) (con (.int 3))) (ret (tupE [con (.int 15),con (.int 112)])) (pass_))
  (seq (ifs (bin oLt (var 1) (con (.int 6))) (ret (tupE [bin oAdd (con (.int 2)) (bin oMod (var 2) (con (.int 14))),bin oAdd (con (.int 1)) (bin oMod (bin oDiv (var 2) (con (.int 14))) (con (.int 112)))])) (pass_))
  (ret (tupE [bin oAdd (con (.int 2)) (bin oMod (var 2) (con (.int 4))),bin oAdd (con (.int 1)) (bin oMod (bin oDiv (var 2) (con (.int 4))) (con (.int 5)))]))))))))
def p_law_size_by:List D→R D:=fn 1 3 g_law_size_by
def g_law_sign_by:S :=
  seq (assign 1 (con (.str " !\"#$&'()*+,-./0123456789:;<=>?@ABCDEFGHIJKLMNOPQRSTUVWXYZ[\\]^_`")))
  (seq (assign 1 (bin oAdd (var 1) (con (.str "abcdefghijklmnopqrstuvwxyz{|}~"))))
  (seq (ifs (bin oEq (bin oMod (var 0) (con (.int 2))) (con (.int 0))) (ret (bin oIx (con (.str ".e+-0 E5")) (bin oMod (bin oDiv (var 0) (con (.int 2))) (con (.int 8))))) (pass_))
  (ret (bin oIx (var 1) (bin oMod (bin oDiv (var 0) (con (.int 2))) (con (.int 94)))))))
def p_law_sign_by:List D→R D:=fn 1 2 g_law_sign_by
def g_law_due_of:S :=
  seq (assign 1 (mS mPartition (mS mStrip (var 0) (con (.str " "))) (con (.str "e"))))
  (seq (assign 2 (mS mPartition (mS mStrip (bin oIx (var 1) (con (.int 0))) (con (.str "+-"))) (con (.str "."))))
  (seq (assign 3 (con (.int 0)))
  (seq (ifs (bin oEq (bin oIx (var 1) (con (.int 1))) (con (.str "e"))) (assign 3 (call bIntS [mS mStrip (bin oIx (var 1) (con (.int 2))) (con (.str "+-"))])) (pass_))
  (seq (ifs (mS mStartswith (bin oIx (var 1) (con (.int 2))) (con (.str "-"))) (assign 3 (un oNeg (var 3))) (pass_))
  (ret (tupE [call bInt [mS mStartswith (bin oIx (var 1) (con (.int 0))) (con (.str "-"))],call bIntS [bin oAdd (bin oIx (var 2) (con (.int 0))) (bin oIx (var 2) (con (.int 2)))],bin oSub (var 3) (call bLen [bin oIx (var 2) (con (.int 2))])]))))))
def p_law_due_of:List D→R D:=fn 1 4 g_law_due_of
def g_law_whole:S :=
  ret (and_ (call bIsi [var 0,con (.ty "int")]) (not_ (call bIsi [var 0,con (.ty "bool")])))
def p_law_whole:List D→R D:=fn 1 1 g_law_whole
def g_law:S :=
  seq (assign 1 (call p_law_numeral_by [var 0]))
  (seq (assign 2 (bin oMod (call p_law_cell_at [var 0,con (.int 7)]) (con (.int 6))))
  (seq (assign 3 (call p_law_cell_at [var 0,con (.int 8)]))
  (seq (ifs (bin oLt (var 2) (con (.int 4))) (assign 1 (call p_law_spoiled [var 1,var 2,var 3,call p_law_sign_by [call p_law_cell_at [var 0,con (.int 9)]]])) (pass_))
  (seq (ifs (bin oEq (var 2) (con (.int 4))) (assign 1 (call p_law_odd_by [var 3])) (pass_))
  (seq (ifs (and_ (bin oEq (var 2) (con (.int 5))) (bin oEq (bin oMod (var 3) (con (.int 2))) (con (.int 0)))) (assign 1 (bin oAdd (var 1) (bin oRepS (con (.str " ")) (bin oSub (bin oAdd (con (.int 395)) (bin oMod (bin oDiv (var 3) (con (.int 2))) (con (.int 66)))) (call bLen [var 1]))))) (pass_))
  (seq (ifs (and_ (bin oEq (var 2) (con (.int 5))) (bin oEq (bin oMod (var 3) (con (.int 2))) (con (.int 1)))) (assign 1 (bin oAdd (bin oRepS (con (.str "0")) (bin oSub (bin oAdd (con (.int 395)) (bin oMod (bin oDiv (var 3) (con (.int 2))) (con (.int 66)))) (call bLen [var 1]))) (var 1))) (pass_))
  (seq (ifs (call p_law_is_numeral [var 1]) (seq (assign 4 (call p_spelled [var 1]))
  (seq (ifs (or_ (not_ (call bIsi [var 4,con (.ty "tuple")])) (bin oNe (call bLen [var 4]) (con (.int 3)))) (ret (con (.bl false))) (pass_))
  (seq (ifs (or_ (not_ (call p_law_whole [bin oIx (var 4) (con (.int 0))])) (or_ (not_ (call p_law_whole [bin oIx (var 4) (con (.int 1))])) (not_ (call p_law_whole [bin oIx (var 4) (con (.int 2))])))) (ret (con (.bl false))) (pass_))
  (ret (bin oEq (var 4) (call p_law_due_of [var 1])))))) (pass_))
  (seq (ifs (not_ (call p_law_refused [var 1,con (.str ""),tupE [con (.int 5),con (.int 10)]])) (ret (con (.bl false))) (pass_))
  (seq (ifs (or_ (bin oEq (var 1) (con (.str "none"))) (bin oEq (var 1) (con (.str "endless")))) (ret (con (.bl true))) (pass_))
  (ret (call p_law_refused [var 1,call p_law_way_by [call p_law_cell_at [var 0,con (.int 10)]],call p_law_size_by [call p_law_cell_at [var 0,con (.int 11)]]])))))))))))
def p_law:List D→R D:=fn 1 5 g_law
end T
namespace T
open PySem PySem.Spec PyProof.Rows L2 EV ES
def top (i:Nat):Stmt:=PySem.Challenge.pw_roundmill_k48_spelled_refused.main.body.getD i (.Pass ⟨0,0,0,0⟩)
set_option maxHeartbeats 4000000
def s_Way_init:Stmt:=(clsBody (top 38)).getD 0 (.Pass ⟨0,0,0,0⟩)
def s_law_mark_by:Stmt:=top 62
abbrev N_law_mark_by:List Str:=["_law_cell"]
abbrev G_law_mark_by:List Str:=[]
theorem sc_law_mark_by:ScF N_law_mark_by G_law_mark_by ["_law_cell"] (defScope s_law_mark_by):=by walk_at "S"
def s_law_cell_at:Stmt:=top 57
abbrev N_law_cell_at:List Str:=["_law_script","_law_k"]
abbrev G_law_cell_at:List Str:=["len"]
theorem sc_law_cell_at:ScF N_law_cell_at G_law_cell_at ["_law_script","_law_k"] (defScope s_law_cell_at):=by walk_at "S"
def s_law_run:Stmt:=top 61
abbrev N_law_run:List Str:=["_law_cell","_law_count","_law_some"]
abbrev G_law_run:List Str:=["str"]
theorem sc_law_run:ScF N_law_run G_law_run ["_law_cell","_law_count"] (defScope s_law_run):=by walk_at "S"
def s_law_numeral_by:Stmt:=top 63
abbrev N_law_numeral_by:List Str:=["_law_script","_law_line"]
abbrev G_law_numeral_by:List Str:=["_law_mark_by","_law_cell_at","_law_run"]
theorem sc_law_numeral_by:ScF N_law_numeral_by G_law_numeral_by ["_law_script"] (defScope s_law_numeral_by):=by walk_at "S"
def s_law_step:Stmt:=top 67
abbrev N_law_step:List Str:=["_law_state","_law_sign","_law_figure"]
abbrev G_law_step:List Str:=[]
theorem sc_law_step:ScF N_law_step G_law_step ["_law_state","_law_sign"] (defScope s_law_step):=by walk_at "S"
def s_law_is_numeral:Stmt:=top 68
abbrev N_law_is_numeral:List Str:=["_law_line","_law_state","_law_sign"]
abbrev G_law_is_numeral:List Str:=["len","_law_step"]
theorem sc_law_is_numeral:ScF N_law_is_numeral G_law_is_numeral ["_law_line"] (defScope s_law_is_numeral):=by walk_at "S"
def s_law_alone:Stmt:=top 70
abbrev N_law_alone:List Str:=["_law_caught"]
abbrev G_law_alone:List Str:=["isinstance","NoText","ValueError","NoSize","NoBits","NoParts","NoRank","NotFinite","NoWay","NoFlags","NoFraction","Unlike","Empty","NoLeft","NoRow","NoName","Stopped"]
theorem sc_law_alone:ScF N_law_alone G_law_alone ["_law_caught"] (defScope s_law_alone):=by walk_at "S"
def s_sign_and_word:Stmt:=top 52
abbrev N_sign_and_word:List Str:=["word"]
abbrev G_sign_and_word:List Str:=[]
theorem sc_sign_and_word:ScF N_sign_and_word G_sign_and_word ["word"] (defScope s_sign_and_word):=by walk_at "S"
def s_bare_line:Stmt:=top 51
abbrev N_bare_line:List Str:=["line"]
abbrev G_bare_line:List Str:=["len","LONGEST_LINE","NoText"]
theorem sc_bare_line:ScF N_bare_line G_bare_line ["line"] (defScope s_bare_line):=by walk_at "S"
def s_all_figures:Stmt:=top 50
abbrev N_all_figures:List Str:=["word"]
abbrev G_all_figures:List Str:=["all"]
theorem sc_all_figures:ScF N_all_figures G_all_figures ["word"] (defScope s_all_figures):=by walk_at "S"
def s_exponent_of:Stmt:=top 53
abbrev N_exponent_of:List Str:=["word","parts"]
abbrev G_exponent_of:List Str:=["sign_and_word","all_figures","len","LONGEST_EXPONENT","NoText","int"]
theorem sc_exponent_of:ScF N_exponent_of G_exponent_of ["word"] (defScope s_exponent_of):=by walk_at "S"
def s_spelled:Stmt:=top 54
abbrev N_spelled:List Str:=["line","start","halves","exponent","body"]
abbrev G_spelled:List Str:=["sign_and_word","bare_line","exponent_of","all_figures","NoText","int","len"]
theorem sc_spelled:ScF N_spelled G_spelled ["line"] (defScope s_spelled):=by walk_at "S"
def s_way_of:Stmt:=top 39
abbrev N_way_of:List Str:=["name"]
abbrev G_way_of:List Str:=["NAMES","NoWay","Way"]
theorem sc_way_of:ScF N_way_of G_way_of ["name"] (defScope s_way_of):=by walk_at "S"
def s_ten_to:Stmt:=top 48
abbrev N_ten_to:List Str:=["number","half"]
abbrev G_ten_to:List Str:=["ten_to"]
theorem sc_ten_to:ScF N_ten_to G_ten_to ["number"] (defScope s_ten_to):=by walk_at "S"
def s_tenfold:Stmt:=top 49
abbrev N_tenfold:List Str:=["top","bottom","place"]
abbrev G_tenfold:List Str:=["ten_to"]
theorem sc_tenfold:ScF N_tenfold G_tenfold ["top","bottom","place"] (defScope s_tenfold):=by walk_at "S"
def s_check_fraction:Stmt:=top 27
abbrev N_check_fraction:List Str:=["top","bottom"]
abbrev G_check_fraction:List Str:=["NoFraction"]
theorem sc_check_fraction:ScF N_check_fraction G_check_fraction ["top","bottom"] (defScope s_check_fraction):=by walk_at "S"
def s_scaled:Stmt:=top 28
abbrev N_scaled:List Str:=["top","bottom","power"]
abbrev G_scaled:List Str:=[]
theorem sc_scaled:ScF N_scaled G_scaled ["top","bottom","power"] (defScope s_scaled):=by walk_at "S"
def s_bias:Stmt:=top 18
abbrev N_bias:List Str:=["size"]
abbrev G_bias:List Str:=[]
theorem sc_bias:ScF N_bias G_bias ["size"] (defScope s_bias):=by walk_at "S"
def s_low:Stmt:=top 19
abbrev N_low:List Str:=["size"]
abbrev G_low:List Str:=["bias"]
theorem sc_low:ScF N_low G_low ["size"] (defScope s_low):=by walk_at "S"
def s_rest_by_middle:Stmt:=top 30
abbrev N_rest_by_middle:List Str:=["over","number","middle"]
abbrev G_rest_by_middle:List Str:=[]
theorem sc_rest_by_middle:ScF N_rest_by_middle G_rest_by_middle ["over","number","middle"] (defScope s_rest_by_middle):=by walk_at "S"
def s_rest_of:Stmt:=top 31
abbrev N_rest_of:List Str:=["over","step"]
abbrev G_rest_of:List Str:=["rest_by_middle"]
theorem sc_rest_of:ScF N_rest_of G_rest_of ["over","step"] (defScope s_rest_of):=by walk_at "S"
def s_height:Stmt:=top 29
abbrev N_height:List Str:=["top","bottom","guess","parts"]
abbrev G_height:List Str:=["scaled"]
theorem sc_height:ScF N_height G_height ["top","bottom"] (defScope s_height):=by walk_at "S"
def s_cut:Stmt:=top 32
abbrev N_cut:List Str:=["size","top","bottom","power","parts"]
abbrev G_cut:List Str:=["check_fraction","low","max","height","scaled","rest_of"]
theorem sc_cut:ScF N_cut G_cut ["size","top","bottom"] (defScope s_cut):=by walk_at "S"
def s_last_field:Stmt:=top 21
abbrev N_last_field:List Str:=["size"]
abbrev G_last_field:List Str:=[]
theorem sc_last_field:ScF N_last_field G_last_field ["size"] (defScope s_last_field):=by walk_at "S"
def s_endless:Stmt:=top 22
abbrev N_endless:List Str:=["size"]
abbrev G_endless:List Str:=["last_field"]
theorem sc_endless:ScF N_endless G_endless ["size"] (defScope s_endless):=by walk_at "S"
def s_sign_bit:Stmt:=top 20
abbrev N_sign_bit:List Str:=["size"]
abbrev G_sign_bit:List Str:=[]
theorem sc_sign_bit:ScF N_sign_bit G_sign_bit ["size"] (defScope s_sign_bit):=by walk_at "S"
def s_signed:Stmt:=top 25
abbrev N_signed:List Str:=["size","sign","code"]
abbrev G_signed:List Str:=["sign_bit"]
theorem sc_signed:ScF N_signed G_signed ["size","sign","code"] (defScope s_signed):=by walk_at "S"
def s_lost_flags:Stmt:=top 42
abbrev N_lost_flags:List Str:=["size","code","taken","faint"]
abbrev G_lost_flags:List Str:=["endless","INEXACT","GREAT","SMALL"]
theorem sc_lost_flags:ScF N_lost_flags G_lost_flags ["size","code","taken"] (defScope s_lost_flags):=by walk_at "S"
def s_Way_flees_nought:Stmt:=(clsBody (top 38)).getD 3 (.Pass ⟨0,0,0,0⟩)
abbrev N_Way_flees_nought:List Str:=["self","sign"]
abbrev G_Way_flees_nought:List Str:=[]
theorem sc_Way_flees_nought:ScF N_Way_flees_nought G_Way_flees_nought ["self","sign"] (defScope s_Way_flees_nought):=by walk_at "S"
def s_Way_grows:Stmt:=(clsBody (top 38)).getD 1 (.Pass ⟨0,0,0,0⟩)
abbrev N_Way_grows:List Str:=["self","sign","odd","rest"]
abbrev G_Way_grows:List Str:=[]
theorem sc_Way_grows:ScF N_Way_grows G_Way_grows ["self","sign","odd","rest"] (defScope s_Way_grows):=by walk_at "S"
def s_Way_bursts:Stmt:=(clsBody (top 38)).getD 2 (.Pass ⟨0,0,0,0⟩)
abbrev N_Way_bursts:List Str:=["self","sign"]
abbrev G_Way_bursts:List Str:=[]
theorem sc_Way_bursts:ScF N_Way_bursts G_Way_bursts ["self","sign"] (defScope s_Way_bursts):=by walk_at "S"
def s_settled:Stmt:=top 41
abbrev N_settled:List Str:=["size","way","sign","whole","power","rest","chosen","code","end","taken"]
abbrev G_settled:List Str:=["way_of","low","endless","signed","INEXACT","GREAT","lost_flags"]
theorem sc_settled:ScF N_settled G_settled ["size","way","sign","whole","power","rest"] (defScope s_settled):=by walk_at "S"
def s_rounded:Stmt:=top 43
abbrev N_rounded:List Str:=["size","way","sign","top","bottom","parts"]
abbrev G_rounded:List Str:=["way_of","cut","settled"]
theorem sc_rounded:ScF N_rounded G_rounded ["size","way","sign","top","bottom"] (defScope s_rounded):=by walk_at "S"
def s_no_number:Stmt:=top 23
abbrev N_no_number:List Str:=["size"]
abbrev G_no_number:List Str:=["endless"]
theorem sc_no_number:ScF N_no_number G_no_number ["size"] (defScope s_no_number):=by walk_at "S"
def s_read:Stmt:=top 55
abbrev N_read:List Str:=["size","way","line","start","spelling","value"]
abbrev G_read:List Str:=["way_of","sign_and_word","bare_line","signed","endless","no_number","spelled","tenfold","rounded"]
theorem sc_read:ScF N_read G_read ["size","way","line"] (defScope s_read):=by walk_at "S"
def s_law_refused:Stmt:=top 71
abbrev N_law_refused:List Str:=["_law_line","_law_way","_law_size","_law_caught","e"]
abbrev G_law_refused:List Str:=["spelled","read","MillError","_law_alone"]
theorem sc_law_refused:ScF N_law_refused G_law_refused ["_law_line","_law_way","_law_size"] (defScope s_law_refused):=by walk_at "S"
def s_law_spoiled:Stmt:=top 66
abbrev N_law_spoiled:List Str:=["_law_line","_law_way","_law_place","_law_sign","_law_at"]
abbrev G_law_spoiled:List Str:=["len"]
theorem sc_law_spoiled:ScF N_law_spoiled G_law_spoiled ["_law_line","_law_way","_law_place","_law_sign"] (defScope s_law_spoiled):=by walk_at "S"
def s_law_odd_by:Stmt:=top 65
abbrev N_law_odd_by:List Str:=["_law_cell","_law_some"]
abbrev G_law_odd_by:List Str:=[]
theorem sc_law_odd_by:ScF N_law_odd_by G_law_odd_by ["_law_cell"] (defScope s_law_odd_by):=by walk_at "S"
def s_law_way_by:Stmt:=top 60
abbrev N_law_way_by:List Str:=["_law_cell"]
abbrev G_law_way_by:List Str:=[]
theorem sc_law_way_by:ScF N_law_way_by G_law_way_by ["_law_cell"] (defScope s_law_way_by):=by walk_at "S"
def s_law_size_by:Stmt:=top 59
abbrev N_law_size_by:List Str:=["_law_cell","_law_way","_law_rest"]
abbrev G_law_size_by:List Str:=[]
theorem sc_law_size_by:ScF N_law_size_by G_law_size_by ["_law_cell"] (defScope s_law_size_by):=by walk_at "S"
def s_law_sign_by:Stmt:=top 64
abbrev N_law_sign_by:List Str:=["_law_cell","_law_some"]
abbrev G_law_sign_by:List Str:=[]
theorem sc_law_sign_by:ScF N_law_sign_by G_law_sign_by ["_law_cell"] (defScope s_law_sign_by):=by walk_at "S"
def s_law_due_of:Stmt:=top 69
abbrev N_law_due_of:List Str:=["_law_line","_law_parts","_law_point","_law_number"]
abbrev G_law_due_of:List Str:=["int","len"]
theorem sc_law_due_of:ScF N_law_due_of G_law_due_of ["_law_line"] (defScope s_law_due_of):=by walk_at "S"
def s_law_whole:Stmt:=top 58
abbrev N_law_whole:List Str:=["_law_found"]
abbrev G_law_whole:List Str:=["isinstance","int","bool"]
theorem sc_law_whole:ScF N_law_whole G_law_whole ["_law_found"] (defScope s_law_whole):=by walk_at "S"
def s_law:Stmt:=top 72
abbrev N_law:List Str:=["_law_script","_law_line","_law_way","_law_place","_law_found"]
abbrev G_law:List Str:=["_law_numeral_by","_law_cell_at","_law_spoiled","_law_sign_by","_law_odd_by","len","_law_is_numeral","spelled","isinstance","tuple","_law_whole","_law_due_of","_law_refused","_law_way_by","_law_size_by"]
theorem sc_law:ScF N_law G_law ["_law_script"] (defScope s_law):=by walk_at "S"
section
variable {X:Cx} {k:Nat} (hr:Room k X.A) (L:Lp X) (O:Own X)
include hr L O
theorem b_law_mark_by (P:Pl X N_law_mark_by G_law_mark_by) (hS:X.env.scope=defScope s_law_mark_by)
     : SSs X (defBody s_law_mark_by) g_law_mark_by:=by
  unfold g_law_mark_by
  exact (s_one (P.ret (e_ix (e_lst (a3 e_str e_str e_str) (by decide)) (e_mod (P.v 0) e_int))))
theorem b_law_cell_at (P:Pl X N_law_cell_at G_law_cell_at) (hS:X.env.scope=defScope s_law_cell_at)
    (m_len:X.mg "len"=none):SSs X (defBody s_law_cell_at) g_law_cell_at:=by
  unfold g_law_cell_at
  exact (s_cons (P.if_ (t_lt (P.v 1) (e_bltn c_len nxLen (P.w 0) m_len PySem.boot_len (a1 (P.v 0)))) (s_one (P.ret (e_ix (P.v 0) (P.v 1)))) s_nil)
  (s_one (P.ret e_int)))
theorem b_law_run (P:Pl X N_law_run G_law_run) (hS:X.env.scope=defScope s_law_run)
    (m_str:X.mg "str"=none):SSs X (defBody s_law_run) g_law_run:=by
  unfold g_law_run
  exact (s_cons (P.set 2 (e_mS nxZfill PySem.F.slot_str_zfill PySem.F.type_str_zfill mt_zfill (e_btyp c_str nxStr (P.w 0) m_str boot_str (a1 (e_mod (e_mul (P.v 0) e_int) (e_pow e_int e_int)))) e_int))
  (s_one (P.ret (e_slcS (e_repT (P.v 2) e_int) (po_some' (e_sub e_int (P.v 1))) po_none'))))
theorem b_law_numeral_by (P:Pl X N_law_numeral_by G_law_numeral_by) (hS:X.env.scope=defScope s_law_numeral_by)
    (c_law_mark_by:Callee X "_law_mark_by" p_law_mark_by) (c_law_cell_at:Callee X "_law_cell_at" p_law_cell_at) (c_law_run:Callee X "_law_run" p_law_run):SSs X (defBody s_law_numeral_by) g_law_numeral_by:=by
  unfold g_law_numeral_by
  exact (s_cons (P.set 1 (P.call 0 c_law_mark_by (a1 (P.call 1 c_law_cell_at (a2 (P.v 0) e_int)))))
  (s_cons (P.set 1 (e_add (P.v 1) (P.call 2 c_law_run (a2 (P.call 1 c_law_cell_at (a2 (P.v 0) e_int)) (e_add e_int (e_mod (P.call 1 c_law_cell_at (a2 (P.v 0) e_int)) e_int))))))
  (s_cons (P.if_ (t_eq hr (e_mod (P.call 1 c_law_cell_at (a2 (P.v 0) e_int)) e_int) e_int) (s_one (P.set 1 (e_add (e_add (P.v 1) e_str) (P.call 2 c_law_run (a2 (P.call 1 c_law_cell_at (a2 (P.v 0) e_int)) (e_add e_int (e_mod (e_div (P.call 1 c_law_cell_at (a2 (P.v 0) e_int)) e_int) e_int))))))) s_nil)
  (s_cons (P.if_ (t_eq hr (e_mod (P.call 1 c_law_cell_at (a2 (P.v 0) e_int)) e_int) e_int) (s_cons (P.set 1 (e_add (e_add (P.v 1) e_str) (P.call 0 c_law_mark_by (a1 (P.call 1 c_law_cell_at (a2 (P.v 0) e_int))))))
  (s_one (P.set 1 (e_add (P.v 1) (P.call 2 c_law_run (a2 (e_div (P.call 1 c_law_cell_at (a2 (P.v 0) e_int)) e_int) (e_add e_int (e_mod (e_div (P.call 1 c_law_cell_at (a2 (P.v 0) e_int)) e_int) e_int)))))))) s_nil)
  (s_one (P.ret (P.v 1)))))))
theorem b_law_step (P:Pl X N_law_step G_law_step) (hS:X.env.scope=defScope s_law_step)
     : SSs X (defBody s_law_step) g_law_step:=by
  unfold g_law_step
  exact (s_cons (P.set 2 (e_in (P.v 1) e_str))
  (s_cons (P.if_ (t_w (w_and (t_eq hr (P.v 0) e_int) (w_and1 (t_w (w_or (t_eq hr (P.v 1) e_str) (w_or1 (t_eq hr (P.v 1) e_str))))))) (s_one (P.ret e_int)) s_nil)
  (s_cons (P.if_ (t_w (w_and (t_lt (P.v 0) e_int) (w_and1 (t_val (P.v 2))))) (s_one (P.ret e_int)) s_nil)
  (s_cons (P.if_ (t_w (w_and (t_eq hr (P.v 0) e_int) (w_and1 (t_eq hr (P.v 1) e_str)))) (s_one (P.ret e_int)) s_nil)
  (s_cons (P.if_ (t_w (w_and (t_w (w_or (t_eq hr (P.v 0) e_int) (w_or1 (t_eq hr (P.v 0) e_int)))) (w_and1 (t_val (P.v 2))))) (s_one (P.ret e_int)) s_nil)
  (s_cons (P.if_ (t_w (w_and (t_w (w_or (t_eq hr (P.v 0) e_int) (w_or1 (t_eq hr (P.v 0) e_int)))) (w_and1 (t_eq hr (P.v 1) e_str)))) (s_one (P.ret e_int)) s_nil)
  (s_cons (P.if_ (t_w (w_and (t_eq hr (P.v 0) e_int) (w_and1 (t_w (w_or (t_eq hr (P.v 1) e_str) (w_or1 (t_eq hr (P.v 1) e_str))))))) (s_one (P.ret e_int)) s_nil)
  (s_cons (P.if_ (t_w (w_and (t_w (w_or (t_eq hr (P.v 0) e_int) (w_or1 (t_eq hr (P.v 0) e_int)))) (w_and1 (t_val (P.v 2))))) (s_one (P.ret e_int)) s_nil)
  (s_cons (P.if_ (t_w (w_and (t_chain nxLe nxLe op_leD op_leD e_int (P.v 0) e_int) (w_and1 (t_val (P.v 2))))) (s_one (P.ret (e_add (P.v 0) e_int))) s_nil)
  (s_one (P.ret e_int)))))))))))
theorem b_law_is_numeral (P:Pl X N_law_is_numeral G_law_is_numeral) (hS:X.env.scope=defScope s_law_is_numeral)
    (m_len:X.mg "len"=none) (c_law_step:Callee X "_law_step" p_law_step):SSs X (defBody s_law_is_numeral) g_law_is_numeral:=by
  unfold g_law_is_numeral
  exact (s_cons (P.if_ (t_gt (e_bltn c_len nxLen (P.w 0) m_len PySem.boot_len (a1 (P.v 0))) e_int) (s_one (P.ret e_bl)) s_nil)
  (s_cons (P.set 1 e_int)
  (s_cons (s_forI P.toSx L 2 rfl (P.sto _ (mG 2)) (i_str (e_mS nxStrip PySem.F.slot_str_strip PySem.F.type_str_strip mt_strip (P.v 0) e_str)) (s_one (P.set 1 (P.call 1 c_law_step (a2 (P.v 1) (P.v 2))))))
  (s_one (P.ret (e_or (e_eq hr (P.v 1) e_int) (e_or (e_eq hr (P.v 1) e_int) (e_one (e_chain nxLe nxLe op_leD op_leD e_int (P.v 1) e_int)))))))))
theorem b_law_alone (P:Pl X N_law_alone G_law_alone) (hS:X.env.scope=defScope s_law_alone) {C_Empty C_NoBits C_NoFlags C_NoFraction C_NoLeft C_NoName C_NoParts C_NoRank C_NoRow C_NoSize C_NoText C_NoWay C_NotFinite C_Stopped C_Unlike:Addr}
    (q_NoText:X.mg "NoText"=some (.ref  C_NoText)) (isi_NoText:Isi X (.cls "NoText")) (hE:ExcKit X) (m_isinstance:X.mg "isinstance"=none) (m_ValueError:X.mg "ValueError"=none) (isi_ValueError:Isi X (.ty "ValueError")) (q_NoSize:X.mg "NoSize"=some (.ref  C_NoSize)) (q_NoBits:X.mg "NoBits"=some (.ref  C_NoBits)) (q_NoParts:X.mg "NoParts"=some (.ref  C_NoParts)) (q_NoRank:X.mg "NoRank"=some (.ref  C_NoRank)) (q_NotFinite:X.mg "NotFinite"=some (.ref  C_NotFinite)) (q_NoWay:X.mg "NoWay"=some (.ref  C_NoWay)) (q_NoFlags:X.mg "NoFlags"=some (.ref  C_NoFlags)) (isi_NoSize:Isi X (.cls "NoSize")) (isi_NoBits:Isi X (.cls "NoBits")) (isi_NoParts:Isi X (.cls "NoParts")) (isi_NoRank:Isi X (.cls "NoRank")) (isi_NotFinite:Isi X (.cls "NotFinite")) (isi_NoWay:Isi X (.cls "NoWay")) (isi_NoFlags:Isi X (.cls "NoFlags")) (q_NoFraction:X.mg "NoFraction"=some (.ref  C_NoFraction)) (q_Unlike:X.mg "Unlike"=some (.ref  C_Unlike)) (q_Empty:X.mg "Empty"=some (.ref  C_Empty)) (q_NoLeft:X.mg "NoLeft"=some (.ref  C_NoLeft)) (q_NoRow:X.mg "NoRow"=some (.ref  C_NoRow)) (q_NoName:X.mg "NoName"=some (.ref  C_NoName)) (q_Stopped:X.mg "Stopped"=some (.ref  C_Stopped)) (isi_NoFraction:Isi X (.cls "NoFraction")) (isi_Unlike:Isi X (.cls "Unlike")) (isi_Empty:Isi X (.cls "Empty")) (isi_NoLeft:Isi X (.cls "NoLeft")) (isi_NoRow:Isi X (.cls "NoRow")) (isi_NoName:Isi X (.cls "NoName")) (isi_Stopped:Isi X (.cls "Stopped")):SSs X (defBody s_law_alone) g_law_alone:=by
  unfold g_law_alone
  exact (s_cons (P.if_ (t_w (w_or (t_not (t_val (e_isi isi_NoText hE (P.w 0) m_isinstance (P.v 0) (e_cls (x:="NoText") (P.w 1) q_NoText)))) (w_or1 (t_not (t_val (e_isi isi_ValueError hE (P.w 0) m_isinstance (P.v 0) (e_ty (n:="ValueError") (P.w 2) m_ValueError boot_ValueError))))))) (s_one (P.ret e_bl)) s_nil)
  (s_cons (P.if_ (t_val (e_isiT (cs:=[.cls "NoSize",.cls "NoBits",.cls "NoParts",.cls "NoRank",.cls "NotFinite",.cls "NoWay",.cls "NoFlags"]) (by simp) (by simp) (isis_cons isi_NoSize (isis_cons isi_NoBits (isis_cons isi_NoParts (isis_cons isi_NoRank (isis_cons isi_NotFinite (isis_cons isi_NoWay (isis_cons isi_NoFlags isis_nil))))))) hE (P.w 0) m_isinstance (P.v 0) (e_tup (a_cons (e_cls (x:="NoSize") (P.w 3) q_NoSize) (a_cons (e_cls (x:="NoBits") (P.w 4) q_NoBits) (a_cons (e_cls (x:="NoParts") (P.w 5) q_NoParts) (a_cons (e_cls (x:="NoRank") (P.w 6) q_NoRank) (a_cons (e_cls (x:="NotFinite") (P.w 7) q_NotFinite) (a_cons (e_cls (x:="NoWay") (P.w 8) q_NoWay) (a_cons (e_cls (x:="NoFlags") (P.w 9) q_NoFlags) a_nil))))))) (by decide)))) (s_one (P.ret e_bl)) s_nil)
  (s_one (P.ret (e_not (e_isiT (cs:=[.cls "NoFraction",.cls "Unlike",.cls "Empty",.cls "NoLeft",.cls "NoRow",.cls "NoName",.cls "Stopped"]) (by simp) (by simp) (isis_cons isi_NoFraction (isis_cons isi_Unlike (isis_cons isi_Empty (isis_cons isi_NoLeft (isis_cons isi_NoRow (isis_cons isi_NoName (isis_cons isi_Stopped isis_nil))))))) hE (P.w 0) m_isinstance (P.v 0) (e_tup (a_cons (e_cls (x:="NoFraction") (P.w 10) q_NoFraction) (a_cons (e_cls (x:="Unlike") (P.w 11) q_Unlike) (a_cons (e_cls (x:="Empty") (P.w 12) q_Empty) (a_cons (e_cls (x:="NoLeft") (P.w 13) q_NoLeft) (a_cons (e_cls (x:="NoRow") (P.w 14) q_NoRow) (a_cons (e_cls (x:="NoName") (P.w 15) q_NoName) (a_cons (e_cls (x:="Stopped") (P.w 16) q_Stopped) a_nil))))))) (by decide))))))))
theorem b_sign_and_word (P:Pl X N_sign_and_word G_sign_and_word) (hS:X.env.scope=defScope s_sign_and_word)
     : SSs X (defBody s_sign_and_word) g_sign_and_word:=by
  unfold g_sign_and_word
  exact (s_cons (P.if_ (t_val (e_mS nxStartswith PySem.F.slot_str_startswith PySem.F.type_str_startswith mt_startswith (P.v 0) e_str)) (s_one (P.ret (e_tup (a2 e_int (e_slcS (P.v 0) (po_some' e_int) po_none')) (by decide)))) s_nil)
  (s_cons (P.if_ (t_val (e_mS nxStartswith PySem.F.slot_str_startswith PySem.F.type_str_startswith mt_startswith (P.v 0) e_str)) (s_one (P.ret (e_tup (a2 e_int (e_slcS (P.v 0) (po_some' e_int) po_none')) (by decide)))) s_nil)
  (s_one (P.ret (e_tup (a2 e_int (P.v 0)) (by decide))))))
theorem b_bare_line (P:Pl X N_bare_line G_bare_line) (hS:X.env.scope=defScope s_bare_line) {C_NoText:Addr}
    (m_len:X.mg "len"=none) (g_LONGEST_LINE:∃ t,X.mg "LONGEST_LINE"=some (.int 400 t)) (q_NoText:X.mg "NoText"=some (.ref  C_NoText)) (xi_NoText:PySem.W.excIn X.K C_NoText bmV "ValueError.__new__"=true):SSs X (defBody s_bare_line) g_bare_line:=by
  unfold g_bare_line
  exact (s_cons (P.if_ (t_gt (e_bltn c_len nxLen (P.w 0) m_len PySem.boot_len (a1 (P.v 0))) (e_gInt (P.w 1) g_LONGEST_LINE)) (s_one (s_raise (x:="NoText") L.calm (P.w 2) q_NoText xi_NoText)) s_nil)
  (s_one (P.ret (e_mS nxStrip PySem.F.slot_str_strip PySem.F.type_str_strip mt_strip (P.v 0) e_str))))
theorem b_all_figures (P:Pl X N_all_figures G_all_figures) (hS:X.env.scope=defScope s_all_figures)
    (g_FIGURES:∃ t,X.mg "FIGURES"=some (.str "0123456789" t)) (m_all:X.mg "all"=none):SSs X (defBody s_all_figures) g_all_figures:=by
  unfold g_all_figures
  exact (s_one (P.ret (e_and (e_ne hr (P.v 0) e_str) (e_one (e_bltn (c_all L.calm) nxAll (P.w 0) m_all boot_all (a1 (e_comp L.calm P.sc (x:="sign") (ksn:=[]) (G:=["FIGURES"]) (ks:=[]) (by walk_at "C") rfl (by decide) (by rw [hS];decide +kernel) (i_str (P.v 0)) (fun C fp s H S' G'=>(e_in (e_var S' 0 rfl) (e_gStr (G' _ (mG 0)) g_FIGURES))))))))))
theorem b_exponent_of (P:Pl X N_exponent_of G_exponent_of) (hS:X.env.scope=defScope s_exponent_of) {C_NoText:Addr}
    (c_sign_and_word:Callee X "sign_and_word" p_sign_and_word) (c_all_figures:Callee X "all_figures" p_all_figures) (m_len:X.mg "len"=none) (g_LONGEST_EXPONENT:∃ t,X.mg "LONGEST_EXPONENT"=some (.int 4 t)) (q_NoText:X.mg "NoText"=some (.ref  C_NoText)) (xi_NoText:PySem.W.excIn X.K C_NoText bmV "ValueError.__new__"=true) (m_int:X.mg "int"=none):SSs X (defBody s_exponent_of) g_exponent_of:=by
  unfold g_exponent_of
  exact (s_cons (P.set 1 (P.call 0 c_sign_and_word (a1 (P.v 0))))
  (s_cons (P.if_ (t_w (w_or (t_not (t_val (P.call 1 c_all_figures (a1 (P.y 1))))) (w_or1 (t_gt (e_bltn c_len nxLen (P.w 2) m_len PySem.boot_len (a1 (P.y 1))) (e_gInt (P.w 3) g_LONGEST_EXPONENT))))) (s_one (s_raise (x:="NoText") L.calm (P.w 4) q_NoText xi_NoText)) s_nil)
  (s_one (P.ret (e_if (t_eq hr (P.y 1) e_int) (e_neg (e_btyp c_intS nxIntS (P.w 5) m_int PyProof.Rows.boot_int (a1 (P.y 1)))) (e_btyp c_intS nxIntS (P.w 5) m_int PyProof.Rows.boot_int (a1 (P.y 1))))))))
theorem b_spelled (P:Pl X N_spelled G_spelled) (hS:X.env.scope=defScope s_spelled) {C_NoText:Addr}
    (c_sign_and_word:Callee X "sign_and_word" p_sign_and_word) (c_bare_line:Callee X "bare_line" p_bare_line) (c_exponent_of:Callee X "exponent_of" p_exponent_of) (c_all_figures:Callee X "all_figures" p_all_figures) (q_NoText:X.mg "NoText"=some (.ref  C_NoText)) (xi_NoText:PySem.W.excIn X.K C_NoText bmV "ValueError.__new__"=true) (m_int:X.mg "int"=none) (m_len:X.mg "len"=none):SSs X (defBody s_spelled) g_spelled:=by
  unfold g_spelled
  exact (s_cons (P.set 1 (P.call 0 c_sign_and_word (a1 (P.call 1 c_bare_line (a1 (P.v 0))))))
  (s_cons (P.set 2 (e_mS nxPartition PySem.F.slot_str_partition PySem.F.type_str_partition mt_partition (P.y 1) e_str))
  (s_cons (P.set 3 (e_if (t_eq hr (P.y 2) e_str) (P.call 2 c_exponent_of (a1 (P.y 2))) e_int))
  (s_cons (P.set 4 (e_mS nxPartition PySem.F.slot_str_partition PySem.F.type_str_partition mt_partition (P.y 2) e_str))
  (s_cons (P.if_ (t_not (t_val (P.call 3 c_all_figures (a1 (P.y 4))))) (s_one (s_raise (x:="NoText") L.calm (P.w 4) q_NoText xi_NoText)) s_nil)
  (s_cons (P.if_ (t_w (w_and (t_eq hr (P.y 4) e_str) (w_and1 (t_not (t_val (P.call 3 c_all_figures (a1 (P.y 4)))))))) (s_one (s_raise (x:="NoText") L.calm (P.w 4) q_NoText xi_NoText)) s_nil)
  (s_one (P.ret (e_tup (a3 (P.y 1) (e_btyp c_intS nxIntS (P.w 5) m_int PyProof.Rows.boot_int (a1 (e_add (P.y 4) (P.y 4)))) (e_sub (P.v 3) (e_bltn c_len nxLen (P.w 6) m_len PySem.boot_len (a1 (P.y 4))))) (by decide))))))))))
theorem b_way_of (P:Pl X N_way_of G_way_of) (hS:X.env.scope=defScope s_way_of) {C_NoWay:Addr}
    (g_NAMES:GC X "NAMES" (.tup [.str "even",.str "away",.str "nought",.str "up",.str "down"])) (q_NoWay:X.mg "NoWay"=some (.ref  C_NoWay)) (xi_NoWay:PySem.W.excIn X.K C_NoWay bmV "ValueError.__new__"=true) (mk_Way:MakeOk X "Way" "name"):SSs X (defBody s_way_of) g_way_of:=by
  unfold g_way_of
  exact (s_cons (P.if_ (t_notIn (P.v 0) (e_gC (P.w 0) g_NAMES)) (s_one (s_raise (x:="NoWay") L.calm (P.w 1) q_NoWay xi_NoWay)) s_nil)
  (s_one (P.ret (e_make1 (cn:="Way") (f:="name") mk_Way (P.w 2) (a1 (P.v 0))))))
theorem b_ten_to {P0:List D→R D} (P:Pl X N_ten_to G_ten_to) (hS:X.env.scope=defScope s_ten_to)
    (c_ten_to:Callee X "ten_to" P0):SSs X (defBody s_ten_to) (g_ten_to P0):=by
  unfold g_ten_to
  exact (s_cons (P.if_ (t_eq hr (P.v 0) e_int) (s_one (P.ret e_int)) s_nil)
  (s_cons (P.set 1 (P.call 0 c_ten_to (a1 (e_div (P.v 0) e_int))))
  (s_one (P.ret (e_if (t_eq hr (e_band (P.v 0) e_int) e_int) (e_mul (e_mul (P.v 1) (P.v 1)) e_int) (e_mul (P.v 1) (P.v 1)))))))
theorem b_tenfold (P:Pl X N_tenfold G_tenfold) (hS:X.env.scope=defScope s_tenfold)
    (c_ten_to:Callee X "ten_to" (p_ten_to 20)):SSs X (defBody s_tenfold) g_tenfold:=by
  unfold g_tenfold
  exact (s_cons (P.if_ (t_ge (P.v 2) e_int) (s_one (P.ret (e_tup (a2 (e_mul (P.v 0) (P.call 0 c_ten_to (a1 (P.v 2)))) (P.v 1)) (by decide)))) s_nil)
  (s_one (P.ret (e_tup (a2 (P.v 0) (e_mul (P.v 1) (P.call 0 c_ten_to (a1 (e_neg (P.v 2)))))) (by decide)))))
theorem b_check_fraction (P:Pl X N_check_fraction G_check_fraction) (hS:X.env.scope=defScope s_check_fraction) {C_NoFraction:Addr}
    (q_NoFraction:X.mg "NoFraction"=some (.ref  C_NoFraction)) (xi_NoFraction:PySem.W.excIn X.K C_NoFraction bmV "ValueError.__new__"=true):SSs X (defBody s_check_fraction) g_check_fraction:=by
  unfold g_check_fraction
  exact (s_one (P.if_ (t_w (w_or (t_lt (P.v 0) e_int) (w_or1 (t_lt (P.v 1) e_int)))) (s_one (s_raise (x:="NoFraction") L.calm (P.w 0) q_NoFraction xi_NoFraction)) s_nil))
theorem b_scaled (P:Pl X N_scaled G_scaled) (hS:X.env.scope=defScope s_scaled)
     : SSs X (defBody s_scaled) g_scaled:=by
  unfold g_scaled
  exact (s_cons (P.if_ (t_ge (P.v 2) e_int) (s_one (P.ret (e_tup (a2 (P.v 0) (e_shl (P.v 1) (P.v 2))) (by decide)))) s_nil)
  (s_one (P.ret (e_tup (a2 (e_shl (P.v 0) (e_neg (P.v 2))) (P.v 1)) (by decide)))))
theorem b_bias (P:Pl X N_bias G_bias) (hS:X.env.scope=defScope s_bias)
     : SSs X (defBody s_bias) g_bias:=by
  unfold g_bias
  exact (s_one (P.ret (e_sub (e_shl e_int (e_sub (P.y 0) e_int)) e_int)))
theorem b_low (P:Pl X N_low G_low) (hS:X.env.scope=defScope s_low)
    (c_bias:Callee X "bias" p_bias):SSs X (defBody s_low) g_low:=by
  unfold g_low
  exact (s_one (P.ret (e_sub (e_sub e_int (P.call 0 c_bias (a1 (P.v 0)))) (P.y 0))))
theorem b_rest_by_middle (P:Pl X N_rest_by_middle G_rest_by_middle) (hS:X.env.scope=defScope s_rest_by_middle)
     : SSs X (defBody s_rest_by_middle) g_rest_by_middle:=by
  unfold g_rest_by_middle
  exact (s_cons (P.if_ (t_eq hr (P.v 0) e_int) (s_one (P.ret e_int)) s_nil)
  (s_cons (P.if_ (t_lt (P.v 1) (P.v 2)) (s_one (P.ret e_int)) s_nil)
  (s_one (P.ret (e_if (t_eq hr (P.v 1) (P.v 2)) e_int e_int)))))
theorem b_rest_of (P:Pl X N_rest_of G_rest_of) (hS:X.env.scope=defScope s_rest_of)
    (c_rest_by_middle:Callee X "rest_by_middle" p_rest_by_middle):SSs X (defBody s_rest_of) g_rest_of:=by
  unfold g_rest_of
  exact (s_one (P.ret (P.call 0 c_rest_by_middle (a3 (P.v 0) (e_mul e_int (P.v 0)) (P.v 1)))))
theorem b_height (P:Pl X N_height G_height) (hS:X.env.scope=defScope s_height)
    (c_scaled:Callee X "scaled" p_scaled):SSs X (defBody s_height) g_height:=by
  unfold g_height
  exact (s_cons (P.set 2 (e_sub (e_bitlen (P.v 0)) (e_bitlen (P.v 1))))
  (s_cons (P.set 3 (P.call 0 c_scaled (a3 (P.v 0) (P.v 1) (P.v 2))))
  (s_one (P.ret (e_if (t_lt (P.y 3) (P.y 3)) (P.v 2) (e_add (P.v 2) e_int))))))
theorem b_cut (P:Pl X N_cut G_cut) (hS:X.env.scope=defScope s_cut)
    (c_check_fraction:Callee X "check_fraction" p_check_fraction) (c_low:Callee X "low" p_low) (c_height:Callee X "height" p_height) (m_max:X.mg "max"=none) (c_scaled:Callee X "scaled" p_scaled) (c_rest_of:Callee X "rest_of" p_rest_of):SSs X (defBody s_cut) g_cut:=by
  unfold g_cut
  exact (s_cons (P.xp (P.call 0 c_check_fraction (a2 (P.v 1) (P.v 2))))
  (s_cons (P.if_ (t_eq hr (P.v 1) e_int) (s_one (P.ret (e_tup (a3 e_int (P.call 1 c_low (a1 (P.v 0))) e_int) (by decide)))) s_nil)
  (s_cons (P.set 3 (e_bltn (c_max L.calm) nxMax (P.w 2) m_max boot_max (a2 (P.call 1 c_low (a1 (P.v 0))) (e_sub (e_sub (P.call 3 c_height (a2 (P.v 1) (P.v 2))) (P.y 0)) e_int))))
  (s_cons (P.set 4 (P.call 4 c_scaled (a3 (P.v 1) (P.v 2) (P.v 3))))
  (s_one (P.ret (e_tup (a3 (e_div (P.y 4) (P.y 4)) (P.v 3) (P.call 5 c_rest_of (a2 (e_mod (P.y 4) (P.y 4)) (P.y 4)))) (by decide))))))))
theorem b_last_field (P:Pl X N_last_field G_last_field) (hS:X.env.scope=defScope s_last_field)
     : SSs X (defBody s_last_field) g_last_field:=by
  unfold g_last_field
  exact (s_one (P.ret (e_sub (e_shl e_int (P.y 0)) e_int)))
theorem b_endless (P:Pl X N_endless G_endless) (hS:X.env.scope=defScope s_endless)
    (c_last_field:Callee X "last_field" p_last_field):SSs X (defBody s_endless) g_endless:=by
  unfold g_endless
  exact (s_one (P.ret (e_shl (P.call 0 c_last_field (a1 (P.v 0))) (P.y 0))))
theorem b_sign_bit (P:Pl X N_sign_bit G_sign_bit) (hS:X.env.scope=defScope s_sign_bit)
     : SSs X (defBody s_sign_bit) g_sign_bit:=by
  unfold g_sign_bit
  exact (s_one (P.ret (e_shl e_int (e_add (P.y 0) (P.y 0)))))
theorem b_signed (P:Pl X N_signed G_signed) (hS:X.env.scope=defScope s_signed)
    (c_sign_bit:Callee X "sign_bit" p_sign_bit):SSs X (defBody s_signed) g_signed:=by
  unfold g_signed
  exact (s_one (P.ret (e_add (e_mul (P.v 1) (P.call 0 c_sign_bit (a1 (P.v 0)))) (P.v 2))))
theorem b_lost_flags (P:Pl X N_lost_flags G_lost_flags) (hS:X.env.scope=defScope s_lost_flags)
    (c_endless:Callee X "endless" p_endless) (g_INEXACT:∃ t,X.mg "INEXACT"=some (.int 1 t)) (g_GREAT:∃ t,X.mg "GREAT"=some (.int 4 t)) (g_SMALL:∃ t,X.mg "SMALL"=some (.int 2 t)):SSs X (defBody s_lost_flags) g_lost_flags:=by
  unfold g_lost_flags
  exact (s_cons (P.if_ (t_eq hr (P.v 2) (P.call 0 c_endless (a1 (P.v 0)))) (s_one (P.ret (e_add (e_gInt (P.w 1) g_INEXACT) (e_gInt (P.w 2) g_GREAT)))) s_nil)
  (s_cons (P.set 3 (e_lt (P.v 1) (e_shl e_int (P.y 0))))
  (s_one (P.ret (e_if (t_val (P.v 3)) (e_add (e_gInt (P.w 1) g_INEXACT) (e_gInt (P.w 3) g_SMALL)) (e_gInt (P.w 1) g_INEXACT))))))
theorem b_Way_flees_nought (P:Pl X N_Way_flees_nought G_Way_flees_nought) (hS:X.env.scope=defScope s_Way_flees_nought)
    (fl_Way_name:FldOk X "Way" "name"):SSs X (defBody s_Way_flees_nought) g_Way_flees_nought:=by
  unfold g_Way_flees_nought
  exact (s_cons (P.if_ (t_eq hr (e_fld (cn:="Way") (f:="name") fl_Way_name (P.v 0)) e_str) (s_one (P.ret (e_eq hr (P.v 1) e_int))) s_nil)
  (s_one (P.ret (e_and (e_eq hr (e_fld (cn:="Way") (f:="name") fl_Way_name (P.v 0)) e_str) (e_one (e_eq hr (P.v 1) e_int))))))
theorem b_Way_grows (P:Pl X N_Way_grows G_Way_grows) (hS:X.env.scope=defScope s_Way_grows)
    (fl_Way_name:FldOk X "Way" "name") (mt_Way_flees_nought:MethOk X "Way" "flees_nought" p_Way_flees_nought):SSs X (defBody s_Way_grows) g_Way_grows:=by
  unfold g_Way_grows
  exact (s_cons (P.if_ (t_eq hr (P.v 3) e_int) (s_one (P.ret e_bl)) s_nil)
  (s_cons (P.if_ (t_eq hr (e_fld (cn:="Way") (f:="name") fl_Way_name (P.v 0)) e_str) (s_one (P.ret (e_or (e_eq hr (P.v 3) e_int) (e_one (e_and (e_eq hr (P.v 3) e_int) (e_one (P.v 2))))))) s_nil)
  (s_cons (P.if_ (t_eq hr (e_fld (cn:="Way") (f:="name") fl_Way_name (P.v 0)) e_str) (s_one (P.ret (e_ge (P.v 3) e_int))) s_nil)
  (s_one (P.ret (e_meth (cn:="Way") (m:="flees_nought") mt_Way_flees_nought (P.v 0) (a1 (P.v 1))))))))
theorem b_Way_bursts (P:Pl X N_Way_bursts G_Way_bursts) (hS:X.env.scope=defScope s_Way_bursts)
    (fl_Way_name:FldOk X "Way" "name") (mt_Way_flees_nought:MethOk X "Way" "flees_nought" p_Way_flees_nought):SSs X (defBody s_Way_bursts) g_Way_bursts:=by
  unfold g_Way_bursts
  exact (s_cons (P.if_ (t_in (e_fld (cn:="Way") (f:="name") fl_Way_name (P.v 0)) (e_tup (a2 e_str e_str) (by decide))) (s_one (P.ret e_bl)) s_nil)
  (s_one (P.ret (e_meth (cn:="Way") (m:="flees_nought") mt_Way_flees_nought (P.v 0) (a1 (P.v 1))))))
theorem b_settled (P:Pl X N_settled G_settled) (hS:X.env.scope=defScope s_settled)
    (c_way_of:Callee X "way_of" p_way_of) (c_low:Callee X "low" p_low) (c_endless:Callee X "endless" p_endless) (mt_Way_bursts:MethOk X "Way" "bursts" p_Way_bursts) (c_signed:Callee X "signed" p_signed) (g_INEXACT:∃ t,X.mg "INEXACT"=some (.int 1 t)) (g_GREAT:∃ t,X.mg "GREAT"=some (.int 4 t)) (mt_Way_grows:MethOk X "Way" "grows" p_Way_grows) (c_lost_flags:Callee X "lost_flags" p_lost_flags):SSs X (defBody s_settled) g_settled:=by
  unfold g_settled
  exact (s_cons (P.set 6 (P.call 0 c_way_of (a1 (P.v 1))))
  (s_cons (P.set 7 (e_add (e_shl (e_sub (P.v 4) (P.call 1 c_low (a1 (P.v 0)))) (P.y 0)) (P.v 3)))
  (s_cons (P.set 8 (P.call 2 c_endless (a1 (P.v 0))))
  (s_cons (P.if_ (t_ge (P.v 7) (P.v 8)) (s_cons (P.set 9 (e_if (t_val (e_meth (cn:="Way") (m:="bursts") mt_Way_bursts (P.v 6) (a1 (P.v 2)))) (P.v 8) (e_sub (P.v 8) e_int)))
  (s_one (P.ret (e_tup (a2 (P.call 3 c_signed (a3 (P.v 0) (P.v 2) (P.v 9))) (e_add (e_gInt (P.w 4) g_INEXACT) (e_gInt (P.w 5) g_GREAT))) (by decide))))) s_nil)
  (s_cons (P.if_ (t_eq hr (P.v 5) e_int) (s_one (P.ret (e_tup (a2 (P.call 3 c_signed (a3 (P.v 0) (P.v 2) (P.v 7))) e_int) (by decide)))) s_nil)
  (s_cons (P.set 9 (e_if (t_val (e_meth (cn:="Way") (m:="grows") mt_Way_grows (P.v 6) (a3 (P.v 2) (e_eq hr (e_band (P.v 7) e_int) e_int) (P.v 5)))) (e_add (P.v 7) e_int) (P.v 7)))
  (s_one (P.ret (e_tup (a2 (P.call 3 c_signed (a3 (P.v 0) (P.v 2) (P.v 9))) (P.call 6 c_lost_flags (a3 (P.v 0) (P.v 7) (P.v 9)))) (by decide))))))))))
theorem b_rounded (P:Pl X N_rounded G_rounded) (hS:X.env.scope=defScope s_rounded)
    (c_way_of:Callee X "way_of" p_way_of) (c_cut:Callee X "cut" p_cut) (c_settled:Callee X "settled" p_settled):SSs X (defBody s_rounded) g_rounded:=by
  unfold g_rounded
  exact (s_cons (P.xp (P.call 0 c_way_of (a1 (P.v 1))))
  (s_cons (P.set 5 (P.call 1 c_cut (a3 (P.v 0) (P.v 3) (P.v 4))))
  (s_one (P.ret (P.call 2 c_settled (a_cons (P.v 0) (a_cons (P.v 1) (a_cons (P.v 2) (a_cons (P.y 5) (a_cons (P.y 5) (a_cons (P.y 5) a_nil)))))))))))
theorem b_no_number (P:Pl X N_no_number G_no_number) (hS:X.env.scope=defScope s_no_number)
    (c_endless:Callee X "endless" p_endless):SSs X (defBody s_no_number) g_no_number:=by
  unfold g_no_number
  exact (s_one (P.ret (e_add (P.call 0 c_endless (a1 (P.v 0))) (e_shl e_int (e_sub (P.y 0) e_int)))))
theorem b_read (P:Pl X N_read G_read) (hS:X.env.scope=defScope s_read)
    (c_way_of:Callee X "way_of" p_way_of) (c_sign_and_word:Callee X "sign_and_word" p_sign_and_word) (c_bare_line:Callee X "bare_line" p_bare_line) (c_signed:Callee X "signed" p_signed) (c_endless:Callee X "endless" p_endless) (c_no_number:Callee X "no_number" p_no_number) (c_spelled:Callee X "spelled" p_spelled) (c_tenfold:Callee X "tenfold" p_tenfold) (c_rounded:Callee X "rounded" p_rounded):SSs X (defBody s_read) g_read:=by
  unfold g_read
  exact (s_cons (P.xp (P.call 0 c_way_of (a1 (P.v 1))))
  (s_cons (P.set 3 (P.call 1 c_sign_and_word (a1 (P.call 2 c_bare_line (a1 (P.v 2))))))
  (s_cons (P.if_ (t_eq hr (P.y 3) e_str) (s_one (P.ret (e_tup (a2 (P.call 3 c_signed (a3 (P.v 0) (P.y 3) (P.call 4 c_endless (a1 (P.v 0))))) e_int) (by decide)))) s_nil)
  (s_cons (P.if_ (t_eq hr (P.y 3) e_str) (s_one (P.ret (e_tup (a2 (P.call 5 c_no_number (a1 (P.v 0))) e_int) (by decide)))) s_nil)
  (s_cons (P.set 4 (P.call 6 c_spelled (a1 (P.v 2))))
  (s_cons (P.set 5 (P.call 7 c_tenfold (a3 (P.y 4) e_int (P.y 4))))
  (s_one (P.ret (P.call 8 c_rounded (a_cons (P.v 0) (a_cons (P.v 1) (a_cons (P.y 4) (a_cons (P.y 5) (a_cons (P.y 5) a_nil))))))))))))))
theorem b_law_refused (P:Pl X N_law_refused G_law_refused) (hS:X.env.scope=defScope s_law_refused) {C_MillError:Addr}
    (c_spelled:Callee X "spelled" p_spelled) (c_read:Callee X "read" p_read) (lc_4:X.env.scope.names.lookup ("e":Str)=some .local) (q_MillError:X.mg "MillError"=some (.ref  C_MillError)) (ct_MillError:Catches X "MillError" C_MillError) (c_law_alone:Callee X "_law_alone" p_law_alone):SSs X (defBody s_law_refused) g_law_refused:=by
  unfold g_law_refused
  exact (s_cons (P.set 3 e_non)
  (s_cons (s_try (cls:="MillError") P O 4 rfl lc_4 (P.w 2) q_MillError ct_MillError (fun pins W=>(s_one (s_if (P.try pins W).toSx (t_eq hr (e_var (P.try pins W).sc 1 rfl) e_str) (s_one (s_expr (P.try pins W).toSx (e_call ⟨c_spelled.ex⟩ ((P.try pins W).gb _ (mG 0)) (a1 (e_var (P.try pins W).sc 0 rfl))))) (s_one (s_expr (P.try pins W).toSx (e_call ⟨c_read.ex⟩ ((P.try pins W).gb _ (mG 1)) (a3 (e_var (P.try pins W).sc 2 rfl) (e_var (P.try pins W).sc 1 rfl) (e_var (P.try pins W).sc 0 rfl)))))))) (fun ea=>(s_one (s_set (P.inn ea).toSx 3 rfl ((P.inn ea).sto _ (mG 3)) (e_var (P.inn ea).sc 4 rfl)))))
  (s_one (P.ret (P.call 3 c_law_alone (a1 (P.v 3)))))))
theorem b_law_spoiled (P:Pl X N_law_spoiled G_law_spoiled) (hS:X.env.scope=defScope s_law_spoiled)
    (m_len:X.mg "len"=none):SSs X (defBody s_law_spoiled) g_law_spoiled:=by
  unfold g_law_spoiled
  exact (s_cons (P.set 4 (e_mod (P.v 2) (e_add (e_bltn c_len nxLen (P.w 0) m_len PySem.boot_len (a1 (P.v 0))) e_int)))
  (s_cons (P.if_ (t_eq hr (P.v 1) e_int) (s_one (P.ret (e_add (e_add (e_slcS (P.v 0) po_none' (po_some' (P.v 4))) (P.v 3)) (e_slcS (P.v 0) (po_some' (P.v 4)) po_none')))) s_nil)
  (s_cons (P.if_ (t_eq hr (P.v 1) e_int) (s_one (P.ret (e_add (e_add (e_slcS (P.v 0) po_none' (po_some' (P.v 4))) (P.v 3)) (e_slcS (P.v 0) (po_some' (e_add (P.v 4) e_int)) po_none')))) s_nil)
  (s_cons (P.if_ (t_eq hr (P.v 1) e_int) (s_one (P.ret (e_add (e_slcS (P.v 0) po_none' (po_some' (P.v 4))) (e_slcS (P.v 0) (po_some' (e_add (P.v 4) e_int)) po_none')))) s_nil)
  (s_one (P.ret (e_add (e_slcS (P.v 0) (po_some' (P.v 4)) po_none') (e_slcS (P.v 0) po_none' (po_some' (P.v 4))))))))))
theorem b_law_odd_by (P:Pl X N_law_odd_by G_law_odd_by) (hS:X.env.scope=defScope s_law_odd_by)
     : SSs X (defBody s_law_odd_by) g_law_odd_by:=by
  unfold g_law_odd_by
  exact (s_cons (P.set 1 (e_lst (a_cons e_str (a_cons e_str (a_cons e_str (a_cons e_str (a_cons e_str (a_cons e_str (a_cons e_str (a_cons e_str (a_cons e_str (a_cons e_str (a_cons e_str (a_cons e_str (a_cons e_str (a_cons e_str (a_cons e_str (a_cons e_str a_nil)))))))))))))))) (by decide)))
  (s_cons (P.set 1 (e_add (P.v 1) (e_lst (a_cons e_str (a_cons e_str (a_cons e_str (a_cons e_str (a_cons e_str (a_cons e_str (a_cons e_str (a_cons e_str (a_cons e_str (a_cons e_str (a_cons e_str (a_cons e_str a_nil)))))))))))) (by decide))))
  (s_cons (P.set 1 (e_add (P.v 1) (e_lst (a2 e_str e_str) (by decide))))
  (s_one (P.ret (e_ix (P.v 1) (e_mod (P.v 0) e_int)))))))
theorem b_law_way_by (P:Pl X N_law_way_by G_law_way_by) (hS:X.env.scope=defScope s_law_way_by)
     : SSs X (defBody s_law_way_by) g_law_way_by:=by
  unfold g_law_way_by
  exact (s_one (P.ret (e_ix (e_lst (a_cons e_str (a_cons e_str (a_cons e_str (a_cons e_str (a_cons e_str a_nil))))) (by decide)) (e_mod (P.v 0) e_int))))
theorem b_law_size_by (P:Pl X N_law_size_by G_law_size_by) (hS:X.env.scope=defScope s_law_size_by)
     : SSs X (defBody s_law_size_by) g_law_size_by:=by
  unfold g_law_size_by
  exact (s_cons (P.set 1 (e_mod (P.v 0) e_int))
  (s_cons (P.set 2 (e_div (P.v 0) e_int))
  (s_cons (P.if_ (t_eq hr (P.v 1) e_int) (s_one (P.ret (e_tup (a2 e_int e_int) (by decide)))) s_nil)
  (s_cons (P.if_ (t_eq hr (P.v 1) e_int) (s_one (P.ret (e_tup (a2 e_int e_int) (by decide)))) s_nil)
  (s_cons (P.if_ (t_eq hr (P.v 1) e_int) (s_one (P.ret (e_tup (a2 e_int e_int) (by decide)))) s_nil)
  (s_cons (P.if_ (t_eq hr (P.v 1) e_int) (s_one (P.ret (e_tup (a2 e_int e_int) (by decide)))) s_nil)
  (s_cons (P.if_ (t_lt (P.v 1) e_int) (s_one (P.ret (e_tup (a2 (e_add e_int (e_mod (P.v 2) e_int)) (e_add e_int (e_mod (e_div (P.v 2) e_int) e_int))) (by decide)))) s_nil)
  (s_one (P.ret (e_tup (a2 (e_add e_int (e_mod (P.v 2) e_int)) (e_add e_int (e_mod (e_div (P.v 2) e_int) e_int))) (by decide)))))))))))
theorem b_law_sign_by (P:Pl X N_law_sign_by G_law_sign_by) (hS:X.env.scope=defScope s_law_sign_by)
     : SSs X (defBody s_law_sign_by) g_law_sign_by:=by
  unfold g_law_sign_by
  exact (s_cons (P.set 1 e_str)
  (s_cons (P.set 1 (e_add (P.v 1) e_str))
  (s_cons (P.if_ (t_eq hr (e_mod (P.v 0) e_int) e_int) (s_one (P.ret (e_ix e_str (e_mod (e_div (P.v 0) e_int) e_int)))) s_nil)
  (s_one (P.ret (e_ix (P.v 1) (e_mod (e_div (P.v 0) e_int) e_int)))))))
theorem b_law_due_of (P:Pl X N_law_due_of G_law_due_of) (hS:X.env.scope=defScope s_law_due_of)
    (m_int:X.mg "int"=none) (m_len:X.mg "len"=none):SSs X (defBody s_law_due_of) g_law_due_of:=by
  unfold g_law_due_of
  exact (s_cons (P.set 1 (e_mS nxPartition PySem.F.slot_str_partition PySem.F.type_str_partition mt_partition (e_mS nxStrip PySem.F.slot_str_strip PySem.F.type_str_strip mt_strip (P.v 0) e_str) e_str))
  (s_cons (P.set 2 (e_mS nxPartition PySem.F.slot_str_partition PySem.F.type_str_partition mt_partition (e_mS nxStrip PySem.F.slot_str_strip PySem.F.type_str_strip mt_strip (P.y 1) e_str) e_str))
  (s_cons (P.set 3 e_int)
  (s_cons (P.if_ (t_eq hr (P.y 1) e_str) (s_one (P.set 3 (e_btyp c_intS nxIntS (P.w 0) m_int PyProof.Rows.boot_int (a1 (e_mS nxStrip PySem.F.slot_str_strip PySem.F.type_str_strip mt_strip (P.y 1) e_str))))) s_nil)
  (s_cons (P.if_ (t_val (e_mS nxStartswith PySem.F.slot_str_startswith PySem.F.type_str_startswith mt_startswith (P.y 1) e_str)) (s_one (P.set 3 (e_neg (P.v 3)))) s_nil)
  (s_one (P.ret (e_tup (a3 (e_btyp c_int nxInt (P.w 0) m_int PyProof.Rows.boot_int (a1 (e_mS nxStartswith PySem.F.slot_str_startswith PySem.F.type_str_startswith mt_startswith (P.y 1) e_str))) (e_btyp c_intS nxIntS (P.w 0) m_int PyProof.Rows.boot_int (a1 (e_add (P.y 2) (P.y 2)))) (e_sub (P.v 3) (e_bltn c_len nxLen (P.w 1) m_len PySem.boot_len (a1 (P.y 2))))) (by decide)))))))))
theorem b_law_whole (P:Pl X N_law_whole G_law_whole) (hS:X.env.scope=defScope s_law_whole)
    (m_int:X.mg "int"=none) (isi_int:Isi X (.ty "int")) (hE:ExcKit X) (m_isinstance:X.mg "isinstance"=none) (m_bool:X.mg "bool"=none) (isi_bool:Isi X (.ty "bool")):SSs X (defBody s_law_whole) g_law_whole:=by
  unfold g_law_whole
  exact (s_one (P.ret (e_and (e_isi isi_int hE (P.w 0) m_isinstance (P.v 0) (e_ty (n:="int") (P.w 1) m_int boot_int)) (e_one (e_not (e_isi isi_bool hE (P.w 0) m_isinstance (P.v 0) (e_ty (n:="bool") (P.w 2) m_bool boot_bool)))))))
theorem b_law (P:Pl X N_law G_law) (hS:X.env.scope=defScope s_law)
    (c_law_numeral_by:Callee X "_law_numeral_by" p_law_numeral_by) (c_law_cell_at:Callee X "_law_cell_at" p_law_cell_at) (c_law_spoiled:Callee X "_law_spoiled" p_law_spoiled) (c_law_sign_by:Callee X "_law_sign_by" p_law_sign_by) (c_law_odd_by:Callee X "_law_odd_by" p_law_odd_by) (m_len:X.mg "len"=none) (c_law_is_numeral:Callee X "_law_is_numeral" p_law_is_numeral) (c_spelled:Callee X "spelled" p_spelled) (m_tuple:X.mg "tuple"=none) (isi_tuple:Isi X (.ty "tuple")) (hE:ExcKit X) (m_isinstance:X.mg "isinstance"=none) (c_law_whole:Callee X "_law_whole" p_law_whole) (c_law_due_of:Callee X "_law_due_of" p_law_due_of) (c_law_refused:Callee X "_law_refused" p_law_refused) (c_law_way_by:Callee X "_law_way_by" p_law_way_by) (c_law_size_by:Callee X "_law_size_by" p_law_size_by):SSs X (defBody s_law) g_law:=by
  unfold g_law
  exact (s_cons (P.set 1 (P.call 0 c_law_numeral_by (a1 (P.v 0))))
  (s_cons (P.set 2 (e_mod (P.call 1 c_law_cell_at (a2 (P.v 0) e_int)) e_int))
  (s_cons (P.set 3 (P.call 1 c_law_cell_at (a2 (P.v 0) e_int)))
  (s_cons (P.if_ (t_lt (P.v 2) e_int) (s_one (P.set 1 (P.call 2 c_law_spoiled (a_cons (P.v 1) (a_cons (P.v 2) (a_cons (P.v 3) (a_cons (P.call 3 c_law_sign_by (a1 (P.call 1 c_law_cell_at (a2 (P.v 0) e_int)))) a_nil))))))) s_nil)
  (s_cons (P.if_ (t_eq hr (P.v 2) e_int) (s_one (P.set 1 (P.call 4 c_law_odd_by (a1 (P.v 3))))) s_nil)
  (s_cons (P.if_ (t_w (w_and (t_eq hr (P.v 2) e_int) (w_and1 (t_eq hr (e_mod (P.v 3) e_int) e_int)))) (s_one (P.set 1 (e_add (P.v 1) (e_repS e_str (e_sub (e_add e_int (e_mod (e_div (P.v 3) e_int) e_int)) (e_bltn c_len nxLen (P.w 5) m_len PySem.boot_len (a1 (P.v 1)))))))) s_nil)
  (s_cons (P.if_ (t_w (w_and (t_eq hr (P.v 2) e_int) (w_and1 (t_eq hr (e_mod (P.v 3) e_int) e_int)))) (s_one (P.set 1 (e_add (e_repS e_str (e_sub (e_add e_int (e_mod (e_div (P.v 3) e_int) e_int)) (e_bltn c_len nxLen (P.w 5) m_len PySem.boot_len (a1 (P.v 1))))) (P.v 1)))) s_nil)
  (s_cons (P.if_ (t_val (P.call 6 c_law_is_numeral (a1 (P.v 1)))) (s_cons (P.set 4 (P.call 7 c_spelled (a1 (P.v 1))))
  (s_cons (P.if_ (t_w (w_or (t_not (t_val (e_isi isi_tuple hE (P.w 8) m_isinstance (P.v 4) (e_ty (n:="tuple") (P.w 9) m_tuple boot_tuple)))) (w_or1 (t_ne hr (e_bltn c_len nxLen (P.w 5) m_len PySem.boot_len (a1 (P.v 4))) e_int)))) (s_one (P.ret e_bl)) s_nil)
  (s_cons (P.if_ (t_w (w_or (t_not (t_val (P.call 10 c_law_whole (a1 (P.y 4))))) (w_or (t_not (t_val (P.call 10 c_law_whole (a1 (P.y 4))))) (w_or1 (t_not (t_val (P.call 10 c_law_whole (a1 (P.y 4))))))))) (s_one (P.ret e_bl)) s_nil)
  (s_one (P.ret (e_eq hr (P.v 4) (P.call 11 c_law_due_of (a1 (P.v 1))))))))) s_nil)
  (s_cons (P.if_ (t_not (t_val (P.call 12 c_law_refused (a3 (P.v 1) e_str (e_tup (a2 e_int e_int) (by decide)))))) (s_one (P.ret e_bl)) s_nil)
  (s_cons (P.if_ (t_w (w_or (t_eq hr (P.v 1) e_str) (w_or1 (t_eq hr (P.v 1) e_str)))) (s_one (P.ret e_bl)) s_nil)
  (s_one (P.ret (P.call 12 c_law_refused (a3 (P.v 1) (P.call 13 c_law_way_by (a1 (P.call 1 c_law_cell_at (a2 (P.v 0) e_int)))) (P.call 14 c_law_size_by (a1 (P.call 1 c_law_cell_at (a2 (P.v 0) e_int))))))))))))))))))
end
theorem all_mk {P:Program} {w:World} {K:PySem.W.Frag} {h:Heap} {mg:Str→Option Value} {fa:Addr} (KX:K.In h) (GG:h.Ns mainGlobals mg) (hfa:mg "law"=some (.ref fa))
    {C_Way:Addr} (n_Way:PySem.W.nsIn K mainGlobals "Way"=some (some (.ref C_Way)))
    (pg_Way:PySem.W.plainGet K C_Way Str.empty=true) (hd_Way:PySem.W.hasDictIn K C_Way=true) (po_Way:PySem.W.plainOver K C_Way=true) (sa_Way:PySem.W.findIn K (.ref C_Way) "__setattr__"=some (some (.builtin "object.__setattr__")))
    (na_Way:PySem.W.findIn K (.ref C_Way) "name"=some none)
    {fIWay:Addr} {odIWay anIWay:Option Addr} {slIWay:Array (Option Value)} {ocIWay kVIWay dcIWay pmIWay cdIWay ctIWay:Value}
    (aIWay:PySem.W.findIn K (.ref C_Way) "__init__"=some (some (.ref fIWay))) (uIWay:PySem.W.isFn K (.ref fIWay)=true) (mm_Way:PySem.W.makesIn K C_Way=true) (kc_Way:PySem.W.keepIn K (.ref C_Way)=true)
    (lIWay:K.lookup fIWay=some ⟨ocIWay,odIWay,.func (PySem.W.fnOf "__init__" "Way.__init__" (defArgs s_Way_init) (defBody s_Way_init) (defScope s_Way_init) .none kVIWay dcIWay pmIWay anIWay cdIWay ctIWay),slIWay⟩)
    (eIWay:PySem.W.codeIn K cdIWay "Way.__init__"=true) (kIWay:PySem.W.keepIn K (.ref fIWay)=true)
    (q1:DA K "_law_mark_by" s_law_mark_by)
    (q2:DA K "_law_cell_at" s_law_cell_at)
    (q3:DA K "_law_run" s_law_run)
    (q4:DA K "_law_numeral_by" s_law_numeral_by)
    (q5:DA K "_law_step" s_law_step)
    (q6:DA K "_law_is_numeral" s_law_is_numeral)
    (q7:DA K "_law_alone" s_law_alone)
    (q8:DA K "sign_and_word" s_sign_and_word)
    (q9:DA K "bare_line" s_bare_line)
    (q10:DA K "all_figures" s_all_figures)
    (q11:DA K "exponent_of" s_exponent_of)
    (q12:DA K "spelled" s_spelled)
    (q13:DA K "way_of" s_way_of)
    {f14:Addr} {od14 an14:Option Addr} {sl14:Array (Option Value)} {oc14 kV14 dc14 pm14 cd14 ct14:Value}
    (a14:PySem.W.nsIn K mainGlobals "ten_to"=some (some (.ref f14)))
    (l14:K.lookup f14=some ⟨oc14,od14,.func (PySem.W.fnOf "ten_to" "ten_to" (defArgs s_ten_to) (defBody s_ten_to) (defScope s_ten_to) .none kV14 dc14 pm14 an14 cd14 ct14),sl14⟩)
    (e14:PySem.W.codeIn K cd14 "ten_to"=true) (k14:PySem.W.keepIn K (.ref f14)=true)
    (q15:DA K "tenfold" s_tenfold)
    (q16:DA K "check_fraction" s_check_fraction)
    (q17:DA K "scaled" s_scaled)
    (q18:DA K "bias" s_bias)
    (q19:DA K "low" s_low)
    (q20:DA K "rest_by_middle" s_rest_by_middle)
    (q21:DA K "rest_of" s_rest_of)
    (q22:DA K "height" s_height)
    (q23:DA K "cut" s_cut)
    (q24:DA K "last_field" s_last_field)
    (q25:DA K "endless" s_endless)
    (q26:DA K "sign_bit" s_sign_bit)
    (q27:DA K "signed" s_signed)
    (q28:DA K "lost_flags" s_lost_flags)
    {f29:Addr} {od29 an29:Option Addr} {sl29:Array (Option Value)} {oc29 kV29 dc29 pm29 cd29 ct29:Value}
    (a29:PySem.W.findIn K (.ref C_Way) "flees_nought"=some (some (.ref f29))) (u29:PySem.W.isFn K (.ref f29)=true)
    (l29:K.lookup f29=some ⟨oc29,od29,.func (PySem.W.fnOf "flees_nought" "Way.flees_nought" (defArgs s_Way_flees_nought) (defBody s_Way_flees_nought) (defScope s_Way_flees_nought) .none kV29 dc29 pm29 an29 cd29 ct29),sl29⟩)
    (e29:PySem.W.codeIn K cd29 "Way.flees_nought"=true) (k29:PySem.W.keepIn K (.ref f29)=true)
    {f30:Addr} {od30 an30:Option Addr} {sl30:Array (Option Value)} {oc30 kV30 dc30 pm30 cd30 ct30:Value}
    (a30:PySem.W.findIn K (.ref C_Way) "grows"=some (some (.ref f30))) (u30:PySem.W.isFn K (.ref f30)=true)
    (l30:K.lookup f30=some ⟨oc30,od30,.func (PySem.W.fnOf "grows" "Way.grows" (defArgs s_Way_grows) (defBody s_Way_grows) (defScope s_Way_grows) .none kV30 dc30 pm30 an30 cd30 ct30),sl30⟩)
    (e30:PySem.W.codeIn K cd30 "Way.grows"=true) (k30:PySem.W.keepIn K (.ref f30)=true)
    {f31:Addr} {od31 an31:Option Addr} {sl31:Array (Option Value)} {oc31 kV31 dc31 pm31 cd31 ct31:Value}
    (a31:PySem.W.findIn K (.ref C_Way) "bursts"=some (some (.ref f31))) (u31:PySem.W.isFn K (.ref f31)=true)
    (l31:K.lookup f31=some ⟨oc31,od31,.func (PySem.W.fnOf "bursts" "Way.bursts" (defArgs s_Way_bursts) (defBody s_Way_bursts) (defScope s_Way_bursts) .none kV31 dc31 pm31 an31 cd31 ct31),sl31⟩)
    (e31:PySem.W.codeIn K cd31 "Way.bursts"=true) (k31:PySem.W.keepIn K (.ref f31)=true)
    (q32:DA K "settled" s_settled)
    (q33:DA K "rounded" s_rounded)
    (q34:DA K "no_number" s_no_number)
    (q35:DA K "read" s_read)
    (q36:DA K "_law_refused" s_law_refused)
    (q37:DA K "_law_spoiled" s_law_spoiled)
    (q38:DA K "_law_odd_by" s_law_odd_by)
    (q39:DA K "_law_way_by" s_law_way_by)
    (q40:DA K "_law_size_by" s_law_size_by)
    (q41:DA K "_law_sign_by" s_law_sign_by)
    (q42:DA K "_law_due_of" s_law_due_of)
    (q43:DA K "_law_whole" s_law_whole)
    {f44:Addr} {od44 an44:Option Addr} {sl44:Array (Option Value)} {oc44 kV44 dc44 pm44 cd44 ct44:Value}
    (a44:PySem.W.nsIn K mainGlobals "law"=some (some (.ref f44)))
    (l44:K.lookup f44=some ⟨oc44,od44,.func (PySem.W.fnOf "law" "law" (defArgs s_law) (defBody s_law) (defScope s_law) .none kV44 dc44 pm44 an44 cd44 ct44),sl44⟩)
    (e44:PySem.W.codeIn K cd44 "law"=true) (k44:PySem.W.keepIn K (.ref f44)=true)
    (z_len:PySem.W.nsIn K mainGlobals "len"=some none)
    (z_str:PySem.W.nsIn K mainGlobals "str"=some none)
    (z_isinstance:PySem.W.nsIn K mainGlobals "isinstance"=some none)
    (z_ValueError:PySem.W.nsIn K mainGlobals "ValueError"=some none)
    (z_all:PySem.W.nsIn K mainGlobals "all"=some none)
    (z_int:PySem.W.nsIn K mainGlobals "int"=some none)
    (z_max:PySem.W.nsIn K mainGlobals "max"=some none)
    (z_bool:PySem.W.nsIn K mainGlobals "bool"=some none)
    (z_tuple:PySem.W.nsIn K mainGlobals "tuple"=some none)
    {t_LONGEST_LINE:Tok} (y_LONGEST_LINE:PySem.W.nsIn K mainGlobals "LONGEST_LINE"=some (some (.int 400 t_LONGEST_LINE)))
    {t_FIGURES:Tok} (y_FIGURES:PySem.W.nsIn K mainGlobals "FIGURES"=some (some (.str "0123456789" t_FIGURES)))
    {t_LONGEST_EXPONENT:Tok} (y_LONGEST_EXPONENT:PySem.W.nsIn K mainGlobals "LONGEST_EXPONENT"=some (some (.int 4 t_LONGEST_EXPONENT)))
    {A_NAMES:Addr} {dd_NAMES:Option Addr} {nn_NAMES:Nat} {ss_NAMES:Array (Option Value)} {t0_NAMES t1_NAMES t2_NAMES t3_NAMES t4_NAMES:Tok} (y_NAMES:PySem.W.nsIn K mainGlobals "NAMES"=some (some (.ref A_NAMES)))
    (yl_NAMES:K.lookup A_NAMES=some ⟨.type "tuple",dd_NAMES,.seq #[.str "even" t0_NAMES,.str "away" t1_NAMES,.str "nought" t2_NAMES,.str "up" t3_NAMES,.str "down" t4_NAMES] nn_NAMES,ss_NAMES⟩)
    {t_INEXACT:Tok} (y_INEXACT:PySem.W.nsIn K mainGlobals "INEXACT"=some (some (.int 1 t_INEXACT)))
    {t_GREAT:Tok} (y_GREAT:PySem.W.nsIn K mainGlobals "GREAT"=some (some (.int 4 t_GREAT)))
    {t_SMALL:Tok} (y_SMALL:PySem.W.nsIn K mainGlobals "SMALL"=some (some (.int 2 t_SMALL)))
    {C_MillError:Addr} (n_MillError:PySem.W.nsIn K mainGlobals "MillError"=some (some (.ref C_MillError)))
    {C_NoSize:Addr} (n_NoSize:PySem.W.nsIn K mainGlobals "NoSize"=some (some (.ref C_NoSize)))
    {C_NoBits:Addr} (n_NoBits:PySem.W.nsIn K mainGlobals "NoBits"=some (some (.ref C_NoBits)))
    {C_NoParts:Addr} (n_NoParts:PySem.W.nsIn K mainGlobals "NoParts"=some (some (.ref C_NoParts)))
    {C_NoRank:Addr} (n_NoRank:PySem.W.nsIn K mainGlobals "NoRank"=some (some (.ref C_NoRank)))
    {C_NotFinite:Addr} (n_NotFinite:PySem.W.nsIn K mainGlobals "NotFinite"=some (some (.ref C_NotFinite)))
    {C_NoWay:Addr} (n_NoWay:PySem.W.nsIn K mainGlobals "NoWay"=some (some (.ref C_NoWay)))
    {C_NoFlags:Addr} (n_NoFlags:PySem.W.nsIn K mainGlobals "NoFlags"=some (some (.ref C_NoFlags)))
    {C_NoFraction:Addr} (n_NoFraction:PySem.W.nsIn K mainGlobals "NoFraction"=some (some (.ref C_NoFraction)))
    {C_Unlike:Addr} (n_Unlike:PySem.W.nsIn K mainGlobals "Unlike"=some (some (.ref C_Unlike)))
    {C_Empty:Addr} (n_Empty:PySem.W.nsIn K mainGlobals "Empty"=some (some (.ref C_Empty)))
    {C_NoLeft:Addr} (n_NoLeft:PySem.W.nsIn K mainGlobals "NoLeft"=some (some (.ref C_NoLeft)))
    {C_NoText:Addr} (n_NoText:PySem.W.nsIn K mainGlobals "NoText"=some (some (.ref C_NoText)))
    {C_NoRow:Addr} (n_NoRow:PySem.W.nsIn K mainGlobals "NoRow"=some (some (.ref C_NoRow)))
    {C_NoName:Addr} (n_NoName:PySem.W.nsIn K mainGlobals "NoName"=some (some (.ref C_NoName)))
    {C_Stopped:Addr} (n_Stopped:PySem.W.nsIn K mainGlobals "Stopped"=some (some (.ref C_Stopped)))
    (xi_NoText:PySem.W.excIn K C_NoText bmV "ValueError.__new__"=true)
    (xi_NoWay:PySem.W.excIn K C_NoWay bmV "ValueError.__new__"=true)
    (xi_NoFraction:PySem.W.excIn K C_NoFraction bmV "ValueError.__new__"=true)
    (v_MillError:XCls K C_MillError)
    (v_NoSize:XCls K C_NoSize)
    (v_NoBits:XCls K C_NoBits)
    (v_NoParts:XCls K C_NoParts)
    (v_NoRank:XCls K C_NoRank)
    (v_NotFinite:XCls K C_NotFinite)
    (v_NoWay:XCls K C_NoWay)
    (v_NoFlags:XCls K C_NoFlags)
    (v_NoFraction:XCls K C_NoFraction)
    (v_Unlike:XCls K C_Unlike)
    (v_Empty:XCls K C_Empty)
    (v_NoLeft:XCls K C_NoLeft)
    (v_NoText:XCls K C_NoText)
    (v_NoRow:XCls K C_NoRow)
    (v_NoName:XCls K C_NoName)
    (v_Stopped:XCls K C_Stopped)
    (cb_MillError:CB K C_MillError)
    (r_MillError_MillError:PySem.W.mroIn K C_MillError (.ref C_MillError)=some true)
    (r_MillError_NoSize:PySem.W.mroIn K C_NoSize (.ref C_MillError)=some true)
    (r_MillError_NoBits:PySem.W.mroIn K C_NoBits (.ref C_MillError)=some true)
    (r_MillError_NoParts:PySem.W.mroIn K C_NoParts (.ref C_MillError)=some true)
    (r_MillError_NoRank:PySem.W.mroIn K C_NoRank (.ref C_MillError)=some true)
    (r_MillError_NotFinite:PySem.W.mroIn K C_NotFinite (.ref C_MillError)=some true)
    (r_MillError_NoWay:PySem.W.mroIn K C_NoWay (.ref C_MillError)=some true)
    (r_MillError_NoFlags:PySem.W.mroIn K C_NoFlags (.ref C_MillError)=some true)
    (r_MillError_NoFraction:PySem.W.mroIn K C_NoFraction (.ref C_MillError)=some true)
    (r_MillError_Unlike:PySem.W.mroIn K C_Unlike (.ref C_MillError)=some true)
    (r_MillError_Empty:PySem.W.mroIn K C_Empty (.ref C_MillError)=some true)
    (r_MillError_NoLeft:PySem.W.mroIn K C_NoLeft (.ref C_MillError)=some true)
    (r_MillError_NoText:PySem.W.mroIn K C_NoText (.ref C_MillError)=some true)
    (r_MillError_NoRow:PySem.W.mroIn K C_NoRow (.ref C_MillError)=some true)
    (r_MillError_NoName:PySem.W.mroIn K C_NoName (.ref C_MillError)=some true)
    (r_MillError_Stopped:PySem.W.mroIn K C_Stopped (.ref C_MillError)=some true)
    (i0_NoText:PySem.W.kitOne K (.type "NoneType") (.ref C_NoText)=some false)
    (i_NoText_MillError:PySem.W.kitOne K (.ref C_MillError) (.ref C_NoText)=some false)
    (i_NoText_NoSize:PySem.W.kitOne K (.ref C_NoSize) (.ref C_NoText)=some false)
    (i_NoText_NoBits:PySem.W.kitOne K (.ref C_NoBits) (.ref C_NoText)=some false)
    (i_NoText_NoParts:PySem.W.kitOne K (.ref C_NoParts) (.ref C_NoText)=some false)
    (i_NoText_NoRank:PySem.W.kitOne K (.ref C_NoRank) (.ref C_NoText)=some false)
    (i_NoText_NotFinite:PySem.W.kitOne K (.ref C_NotFinite) (.ref C_NoText)=some false)
    (i_NoText_NoWay:PySem.W.kitOne K (.ref C_NoWay) (.ref C_NoText)=some false)
    (i_NoText_NoFlags:PySem.W.kitOne K (.ref C_NoFlags) (.ref C_NoText)=some false)
    (i_NoText_NoFraction:PySem.W.kitOne K (.ref C_NoFraction) (.ref C_NoText)=some false)
    (i_NoText_Unlike:PySem.W.kitOne K (.ref C_Unlike) (.ref C_NoText)=some false)
    (i_NoText_Empty:PySem.W.kitOne K (.ref C_Empty) (.ref C_NoText)=some false)
    (i_NoText_NoLeft:PySem.W.kitOne K (.ref C_NoLeft) (.ref C_NoText)=some false)
    (i_NoText_NoText:PySem.W.kitOne K (.ref C_NoText) (.ref C_NoText)=some true)
    (i_NoText_NoRow:PySem.W.kitOne K (.ref C_NoRow) (.ref C_NoText)=some false)
    (i_NoText_NoName:PySem.W.kitOne K (.ref C_NoName) (.ref C_NoText)=some false)
    (i_NoText_Stopped:PySem.W.kitOne K (.ref C_Stopped) (.ref C_NoText)=some false)
    (i_VE_NoneType:PySem.W.kitOne K (.type "NoneType") (.type "ValueError")=some false)
    (i_VE_bool:PySem.W.kitOne K (.type "bool") (.type "ValueError")=some false)
    (i_VE_int:PySem.W.kitOne K (.type "int") (.type "ValueError")=some false)
    (i_VE_str:PySem.W.kitOne K (.type "str") (.type "ValueError")=some false)
    (i_VE_tuple:PySem.W.kitOne K (.type "tuple") (.type "ValueError")=some false)
    (i_VE_list:PySem.W.kitOne K (.type "list") (.type "ValueError")=some false)
    (i_ValueError_MillError:PySem.W.kitOne K (.ref C_MillError) (.type "ValueError")=some true)
    (i_ValueError_NoSize:PySem.W.kitOne K (.ref C_NoSize) (.type "ValueError")=some true)
    (i_ValueError_NoBits:PySem.W.kitOne K (.ref C_NoBits) (.type "ValueError")=some true)
    (i_ValueError_NoParts:PySem.W.kitOne K (.ref C_NoParts) (.type "ValueError")=some true)
    (i_ValueError_NoRank:PySem.W.kitOne K (.ref C_NoRank) (.type "ValueError")=some true)
    (i_ValueError_NotFinite:PySem.W.kitOne K (.ref C_NotFinite) (.type "ValueError")=some true)
    (i_ValueError_NoWay:PySem.W.kitOne K (.ref C_NoWay) (.type "ValueError")=some true)
    (i_ValueError_NoFlags:PySem.W.kitOne K (.ref C_NoFlags) (.type "ValueError")=some true)
    (i_ValueError_NoFraction:PySem.W.kitOne K (.ref C_NoFraction) (.type "ValueError")=some true)
    (i_ValueError_Unlike:PySem.W.kitOne K (.ref C_Unlike) (.type "ValueError")=some true)
    (i_ValueError_Empty:PySem.W.kitOne K (.ref C_Empty) (.type "ValueError")=some true)
    (i_ValueError_NoLeft:PySem.W.kitOne K (.ref C_NoLeft) (.type "ValueError")=some true)
    (i_ValueError_NoText:PySem.W.kitOne K (.ref C_NoText) (.type "ValueError")=some true)
    (i_ValueError_NoRow:PySem.W.kitOne K (.ref C_NoRow) (.type "ValueError")=some true)
    (i_ValueError_NoName:PySem.W.kitOne K (.ref C_NoName) (.type "ValueError")=some true)
    (i_ValueError_Stopped:PySem.W.kitOne K (.ref C_Stopped) (.type "ValueError")=some true)
    (i0_NoSize:PySem.W.kitOne K (.type "NoneType") (.ref C_NoSize)=some false)
    (i_NoSize_MillError:PySem.W.kitOne K (.ref C_MillError) (.ref C_NoSize)=some false)
    (i_NoSize_NoSize:PySem.W.kitOne K (.ref C_NoSize) (.ref C_NoSize)=some true)
    (i_NoSize_NoBits:PySem.W.kitOne K (.ref C_NoBits) (.ref C_NoSize)=some false)
    (i_NoSize_NoParts:PySem.W.kitOne K (.ref C_NoParts) (.ref C_NoSize)=some false)
    (i_NoSize_NoRank:PySem.W.kitOne K (.ref C_NoRank) (.ref C_NoSize)=some false)
    (i_NoSize_NotFinite:PySem.W.kitOne K (.ref C_NotFinite) (.ref C_NoSize)=some false)
    (i_NoSize_NoWay:PySem.W.kitOne K (.ref C_NoWay) (.ref C_NoSize)=some false)
    (i_NoSize_NoFlags:PySem.W.kitOne K (.ref C_NoFlags) (.ref C_NoSize)=some false)
    (i_NoSize_NoFraction:PySem.W.kitOne K (.ref C_NoFraction) (.ref C_NoSize)=some false)
    (i_NoSize_Unlike:PySem.W.kitOne K (.ref C_Unlike) (.ref C_NoSize)=some false)
    (i_NoSize_Empty:PySem.W.kitOne K (.ref C_Empty) (.ref C_NoSize)=some false)
    (i_NoSize_NoLeft:PySem.W.kitOne K (.ref C_NoLeft) (.ref C_NoSize)=some false)
    (i_NoSize_NoText:PySem.W.kitOne K (.ref C_NoText) (.ref C_NoSize)=some false)
    (i_NoSize_NoRow:PySem.W.kitOne K (.ref C_NoRow) (.ref C_NoSize)=some false)
    (i_NoSize_NoName:PySem.W.kitOne K (.ref C_NoName) (.ref C_NoSize)=some false)
    (i_NoSize_Stopped:PySem.W.kitOne K (.ref C_Stopped) (.ref C_NoSize)=some false)
    (i0_NoBits:PySem.W.kitOne K (.type "NoneType") (.ref C_NoBits)=some false)
    (i_NoBits_MillError:PySem.W.kitOne K (.ref C_MillError) (.ref C_NoBits)=some false)
    (i_NoBits_NoSize:PySem.W.kitOne K (.ref C_NoSize) (.ref C_NoBits)=some false)
    (i_NoBits_NoBits:PySem.W.kitOne K (.ref C_NoBits) (.ref C_NoBits)=some true)
    (i_NoBits_NoParts:PySem.W.kitOne K (.ref C_NoParts) (.ref C_NoBits)=some false)
    (i_NoBits_NoRank:PySem.W.kitOne K (.ref C_NoRank) (.ref C_NoBits)=some false)
    (i_NoBits_NotFinite:PySem.W.kitOne K (.ref C_NotFinite) (.ref C_NoBits)=some false)
    (i_NoBits_NoWay:PySem.W.kitOne K (.ref C_NoWay) (.ref C_NoBits)=some false)
    (i_NoBits_NoFlags:PySem.W.kitOne K (.ref C_NoFlags) (.ref C_NoBits)=some false)
    (i_NoBits_NoFraction:PySem.W.kitOne K (.ref C_NoFraction) (.ref C_NoBits)=some false)
    (i_NoBits_Unlike:PySem.W.kitOne K (.ref C_Unlike) (.ref C_NoBits)=some false)
    (i_NoBits_Empty:PySem.W.kitOne K (.ref C_Empty) (.ref C_NoBits)=some false)
    (i_NoBits_NoLeft:PySem.W.kitOne K (.ref C_NoLeft) (.ref C_NoBits)=some false)
    (i_NoBits_NoText:PySem.W.kitOne K (.ref C_NoText) (.ref C_NoBits)=some false)
    (i_NoBits_NoRow:PySem.W.kitOne K (.ref C_NoRow) (.ref C_NoBits)=some false)
    (i_NoBits_NoName:PySem.W.kitOne K (.ref C_NoName) (.ref C_NoBits)=some false)
    (i_NoBits_Stopped:PySem.W.kitOne K (.ref C_Stopped) (.ref C_NoBits)=some false)
    (i0_NoParts:PySem.W.kitOne K (.type "NoneType") (.ref C_NoParts)=some false)
    (i_NoParts_MillError:PySem.W.kitOne K (.ref C_MillError) (.ref C_NoParts)=some false)
    (i_NoParts_NoSize:PySem.W.kitOne K (.ref C_NoSize) (.ref C_NoParts)=some false)
    (i_NoParts_NoBits:PySem.W.kitOne K (.ref C_NoBits) (.ref C_NoParts)=some false)
    (i_NoParts_NoParts:PySem.W.kitOne K (.ref C_NoParts) (.ref C_NoParts)=some true)
    (i_NoParts_NoRank:PySem.W.kitOne K (.ref C_NoRank) (.ref C_NoParts)=some false)
    (i_NoParts_NotFinite:PySem.W.kitOne K (.ref C_NotFinite) (.ref C_NoParts)=some false)
    (i_NoParts_NoWay:PySem.W.kitOne K (.ref C_NoWay) (.ref C_NoParts)=some false)
    (i_NoParts_NoFlags:PySem.W.kitOne K (.ref C_NoFlags) (.ref C_NoParts)=some false)
    (i_NoParts_NoFraction:PySem.W.kitOne K (.ref C_NoFraction) (.ref C_NoParts)=some false)
    (i_NoParts_Unlike:PySem.W.kitOne K (.ref C_Unlike) (.ref C_NoParts)=some false)
    (i_NoParts_Empty:PySem.W.kitOne K (.ref C_Empty) (.ref C_NoParts)=some false)
    (i_NoParts_NoLeft:PySem.W.kitOne K (.ref C_NoLeft) (.ref C_NoParts)=some false)
    (i_NoParts_NoText:PySem.W.kitOne K (.ref C_NoText) (.ref C_NoParts)=some false)
    (i_NoParts_NoRow:PySem.W.kitOne K (.ref C_NoRow) (.ref C_NoParts)=some false)
    (i_NoParts_NoName:PySem.W.kitOne K (.ref C_NoName) (.ref C_NoParts)=some false)
    (i_NoParts_Stopped:PySem.W.kitOne K (.ref C_Stopped) (.ref C_NoParts)=some false)
    (i0_NoRank:PySem.W.kitOne K (.type "NoneType") (.ref C_NoRank)=some false)
    (i_NoRank_MillError:PySem.W.kitOne K (.ref C_MillError) (.ref C_NoRank)=some false)
    (i_NoRank_NoSize:PySem.W.kitOne K (.ref C_NoSize) (.ref C_NoRank)=some false)
    (i_NoRank_NoBits:PySem.W.kitOne K (.ref C_NoBits) (.ref C_NoRank)=some false)
    (i_NoRank_NoParts:PySem.W.kitOne K (.ref C_NoParts) (.ref C_NoRank)=some false)
    (i_NoRank_NoRank:PySem.W.kitOne K (.ref C_NoRank) (.ref C_NoRank)=some true)
    (i_NoRank_NotFinite:PySem.W.kitOne K (.ref C_NotFinite) (.ref C_NoRank)=some false)
    (i_NoRank_NoWay:PySem.W.kitOne K (.ref C_NoWay) (.ref C_NoRank)=some false)
    (i_NoRank_NoFlags:PySem.W.kitOne K (.ref C_NoFlags) (.ref C_NoRank)=some false)
    (i_NoRank_NoFraction:PySem.W.kitOne K (.ref C_NoFraction) (.ref C_NoRank)=some false)
    (i_NoRank_Unlike:PySem.W.kitOne K (.ref C_Unlike) (.ref C_NoRank)=some false)
    (i_NoRank_Empty:PySem.W.kitOne K (.ref C_Empty) (.ref C_NoRank)=some false)
    (i_NoRank_NoLeft:PySem.W.kitOne K (.ref C_NoLeft) (.ref C_NoRank)=some false)
    (i_NoRank_NoText:PySem.W.kitOne K (.ref C_NoText) (.ref C_NoRank)=some false)
    (i_NoRank_NoRow:PySem.W.kitOne K (.ref C_NoRow) (.ref C_NoRank)=some false)
    (i_NoRank_NoName:PySem.W.kitOne K (.ref C_NoName) (.ref C_NoRank)=some false)
    (i_NoRank_Stopped:PySem.W.kitOne K (.ref C_Stopped) (.ref C_NoRank)=some false)
    (i0_NotFinite:PySem.W.kitOne K (.type "NoneType") (.ref C_NotFinite)=some false)
    (i_NotFinite_MillError:PySem.W.kitOne K (.ref C_MillError) (.ref C_NotFinite)=some false)
    (i_NotFinite_NoSize:PySem.W.kitOne K (.ref C_NoSize) (.ref C_NotFinite)=some false)
    (i_NotFinite_NoBits:PySem.W.kitOne K (.ref C_NoBits) (.ref C_NotFinite)=some false)
    (i_NotFinite_NoParts:PySem.W.kitOne K (.ref C_NoParts) (.ref C_NotFinite)=some false)
    (i_NotFinite_NoRank:PySem.W.kitOne K (.ref C_NoRank) (.ref C_NotFinite)=some false)
    (i_NotFinite_NotFinite:PySem.W.kitOne K (.ref C_NotFinite) (.ref C_NotFinite)=some true)
    (i_NotFinite_NoWay:PySem.W.kitOne K (.ref C_NoWay) (.ref C_NotFinite)=some false)
    (i_NotFinite_NoFlags:PySem.W.kitOne K (.ref C_NoFlags) (.ref C_NotFinite)=some false)
    (i_NotFinite_NoFraction:PySem.W.kitOne K (.ref C_NoFraction) (.ref C_NotFinite)=some false)
    (i_NotFinite_Unlike:PySem.W.kitOne K (.ref C_Unlike) (.ref C_NotFinite)=some false)
    (i_NotFinite_Empty:PySem.W.kitOne K (.ref C_Empty) (.ref C_NotFinite)=some false)
    (i_NotFinite_NoLeft:PySem.W.kitOne K (.ref C_NoLeft) (.ref C_NotFinite)=some false)
    (i_NotFinite_NoText:PySem.W.kitOne K (.ref C_NoText) (.ref C_NotFinite)=some false)
    (i_NotFinite_NoRow:PySem.W.kitOne K (.ref C_NoRow) (.ref C_NotFinite)=some false)
    (i_NotFinite_NoName:PySem.W.kitOne K (.ref C_NoName) (.ref C_NotFinite)=some false)
    (i_NotFinite_Stopped:PySem.W.kitOne K (.ref C_Stopped) (.ref C_NotFinite)=some false)
    (i0_NoWay:PySem.W.kitOne K (.type "NoneType") (.ref C_NoWay)=some false)
    (i_NoWay_MillError:PySem.W.kitOne K (.ref C_MillError) (.ref C_NoWay)=some false)
    (i_NoWay_NoSize:PySem.W.kitOne K (.ref C_NoSize) (.ref C_NoWay)=some false)
    (i_NoWay_NoBits:PySem.W.kitOne K (.ref C_NoBits) (.ref C_NoWay)=some false)
    (i_NoWay_NoParts:PySem.W.kitOne K (.ref C_NoParts) (.ref C_NoWay)=some false)
    (i_NoWay_NoRank:PySem.W.kitOne K (.ref C_NoRank) (.ref C_NoWay)=some false)
    (i_NoWay_NotFinite:PySem.W.kitOne K (.ref C_NotFinite) (.ref C_NoWay)=some false)
    (i_NoWay_NoWay:PySem.W.kitOne K (.ref C_NoWay) (.ref C_NoWay)=some true)
    (i_NoWay_NoFlags:PySem.W.kitOne K (.ref C_NoFlags) (.ref C_NoWay)=some false)
    (i_NoWay_NoFraction:PySem.W.kitOne K (.ref C_NoFraction) (.ref C_NoWay)=some false)
    (i_NoWay_Unlike:PySem.W.kitOne K (.ref C_Unlike) (.ref C_NoWay)=some false)
    (i_NoWay_Empty:PySem.W.kitOne K (.ref C_Empty) (.ref C_NoWay)=some false)
    (i_NoWay_NoLeft:PySem.W.kitOne K (.ref C_NoLeft) (.ref C_NoWay)=some false)
    (i_NoWay_NoText:PySem.W.kitOne K (.ref C_NoText) (.ref C_NoWay)=some false)
    (i_NoWay_NoRow:PySem.W.kitOne K (.ref C_NoRow) (.ref C_NoWay)=some false)
    (i_NoWay_NoName:PySem.W.kitOne K (.ref C_NoName) (.ref C_NoWay)=some false)
    (i_NoWay_Stopped:PySem.W.kitOne K (.ref C_Stopped) (.ref C_NoWay)=some false)
    (i0_NoFlags:PySem.W.kitOne K (.type "NoneType") (.ref C_NoFlags)=some false)
    (i_NoFlags_MillError:PySem.W.kitOne K (.ref C_MillError) (.ref C_NoFlags)=some false)
    (i_NoFlags_NoSize:PySem.W.kitOne K (.ref C_NoSize) (.ref C_NoFlags)=some false)
    (i_NoFlags_NoBits:PySem.W.kitOne K (.ref C_NoBits) (.ref C_NoFlags)=some false)
    (i_NoFlags_NoParts:PySem.W.kitOne K (.ref C_NoParts) (.ref C_NoFlags)=some false)
    (i_NoFlags_NoRank:PySem.W.kitOne K (.ref C_NoRank) (.ref C_NoFlags)=some false)
    (i_NoFlags_NotFinite:PySem.W.kitOne K (.ref C_NotFinite) (.ref C_NoFlags)=some false)
    (i_NoFlags_NoWay:PySem.W.kitOne K (.ref C_NoWay) (.ref C_NoFlags)=some false)
    (i_NoFlags_NoFlags:PySem.W.kitOne K (.ref C_NoFlags) (.ref C_NoFlags)=some true)
    (i_NoFlags_NoFraction:PySem.W.kitOne K (.ref C_NoFraction) (.ref C_NoFlags)=some false)
    (i_NoFlags_Unlike:PySem.W.kitOne K (.ref C_Unlike) (.ref C_NoFlags)=some false)
    (i_NoFlags_Empty:PySem.W.kitOne K (.ref C_Empty) (.ref C_NoFlags)=some false)
    (i_NoFlags_NoLeft:PySem.W.kitOne K (.ref C_NoLeft) (.ref C_NoFlags)=some false)
    (i_NoFlags_NoText:PySem.W.kitOne K (.ref C_NoText) (.ref C_NoFlags)=some false)
    (i_NoFlags_NoRow:PySem.W.kitOne K (.ref C_NoRow) (.ref C_NoFlags)=some false)
    (i_NoFlags_NoName:PySem.W.kitOne K (.ref C_NoName) (.ref C_NoFlags)=some false)
    (i_NoFlags_Stopped:PySem.W.kitOne K (.ref C_Stopped) (.ref C_NoFlags)=some false)
    (i0_NoFraction:PySem.W.kitOne K (.type "NoneType") (.ref C_NoFraction)=some false)
    (i_NoFraction_MillError:PySem.W.kitOne K (.ref C_MillError) (.ref C_NoFraction)=some false)
    (i_NoFraction_NoSize:PySem.W.kitOne K (.ref C_NoSize) (.ref C_NoFraction)=some false)
    (i_NoFraction_NoBits:PySem.W.kitOne K (.ref C_NoBits) (.ref C_NoFraction)=some false)
    (i_NoFraction_NoParts:PySem.W.kitOne K (.ref C_NoParts) (.ref C_NoFraction)=some false)
    (i_NoFraction_NoRank:PySem.W.kitOne K (.ref C_NoRank) (.ref C_NoFraction)=some false)
    (i_NoFraction_NotFinite:PySem.W.kitOne K (.ref C_NotFinite) (.ref C_NoFraction)=some false)
    (i_NoFraction_NoWay:PySem.W.kitOne K (.ref C_NoWay) (.ref C_NoFraction)=some false)
    (i_NoFraction_NoFlags:PySem.W.kitOne K (.ref C_NoFlags) (.ref C_NoFraction)=some false)
    (i_NoFraction_NoFraction:PySem.W.kitOne K (.ref C_NoFraction) (.ref C_NoFraction)=some true)
    (i_NoFraction_Unlike:PySem.W.kitOne K (.ref C_Unlike) (.ref C_NoFraction)=some false)
    (i_NoFraction_Empty:PySem.W.kitOne K (.ref C_Empty) (.ref C_NoFraction)=some false)
    (i_NoFraction_NoLeft:PySem.W.kitOne K (.ref C_NoLeft) (.ref C_NoFraction)=some false)
    (i_NoFraction_NoText:PySem.W.kitOne K (.ref C_NoText) (.ref C_NoFraction)=some false)
    (i_NoFraction_NoRow:PySem.W.kitOne K (.ref C_NoRow) (.ref C_NoFraction)=some false)
    (i_NoFraction_NoName:PySem.W.kitOne K (.ref C_NoName) (.ref C_NoFraction)=some false)
    (i_NoFraction_Stopped:PySem.W.kitOne K (.ref C_Stopped) (.ref C_NoFraction)=some false)
    (i0_Unlike:PySem.W.kitOne K (.type "NoneType") (.ref C_Unlike)=some false)
    (i_Unlike_MillError:PySem.W.kitOne K (.ref C_MillError) (.ref C_Unlike)=some false)
    (i_Unlike_NoSize:PySem.W.kitOne K (.ref C_NoSize) (.ref C_Unlike)=some false)
    (i_Unlike_NoBits:PySem.W.kitOne K (.ref C_NoBits) (.ref C_Unlike)=some false)
    (i_Unlike_NoParts:PySem.W.kitOne K (.ref C_NoParts) (.ref C_Unlike)=some false)
    (i_Unlike_NoRank:PySem.W.kitOne K (.ref C_NoRank) (.ref C_Unlike)=some false)
    (i_Unlike_NotFinite:PySem.W.kitOne K (.ref C_NotFinite) (.ref C_Unlike)=some false)
    (i_Unlike_NoWay:PySem.W.kitOne K (.ref C_NoWay) (.ref C_Unlike)=some false)
    (i_Unlike_NoFlags:PySem.W.kitOne K (.ref C_NoFlags) (.ref C_Unlike)=some false)
    (i_Unlike_NoFraction:PySem.W.kitOne K (.ref C_NoFraction) (.ref C_Unlike)=some false)
    (i_Unlike_Unlike:PySem.W.kitOne K (.ref C_Unlike) (.ref C_Unlike)=some true)
    (i_Unlike_Empty:PySem.W.kitOne K (.ref C_Empty) (.ref C_Unlike)=some false)
    (i_Unlike_NoLeft:PySem.W.kitOne K (.ref C_NoLeft) (.ref C_Unlike)=some false)
    (i_Unlike_NoText:PySem.W.kitOne K (.ref C_NoText) (.ref C_Unlike)=some false)
    (i_Unlike_NoRow:PySem.W.kitOne K (.ref C_NoRow) (.ref C_Unlike)=some false)
    (i_Unlike_NoName:PySem.W.kitOne K (.ref C_NoName) (.ref C_Unlike)=some false)
    (i_Unlike_Stopped:PySem.W.kitOne K (.ref C_Stopped) (.ref C_Unlike)=some false)
    (i0_Empty:PySem.W.kitOne K (.type "NoneType") (.ref C_Empty)=some false)
    (i_Empty_MillError:PySem.W.kitOne K (.ref C_MillError) (.ref C_Empty)=some false)
    (i_Empty_NoSize:PySem.W.kitOne K (.ref C_NoSize) (.ref C_Empty)=some false)
    (i_Empty_NoBits:PySem.W.kitOne K (.ref C_NoBits) (.ref C_Empty)=some false)
    (i_Empty_NoParts:PySem.W.kitOne K (.ref C_NoParts) (.ref C_Empty)=some false)
    (i_Empty_NoRank:PySem.W.kitOne K (.ref C_NoRank) (.ref C_Empty)=some false)
    (i_Empty_NotFinite:PySem.W.kitOne K (.ref C_NotFinite) (.ref C_Empty)=some false)
    (i_Empty_NoWay:PySem.W.kitOne K (.ref C_NoWay) (.ref C_Empty)=some false)
    (i_Empty_NoFlags:PySem.W.kitOne K (.ref C_NoFlags) (.ref C_Empty)=some false)
    (i_Empty_NoFraction:PySem.W.kitOne K (.ref C_NoFraction) (.ref C_Empty)=some false)
    (i_Empty_Unlike:PySem.W.kitOne K (.ref C_Unlike) (.ref C_Empty)=some false)
    (i_Empty_Empty:PySem.W.kitOne K (.ref C_Empty) (.ref C_Empty)=some true)
    (i_Empty_NoLeft:PySem.W.kitOne K (.ref C_NoLeft) (.ref C_Empty)=some false)
    (i_Empty_NoText:PySem.W.kitOne K (.ref C_NoText) (.ref C_Empty)=some false)
    (i_Empty_NoRow:PySem.W.kitOne K (.ref C_NoRow) (.ref C_Empty)=some false)
    (i_Empty_NoName:PySem.W.kitOne K (.ref C_NoName) (.ref C_Empty)=some false)
    (i_Empty_Stopped:PySem.W.kitOne K (.ref C_Stopped) (.ref C_Empty)=some false)
    (i0_NoLeft:PySem.W.kitOne K (.type "NoneType") (.ref C_NoLeft)=some false)
    (i_NoLeft_MillError:PySem.W.kitOne K (.ref C_MillError) (.ref C_NoLeft)=some false)
    (i_NoLeft_NoSize:PySem.W.kitOne K (.ref C_NoSize) (.ref C_NoLeft)=some false)
    (i_NoLeft_NoBits:PySem.W.kitOne K (.ref C_NoBits) (.ref C_NoLeft)=some false)
    (i_NoLeft_NoParts:PySem.W.kitOne K (.ref C_NoParts) (.ref C_NoLeft)=some false)
    (i_NoLeft_NoRank:PySem.W.kitOne K (.ref C_NoRank) (.ref C_NoLeft)=some false)
    (i_NoLeft_NotFinite:PySem.W.kitOne K (.ref C_NotFinite) (.ref C_NoLeft)=some false)
    (i_NoLeft_NoWay:PySem.W.kitOne K (.ref C_NoWay) (.ref C_NoLeft)=some false)
    (i_NoLeft_NoFlags:PySem.W.kitOne K (.ref C_NoFlags) (.ref C_NoLeft)=some false)
    (i_NoLeft_NoFraction:PySem.W.kitOne K (.ref C_NoFraction) (.ref C_NoLeft)=some false)
    (i_NoLeft_Unlike:PySem.W.kitOne K (.ref C_Unlike) (.ref C_NoLeft)=some false)
    (i_NoLeft_Empty:PySem.W.kitOne K (.ref C_Empty) (.ref C_NoLeft)=some false)
    (i_NoLeft_NoLeft:PySem.W.kitOne K (.ref C_NoLeft) (.ref C_NoLeft)=some true)
    (i_NoLeft_NoText:PySem.W.kitOne K (.ref C_NoText) (.ref C_NoLeft)=some false)
    (i_NoLeft_NoRow:PySem.W.kitOne K (.ref C_NoRow) (.ref C_NoLeft)=some false)
    (i_NoLeft_NoName:PySem.W.kitOne K (.ref C_NoName) (.ref C_NoLeft)=some false)
    (i_NoLeft_Stopped:PySem.W.kitOne K (.ref C_Stopped) (.ref C_NoLeft)=some false)
    (i0_NoRow:PySem.W.kitOne K (.type "NoneType") (.ref C_NoRow)=some false)
    (i_NoRow_MillError:PySem.W.kitOne K (.ref C_MillError) (.ref C_NoRow)=some false)
    (i_NoRow_NoSize:PySem.W.kitOne K (.ref C_NoSize) (.ref C_NoRow)=some false)
    (i_NoRow_NoBits:PySem.W.kitOne K (.ref C_NoBits) (.ref C_NoRow)=some false)
    (i_NoRow_NoParts:PySem.W.kitOne K (.ref C_NoParts) (.ref C_NoRow)=some false)
    (i_NoRow_NoRank:PySem.W.kitOne K (.ref C_NoRank) (.ref C_NoRow)=some false)
    (i_NoRow_NotFinite:PySem.W.kitOne K (.ref C_NotFinite) (.ref C_NoRow)=some false)
    (i_NoRow_NoWay:PySem.W.kitOne K (.ref C_NoWay) (.ref C_NoRow)=some false)
    (i_NoRow_NoFlags:PySem.W.kitOne K (.ref C_NoFlags) (.ref C_NoRow)=some false)
    (i_NoRow_NoFraction:PySem.W.kitOne K (.ref C_NoFraction) (.ref C_NoRow)=some false)
    (i_NoRow_Unlike:PySem.W.kitOne K (.ref C_Unlike) (.ref C_NoRow)=some false)
    (i_NoRow_Empty:PySem.W.kitOne K (.ref C_Empty) (.ref C_NoRow)=some false)
    (i_NoRow_NoLeft:PySem.W.kitOne K (.ref C_NoLeft) (.ref C_NoRow)=some false)
    (i_NoRow_NoText:PySem.W.kitOne K (.ref C_NoText) (.ref C_NoRow)=some false)
    (i_NoRow_NoRow:PySem.W.kitOne K (.ref C_NoRow) (.ref C_NoRow)=some true)
    (i_NoRow_NoName:PySem.W.kitOne K (.ref C_NoName) (.ref C_NoRow)=some false)
    (i_NoRow_Stopped:PySem.W.kitOne K (.ref C_Stopped) (.ref C_NoRow)=some false)
    (i0_NoName:PySem.W.kitOne K (.type "NoneType") (.ref C_NoName)=some false)
    (i_NoName_MillError:PySem.W.kitOne K (.ref C_MillError) (.ref C_NoName)=some false)
    (i_NoName_NoSize:PySem.W.kitOne K (.ref C_NoSize) (.ref C_NoName)=some false)
    (i_NoName_NoBits:PySem.W.kitOne K (.ref C_NoBits) (.ref C_NoName)=some false)
    (i_NoName_NoParts:PySem.W.kitOne K (.ref C_NoParts) (.ref C_NoName)=some false)
    (i_NoName_NoRank:PySem.W.kitOne K (.ref C_NoRank) (.ref C_NoName)=some false)
    (i_NoName_NotFinite:PySem.W.kitOne K (.ref C_NotFinite) (.ref C_NoName)=some false)
    (i_NoName_NoWay:PySem.W.kitOne K (.ref C_NoWay) (.ref C_NoName)=some false)
    (i_NoName_NoFlags:PySem.W.kitOne K (.ref C_NoFlags) (.ref C_NoName)=some false)
    (i_NoName_NoFraction:PySem.W.kitOne K (.ref C_NoFraction) (.ref C_NoName)=some false)
    (i_NoName_Unlike:PySem.W.kitOne K (.ref C_Unlike) (.ref C_NoName)=some false)
    (i_NoName_Empty:PySem.W.kitOne K (.ref C_Empty) (.ref C_NoName)=some false)
    (i_NoName_NoLeft:PySem.W.kitOne K (.ref C_NoLeft) (.ref C_NoName)=some false)
    (i_NoName_NoText:PySem.W.kitOne K (.ref C_NoText) (.ref C_NoName)=some false)
    (i_NoName_NoRow:PySem.W.kitOne K (.ref C_NoRow) (.ref C_NoName)=some false)
    (i_NoName_NoName:PySem.W.kitOne K (.ref C_NoName) (.ref C_NoName)=some true)
    (i_NoName_Stopped:PySem.W.kitOne K (.ref C_Stopped) (.ref C_NoName)=some false)
    (i0_Stopped:PySem.W.kitOne K (.type "NoneType") (.ref C_Stopped)=some false)
    (i_Stopped_MillError:PySem.W.kitOne K (.ref C_MillError) (.ref C_Stopped)=some false)
    (i_Stopped_NoSize:PySem.W.kitOne K (.ref C_NoSize) (.ref C_Stopped)=some false)
    (i_Stopped_NoBits:PySem.W.kitOne K (.ref C_NoBits) (.ref C_Stopped)=some false)
    (i_Stopped_NoParts:PySem.W.kitOne K (.ref C_NoParts) (.ref C_Stopped)=some false)
    (i_Stopped_NoRank:PySem.W.kitOne K (.ref C_NoRank) (.ref C_Stopped)=some false)
    (i_Stopped_NotFinite:PySem.W.kitOne K (.ref C_NotFinite) (.ref C_Stopped)=some false)
    (i_Stopped_NoWay:PySem.W.kitOne K (.ref C_NoWay) (.ref C_Stopped)=some false)
    (i_Stopped_NoFlags:PySem.W.kitOne K (.ref C_NoFlags) (.ref C_Stopped)=some false)
    (i_Stopped_NoFraction:PySem.W.kitOne K (.ref C_NoFraction) (.ref C_Stopped)=some false)
    (i_Stopped_Unlike:PySem.W.kitOne K (.ref C_Unlike) (.ref C_Stopped)=some false)
    (i_Stopped_Empty:PySem.W.kitOne K (.ref C_Empty) (.ref C_Stopped)=some false)
    (i_Stopped_NoLeft:PySem.W.kitOne K (.ref C_NoLeft) (.ref C_Stopped)=some false)
    (i_Stopped_NoText:PySem.W.kitOne K (.ref C_NoText) (.ref C_Stopped)=some false)
    (i_Stopped_NoRow:PySem.W.kitOne K (.ref C_NoRow) (.ref C_Stopped)=some false)
    (i_Stopped_NoName:PySem.W.kitOne K (.ref C_NoName) (.ref C_Stopped)=some false)
    (i_Stopped_Stopped:PySem.W.kitOne K (.ref C_Stopped) (.ref C_Stopped)=some true)
    (i_int_NoneType:PySem.W.kitOne K (.type "NoneType") (.type "int")=some false)
    (i_int_bool:PySem.W.kitOne K (.type "bool") (.type "int")=some true)
    (i_int_int:PySem.W.kitOne K (.type "int") (.type "int")=some true)
    (i_int_str:PySem.W.kitOne K (.type "str") (.type "int")=some false)
    (i_int_tuple:PySem.W.kitOne K (.type "tuple") (.type "int")=some false)
    (i_int_list:PySem.W.kitOne K (.type "list") (.type "int")=some false)
    (i_bool_NoneType:PySem.W.kitOne K (.type "NoneType") (.type "bool")=some false)
    (i_bool_bool:PySem.W.kitOne K (.type "bool") (.type "bool")=some true)
    (i_bool_int:PySem.W.kitOne K (.type "int") (.type "bool")=some false)
    (i_bool_str:PySem.W.kitOne K (.type "str") (.type "bool")=some false)
    (i_bool_tuple:PySem.W.kitOne K (.type "tuple") (.type "bool")=some false)
    (i_bool_list:PySem.W.kitOne K (.type "list") (.type "bool")=some false)
    (i_tuple_NoneType:PySem.W.kitOne K (.type "NoneType") (.type "tuple")=some false)
    (i_tuple_bool:PySem.W.kitOne K (.type "bool") (.type "tuple")=some false)
    (i_tuple_int:PySem.W.kitOne K (.type "int") (.type "tuple")=some false)
    (i_tuple_str:PySem.W.kitOne K (.type "str") (.type "tuple")=some false)
    (i_tuple_tuple:PySem.W.kitOne K (.type "tuple") (.type "tuple")=some true)
    (i_tuple_list:PySem.W.kitOne K (.type "list") (.type "tuple")=some false)
    : ∃ fd:FuncData,(∀ (s:Shared) (v:Value),BindsTo s fd ⟨[v],[]⟩ [("_law_script",v)])∧∀ base:Heap,K.In base→base.Ns mainGlobals mg→FnOk P w K mg base (CXF P w) 25 fa fd ["_law_script"] (spP K mg p_law):=by
  have e:=hfa.symm.trans (PySem.W.mg_of KX GG a44)
  cases e
  have q_Way:=PySem.W.mg_of KX GG n_Way
  have cl_Way:Cls K C_Way:=⟨pg_Way,hd_Way,po_Way,sa_Way⟩
  have m_len:=PySem.W.mg_none_of KX GG z_len
  have m_str:=PySem.W.mg_none_of KX GG z_str
  have m_isinstance:=PySem.W.mg_none_of KX GG z_isinstance
  have m_ValueError:=PySem.W.mg_none_of KX GG z_ValueError
  have m_all:=PySem.W.mg_none_of KX GG z_all
  have m_int:=PySem.W.mg_none_of KX GG z_int
  have m_max:=PySem.W.mg_none_of KX GG z_max
  have m_bool:=PySem.W.mg_none_of KX GG z_bool
  have m_tuple:=PySem.W.mg_none_of KX GG z_tuple
  have g_LONGEST_LINE:∃ t,mg "LONGEST_LINE"=some (.int 400 t):=⟨_,PySem.W.mg_of KX GG y_LONGEST_LINE⟩
  have g_FIGURES:∃ t,mg "FIGURES"=some (.str "0123456789" t):=⟨_,PySem.W.mg_of KX GG y_FIGURES⟩
  have g_LONGEST_EXPONENT:∃ t,mg "LONGEST_EXPONENT"=some (.int 4 t):=⟨_,PySem.W.mg_of KX GG y_LONGEST_EXPONENT⟩
  have g_INEXACT:∃ t,mg "INEXACT"=some (.int 1 t):=⟨_,PySem.W.mg_of KX GG y_INEXACT⟩
  have g_GREAT:∃ t,mg "GREAT"=some (.int 4 t):=⟨_,PySem.W.mg_of KX GG y_GREAT⟩
  have g_SMALL:∃ t,mg "SMALL"=some (.int 2 t):=⟨_,PySem.W.mg_of KX GG y_SMALL⟩
  have q_MillError:=PySem.W.mg_of KX GG n_MillError
  have q_NoSize:=PySem.W.mg_of KX GG n_NoSize
  have q_NoBits:=PySem.W.mg_of KX GG n_NoBits
  have q_NoParts:=PySem.W.mg_of KX GG n_NoParts
  have q_NoRank:=PySem.W.mg_of KX GG n_NoRank
  have q_NotFinite:=PySem.W.mg_of KX GG n_NotFinite
  have q_NoWay:=PySem.W.mg_of KX GG n_NoWay
  have q_NoFlags:=PySem.W.mg_of KX GG n_NoFlags
  have q_NoFraction:=PySem.W.mg_of KX GG n_NoFraction
  have q_Unlike:=PySem.W.mg_of KX GG n_Unlike
  have q_Empty:=PySem.W.mg_of KX GG n_Empty
  have q_NoLeft:=PySem.W.mg_of KX GG n_NoLeft
  have q_NoText:=PySem.W.mg_of KX GG n_NoText
  have q_NoRow:=PySem.W.mg_of KX GG n_NoRow
  have q_NoName:=PySem.W.mg_of KX GG n_NoName
  have q_Stopped:=PySem.W.mg_of KX GG n_Stopped
  have hXF:∀ n∈excNames,XF K mg n:=all16
    ⟨.inr ⟨_,q_MillError,v_MillError⟩⟩
    ⟨.inr ⟨_,q_NoSize,v_NoSize⟩⟩
    ⟨.inr ⟨_,q_NoBits,v_NoBits⟩⟩
    ⟨.inr ⟨_,q_NoParts,v_NoParts⟩⟩
    ⟨.inr ⟨_,q_NoRank,v_NoRank⟩⟩
    ⟨.inr ⟨_,q_NotFinite,v_NotFinite⟩⟩
    ⟨.inr ⟨_,q_NoWay,v_NoWay⟩⟩
    ⟨.inr ⟨_,q_NoFlags,v_NoFlags⟩⟩
    ⟨.inr ⟨_,q_NoFraction,v_NoFraction⟩⟩
    ⟨.inr ⟨_,q_Unlike,v_Unlike⟩⟩
    ⟨.inr ⟨_,q_Empty,v_Empty⟩⟩
    ⟨.inr ⟨_,q_NoLeft,v_NoLeft⟩⟩
    ⟨.inr ⟨_,q_NoText,v_NoText⟩⟩
    ⟨.inr ⟨_,q_NoRow,v_NoRow⟩⟩
    ⟨.inr ⟨_,q_NoName,v_NoName⟩⟩
    ⟨.inr ⟨_,q_Stopped,v_Stopped⟩⟩
  have hct_MillError:∀ n∈excNames,exSub n "MillError"=true→CF K mg C_MillError n:=all16 (P:=fun n=>exSub n "MillError"=true→CF K mg C_MillError n)
    (fun _=>⟨.inr ⟨_,q_MillError,r_MillError_MillError⟩⟩)
    (fun _=>⟨.inr ⟨_,q_NoSize,r_MillError_NoSize⟩⟩)
    (fun _=>⟨.inr ⟨_,q_NoBits,r_MillError_NoBits⟩⟩)
    (fun _=>⟨.inr ⟨_,q_NoParts,r_MillError_NoParts⟩⟩)
    (fun _=>⟨.inr ⟨_,q_NoRank,r_MillError_NoRank⟩⟩)
    (fun _=>⟨.inr ⟨_,q_NotFinite,r_MillError_NotFinite⟩⟩)
    (fun _=>⟨.inr ⟨_,q_NoWay,r_MillError_NoWay⟩⟩)
    (fun _=>⟨.inr ⟨_,q_NoFlags,r_MillError_NoFlags⟩⟩)
    (fun _=>⟨.inr ⟨_,q_NoFraction,r_MillError_NoFraction⟩⟩)
    (fun _=>⟨.inr ⟨_,q_Unlike,r_MillError_Unlike⟩⟩)
    (fun _=>⟨.inr ⟨_,q_Empty,r_MillError_Empty⟩⟩)
    (fun _=>⟨.inr ⟨_,q_NoLeft,r_MillError_NoLeft⟩⟩)
    (fun _=>⟨.inr ⟨_,q_NoText,r_MillError_NoText⟩⟩)
    (fun _=>⟨.inr ⟨_,q_NoRow,r_MillError_NoRow⟩⟩)
    (fun _=>⟨.inr ⟨_,q_NoName,r_MillError_NoName⟩⟩)
    (fun _=>⟨.inr ⟨_,q_Stopped,r_MillError_Stopped⟩⟩)
  have hisi_NoText:∀ n∈excNames,IF K mg (.ref C_NoText) (n == "NoText"||"NoText" == "MillError") n:=all16 (P:=fun n=>IF K mg (.ref C_NoText) (n == "NoText"||"NoText" == "MillError") n)
    ⟨.inr ⟨_,q_MillError,i_NoText_MillError⟩⟩
    ⟨.inr ⟨_,q_NoSize,i_NoText_NoSize⟩⟩
    ⟨.inr ⟨_,q_NoBits,i_NoText_NoBits⟩⟩
    ⟨.inr ⟨_,q_NoParts,i_NoText_NoParts⟩⟩
    ⟨.inr ⟨_,q_NoRank,i_NoText_NoRank⟩⟩
    ⟨.inr ⟨_,q_NotFinite,i_NoText_NotFinite⟩⟩
    ⟨.inr ⟨_,q_NoWay,i_NoText_NoWay⟩⟩
    ⟨.inr ⟨_,q_NoFlags,i_NoText_NoFlags⟩⟩
    ⟨.inr ⟨_,q_NoFraction,i_NoText_NoFraction⟩⟩
    ⟨.inr ⟨_,q_Unlike,i_NoText_Unlike⟩⟩
    ⟨.inr ⟨_,q_Empty,i_NoText_Empty⟩⟩
    ⟨.inr ⟨_,q_NoLeft,i_NoText_NoLeft⟩⟩
    ⟨.inr ⟨_,q_NoText,i_NoText_NoText⟩⟩
    ⟨.inr ⟨_,q_NoRow,i_NoText_NoRow⟩⟩
    ⟨.inr ⟨_,q_NoName,i_NoText_NoName⟩⟩
    ⟨.inr ⟨_,q_Stopped,i_NoText_Stopped⟩⟩
  have hisi_ValueError:∀ n∈excNames,IF K mg (.type "ValueError") true n:=all16
    ⟨.inr ⟨_,q_MillError,i_ValueError_MillError⟩⟩
    ⟨.inr ⟨_,q_NoSize,i_ValueError_NoSize⟩⟩
    ⟨.inr ⟨_,q_NoBits,i_ValueError_NoBits⟩⟩
    ⟨.inr ⟨_,q_NoParts,i_ValueError_NoParts⟩⟩
    ⟨.inr ⟨_,q_NoRank,i_ValueError_NoRank⟩⟩
    ⟨.inr ⟨_,q_NotFinite,i_ValueError_NotFinite⟩⟩
    ⟨.inr ⟨_,q_NoWay,i_ValueError_NoWay⟩⟩
    ⟨.inr ⟨_,q_NoFlags,i_ValueError_NoFlags⟩⟩
    ⟨.inr ⟨_,q_NoFraction,i_ValueError_NoFraction⟩⟩
    ⟨.inr ⟨_,q_Unlike,i_ValueError_Unlike⟩⟩
    ⟨.inr ⟨_,q_Empty,i_ValueError_Empty⟩⟩
    ⟨.inr ⟨_,q_NoLeft,i_ValueError_NoLeft⟩⟩
    ⟨.inr ⟨_,q_NoText,i_ValueError_NoText⟩⟩
    ⟨.inr ⟨_,q_NoRow,i_ValueError_NoRow⟩⟩
    ⟨.inr ⟨_,q_NoName,i_ValueError_NoName⟩⟩
    ⟨.inr ⟨_,q_Stopped,i_ValueError_Stopped⟩⟩
  have hisi_NoSize:∀ n∈excNames,IF K mg (.ref C_NoSize) (n == "NoSize"||"NoSize" == "MillError") n:=all16 (P:=fun n=>IF K mg (.ref C_NoSize) (n == "NoSize"||"NoSize" == "MillError") n)
    ⟨.inr ⟨_,q_MillError,i_NoSize_MillError⟩⟩
    ⟨.inr ⟨_,q_NoSize,i_NoSize_NoSize⟩⟩
    ⟨.inr ⟨_,q_NoBits,i_NoSize_NoBits⟩⟩
    ⟨.inr ⟨_,q_NoParts,i_NoSize_NoParts⟩⟩
    ⟨.inr ⟨_,q_NoRank,i_NoSize_NoRank⟩⟩
    ⟨.inr ⟨_,q_NotFinite,i_NoSize_NotFinite⟩⟩
    ⟨.inr ⟨_,q_NoWay,i_NoSize_NoWay⟩⟩
    ⟨.inr ⟨_,q_NoFlags,i_NoSize_NoFlags⟩⟩
    ⟨.inr ⟨_,q_NoFraction,i_NoSize_NoFraction⟩⟩
    ⟨.inr ⟨_,q_Unlike,i_NoSize_Unlike⟩⟩
    ⟨.inr ⟨_,q_Empty,i_NoSize_Empty⟩⟩
    ⟨.inr ⟨_,q_NoLeft,i_NoSize_NoLeft⟩⟩
    ⟨.inr ⟨_,q_NoText,i_NoSize_NoText⟩⟩
    ⟨.inr ⟨_,q_NoRow,i_NoSize_NoRow⟩⟩
    ⟨.inr ⟨_,q_NoName,i_NoSize_NoName⟩⟩
    ⟨.inr ⟨_,q_Stopped,i_NoSize_Stopped⟩⟩
  have hisi_NoBits:∀ n∈excNames,IF K mg (.ref C_NoBits) (n == "NoBits"||"NoBits" == "MillError") n:=all16 (P:=fun n=>IF K mg (.ref C_NoBits) (n == "NoBits"||"NoBits" == "MillError") n)
    ⟨.inr ⟨_,q_MillError,i_NoBits_MillError⟩⟩
    ⟨.inr ⟨_,q_NoSize,i_NoBits_NoSize⟩⟩
    ⟨.inr ⟨_,q_NoBits,i_NoBits_NoBits⟩⟩
    ⟨.inr ⟨_,q_NoParts,i_NoBits_NoParts⟩⟩
    ⟨.inr ⟨_,q_NoRank,i_NoBits_NoRank⟩⟩
    ⟨.inr ⟨_,q_NotFinite,i_NoBits_NotFinite⟩⟩
    ⟨.inr ⟨_,q_NoWay,i_NoBits_NoWay⟩⟩
    ⟨.inr ⟨_,q_NoFlags,i_NoBits_NoFlags⟩⟩
    ⟨.inr ⟨_,q_NoFraction,i_NoBits_NoFraction⟩⟩
    ⟨.inr ⟨_,q_Unlike,i_NoBits_Unlike⟩⟩
    ⟨.inr ⟨_,q_Empty,i_NoBits_Empty⟩⟩
    ⟨.inr ⟨_,q_NoLeft,i_NoBits_NoLeft⟩⟩
    ⟨.inr ⟨_,q_NoText,i_NoBits_NoText⟩⟩
    ⟨.inr ⟨_,q_NoRow,i_NoBits_NoRow⟩⟩
    ⟨.inr ⟨_,q_NoName,i_NoBits_NoName⟩⟩
    ⟨.inr ⟨_,q_Stopped,i_NoBits_Stopped⟩⟩
  have hisi_NoParts:∀ n∈excNames,IF K mg (.ref C_NoParts) (n == "NoParts"||"NoParts" == "MillError") n:=all16 (P:=fun n=>IF K mg (.ref C_NoParts) (n == "NoParts"||"NoParts" == "MillError") n)
    ⟨.inr ⟨_,q_MillError,i_NoParts_MillError⟩⟩
    ⟨.inr ⟨_,q_NoSize,i_NoParts_NoSize⟩⟩
    ⟨.inr ⟨_,q_NoBits,i_NoParts_NoBits⟩⟩
    ⟨.inr ⟨_,q_NoParts,i_NoParts_NoParts⟩⟩
    ⟨.inr ⟨_,q_NoRank,i_NoParts_NoRank⟩⟩
    ⟨.inr ⟨_,q_NotFinite,i_NoParts_NotFinite⟩⟩
    ⟨.inr ⟨_,q_NoWay,i_NoParts_NoWay⟩⟩
    ⟨.inr ⟨_,q_NoFlags,i_NoParts_NoFlags⟩⟩
    ⟨.inr ⟨_,q_NoFraction,i_NoParts_NoFraction⟩⟩
    ⟨.inr ⟨_,q_Unlike,i_NoParts_Unlike⟩⟩
    ⟨.inr ⟨_,q_Empty,i_NoParts_Empty⟩⟩
    ⟨.inr ⟨_,q_NoLeft,i_NoParts_NoLeft⟩⟩
    ⟨.inr ⟨_,q_NoText,i_NoParts_NoText⟩⟩
    ⟨.inr ⟨_,q_NoRow,i_NoParts_NoRow⟩⟩
    ⟨.inr ⟨_,q_NoName,i_NoParts_NoName⟩⟩
    ⟨.inr ⟨_,q_Stopped,i_NoParts_Stopped⟩⟩
  have hisi_NoRank:∀ n∈excNames,IF K mg (.ref C_NoRank) (n == "NoRank"||"NoRank" == "MillError") n:=all16 (P:=fun n=>IF K mg (.ref C_NoRank) (n == "NoRank"||"NoRank" == "MillError") n)
    ⟨.inr ⟨_,q_MillError,i_NoRank_MillError⟩⟩
    ⟨.inr ⟨_,q_NoSize,i_NoRank_NoSize⟩⟩
    ⟨.inr ⟨_,q_NoBits,i_NoRank_NoBits⟩⟩
    ⟨.inr ⟨_,q_NoParts,i_NoRank_NoParts⟩⟩
    ⟨.inr ⟨_,q_NoRank,i_NoRank_NoRank⟩⟩
    ⟨.inr ⟨_,q_NotFinite,i_NoRank_NotFinite⟩⟩
    ⟨.inr ⟨_,q_NoWay,i_NoRank_NoWay⟩⟩
    ⟨.inr ⟨_,q_NoFlags,i_NoRank_NoFlags⟩⟩
    ⟨.inr ⟨_,q_NoFraction,i_NoRank_NoFraction⟩⟩
    ⟨.inr ⟨_,q_Unlike,i_NoRank_Unlike⟩⟩
    ⟨.inr ⟨_,q_Empty,i_NoRank_Empty⟩⟩
    ⟨.inr ⟨_,q_NoLeft,i_NoRank_NoLeft⟩⟩
    ⟨.inr ⟨_,q_NoText,i_NoRank_NoText⟩⟩
    ⟨.inr ⟨_,q_NoRow,i_NoRank_NoRow⟩⟩
    ⟨.inr ⟨_,q_NoName,i_NoRank_NoName⟩⟩
    ⟨.inr ⟨_,q_Stopped,i_NoRank_Stopped⟩⟩
  have hisi_NotFinite:∀ n∈excNames,IF K mg (.ref C_NotFinite) (n == "NotFinite"||"NotFinite" == "MillError") n:=all16 (P:=fun n=>IF K mg (.ref C_NotFinite) (n == "NotFinite"||"NotFinite" == "MillError") n)
    ⟨.inr ⟨_,q_MillError,i_NotFinite_MillError⟩⟩
    ⟨.inr ⟨_,q_NoSize,i_NotFinite_NoSize⟩⟩
    ⟨.inr ⟨_,q_NoBits,i_NotFinite_NoBits⟩⟩
    ⟨.inr ⟨_,q_NoParts,i_NotFinite_NoParts⟩⟩
    ⟨.inr ⟨_,q_NoRank,i_NotFinite_NoRank⟩⟩
    ⟨.inr ⟨_,q_NotFinite,i_NotFinite_NotFinite⟩⟩
    ⟨.inr ⟨_,q_NoWay,i_NotFinite_NoWay⟩⟩
    ⟨.inr ⟨_,q_NoFlags,i_NotFinite_NoFlags⟩⟩
    ⟨.inr ⟨_,q_NoFraction,i_NotFinite_NoFraction⟩⟩
    ⟨.inr ⟨_,q_Unlike,i_NotFinite_Unlike⟩⟩
    ⟨.inr ⟨_,q_Empty,i_NotFinite_Empty⟩⟩
    ⟨.inr ⟨_,q_NoLeft,i_NotFinite_NoLeft⟩⟩
    ⟨.inr ⟨_,q_NoText,i_NotFinite_NoText⟩⟩
    ⟨.inr ⟨_,q_NoRow,i_NotFinite_NoRow⟩⟩
    ⟨.inr ⟨_,q_NoName,i_NotFinite_NoName⟩⟩
    ⟨.inr ⟨_,q_Stopped,i_NotFinite_Stopped⟩⟩
  have hisi_NoWay:∀ n∈excNames,IF K mg (.ref C_NoWay) (n == "NoWay"||"NoWay" == "MillError") n:=all16 (P:=fun n=>IF K mg (.ref C_NoWay) (n == "NoWay"||"NoWay" == "MillError") n)
    ⟨.inr ⟨_,q_MillError,i_NoWay_MillError⟩⟩
    ⟨.inr ⟨_,q_NoSize,i_NoWay_NoSize⟩⟩
    ⟨.inr ⟨_,q_NoBits,i_NoWay_NoBits⟩⟩
    ⟨.inr ⟨_,q_NoParts,i_NoWay_NoParts⟩⟩
    ⟨.inr ⟨_,q_NoRank,i_NoWay_NoRank⟩⟩
    ⟨.inr ⟨_,q_NotFinite,i_NoWay_NotFinite⟩⟩
    ⟨.inr ⟨_,q_NoWay,i_NoWay_NoWay⟩⟩
    ⟨.inr ⟨_,q_NoFlags,i_NoWay_NoFlags⟩⟩
    ⟨.inr ⟨_,q_NoFraction,i_NoWay_NoFraction⟩⟩
    ⟨.inr ⟨_,q_Unlike,i_NoWay_Unlike⟩⟩
    ⟨.inr ⟨_,q_Empty,i_NoWay_Empty⟩⟩
    ⟨.inr ⟨_,q_NoLeft,i_NoWay_NoLeft⟩⟩
    ⟨.inr ⟨_,q_NoText,i_NoWay_NoText⟩⟩
    ⟨.inr ⟨_,q_NoRow,i_NoWay_NoRow⟩⟩
    ⟨.inr ⟨_,q_NoName,i_NoWay_NoName⟩⟩
    ⟨.inr ⟨_,q_Stopped,i_NoWay_Stopped⟩⟩
  have hisi_NoFlags:∀ n∈excNames,IF K mg (.ref C_NoFlags) (n == "NoFlags"||"NoFlags" == "MillError") n:=all16 (P:=fun n=>IF K mg (.ref C_NoFlags) (n == "NoFlags"||"NoFlags" == "MillError") n)
    ⟨.inr ⟨_,q_MillError,i_NoFlags_MillError⟩⟩
    ⟨.inr ⟨_,q_NoSize,i_NoFlags_NoSize⟩⟩
    ⟨.inr ⟨_,q_NoBits,i_NoFlags_NoBits⟩⟩
    ⟨.inr ⟨_,q_NoParts,i_NoFlags_NoParts⟩⟩
    ⟨.inr ⟨_,q_NoRank,i_NoFlags_NoRank⟩⟩
    ⟨.inr ⟨_,q_NotFinite,i_NoFlags_NotFinite⟩⟩
    ⟨.inr ⟨_,q_NoWay,i_NoFlags_NoWay⟩⟩
    ⟨.inr ⟨_,q_NoFlags,i_NoFlags_NoFlags⟩⟩
    ⟨.inr ⟨_,q_NoFraction,i_NoFlags_NoFraction⟩⟩
    ⟨.inr ⟨_,q_Unlike,i_NoFlags_Unlike⟩⟩
    ⟨.inr ⟨_,q_Empty,i_NoFlags_Empty⟩⟩
    ⟨.inr ⟨_,q_NoLeft,i_NoFlags_NoLeft⟩⟩
    ⟨.inr ⟨_,q_NoText,i_NoFlags_NoText⟩⟩
    ⟨.inr ⟨_,q_NoRow,i_NoFlags_NoRow⟩⟩
    ⟨.inr ⟨_,q_NoName,i_NoFlags_NoName⟩⟩
    ⟨.inr ⟨_,q_Stopped,i_NoFlags_Stopped⟩⟩
  have hisi_NoFraction:∀ n∈excNames,IF K mg (.ref C_NoFraction) (n == "NoFraction"||"NoFraction" == "MillError") n:=all16 (P:=fun n=>IF K mg (.ref C_NoFraction) (n == "NoFraction"||"NoFraction" == "MillError") n)
    ⟨.inr ⟨_,q_MillError,i_NoFraction_MillError⟩⟩
    ⟨.inr ⟨_,q_NoSize,i_NoFraction_NoSize⟩⟩
    ⟨.inr ⟨_,q_NoBits,i_NoFraction_NoBits⟩⟩
    ⟨.inr ⟨_,q_NoParts,i_NoFraction_NoParts⟩⟩
    ⟨.inr ⟨_,q_NoRank,i_NoFraction_NoRank⟩⟩
    ⟨.inr ⟨_,q_NotFinite,i_NoFraction_NotFinite⟩⟩
    ⟨.inr ⟨_,q_NoWay,i_NoFraction_NoWay⟩⟩
    ⟨.inr ⟨_,q_NoFlags,i_NoFraction_NoFlags⟩⟩
    ⟨.inr ⟨_,q_NoFraction,i_NoFraction_NoFraction⟩⟩
    ⟨.inr ⟨_,q_Unlike,i_NoFraction_Unlike⟩⟩
    ⟨.inr ⟨_,q_Empty,i_NoFraction_Empty⟩⟩
    ⟨.inr ⟨_,q_NoLeft,i_NoFraction_NoLeft⟩⟩
    ⟨.inr ⟨_,q_NoText,i_NoFraction_NoText⟩⟩
    ⟨.inr ⟨_,q_NoRow,i_NoFraction_NoRow⟩⟩
    ⟨.inr ⟨_,q_NoName,i_NoFraction_NoName⟩⟩
    ⟨.inr ⟨_,q_Stopped,i_NoFraction_Stopped⟩⟩
  have hisi_Unlike:∀ n∈excNames,IF K mg (.ref C_Unlike) (n == "Unlike"||"Unlike" == "MillError") n:=all16 (P:=fun n=>IF K mg (.ref C_Unlike) (n == "Unlike"||"Unlike" == "MillError") n)
    ⟨.inr ⟨_,q_MillError,i_Unlike_MillError⟩⟩
    ⟨.inr ⟨_,q_NoSize,i_Unlike_NoSize⟩⟩
    ⟨.inr ⟨_,q_NoBits,i_Unlike_NoBits⟩⟩
    ⟨.inr ⟨_,q_NoParts,i_Unlike_NoParts⟩⟩
    ⟨.inr ⟨_,q_NoRank,i_Unlike_NoRank⟩⟩
    ⟨.inr ⟨_,q_NotFinite,i_Unlike_NotFinite⟩⟩
    ⟨.inr ⟨_,q_NoWay,i_Unlike_NoWay⟩⟩
    ⟨.inr ⟨_,q_NoFlags,i_Unlike_NoFlags⟩⟩
    ⟨.inr ⟨_,q_NoFraction,i_Unlike_NoFraction⟩⟩
    ⟨.inr ⟨_,q_Unlike,i_Unlike_Unlike⟩⟩
    ⟨.inr ⟨_,q_Empty,i_Unlike_Empty⟩⟩
    ⟨.inr ⟨_,q_NoLeft,i_Unlike_NoLeft⟩⟩
    ⟨.inr ⟨_,q_NoText,i_Unlike_NoText⟩⟩
    ⟨.inr ⟨_,q_NoRow,i_Unlike_NoRow⟩⟩
    ⟨.inr ⟨_,q_NoName,i_Unlike_NoName⟩⟩
    ⟨.inr ⟨_,q_Stopped,i_Unlike_Stopped⟩⟩
  have hisi_Empty:∀ n∈excNames,IF K mg (.ref C_Empty) (n == "Empty"||"Empty" == "MillError") n:=all16 (P:=fun n=>IF K mg (.ref C_Empty) (n == "Empty"||"Empty" == "MillError") n)
    ⟨.inr ⟨_,q_MillError,i_Empty_MillError⟩⟩
    ⟨.inr ⟨_,q_NoSize,i_Empty_NoSize⟩⟩
    ⟨.inr ⟨_,q_NoBits,i_Empty_NoBits⟩⟩
    ⟨.inr ⟨_,q_NoParts,i_Empty_NoParts⟩⟩
    ⟨.inr ⟨_,q_NoRank,i_Empty_NoRank⟩⟩
    ⟨.inr ⟨_,q_NotFinite,i_Empty_NotFinite⟩⟩
    ⟨.inr ⟨_,q_NoWay,i_Empty_NoWay⟩⟩
    ⟨.inr ⟨_,q_NoFlags,i_Empty_NoFlags⟩⟩
    ⟨.inr ⟨_,q_NoFraction,i_Empty_NoFraction⟩⟩
    ⟨.inr ⟨_,q_Unlike,i_Empty_Unlike⟩⟩
    ⟨.inr ⟨_,q_Empty,i_Empty_Empty⟩⟩
    ⟨.inr ⟨_,q_NoLeft,i_Empty_NoLeft⟩⟩
    ⟨.inr ⟨_,q_NoText,i_Empty_NoText⟩⟩
    ⟨.inr ⟨_,q_NoRow,i_Empty_NoRow⟩⟩
    ⟨.inr ⟨_,q_NoName,i_Empty_NoName⟩⟩
    ⟨.inr ⟨_,q_Stopped,i_Empty_Stopped⟩⟩
  have hisi_NoLeft:∀ n∈excNames,IF K mg (.ref C_NoLeft) (n == "NoLeft"||"NoLeft" == "MillError") n:=all16 (P:=fun n=>IF K mg (.ref C_NoLeft) (n == "NoLeft"||"NoLeft" == "MillError") n)
    ⟨.inr ⟨_,q_MillError,i_NoLeft_MillError⟩⟩
    ⟨.inr ⟨_,q_NoSize,i_NoLeft_NoSize⟩⟩
    ⟨.inr ⟨_,q_NoBits,i_NoLeft_NoBits⟩⟩
    ⟨.inr ⟨_,q_NoParts,i_NoLeft_NoParts⟩⟩
    ⟨.inr ⟨_,q_NoRank,i_NoLeft_NoRank⟩⟩
    ⟨.inr ⟨_,q_NotFinite,i_NoLeft_NotFinite⟩⟩
    ⟨.inr ⟨_,q_NoWay,i_NoLeft_NoWay⟩⟩
    ⟨.inr ⟨_,q_NoFlags,i_NoLeft_NoFlags⟩⟩
    ⟨.inr ⟨_,q_NoFraction,i_NoLeft_NoFraction⟩⟩
    ⟨.inr ⟨_,q_Unlike,i_NoLeft_Unlike⟩⟩
    ⟨.inr ⟨_,q_Empty,i_NoLeft_Empty⟩⟩
    ⟨.inr ⟨_,q_NoLeft,i_NoLeft_NoLeft⟩⟩
    ⟨.inr ⟨_,q_NoText,i_NoLeft_NoText⟩⟩
    ⟨.inr ⟨_,q_NoRow,i_NoLeft_NoRow⟩⟩
    ⟨.inr ⟨_,q_NoName,i_NoLeft_NoName⟩⟩
    ⟨.inr ⟨_,q_Stopped,i_NoLeft_Stopped⟩⟩
  have hisi_NoRow:∀ n∈excNames,IF K mg (.ref C_NoRow) (n == "NoRow"||"NoRow" == "MillError") n:=all16 (P:=fun n=>IF K mg (.ref C_NoRow) (n == "NoRow"||"NoRow" == "MillError") n)
    ⟨.inr ⟨_,q_MillError,i_NoRow_MillError⟩⟩
    ⟨.inr ⟨_,q_NoSize,i_NoRow_NoSize⟩⟩
    ⟨.inr ⟨_,q_NoBits,i_NoRow_NoBits⟩⟩
    ⟨.inr ⟨_,q_NoParts,i_NoRow_NoParts⟩⟩
    ⟨.inr ⟨_,q_NoRank,i_NoRow_NoRank⟩⟩
    ⟨.inr ⟨_,q_NotFinite,i_NoRow_NotFinite⟩⟩
    ⟨.inr ⟨_,q_NoWay,i_NoRow_NoWay⟩⟩
    ⟨.inr ⟨_,q_NoFlags,i_NoRow_NoFlags⟩⟩
    ⟨.inr ⟨_,q_NoFraction,i_NoRow_NoFraction⟩⟩
    ⟨.inr ⟨_,q_Unlike,i_NoRow_Unlike⟩⟩
    ⟨.inr ⟨_,q_Empty,i_NoRow_Empty⟩⟩
    ⟨.inr ⟨_,q_NoLeft,i_NoRow_NoLeft⟩⟩
    ⟨.inr ⟨_,q_NoText,i_NoRow_NoText⟩⟩
    ⟨.inr ⟨_,q_NoRow,i_NoRow_NoRow⟩⟩
    ⟨.inr ⟨_,q_NoName,i_NoRow_NoName⟩⟩
    ⟨.inr ⟨_,q_Stopped,i_NoRow_Stopped⟩⟩
  have hisi_NoName:∀ n∈excNames,IF K mg (.ref C_NoName) (n == "NoName"||"NoName" == "MillError") n:=all16 (P:=fun n=>IF K mg (.ref C_NoName) (n == "NoName"||"NoName" == "MillError") n)
    ⟨.inr ⟨_,q_MillError,i_NoName_MillError⟩⟩
    ⟨.inr ⟨_,q_NoSize,i_NoName_NoSize⟩⟩
    ⟨.inr ⟨_,q_NoBits,i_NoName_NoBits⟩⟩
    ⟨.inr ⟨_,q_NoParts,i_NoName_NoParts⟩⟩
    ⟨.inr ⟨_,q_NoRank,i_NoName_NoRank⟩⟩
    ⟨.inr ⟨_,q_NotFinite,i_NoName_NotFinite⟩⟩
    ⟨.inr ⟨_,q_NoWay,i_NoName_NoWay⟩⟩
    ⟨.inr ⟨_,q_NoFlags,i_NoName_NoFlags⟩⟩
    ⟨.inr ⟨_,q_NoFraction,i_NoName_NoFraction⟩⟩
    ⟨.inr ⟨_,q_Unlike,i_NoName_Unlike⟩⟩
    ⟨.inr ⟨_,q_Empty,i_NoName_Empty⟩⟩
    ⟨.inr ⟨_,q_NoLeft,i_NoName_NoLeft⟩⟩
    ⟨.inr ⟨_,q_NoText,i_NoName_NoText⟩⟩
    ⟨.inr ⟨_,q_NoRow,i_NoName_NoRow⟩⟩
    ⟨.inr ⟨_,q_NoName,i_NoName_NoName⟩⟩
    ⟨.inr ⟨_,q_Stopped,i_NoName_Stopped⟩⟩
  have hisi_Stopped:∀ n∈excNames,IF K mg (.ref C_Stopped) (n == "Stopped"||"Stopped" == "MillError") n:=all16 (P:=fun n=>IF K mg (.ref C_Stopped) (n == "Stopped"||"Stopped" == "MillError") n)
    ⟨.inr ⟨_,q_MillError,i_Stopped_MillError⟩⟩
    ⟨.inr ⟨_,q_NoSize,i_Stopped_NoSize⟩⟩
    ⟨.inr ⟨_,q_NoBits,i_Stopped_NoBits⟩⟩
    ⟨.inr ⟨_,q_NoParts,i_Stopped_NoParts⟩⟩
    ⟨.inr ⟨_,q_NoRank,i_Stopped_NoRank⟩⟩
    ⟨.inr ⟨_,q_NotFinite,i_Stopped_NotFinite⟩⟩
    ⟨.inr ⟨_,q_NoWay,i_Stopped_NoWay⟩⟩
    ⟨.inr ⟨_,q_NoFlags,i_Stopped_NoFlags⟩⟩
    ⟨.inr ⟨_,q_NoFraction,i_Stopped_NoFraction⟩⟩
    ⟨.inr ⟨_,q_Unlike,i_Stopped_Unlike⟩⟩
    ⟨.inr ⟨_,q_Empty,i_Stopped_Empty⟩⟩
    ⟨.inr ⟨_,q_NoLeft,i_Stopped_NoLeft⟩⟩
    ⟨.inr ⟨_,q_NoText,i_Stopped_NoText⟩⟩
    ⟨.inr ⟨_,q_NoRow,i_Stopped_NoRow⟩⟩
    ⟨.inr ⟨_,q_NoName,i_Stopped_NoName⟩⟩
    ⟨.inr ⟨_,q_Stopped,i_Stopped_Stopped⟩⟩
  refine ⟨PySem.W.fnOf "law" "law" (defArgs s_law) (defBody s_law) (defScope s_law) .none kV44 dc44 pm44 an44 cd44 ct44,fun s v=>.of_eq rfl,fun base _ _ => ?_⟩
  have FIWay:=fun_mk (st:=s_Way_init) lIWay eIWay kIWay
  have BIWay:=binds2 (ps:=["self","name"]) FIWay rfl fun _ _ _ _ _ _ _ _=>rfl
  have JIWay:FnOk P w K mg base CX0 1 fIWay _ ["self","name"] (spI K "name"):=init_ok (k:=0) FIWay ⟨rfl,rfl,rfl,by decide +kernel,by decide +kernel,by decide +kernel,by decide +kernel⟩ (by decide +kernel) (by decide +kernel) (by decide +kernel) (by decide +kernel) rfl (fun _=>rfl)
  have D1:FnP P w K mg base "_law_mark_by" 1 p_law_mark_by:=q1.fn KX GG sc_law_mark_by rfl rfl (binds1 · rfl fun _ _ _ _ _ _ _=>rfl) fun X hr L O Pl hS =>
    b_law_mark_by (X:=at5 X P w K mg base) hr L O Pl hS
  have D2:FnP P w K mg base "_law_cell_at" 1 p_law_cell_at:=q2.fn KX GG sc_law_cell_at rfl rfl (binds2 · rfl fun _ _ _ _ _ _ _ _=>rfl) fun X hr L O Pl hS =>
    b_law_cell_at (X:=at5 X P w K mg base) hr L O Pl hS m_len
  have D3:FnP P w K mg base "_law_run" 1 p_law_run:=q3.fn KX GG sc_law_run rfl rfl (binds2 · rfl fun _ _ _ _ _ _ _ _=>rfl) fun X hr L O Pl hS =>
    b_law_run (X:=at5 X P w K mg base) hr L O Pl hS m_str
  have D4:FnP P w K mg base "_law_numeral_by" 2 p_law_numeral_by:=q4.fn KX GG sc_law_numeral_by rfl rfl (binds1 · rfl fun _ _ _ _ _ _ _=>rfl) fun X hr L O Pl hS =>
    b_law_numeral_by (X:=at5 X P w K mg base) hr L O Pl hS (D1.c hr) (D2.c hr) (D3.c hr)
  have D5:FnP P w K mg base "_law_step" 1 p_law_step:=q5.fn KX GG sc_law_step rfl rfl (binds2 · rfl fun _ _ _ _ _ _ _ _=>rfl) fun X hr L O Pl hS =>
    b_law_step (X:=at5 X P w K mg base) hr L O Pl hS
  have D6:FnP P w K mg base "_law_is_numeral" 2 p_law_is_numeral:=q6.fn KX GG sc_law_is_numeral rfl rfl (binds1 · rfl fun _ _ _ _ _ _ _=>rfl) fun X hr L O Pl hS =>
    b_law_is_numeral (X:=at5 X P w K mg base) hr L O Pl hS m_len (D5.c hr)
  have D7:FnP P w K mg base "_law_alone" 1 p_law_alone:=q7.fn KX GG sc_law_alone rfl rfl (binds1 · rfl fun _ _ _ _ _ _ _=>rfl) fun X hr L O Pl hS =>
    b_law_alone (X:=at5 X P w K mg base) hr L O Pl hS q_NoText (isi_cls q_NoText (ref_of hXF) i0_NoText hisi_NoText) (excKit_of (xcls_of hXF)) m_isinstance m_ValueError (isi_ve (fun _ _ _ _=>trivial) (ref_of hXF) i_VE_NoneType i_VE_bool i_VE_int i_VE_str i_VE_tuple i_VE_list hisi_ValueError) q_NoSize q_NoBits q_NoParts q_NoRank q_NotFinite q_NoWay q_NoFlags (isi_cls q_NoSize (ref_of hXF) i0_NoSize hisi_NoSize) (isi_cls q_NoBits (ref_of hXF) i0_NoBits hisi_NoBits) (isi_cls q_NoParts (ref_of hXF) i0_NoParts hisi_NoParts) (isi_cls q_NoRank (ref_of hXF) i0_NoRank hisi_NoRank) (isi_cls q_NotFinite (ref_of hXF) i0_NotFinite hisi_NotFinite) (isi_cls q_NoWay (ref_of hXF) i0_NoWay hisi_NoWay) (isi_cls q_NoFlags (ref_of hXF) i0_NoFlags hisi_NoFlags) q_NoFraction q_Unlike q_Empty q_NoLeft q_NoRow q_NoName q_Stopped (isi_cls q_NoFraction (ref_of hXF) i0_NoFraction hisi_NoFraction) (isi_cls q_Unlike (ref_of hXF) i0_Unlike hisi_Unlike) (isi_cls q_Empty (ref_of hXF) i0_Empty hisi_Empty) (isi_cls q_NoLeft (ref_of hXF) i0_NoLeft hisi_NoLeft) (isi_cls q_NoRow (ref_of hXF) i0_NoRow hisi_NoRow) (isi_cls q_NoName (ref_of hXF) i0_NoName hisi_NoName) (isi_cls q_Stopped (ref_of hXF) i0_Stopped hisi_Stopped)
  have D8:FnP P w K mg base "sign_and_word" 1 p_sign_and_word:=q8.fn KX GG sc_sign_and_word rfl rfl (binds1 · rfl fun _ _ _ _ _ _ _=>rfl) fun X hr L O Pl hS =>
    b_sign_and_word (X:=at5 X P w K mg base) hr L O Pl hS
  have D9:FnP P w K mg base "bare_line" 1 p_bare_line:=q9.fn KX GG sc_bare_line rfl rfl (binds1 · rfl fun _ _ _ _ _ _ _=>rfl) fun X hr L O Pl hS =>
    b_bare_line (X:=at5 X P w K mg base) hr L O Pl hS m_len g_LONGEST_LINE q_NoText xi_NoText
  have D10:FnP P w K mg base "all_figures" 1 p_all_figures:=q10.fn KX GG sc_all_figures rfl rfl (binds1 · rfl fun _ _ _ _ _ _ _=>rfl) fun X hr L O Pl hS =>
    b_all_figures (X:=at5 X P w K mg base) hr L O Pl hS g_FIGURES m_all
  have D11:FnP P w K mg base "exponent_of" 2 p_exponent_of:=q11.fn KX GG sc_exponent_of rfl rfl (binds1 · rfl fun _ _ _ _ _ _ _=>rfl) fun X hr L O Pl hS =>
    b_exponent_of (X:=at5 X P w K mg base) hr L O Pl hS (D8.c hr) (D10.c hr) m_len g_LONGEST_EXPONENT q_NoText xi_NoText m_int
  have D12:FnP P w K mg base "spelled" 3 p_spelled:=q12.fn KX GG sc_spelled rfl rfl (binds1 · rfl fun _ _ _ _ _ _ _=>rfl) fun X hr L O Pl hS =>
    b_spelled (X:=at5 X P w K mg base) hr L O Pl hS (D8.c hr) (D9.c hr) (D11.c hr) (D10.c hr) q_NoText xi_NoText m_int m_len
  have D13:FnP P w K mg base "way_of" 3 p_way_of:=q13.fn KX GG sc_way_of rfl rfl (binds1 · rfl fun _ _ _ _ _ _ _=>rfl) fun X hr L O Pl hS =>
    b_way_of (X:=at5 X P w K mg base) hr L O Pl hS (gc_strs (ss:=["even","away","nought","up","down"]) (PySem.W.mg_of KX GG y_NAMES) yl_NAMES (vals_strs (ts:=[t0_NAMES,t1_NAMES,t2_NAMES,t3_NAMES,t4_NAMES]) rfl rfl) (Nat.le_of_ble_eq_true rfl)) q_NoWay xi_NoWay ⟨⟨C_Way,_,1,_,_,q_Way,cl_Way,na_Way,⟨mm_Way,aIWay,uIWay,kc_Way⟩,JIWay,hr.mono (by decide),BIWay⟩⟩
  have F14:=fun_mk (st:=s_ten_to) l14 e14 k14
  have B14:=binds1 (ps:=["number"]) F14 rfl fun _ _ _ _ _ _ _=>rfl
  have D14:∀ j,FnP P w K mg base "ten_to" (j+1) (p_ten_to j):=fun j=>by
    induction j with
    | zero=>exact fn_def fn_bad k14 (PySem.W.mg_of KX GG a14) B14
    | succ j ih =>
    refine fn_def (up1 (fn_ok2 (k:=j+1) F14 sc_ten_to rfl rfl fun X hr L O Pl hS => ?_)) k14 (PySem.W.mg_of KX GG a14) B14
    exact b_ten_to (X:=at5 X P w K mg base) hr L O Pl hS (ih.callee hr (Nat.le_refl _))
  have D15:FnP P w K mg base "tenfold" 22 p_tenfold:=q15.fn KX GG sc_tenfold rfl rfl (binds3 · rfl fun _ _ _ _ _ _ _ _ _=>rfl) fun X hr L O Pl hS =>
    b_tenfold (X:=at5 X P w K mg base) hr L O Pl hS ((D14 20).callee hr (by decide))
  have D16:FnP P w K mg base "check_fraction" 1 p_check_fraction:=q16.fn KX GG sc_check_fraction rfl rfl (binds2 · rfl fun _ _ _ _ _ _ _ _=>rfl) fun X hr L O Pl hS =>
    b_check_fraction (X:=at5 X P w K mg base) hr L O Pl hS q_NoFraction xi_NoFraction
  have D17:FnP P w K mg base "scaled" 1 p_scaled:=q17.fn KX GG sc_scaled rfl rfl (binds3 · rfl fun _ _ _ _ _ _ _ _ _=>rfl) fun X hr L O Pl hS =>
    b_scaled (X:=at5 X P w K mg base) hr L O Pl hS
  have D18:FnP P w K mg base "bias" 1 p_bias:=q18.fn KX GG sc_bias rfl rfl (binds1 · rfl fun _ _ _ _ _ _ _=>rfl) fun X hr L O Pl hS =>
    b_bias (X:=at5 X P w K mg base) hr L O Pl hS
  have D19:FnP P w K mg base "low" 2 p_low:=q19.fn KX GG sc_low rfl rfl (binds1 · rfl fun _ _ _ _ _ _ _=>rfl) fun X hr L O Pl hS =>
    b_low (X:=at5 X P w K mg base) hr L O Pl hS (D18.c hr)
  have D20:FnP P w K mg base "rest_by_middle" 1 p_rest_by_middle:=q20.fn KX GG sc_rest_by_middle rfl rfl (binds3 · rfl fun _ _ _ _ _ _ _ _ _=>rfl) fun X hr L O Pl hS =>
    b_rest_by_middle (X:=at5 X P w K mg base) hr L O Pl hS
  have D21:FnP P w K mg base "rest_of" 2 p_rest_of:=q21.fn KX GG sc_rest_of rfl rfl (binds2 · rfl fun _ _ _ _ _ _ _ _=>rfl) fun X hr L O Pl hS =>
    b_rest_of (X:=at5 X P w K mg base) hr L O Pl hS (D20.c hr)
  have D22:FnP P w K mg base "height" 2 p_height:=q22.fn KX GG sc_height rfl rfl (binds2 · rfl fun _ _ _ _ _ _ _ _=>rfl) fun X hr L O Pl hS =>
    b_height (X:=at5 X P w K mg base) hr L O Pl hS (D17.c hr)
  have D23:FnP P w K mg base "cut" 3 p_cut:=q23.fn KX GG sc_cut rfl rfl (binds3 · rfl fun _ _ _ _ _ _ _ _ _=>rfl) fun X hr L O Pl hS =>
    b_cut (X:=at5 X P w K mg base) hr L O Pl hS (D16.c hr) (D19.c hr) (D22.c hr) m_max (D17.c hr) (D21.c hr)
  have D24:FnP P w K mg base "last_field" 1 p_last_field:=q24.fn KX GG sc_last_field rfl rfl (binds1 · rfl fun _ _ _ _ _ _ _=>rfl) fun X hr L O Pl hS =>
    b_last_field (X:=at5 X P w K mg base) hr L O Pl hS
  have D25:FnP P w K mg base "endless" 2 p_endless:=q25.fn KX GG sc_endless rfl rfl (binds1 · rfl fun _ _ _ _ _ _ _=>rfl) fun X hr L O Pl hS =>
    b_endless (X:=at5 X P w K mg base) hr L O Pl hS (D24.c hr)
  have D26:FnP P w K mg base "sign_bit" 1 p_sign_bit:=q26.fn KX GG sc_sign_bit rfl rfl (binds1 · rfl fun _ _ _ _ _ _ _=>rfl) fun X hr L O Pl hS =>
    b_sign_bit (X:=at5 X P w K mg base) hr L O Pl hS
  have D27:FnP P w K mg base "signed" 2 p_signed:=q27.fn KX GG sc_signed rfl rfl (binds3 · rfl fun _ _ _ _ _ _ _ _ _=>rfl) fun X hr L O Pl hS =>
    b_signed (X:=at5 X P w K mg base) hr L O Pl hS (D26.c hr)
  have D28:FnP P w K mg base "lost_flags" 3 p_lost_flags:=q28.fn KX GG sc_lost_flags rfl rfl (binds3 · rfl fun _ _ _ _ _ _ _ _ _=>rfl) fun X hr L O Pl hS =>
    b_lost_flags (X:=at5 X P w K mg base) hr L O Pl hS (D25.c hr) g_INEXACT g_GREAT g_SMALL
  have F29:=fun_mk (st:=s_Way_flees_nought) l29 e29 k29
  have B29:=binds2 (ps:=["self","sign"]) F29 rfl fun _ _ _ _ _ _ _ _=>rfl
  have D29:=fn_ok2 (P:=P) (w:=w) (mg:=mg) (base:=base) (n:=2) (m:=2) (g:=g_Way_flees_nought) (k:=0) F29 sc_Way_flees_nought rfl rfl fun X hr L O Pl hS=>by
    exact b_Way_flees_nought (X:=at5 X P w K mg base) hr L O Pl hS ⟨⟨C_Way,q_Way,cl_Way,na_Way⟩⟩
  have F30:=fun_mk (st:=s_Way_grows) l30 e30 k30
  have B30:=binds4 (ps:=["self","sign","odd","rest"]) F30 rfl fun _ _ _ _ _ _ _ _ _ _=>rfl
  have D30:=fn_ok2 (P:=P) (w:=w) (mg:=mg) (base:=base) (n:=4) (m:=4) (g:=g_Way_grows) (k:=1) F30 sc_Way_grows rfl rfl fun X hr L O Pl hS=>by
    exact b_Way_grows (X:=at5 X P w K mg base) hr L O Pl hS ⟨⟨C_Way,q_Way,cl_Way,na_Way⟩⟩ ⟨⟨C_Way,f29,1,_,_,q_Way,cl_Way,⟨a29,u29,k29⟩,D29,hr.mono (by decide),B29⟩⟩
  have F31:=fun_mk (st:=s_Way_bursts) l31 e31 k31
  have B31:=binds2 (ps:=["self","sign"]) F31 rfl fun _ _ _ _ _ _ _ _=>rfl
  have D31:=fn_ok2 (P:=P) (w:=w) (mg:=mg) (base:=base) (n:=2) (m:=2) (g:=g_Way_bursts) (k:=1) F31 sc_Way_bursts rfl rfl fun X hr L O Pl hS=>by
    exact b_Way_bursts (X:=at5 X P w K mg base) hr L O Pl hS ⟨⟨C_Way,q_Way,cl_Way,na_Way⟩⟩ ⟨⟨C_Way,f29,1,_,_,q_Way,cl_Way,⟨a29,u29,k29⟩,D29,hr.mono (by decide),B29⟩⟩
  have D32:FnP P w K mg base "settled" 4 p_settled:=q32.fn KX GG sc_settled rfl rfl (binds6 · rfl fun _ _ _ _ _ _ _ _ _ _ _ _=>rfl) fun X hr L O Pl hS =>
    b_settled (X:=at5 X P w K mg base) hr L O Pl hS (D13.c hr) (D19.c hr) (D25.c hr) ⟨⟨C_Way,f31,2,_,_,q_Way,cl_Way,⟨a31,u31,k31⟩,D31,hr.mono (by decide),B31⟩⟩ (D27.c hr) g_INEXACT g_GREAT ⟨⟨C_Way,f30,2,_,_,q_Way,cl_Way,⟨a30,u30,k30⟩,D30,hr.mono (by decide),B30⟩⟩ (D28.c hr)
  have D33:FnP P w K mg base "rounded" 5 p_rounded:=q33.fn KX GG sc_rounded rfl rfl (binds5 · rfl fun _ _ _ _ _ _ _ _ _ _ _=>rfl) fun X hr L O Pl hS =>
    b_rounded (X:=at5 X P w K mg base) hr L O Pl hS (D13.c hr) (D23.c hr) (D32.c hr)
  have D34:FnP P w K mg base "no_number" 3 p_no_number:=q34.fn KX GG sc_no_number rfl rfl (binds1 · rfl fun _ _ _ _ _ _ _=>rfl) fun X hr L O Pl hS =>
    b_no_number (X:=at5 X P w K mg base) hr L O Pl hS (D25.c hr)
  have D35:FnP P w K mg base "read" 23 p_read:=q35.fn KX GG sc_read rfl rfl (binds3 · rfl fun _ _ _ _ _ _ _ _ _=>rfl) fun X hr L O Pl hS =>
    b_read (X:=at5 X P w K mg base) hr L O Pl hS (D13.c hr) (D8.c hr) (D9.c hr) (D27.c hr) (D25.c hr) (D34.c hr) (D12.c hr) (D15.c hr) (D33.c hr)
  have D36:FnP P w K mg base "_law_refused" 24 p_law_refused:=q36.fn KX GG sc_law_refused rfl rfl (binds3 · rfl fun _ _ _ _ _ _ _ _ _=>rfl) fun X hr L O Pl hS =>
    b_law_refused (X:=at5 X P w K mg base) hr L O Pl hS (D12.c hr) (D35.c hr) (by rw [hS];decide +kernel) q_MillError (catches_of cb_MillError hct_MillError) (D7.c hr)
  have D37:FnP P w K mg base "_law_spoiled" 1 p_law_spoiled:=q37.fn KX GG sc_law_spoiled rfl rfl (binds4 · rfl fun _ _ _ _ _ _ _ _ _ _=>rfl) fun X hr L O Pl hS =>
    b_law_spoiled (X:=at5 X P w K mg base) hr L O Pl hS m_len
  have D38:FnP P w K mg base "_law_odd_by" 1 p_law_odd_by:=q38.fn KX GG sc_law_odd_by rfl rfl (binds1 · rfl fun _ _ _ _ _ _ _=>rfl) fun X hr L O Pl hS =>
    b_law_odd_by (X:=at5 X P w K mg base) hr L O Pl hS
  have D39:FnP P w K mg base "_law_way_by" 1 p_law_way_by:=q39.fn KX GG sc_law_way_by rfl rfl (binds1 · rfl fun _ _ _ _ _ _ _=>rfl) fun X hr L O Pl hS =>
    b_law_way_by (X:=at5 X P w K mg base) hr L O Pl hS
  have D40:FnP P w K mg base "_law_size_by" 1 p_law_size_by:=q40.fn KX GG sc_law_size_by rfl rfl (binds1 · rfl fun _ _ _ _ _ _ _=>rfl) fun X hr L O Pl hS =>
    b_law_size_by (X:=at5 X P w K mg base) hr L O Pl hS
  have D41:FnP P w K mg base "_law_sign_by" 1 p_law_sign_by:=q41.fn KX GG sc_law_sign_by rfl rfl (binds1 · rfl fun _ _ _ _ _ _ _=>rfl) fun X hr L O Pl hS =>
    b_law_sign_by (X:=at5 X P w K mg base) hr L O Pl hS
  have D42:FnP P w K mg base "_law_due_of" 1 p_law_due_of:=q42.fn KX GG sc_law_due_of rfl rfl (binds1 · rfl fun _ _ _ _ _ _ _=>rfl) fun X hr L O Pl hS =>
    b_law_due_of (X:=at5 X P w K mg base) hr L O Pl hS m_int m_len
  have D43:FnP P w K mg base "_law_whole" 1 p_law_whole:=q43.fn KX GG sc_law_whole rfl rfl (binds1 · rfl fun _ _ _ _ _ _ _=>rfl) fun X hr L O Pl hS =>
    b_law_whole (X:=at5 X P w K mg base) hr L O Pl hS m_int (isi_ty (by decide) i_int_NoneType i_int_bool i_int_int i_int_str i_int_tuple i_int_list) (excKit_of (xcls_of hXF)) m_isinstance m_bool (isi_ty (by decide) i_bool_NoneType i_bool_bool i_bool_int i_bool_str i_bool_tuple i_bool_list)
  have F44:=fun_mk (st:=s_law) l44 e44 k44
  · refine fn_ok2 (k:=24) F44 sc_law rfl rfl fun X hr L O Pl hS => ?_
    exact b_law (X:=at5 X P w K mg base) hr L O Pl hS (D4.c hr) (D2.c hr) (D37.c hr) (D41.c hr) (D38.c hr) m_len (D6.c hr) (D12.c hr) m_tuple (isi_ty (by decide) i_tuple_NoneType i_tuple_bool i_tuple_int i_tuple_str i_tuple_tuple i_tuple_list) (excKit_of (xcls_of hXF)) m_isinstance (D43.c hr) (D42.c hr) (D36.c hr) (D39.c hr) (D40.c hr)
end T
namespace H
open PySem PySem.W PySem.Spec PyProof.Rows L2 EV ES
noncomputable section
abbrev vS (x:Str) (n:Nat):Value:=.str x n
abbrev vI (x:Int) (n:Nat):Value:=.int x n
abbrev r (n:Addr):Value:=.ref n
abbrev z (x:Int):Value:=.int x 0
abbrev c (n:Nat):Value:=.str "/claim/cut.py" n
abbrev en (P:Params) (x:Str) (n:Nat) (v:Value):DictEntry:=⟨PyData.keyHash P x,.str x n,v⟩
abbrev sqO (c:Value) (a:Array Value):Obj:=⟨c,none,.seq a 0,#[]⟩
abbrev fiO (c:Value) (a:Array Value):Obj:=⟨c,none,.fields a,#[]⟩
abbrev diO (c:Value) (a:Array DictEntry) (n:Nat):Obj:=⟨c,none,.dict a n,#[]⟩
abbrev fnO (c:Value) (x q:Str) (s:Stmt) (g:Addr) (cl:List (Str×Addr)) (d k dc m:Value) (an:Option Addr) (cd ct:Value) (b:Addr):Obj:=⟨c,none,.func ⟨x,q,defArgs s,.stmts (defBody s),defScope s,g,cl,d,k,dc,m,an,cd,ct,b⟩,#[]⟩
abbrev N:BT:=.nil
abbrev L (o:Obj):BT:=.node o .nil .nil
abbrev B (o:Obj) (l r:BT):BT:=.node o l r
def cut (n:Nat) (t:BT):Nat→Nat→BT := @BT.rec (fun _=>Nat→Nat→BT) (fun _ _=>.nil) (fun v _ _ l r a b => @Bool.rec (fun _=>BT) .nil (.node v (l (Nat.mul 2 a) (Nat.add a b)) (r (Nat.mul 2 a) (Nat.add (Nat.mul 2 a) b))) (Nat.blt b n)) t
def o0:Obj:=sqO (.type "tuple") #[]
def o1:Obj:=fiO .none #[]
def o2:Obj:=fiO (.type "code") #[(vS "<module>" 182),(vS "<module>" 183),(c 184),(z 1),(z 0),(z 0),(z 0),(z 0),(r 11),(.bool false),(z 181),(r 12),.none,.none,.none,.none,(z 185),(z 1),(c 186)]
def o3:Obj:=(Obj.mk (.type "frame") none Data.plain #[(some (r 13)),(some (r 3)),(some (r 3)),none,(some (vS "__main__" 164)),none,(some (r 0))])
def o4 (P:Params):Obj:=diO (.type "dict") #[(en P "__name__" 165 (vS "roundmill.errors" 187)),(en P "__doc__" 166 .none),(en P "__package__" 167 .none),(en P "__loader__" 168 (.builtin "__main__.__loader__#opaque")),(en P "__spec__" 169 .none),(en P "__annotations__" 170 (r 6)),(en P "__builtins__" 171 (r 4)),(en P "__file__" 173 (c 172)),(en P "__cached__" 174 .none),(en P "MillError" 206 (r 24))] 10
def o5:Obj:=fiO .none #[(z 2),(z 0),(r 20)]
def o6:Obj:=sqO (.type "tuple") #[(.type "ValueError")]
def o7:Obj:=fiO (.type "builtin_function_or_method") #[(.builtin "type.__prepare__"),(.type "type")]
def o8 (P:Params):Obj:=diO (.type "dict") #[(en P "__module__" 196 (vS "roundmill.errors" 187)),(en P "__qualname__" 198 (vS "MillError" 197)),(en P "__firstlineno__" 200 (vI 2 199)),(en P "__static_attributes__" 201 (r 22))] 4
def o9:Obj:=fiO (.type "code") #[(vS "MillError" 191),(vS "MillError" 192),(c 193),(z 2),(z 0),(z 0),(z 0),(z 0),(r 18),(.bool false),(z 181),(r 19),.none,.none,.none,.none,(z 194),(z 2),(c 195)]
def o10:Obj:=(Obj.mk (.type "frame") none Data.plain #[(some (r 20)),(some (r 3)),(some (r 17)),none,(some (vS "roundmill.errors" 187)),none,(some (r 0))])
def o11 (P:Params):Obj:=diO (.type "dict") #[(en P "__module__" 196 (vS "roundmill.errors" 187)),(en P "__firstlineno__" 200 (vI 2 199)),(en P "__static_attributes__" 201 (r 22)),(en P "__weakref__" 203 (r 25)),(en P "__doc__" 204 .none)] 3
def o12:Obj:=(Obj.mk (.type "type") none (Data.cls (ClassData.mk "MillError" [(.type "ValueError")] [(r 24),(.type "ValueError"),(.type "Exception"),(.type "BaseException"),(.type "object")] 23 "MillError" true [] [] false none false)) #[(some (r 15)),none,(some (vS "MillError" 189)),(some (vS "MillError" 197)),(some (.builtin "ValueError.__new__")),(some (.bool true))])
def o13:Obj:=fiO (.type "getset_descriptor") #[(vS "__weakref__" 202),(r 24),(.builtin "ExceptionGroup.__weakref__"),.none]
def o14:Obj:=fiO (.type "super") #[(r 24),(r 24),(r 24)]
def o15:Obj:=fiO (.type "builtin_function_or_method") #[(.builtin "object.__init_subclass__"),(r 24)]
def o16 (P:Params):Obj:=diO (.type "dict") #[(en P "__name__" 165 (vS "roundmill.errors" 187)),(en P "__doc__" 166 .none),(en P "__package__" 167 .none),(en P "__loader__" 168 (.builtin "__main__.__loader__#opaque")),(en P "__spec__" 169 .none),(en P "__annotations__" 170 (r 6)),(en P "__builtins__" 171 (r 4)),(en P "__file__" 173 (c 172)),(en P "__cached__" 174 .none),(en P "MillError" 206 (r 24)),(en P "NoSize" 222 (r 37))] 11
def o17:Obj:=fiO .none #[(z 2),(z 0),(r 20),(z 4),(z 0),(r 33)]
def o18:Obj:=(Obj.mk (.type "type") none (Data.cls (ClassData.mk "MillError" [(.type "ValueError")] [(r 24),(.type "ValueError"),(.type "Exception"),(.type "BaseException"),(.type "object")] 23 "MillError" true [] [(r 37)] false none false)) #[(some (r 15)),none,(some (vS "MillError" 189)),(some (vS "MillError" 197)),(some (.builtin "ValueError.__new__")),(some (.bool true))])
def o19:Obj:=sqO (.type "tuple") #[(r 24)]
def o20 (P:Params):Obj:=diO (.type "dict") #[(en P "__module__" 214 (vS "roundmill.errors" 187)),(en P "__qualname__" 216 (vS "NoSize" 215)),(en P "__firstlineno__" 218 (vI 4 217)),(en P "__static_attributes__" 219 (r 35))] 4
def o21:Obj:=fiO (.type "code") #[(vS "NoSize" 209),(vS "NoSize" 210),(c 211),(z 4),(z 0),(z 0),(z 0),(z 0),(r 31),(.bool false),(z 181),(r 32),.none,.none,.none,.none,(z 212),(z 4),(c 213)]
def o22:Obj:=(Obj.mk (.type "frame") none Data.plain #[(some (r 33)),(some (r 3)),(some (r 30)),none,(some (vS "roundmill.errors" 187)),none,(some (r 0))])
def o23 (P:Params):Obj:=diO (.type "dict") #[(en P "__module__" 214 (vS "roundmill.errors" 187)),(en P "__firstlineno__" 218 (vI 4 217)),(en P "__static_attributes__" 219 (r 35)),(en P "__doc__" 220 .none)] 2
def o24:Obj:=(Obj.mk (.type "type") none (Data.cls (ClassData.mk "NoSize" [(r 24)] [(r 37),(r 24),(.type "ValueError"),(.type "Exception"),(.type "BaseException"),(.type "object")] 36 "NoSize" true [] [] false none false)) #[(some (r 28)),none,(some (vS "NoSize" 207)),(some (vS "NoSize" 215)),(some (.builtin "ValueError.__new__")),(some (.bool true))])
def o25:Obj:=fiO (.type "super") #[(r 37),(r 37),(r 37)]
def o26:Obj:=fiO (.type "builtin_function_or_method") #[(.builtin "object.__init_subclass__"),(r 37)]
def o27 (P:Params):Obj:=diO (.type "dict") #[(en P "__name__" 165 (vS "roundmill.errors" 187)),(en P "__doc__" 166 .none),(en P "__package__" 167 .none),(en P "__loader__" 168 (.builtin "__main__.__loader__#opaque")),(en P "__spec__" 169 .none),(en P "__annotations__" 170 (r 6)),(en P "__builtins__" 171 (r 4)),(en P "__file__" 173 (c 172)),(en P "__cached__" 174 .none),(en P "MillError" 206 (r 24)),(en P "NoSize" 222 (r 37)),(en P "NoBits" 238 (r 49))] 12
def o28:Obj:=fiO .none #[(z 2),(z 0),(r 20),(z 4),(z 0),(r 33),(z 6),(z 0),(r 45)]
def o29:Obj:=(Obj.mk (.type "type") none (Data.cls (ClassData.mk "MillError" [(.type "ValueError")] [(r 24),(.type "ValueError"),(.type "Exception"),(.type "BaseException"),(.type "object")] 23 "MillError" true [] [(r 37),(r 49)] false none false)) #[(some (r 15)),none,(some (vS "MillError" 189)),(some (vS "MillError" 197)),(some (.builtin "ValueError.__new__")),(some (.bool true))])
def o30 (P:Params):Obj:=diO (.type "dict") #[(en P "__module__" 230 (vS "roundmill.errors" 187)),(en P "__qualname__" 232 (vS "NoBits" 231)),(en P "__firstlineno__" 234 (vI 6 233)),(en P "__static_attributes__" 235 (r 47))] 4
def o31:Obj:=fiO (.type "code") #[(vS "NoBits" 225),(vS "NoBits" 226),(c 227),(z 6),(z 0),(z 0),(z 0),(z 0),(r 43),(.bool false),(z 181),(r 44),.none,.none,.none,.none,(z 228),(z 6),(c 229)]
def o32:Obj:=(Obj.mk (.type "frame") none Data.plain #[(some (r 45)),(some (r 3)),(some (r 42)),none,(some (vS "roundmill.errors" 187)),none,(some (r 0))])
def o33 (P:Params):Obj:=diO (.type "dict") #[(en P "__module__" 230 (vS "roundmill.errors" 187)),(en P "__firstlineno__" 234 (vI 6 233)),(en P "__static_attributes__" 235 (r 47)),(en P "__doc__" 236 .none)] 2
def o34:Obj:=(Obj.mk (.type "type") none (Data.cls (ClassData.mk "NoBits" [(r 24)] [(r 49),(r 24),(.type "ValueError"),(.type "Exception"),(.type "BaseException"),(.type "object")] 48 "NoBits" true [] [] false none false)) #[(some (r 40)),none,(some (vS "NoBits" 223)),(some (vS "NoBits" 231)),(some (.builtin "ValueError.__new__")),(some (.bool true))])
def o35:Obj:=fiO (.type "super") #[(r 49),(r 49),(r 49)]
def o36:Obj:=fiO (.type "builtin_function_or_method") #[(.builtin "object.__init_subclass__"),(r 49)]
def o37 (P:Params):Obj:=diO (.type "dict") #[(en P "__name__" 165 (vS "roundmill.errors" 187)),(en P "__doc__" 166 .none),(en P "__package__" 167 .none),(en P "__loader__" 168 (.builtin "__main__.__loader__#opaque")),(en P "__spec__" 169 .none),(en P "__annotations__" 170 (r 6)),(en P "__builtins__" 171 (r 4)),(en P "__file__" 173 (c 172)),(en P "__cached__" 174 .none),(en P "MillError" 206 (r 24)),(en P "NoSize" 222 (r 37)),(en P "NoBits" 238 (r 49)),(en P "NoParts" 254 (r 61))] 13
def o38:Obj:=fiO .none #[(z 2),(z 0),(r 20),(z 4),(z 0),(r 33),(z 6),(z 0),(r 45),(z 8),(z 0),(r 57)]
def o39:Obj:=(Obj.mk (.type "type") none (Data.cls (ClassData.mk "MillError" [(.type "ValueError")] [(r 24),(.type "ValueError"),(.type "Exception"),(.type "BaseException"),(.type "object")] 23 "MillError" true [] [(r 37),(r 49),(r 61)] false none false)) #[(some (r 15)),none,(some (vS "MillError" 189)),(some (vS "MillError" 197)),(some (.builtin "ValueError.__new__")),(some (.bool true))])
def o40 (P:Params):Obj:=diO (.type "dict") #[(en P "__module__" 246 (vS "roundmill.errors" 187)),(en P "__qualname__" 248 (vS "NoParts" 247)),(en P "__firstlineno__" 250 (vI 8 249)),(en P "__static_attributes__" 251 (r 59))] 4
def o41:Obj:=fiO (.type "code") #[(vS "NoParts" 241),(vS "NoParts" 242),(c 243),(z 8),(z 0),(z 0),(z 0),(z 0),(r 55),(.bool false),(z 181),(r 56),.none,.none,.none,.none,(z 244),(z 8),(c 245)]
def o42:Obj:=(Obj.mk (.type "frame") none Data.plain #[(some (r 57)),(some (r 3)),(some (r 54)),none,(some (vS "roundmill.errors" 187)),none,(some (r 0))])
def o43 (P:Params):Obj:=diO (.type "dict") #[(en P "__module__" 246 (vS "roundmill.errors" 187)),(en P "__firstlineno__" 250 (vI 8 249)),(en P "__static_attributes__" 251 (r 59)),(en P "__doc__" 252 .none)] 2
def o44:Obj:=(Obj.mk (.type "type") none (Data.cls (ClassData.mk "NoParts" [(r 24)] [(r 61),(r 24),(.type "ValueError"),(.type "Exception"),(.type "BaseException"),(.type "object")] 60 "NoParts" true [] [] false none false)) #[(some (r 52)),none,(some (vS "NoParts" 239)),(some (vS "NoParts" 247)),(some (.builtin "ValueError.__new__")),(some (.bool true))])
def o45:Obj:=fiO (.type "super") #[(r 61),(r 61),(r 61)]
def o46:Obj:=fiO (.type "builtin_function_or_method") #[(.builtin "object.__init_subclass__"),(r 61)]
def o47 (P:Params):Obj:=diO (.type "dict") #[(en P "__name__" 165 (vS "roundmill.errors" 187)),(en P "__doc__" 166 .none),(en P "__package__" 167 .none),(en P "__loader__" 168 (.builtin "__main__.__loader__#opaque")),(en P "__spec__" 169 .none),(en P "__annotations__" 170 (r 6)),(en P "__builtins__" 171 (r 4)),(en P "__file__" 173 (c 172)),(en P "__cached__" 174 .none),(en P "MillError" 206 (r 24)),(en P "NoSize" 222 (r 37)),(en P "NoBits" 238 (r 49)),(en P "NoParts" 254 (r 61)),(en P "NoRank" 270 (r 73))] 14
def o48:Obj:=fiO .none #[(z 2),(z 0),(r 20),(z 4),(z 0),(r 33),(z 6),(z 0),(r 45),(z 8),(z 0),(r 57),(z 10),(z 0),(r 69)]
def o49:Obj:=(Obj.mk (.type "type") none (Data.cls (ClassData.mk "MillError" [(.type "ValueError")] [(r 24),(.type "ValueError"),(.type "Exception"),(.type "BaseException"),(.type "object")] 23 "MillError" true [] [(r 37),(r 49),(r 61),(r 73)] false none false)) #[(some (r 15)),none,(some (vS "MillError" 189)),(some (vS "MillError" 197)),(some (.builtin "ValueError.__new__")),(some (.bool true))])
def o50 (P:Params):Obj:=diO (.type "dict") #[(en P "__module__" 262 (vS "roundmill.errors" 187)),(en P "__qualname__" 264 (vS "NoRank" 263)),(en P "__firstlineno__" 266 (vI 10 265)),(en P "__static_attributes__" 267 (r 71))] 4
def o51:Obj:=fiO (.type "code") #[(vS "NoRank" 257),(vS "NoRank" 258),(c 259),(z 10),(z 0),(z 0),(z 0),(z 0),(r 67),(.bool false),(z 181),(r 68),.none,.none,.none,.none,(z 260),(z 10),(c 261)]
def o52:Obj:=(Obj.mk (.type "frame") none Data.plain #[(some (r 69)),(some (r 3)),(some (r 66)),none,(some (vS "roundmill.errors" 187)),none,(some (r 0))])
def o53 (P:Params):Obj:=diO (.type "dict") #[(en P "__module__" 262 (vS "roundmill.errors" 187)),(en P "__firstlineno__" 266 (vI 10 265)),(en P "__static_attributes__" 267 (r 71)),(en P "__doc__" 268 .none)] 2
def o54:Obj:=(Obj.mk (.type "type") none (Data.cls (ClassData.mk "NoRank" [(r 24)] [(r 73),(r 24),(.type "ValueError"),(.type "Exception"),(.type "BaseException"),(.type "object")] 72 "NoRank" true [] [] false none false)) #[(some (r 64)),none,(some (vS "NoRank" 255)),(some (vS "NoRank" 263)),(some (.builtin "ValueError.__new__")),(some (.bool true))])
def o55:Obj:=fiO (.type "super") #[(r 73),(r 73),(r 73)]
def o56:Obj:=fiO (.type "builtin_function_or_method") #[(.builtin "object.__init_subclass__"),(r 73)]
def o57 (P:Params):Obj:=diO (.type "dict") #[(en P "__name__" 165 (vS "roundmill.errors" 187)),(en P "__doc__" 166 .none),(en P "__package__" 167 .none),(en P "__loader__" 168 (.builtin "__main__.__loader__#opaque")),(en P "__spec__" 169 .none),(en P "__annotations__" 170 (r 6)),(en P "__builtins__" 171 (r 4)),(en P "__file__" 173 (c 172)),(en P "__cached__" 174 .none),(en P "MillError" 206 (r 24)),(en P "NoSize" 222 (r 37)),(en P "NoBits" 238 (r 49)),(en P "NoParts" 254 (r 61)),(en P "NoRank" 270 (r 73)),(en P "NotFinite" 286 (r 85))] 15
def o58:Obj:=fiO .none #[(z 2),(z 0),(r 20),(z 4),(z 0),(r 33),(z 6),(z 0),(r 45),(z 8),(z 0),(r 57),(z 10),(z 0),(r 69),(z 12),(z 0),(r 81)]
def o59:Obj:=(Obj.mk (.type "type") none (Data.cls (ClassData.mk "MillError" [(.type "ValueError")] [(r 24),(.type "ValueError"),(.type "Exception"),(.type "BaseException"),(.type "object")] 23 "MillError" true [] [(r 37),(r 49),(r 61),(r 73),(r 85)] false none false)) #[(some (r 15)),none,(some (vS "MillError" 189)),(some (vS "MillError" 197)),(some (.builtin "ValueError.__new__")),(some (.bool true))])
def o60 (P:Params):Obj:=diO (.type "dict") #[(en P "__module__" 278 (vS "roundmill.errors" 187)),(en P "__qualname__" 280 (vS "NotFinite" 279)),(en P "__firstlineno__" 282 (vI 12 281)),(en P "__static_attributes__" 283 (r 83))] 4
def o61:Obj:=fiO (.type "code") #[(vS "NotFinite" 273),(vS "NotFinite" 274),(c 275),(z 12),(z 0),(z 0),(z 0),(z 0),(r 79),(.bool false),(z 181),(r 80),.none,.none,.none,.none,(z 276),(z 12),(c 277)]
def o62:Obj:=(Obj.mk (.type "frame") none Data.plain #[(some (r 81)),(some (r 3)),(some (r 78)),none,(some (vS "roundmill.errors" 187)),none,(some (r 0))])
def o63 (P:Params):Obj:=diO (.type "dict") #[(en P "__module__" 278 (vS "roundmill.errors" 187)),(en P "__firstlineno__" 282 (vI 12 281)),(en P "__static_attributes__" 283 (r 83)),(en P "__doc__" 284 .none)] 2
def o64:Obj:=(Obj.mk (.type "type") none (Data.cls (ClassData.mk "NotFinite" [(r 24)] [(r 85),(r 24),(.type "ValueError"),(.type "Exception"),(.type "BaseException"),(.type "object")] 84 "NotFinite" true [] [] false none false)) #[(some (r 76)),none,(some (vS "NotFinite" 271)),(some (vS "NotFinite" 279)),(some (.builtin "ValueError.__new__")),(some (.bool true))])
def o65:Obj:=fiO (.type "super") #[(r 85),(r 85),(r 85)]
def o66:Obj:=fiO (.type "builtin_function_or_method") #[(.builtin "object.__init_subclass__"),(r 85)]
def o67 (P:Params):Obj:=diO (.type "dict") #[(en P "__name__" 165 (vS "roundmill.errors" 187)),(en P "__doc__" 166 .none),(en P "__package__" 167 .none),(en P "__loader__" 168 (.builtin "__main__.__loader__#opaque")),(en P "__spec__" 169 .none),(en P "__annotations__" 170 (r 6)),(en P "__builtins__" 171 (r 4)),(en P "__file__" 173 (c 172)),(en P "__cached__" 174 .none),(en P "MillError" 206 (r 24)),(en P "NoSize" 222 (r 37)),(en P "NoBits" 238 (r 49)),(en P "NoParts" 254 (r 61)),(en P "NoRank" 270 (r 73)),(en P "NotFinite" 286 (r 85)),(en P "NoWay" 302 (r 97))] 16
def o68:Obj:=fiO .none #[(z 2),(z 0),(r 20),(z 4),(z 0),(r 33),(z 6),(z 0),(r 45),(z 8),(z 0),(r 57),(z 10),(z 0),(r 69),(z 12),(z 0),(r 81),(z 14),(z 0),(r 93)]
def o69:Obj:=(Obj.mk (.type "type") none (Data.cls (ClassData.mk "MillError" [(.type "ValueError")] [(r 24),(.type "ValueError"),(.type "Exception"),(.type "BaseException"),(.type "object")] 23 "MillError" true [] [(r 37),(r 49),(r 61),(r 73),(r 85),(r 97)] false none false)) #[(some (r 15)),none,(some (vS "MillError" 189)),(some (vS "MillError" 197)),(some (.builtin "ValueError.__new__")),(some (.bool true))])
def o70 (P:Params):Obj:=diO (.type "dict") #[(en P "__module__" 294 (vS "roundmill.errors" 187)),(en P "__qualname__" 296 (vS "NoWay" 295)),(en P "__firstlineno__" 298 (vI 14 297)),(en P "__static_attributes__" 299 (r 95))] 4
def o71:Obj:=fiO (.type "code") #[(vS "NoWay" 289),(vS "NoWay" 290),(c 291),(z 14),(z 0),(z 0),(z 0),(z 0),(r 91),(.bool false),(z 181),(r 92),.none,.none,.none,.none,(z 292),(z 14),(c 293)]
def o72:Obj:=(Obj.mk (.type "frame") none Data.plain #[(some (r 93)),(some (r 3)),(some (r 90)),none,(some (vS "roundmill.errors" 187)),none,(some (r 0))])
def o73 (P:Params):Obj:=diO (.type "dict") #[(en P "__module__" 294 (vS "roundmill.errors" 187)),(en P "__firstlineno__" 298 (vI 14 297)),(en P "__static_attributes__" 299 (r 95)),(en P "__doc__" 300 .none)] 2
def o74:Obj:=(Obj.mk (.type "type") none (Data.cls (ClassData.mk "NoWay" [(r 24)] [(r 97),(r 24),(.type "ValueError"),(.type "Exception"),(.type "BaseException"),(.type "object")] 96 "NoWay" true [] [] false none false)) #[(some (r 88)),none,(some (vS "NoWay" 287)),(some (vS "NoWay" 295)),(some (.builtin "ValueError.__new__")),(some (.bool true))])
def o75:Obj:=fiO (.type "super") #[(r 97),(r 97),(r 97)]
def o76:Obj:=fiO (.type "builtin_function_or_method") #[(.builtin "object.__init_subclass__"),(r 97)]
def o77 (P:Params):Obj:=diO (.type "dict") #[(en P "__name__" 165 (vS "roundmill.errors" 187)),(en P "__doc__" 166 .none),(en P "__package__" 167 .none),(en P "__loader__" 168 (.builtin "__main__.__loader__#opaque")),(en P "__spec__" 169 .none),(en P "__annotations__" 170 (r 6)),(en P "__builtins__" 171 (r 4)),(en P "__file__" 173 (c 172)),(en P "__cached__" 174 .none),(en P "MillError" 206 (r 24)),(en P "NoSize" 222 (r 37)),(en P "NoBits" 238 (r 49)),(en P "NoParts" 254 (r 61)),(en P "NoRank" 270 (r 73)),(en P "NotFinite" 286 (r 85)),(en P "NoWay" 302 (r 97)),(en P "NoFlags" 318 (r 109))] 17
def o78:Obj:=fiO .none #[(z 2),(z 0),(r 20),(z 4),(z 0),(r 33),(z 6),(z 0),(r 45),(z 8),(z 0),(r 57),(z 10),(z 0),(r 69),(z 12),(z 0),(r 81),(z 14),(z 0),(r 93),(z 16),(z 0),(r 105)]
def o79:Obj:=(Obj.mk (.type "type") none (Data.cls (ClassData.mk "MillError" [(.type "ValueError")] [(r 24),(.type "ValueError"),(.type "Exception"),(.type "BaseException"),(.type "object")] 23 "MillError" true [] [(r 37),(r 49),(r 61),(r 73),(r 85),(r 97),(r 109)] false none false)) #[(some (r 15)),none,(some (vS "MillError" 189)),(some (vS "MillError" 197)),(some (.builtin "ValueError.__new__")),(some (.bool true))])
def o80 (P:Params):Obj:=diO (.type "dict") #[(en P "__module__" 310 (vS "roundmill.errors" 187)),(en P "__qualname__" 312 (vS "NoFlags" 311)),(en P "__firstlineno__" 314 (vI 16 313)),(en P "__static_attributes__" 315 (r 107))] 4
def o81:Obj:=fiO (.type "code") #[(vS "NoFlags" 305),(vS "NoFlags" 306),(c 307),(z 16),(z 0),(z 0),(z 0),(z 0),(r 103),(.bool false),(z 181),(r 104),.none,.none,.none,.none,(z 308),(z 16),(c 309)]
def o82:Obj:=(Obj.mk (.type "frame") none Data.plain #[(some (r 105)),(some (r 3)),(some (r 102)),none,(some (vS "roundmill.errors" 187)),none,(some (r 0))])
def o83 (P:Params):Obj:=diO (.type "dict") #[(en P "__module__" 310 (vS "roundmill.errors" 187)),(en P "__firstlineno__" 314 (vI 16 313)),(en P "__static_attributes__" 315 (r 107)),(en P "__doc__" 316 .none)] 2
def o84:Obj:=(Obj.mk (.type "type") none (Data.cls (ClassData.mk "NoFlags" [(r 24)] [(r 109),(r 24),(.type "ValueError"),(.type "Exception"),(.type "BaseException"),(.type "object")] 108 "NoFlags" true [] [] false none false)) #[(some (r 100)),none,(some (vS "NoFlags" 303)),(some (vS "NoFlags" 311)),(some (.builtin "ValueError.__new__")),(some (.bool true))])
def o85:Obj:=fiO (.type "super") #[(r 109),(r 109),(r 109)]
def o86:Obj:=fiO (.type "builtin_function_or_method") #[(.builtin "object.__init_subclass__"),(r 109)]
def o87 (P:Params):Obj:=diO (.type "dict") #[(en P "__name__" 165 (vS "roundmill.errors" 187)),(en P "__doc__" 166 .none),(en P "__package__" 167 .none),(en P "__loader__" 168 (.builtin "__main__.__loader__#opaque")),(en P "__spec__" 169 .none),(en P "__annotations__" 170 (r 6)),(en P "__builtins__" 171 (r 4)),(en P "__file__" 173 (c 172)),(en P "__cached__" 174 .none),(en P "MillError" 206 (r 24)),(en P "NoSize" 222 (r 37)),(en P "NoBits" 238 (r 49)),(en P "NoParts" 254 (r 61)),(en P "NoRank" 270 (r 73)),(en P "NotFinite" 286 (r 85)),(en P "NoWay" 302 (r 97)),(en P "NoFlags" 318 (r 109)),(en P "NoFraction" 334 (r 121))] 18
def o88:Obj:=fiO .none #[(z 2),(z 0),(r 20),(z 4),(z 0),(r 33),(z 6),(z 0),(r 45),(z 8),(z 0),(r 57),(z 10),(z 0),(r 69),(z 12),(z 0),(r 81),(z 14),(z 0),(r 93),(z 16),(z 0),(r 105),(z 18),(z 0),(r 117)]
def o89:Obj:=(Obj.mk (.type "type") none (Data.cls (ClassData.mk "MillError" [(.type "ValueError")] [(r 24),(.type "ValueError"),(.type "Exception"),(.type "BaseException"),(.type "object")] 23 "MillError" true [] [(r 37),(r 49),(r 61),(r 73),(r 85),(r 97),(r 109),(r 121)] false none false)) #[(some (r 15)),none,(some (vS "MillError" 189)),(some (vS "MillError" 197)),(some (.builtin "ValueError.__new__")),(some (.bool true))])
def o90 (P:Params):Obj:=diO (.type "dict") #[(en P "__module__" 326 (vS "roundmill.errors" 187)),(en P "__qualname__" 328 (vS "NoFraction" 327)),(en P "__firstlineno__" 330 (vI 18 329)),(en P "__static_attributes__" 331 (r 119))] 4
def o91:Obj:=fiO (.type "code") #[(vS "NoFraction" 321),(vS "NoFraction" 322),(c 323),(z 18),(z 0),(z 0),(z 0),(z 0),(r 115),(.bool false),(z 181),(r 116),.none,.none,.none,.none,(z 324),(z 18),(c 325)]
def o92:Obj:=(Obj.mk (.type "frame") none Data.plain #[(some (r 117)),(some (r 3)),(some (r 114)),none,(some (vS "roundmill.errors" 187)),none,(some (r 0))])
def o93 (P:Params):Obj:=diO (.type "dict") #[(en P "__module__" 326 (vS "roundmill.errors" 187)),(en P "__firstlineno__" 330 (vI 18 329)),(en P "__static_attributes__" 331 (r 119)),(en P "__doc__" 332 .none)] 2
def o94:Obj:=(Obj.mk (.type "type") none (Data.cls (ClassData.mk "NoFraction" [(r 24)] [(r 121),(r 24),(.type "ValueError"),(.type "Exception"),(.type "BaseException"),(.type "object")] 120 "NoFraction" true [] [] false none false)) #[(some (r 112)),none,(some (vS "NoFraction" 319)),(some (vS "NoFraction" 327)),(some (.builtin "ValueError.__new__")),(some (.bool true))])
def o95:Obj:=fiO (.type "super") #[(r 121),(r 121),(r 121)]
def o96:Obj:=fiO (.type "builtin_function_or_method") #[(.builtin "object.__init_subclass__"),(r 121)]
def o97 (P:Params):Obj:=diO (.type "dict") #[(en P "__name__" 165 (vS "roundmill.errors" 187)),(en P "__doc__" 166 .none),(en P "__package__" 167 .none),(en P "__loader__" 168 (.builtin "__main__.__loader__#opaque")),(en P "__spec__" 169 .none),(en P "__annotations__" 170 (r 6)),(en P "__builtins__" 171 (r 4)),(en P "__file__" 173 (c 172)),(en P "__cached__" 174 .none),(en P "MillError" 206 (r 24)),(en P "NoSize" 222 (r 37)),(en P "NoBits" 238 (r 49)),(en P "NoParts" 254 (r 61)),(en P "NoRank" 270 (r 73)),(en P "NotFinite" 286 (r 85)),(en P "NoWay" 302 (r 97)),(en P "NoFlags" 318 (r 109)),(en P "NoFraction" 334 (r 121)),(en P "Unlike" 350 (r 133))] 19
def o98:Obj:=fiO .none #[(z 2),(z 0),(r 20),(z 4),(z 0),(r 33),(z 6),(z 0),(r 45),(z 8),(z 0),(r 57),(z 10),(z 0),(r 69),(z 12),(z 0),(r 81),(z 14),(z 0),(r 93),(z 16),(z 0),(r 105),(z 18),(z 0),(r 117),(z 20),(z 0),(r 129)]
def o99:Obj:=(Obj.mk (.type "type") none (Data.cls (ClassData.mk "MillError" [(.type "ValueError")] [(r 24),(.type "ValueError"),(.type "Exception"),(.type "BaseException"),(.type "object")] 23 "MillError" true [] [(r 37),(r 49),(r 61),(r 73),(r 85),(r 97),(r 109),(r 121),(r 133)] false none false)) #[(some (r 15)),none,(some (vS "MillError" 189)),(some (vS "MillError" 197)),(some (.builtin "ValueError.__new__")),(some (.bool true))])
def o100 (P:Params):Obj:=diO (.type "dict") #[(en P "__module__" 342 (vS "roundmill.errors" 187)),(en P "__qualname__" 344 (vS "Unlike" 343)),(en P "__firstlineno__" 346 (vI 20 345)),(en P "__static_attributes__" 347 (r 131))] 4
def o101:Obj:=fiO (.type "code") #[(vS "Unlike" 337),(vS "Unlike" 338),(c 339),(z 20),(z 0),(z 0),(z 0),(z 0),(r 127),(.bool false),(z 181),(r 128),.none,.none,.none,.none,(z 340),(z 20),(c 341)]
def o102:Obj:=(Obj.mk (.type "frame") none Data.plain #[(some (r 129)),(some (r 3)),(some (r 126)),none,(some (vS "roundmill.errors" 187)),none,(some (r 0))])
def o103 (P:Params):Obj:=diO (.type "dict") #[(en P "__module__" 342 (vS "roundmill.errors" 187)),(en P "__firstlineno__" 346 (vI 20 345)),(en P "__static_attributes__" 347 (r 131)),(en P "__doc__" 348 .none)] 2
def o104:Obj:=(Obj.mk (.type "type") none (Data.cls (ClassData.mk "Unlike" [(r 24)] [(r 133),(r 24),(.type "ValueError"),(.type "Exception"),(.type "BaseException"),(.type "object")] 132 "Unlike" true [] [] false none false)) #[(some (r 124)),none,(some (vS "Unlike" 335)),(some (vS "Unlike" 343)),(some (.builtin "ValueError.__new__")),(some (.bool true))])
def o105:Obj:=fiO (.type "super") #[(r 133),(r 133),(r 133)]
def o106:Obj:=fiO (.type "builtin_function_or_method") #[(.builtin "object.__init_subclass__"),(r 133)]
def o107 (P:Params):Obj:=diO (.type "dict") #[(en P "__name__" 165 (vS "roundmill.errors" 187)),(en P "__doc__" 166 .none),(en P "__package__" 167 .none),(en P "__loader__" 168 (.builtin "__main__.__loader__#opaque")),(en P "__spec__" 169 .none),(en P "__annotations__" 170 (r 6)),(en P "__builtins__" 171 (r 4)),(en P "__file__" 173 (c 172)),(en P "__cached__" 174 .none),(en P "MillError" 206 (r 24)),(en P "NoSize" 222 (r 37)),(en P "NoBits" 238 (r 49)),(en P "NoParts" 254 (r 61)),(en P "NoRank" 270 (r 73)),(en P "NotFinite" 286 (r 85)),(en P "NoWay" 302 (r 97)),(en P "NoFlags" 318 (r 109)),(en P "NoFraction" 334 (r 121)),(en P "Unlike" 350 (r 133)),(en P "Empty" 366 (r 145))] 20
def o108:Obj:=fiO .none #[(z 2),(z 0),(r 20),(z 4),(z 0),(r 33),(z 6),(z 0),(r 45),(z 8),(z 0),(r 57),(z 10),(z 0),(r 69),(z 12),(z 0),(r 81),(z 14),(z 0),(r 93),(z 16),(z 0),(r 105),(z 18),(z 0),(r 117),(z 20),(z 0),(r 129),(z 22),(z 0),(r 141)]
def o109:Obj:=(Obj.mk (.type "type") none (Data.cls (ClassData.mk "MillError" [(.type "ValueError")] [(r 24),(.type "ValueError"),(.type "Exception"),(.type "BaseException"),(.type "object")] 23 "MillError" true [] [(r 37),(r 49),(r 61),(r 73),(r 85),(r 97),(r 109),(r 121),(r 133),(r 145)] false none false)) #[(some (r 15)),none,(some (vS "MillError" 189)),(some (vS "MillError" 197)),(some (.builtin "ValueError.__new__")),(some (.bool true))])
def o110 (P:Params):Obj:=diO (.type "dict") #[(en P "__module__" 358 (vS "roundmill.errors" 187)),(en P "__qualname__" 360 (vS "Empty" 359)),(en P "__firstlineno__" 362 (vI 22 361)),(en P "__static_attributes__" 363 (r 143))] 4
def o111:Obj:=fiO (.type "code") #[(vS "Empty" 353),(vS "Empty" 354),(c 355),(z 22),(z 0),(z 0),(z 0),(z 0),(r 139),(.bool false),(z 181),(r 140),.none,.none,.none,.none,(z 356),(z 22),(c 357)]
def o112:Obj:=(Obj.mk (.type "frame") none Data.plain #[(some (r 141)),(some (r 3)),(some (r 138)),none,(some (vS "roundmill.errors" 187)),none,(some (r 0))])
def o113 (P:Params):Obj:=diO (.type "dict") #[(en P "__module__" 358 (vS "roundmill.errors" 187)),(en P "__firstlineno__" 362 (vI 22 361)),(en P "__static_attributes__" 363 (r 143)),(en P "__doc__" 364 .none)] 2
def o114:Obj:=(Obj.mk (.type "type") none (Data.cls (ClassData.mk "Empty" [(r 24)] [(r 145),(r 24),(.type "ValueError"),(.type "Exception"),(.type "BaseException"),(.type "object")] 144 "Empty" true [] [] false none false)) #[(some (r 136)),none,(some (vS "Empty" 351)),(some (vS "Empty" 359)),(some (.builtin "ValueError.__new__")),(some (.bool true))])
def o115:Obj:=fiO (.type "super") #[(r 145),(r 145),(r 145)]
def o116:Obj:=fiO (.type "builtin_function_or_method") #[(.builtin "object.__init_subclass__"),(r 145)]
def o117 (P:Params):Obj:=diO (.type "dict") #[(en P "__name__" 165 (vS "roundmill.errors" 187)),(en P "__doc__" 166 .none),(en P "__package__" 167 .none),(en P "__loader__" 168 (.builtin "__main__.__loader__#opaque")),(en P "__spec__" 169 .none),(en P "__annotations__" 170 (r 6)),(en P "__builtins__" 171 (r 4)),(en P "__file__" 173 (c 172)),(en P "__cached__" 174 .none),(en P "MillError" 206 (r 24)),(en P "NoSize" 222 (r 37)),(en P "NoBits" 238 (r 49)),(en P "NoParts" 254 (r 61)),(en P "NoRank" 270 (r 73)),(en P "NotFinite" 286 (r 85)),(en P "NoWay" 302 (r 97)),(en P "NoFlags" 318 (r 109)),(en P "NoFraction" 334 (r 121)),(en P "Unlike" 350 (r 133)),(en P "Empty" 366 (r 145)),(en P "NoLeft" 382 (r 157))] 21
def o118:Obj:=fiO .none #[(z 2),(z 0),(r 20),(z 4),(z 0),(r 33),(z 6),(z 0),(r 45),(z 8),(z 0),(r 57),(z 10),(z 0),(r 69),(z 12),(z 0),(r 81),(z 14),(z 0),(r 93),(z 16),(z 0),(r 105),(z 18),(z 0),(r 117),(z 20),(z 0),(r 129),(z 22),(z 0),(r 141),(z 24),(z 0),(r 153)]
def o119:Obj:=(Obj.mk (.type "type") none (Data.cls (ClassData.mk "MillError" [(.type "ValueError")] [(r 24),(.type "ValueError"),(.type "Exception"),(.type "BaseException"),(.type "object")] 23 "MillError" true [] [(r 37),(r 49),(r 61),(r 73),(r 85),(r 97),(r 109),(r 121),(r 133),(r 145),(r 157)] false none false)) #[(some (r 15)),none,(some (vS "MillError" 189)),(some (vS "MillError" 197)),(some (.builtin "ValueError.__new__")),(some (.bool true))])
def o120 (P:Params):Obj:=diO (.type "dict") #[(en P "__module__" 374 (vS "roundmill.errors" 187)),(en P "__qualname__" 376 (vS "NoLeft" 375)),(en P "__firstlineno__" 378 (vI 24 377)),(en P "__static_attributes__" 379 (r 155))] 4
def o121:Obj:=fiO (.type "code") #[(vS "NoLeft" 369),(vS "NoLeft" 370),(c 371),(z 24),(z 0),(z 0),(z 0),(z 0),(r 151),(.bool false),(z 181),(r 152),.none,.none,.none,.none,(z 372),(z 24),(c 373)]
def o122:Obj:=(Obj.mk (.type "frame") none Data.plain #[(some (r 153)),(some (r 3)),(some (r 150)),none,(some (vS "roundmill.errors" 187)),none,(some (r 0))])
def o123 (P:Params):Obj:=diO (.type "dict") #[(en P "__module__" 374 (vS "roundmill.errors" 187)),(en P "__firstlineno__" 378 (vI 24 377)),(en P "__static_attributes__" 379 (r 155)),(en P "__doc__" 380 .none)] 2
def o124:Obj:=(Obj.mk (.type "type") none (Data.cls (ClassData.mk "NoLeft" [(r 24)] [(r 157),(r 24),(.type "ValueError"),(.type "Exception"),(.type "BaseException"),(.type "object")] 156 "NoLeft" true [] [] false none false)) #[(some (r 148)),none,(some (vS "NoLeft" 367)),(some (vS "NoLeft" 375)),(some (.builtin "ValueError.__new__")),(some (.bool true))])
def o125:Obj:=fiO (.type "super") #[(r 157),(r 157),(r 157)]
def o126:Obj:=fiO (.type "builtin_function_or_method") #[(.builtin "object.__init_subclass__"),(r 157)]
def o127 (P:Params):Obj:=diO (.type "dict") #[(en P "__name__" 165 (vS "roundmill.errors" 187)),(en P "__doc__" 166 .none),(en P "__package__" 167 .none),(en P "__loader__" 168 (.builtin "__main__.__loader__#opaque")),(en P "__spec__" 169 .none),(en P "__annotations__" 170 (r 6)),(en P "__builtins__" 171 (r 4)),(en P "__file__" 173 (c 172)),(en P "__cached__" 174 .none),(en P "MillError" 206 (r 24)),(en P "NoSize" 222 (r 37)),(en P "NoBits" 238 (r 49)),(en P "NoParts" 254 (r 61)),(en P "NoRank" 270 (r 73)),(en P "NotFinite" 286 (r 85)),(en P "NoWay" 302 (r 97)),(en P "NoFlags" 318 (r 109)),(en P "NoFraction" 334 (r 121)),(en P "Unlike" 350 (r 133)),(en P "Empty" 366 (r 145)),(en P "NoLeft" 382 (r 157)),(en P "NoText" 398 (r 169))] 22
def o128:Obj:=fiO .none #[(z 2),(z 0),(r 20),(z 4),(z 0),(r 33),(z 6),(z 0),(r 45),(z 8),(z 0),(r 57),(z 10),(z 0),(r 69),(z 12),(z 0),(r 81),(z 14),(z 0),(r 93),(z 16),(z 0),(r 105),(z 18),(z 0),(r 117),(z 20),(z 0),(r 129),(z 22),(z 0),(r 141),(z 24),(z 0),(r 153),(z 26),(z 0),(r 165)]
def o129:Obj:=(Obj.mk (.type "type") none (Data.cls (ClassData.mk "MillError" [(.type "ValueError")] [(r 24),(.type "ValueError"),(.type "Exception"),(.type "BaseException"),(.type "object")] 23 "MillError" true [] [(r 37),(r 49),(r 61),(r 73),(r 85),(r 97),(r 109),(r 121),(r 133),(r 145),(r 157),(r 169)] false none false)) #[(some (r 15)),none,(some (vS "MillError" 189)),(some (vS "MillError" 197)),(some (.builtin "ValueError.__new__")),(some (.bool true))])
def o130 (P:Params):Obj:=diO (.type "dict") #[(en P "__module__" 390 (vS "roundmill.errors" 187)),(en P "__qualname__" 392 (vS "NoText" 391)),(en P "__firstlineno__" 394 (vI 26 393)),(en P "__static_attributes__" 395 (r 167))] 4
def o131:Obj:=fiO (.type "code") #[(vS "NoText" 385),(vS "NoText" 386),(c 387),(z 26),(z 0),(z 0),(z 0),(z 0),(r 163),(.bool false),(z 181),(r 164),.none,.none,.none,.none,(z 388),(z 26),(c 389)]
def o132:Obj:=(Obj.mk (.type "frame") none Data.plain #[(some (r 165)),(some (r 3)),(some (r 162)),none,(some (vS "roundmill.errors" 187)),none,(some (r 0))])
def o133 (P:Params):Obj:=diO (.type "dict") #[(en P "__module__" 390 (vS "roundmill.errors" 187)),(en P "__firstlineno__" 394 (vI 26 393)),(en P "__static_attributes__" 395 (r 167)),(en P "__doc__" 396 .none)] 2
def o134:Obj:=(Obj.mk (.type "type") none (Data.cls (ClassData.mk "NoText" [(r 24)] [(r 169),(r 24),(.type "ValueError"),(.type "Exception"),(.type "BaseException"),(.type "object")] 168 "NoText" true [] [] false none false)) #[(some (r 160)),none,(some (vS "NoText" 383)),(some (vS "NoText" 391)),(some (.builtin "ValueError.__new__")),(some (.bool true))])
def o135:Obj:=fiO (.type "super") #[(r 169),(r 169),(r 169)]
def o136:Obj:=fiO (.type "builtin_function_or_method") #[(.builtin "object.__init_subclass__"),(r 169)]
def o137 (P:Params):Obj:=diO (.type "dict") #[(en P "__name__" 165 (vS "roundmill.errors" 187)),(en P "__doc__" 166 .none),(en P "__package__" 167 .none),(en P "__loader__" 168 (.builtin "__main__.__loader__#opaque")),(en P "__spec__" 169 .none),(en P "__annotations__" 170 (r 6)),(en P "__builtins__" 171 (r 4)),(en P "__file__" 173 (c 172)),(en P "__cached__" 174 .none),(en P "MillError" 206 (r 24)),(en P "NoSize" 222 (r 37)),(en P "NoBits" 238 (r 49)),(en P "NoParts" 254 (r 61)),(en P "NoRank" 270 (r 73)),(en P "NotFinite" 286 (r 85)),(en P "NoWay" 302 (r 97)),(en P "NoFlags" 318 (r 109)),(en P "NoFraction" 334 (r 121)),(en P "Unlike" 350 (r 133)),(en P "Empty" 366 (r 145)),(en P "NoLeft" 382 (r 157)),(en P "NoText" 398 (r 169)),(en P "NoRow" 414 (r 181))] 23
def o138:Obj:=fiO .none #[(z 2),(z 0),(r 20),(z 4),(z 0),(r 33),(z 6),(z 0),(r 45),(z 8),(z 0),(r 57),(z 10),(z 0),(r 69),(z 12),(z 0),(r 81),(z 14),(z 0),(r 93),(z 16),(z 0),(r 105),(z 18),(z 0),(r 117),(z 20),(z 0),(r 129),(z 22),(z 0),(r 141),(z 24),(z 0),(r 153),(z 26),(z 0),(r 165),(z 28),(z 0),(r 177)]
def o139:Obj:=(Obj.mk (.type "type") none (Data.cls (ClassData.mk "MillError" [(.type "ValueError")] [(r 24),(.type "ValueError"),(.type "Exception"),(.type "BaseException"),(.type "object")] 23 "MillError" true [] [(r 37),(r 49),(r 61),(r 73),(r 85),(r 97),(r 109),(r 121),(r 133),(r 145),(r 157),(r 169),(r 181)] false none false)) #[(some (r 15)),none,(some (vS "MillError" 189)),(some (vS "MillError" 197)),(some (.builtin "ValueError.__new__")),(some (.bool true))])
def o140 (P:Params):Obj:=diO (.type "dict") #[(en P "__module__" 406 (vS "roundmill.errors" 187)),(en P "__qualname__" 408 (vS "NoRow" 407)),(en P "__firstlineno__" 410 (vI 28 409)),(en P "__static_attributes__" 411 (r 179))] 4
def o141:Obj:=fiO (.type "code") #[(vS "NoRow" 401),(vS "NoRow" 402),(c 403),(z 28),(z 0),(z 0),(z 0),(z 0),(r 175),(.bool false),(z 181),(r 176),.none,.none,.none,.none,(z 404),(z 28),(c 405)]
def o142:Obj:=(Obj.mk (.type "frame") none Data.plain #[(some (r 177)),(some (r 3)),(some (r 174)),none,(some (vS "roundmill.errors" 187)),none,(some (r 0))])
def o143 (P:Params):Obj:=diO (.type "dict") #[(en P "__module__" 406 (vS "roundmill.errors" 187)),(en P "__firstlineno__" 410 (vI 28 409)),(en P "__static_attributes__" 411 (r 179)),(en P "__doc__" 412 .none)] 2
def o144:Obj:=(Obj.mk (.type "type") none (Data.cls (ClassData.mk "NoRow" [(r 24)] [(r 181),(r 24),(.type "ValueError"),(.type "Exception"),(.type "BaseException"),(.type "object")] 180 "NoRow" true [] [] false none false)) #[(some (r 172)),none,(some (vS "NoRow" 399)),(some (vS "NoRow" 407)),(some (.builtin "ValueError.__new__")),(some (.bool true))])
def o145:Obj:=fiO (.type "super") #[(r 181),(r 181),(r 181)]
def o146:Obj:=fiO (.type "builtin_function_or_method") #[(.builtin "object.__init_subclass__"),(r 181)]
def o147 (P:Params):Obj:=diO (.type "dict") #[(en P "__name__" 165 (vS "roundmill.errors" 187)),(en P "__doc__" 166 .none),(en P "__package__" 167 .none),(en P "__loader__" 168 (.builtin "__main__.__loader__#opaque")),(en P "__spec__" 169 .none),(en P "__annotations__" 170 (r 6)),(en P "__builtins__" 171 (r 4)),(en P "__file__" 173 (c 172)),(en P "__cached__" 174 .none),(en P "MillError" 206 (r 24)),(en P "NoSize" 222 (r 37)),(en P "NoBits" 238 (r 49)),(en P "NoParts" 254 (r 61)),(en P "NoRank" 270 (r 73)),(en P "NotFinite" 286 (r 85)),(en P "NoWay" 302 (r 97)),(en P "NoFlags" 318 (r 109)),(en P "NoFraction" 334 (r 121)),(en P "Unlike" 350 (r 133)),(en P "Empty" 366 (r 145)),(en P "NoLeft" 382 (r 157)),(en P "NoText" 398 (r 169)),(en P "NoRow" 414 (r 181)),(en P "NoName" 430 (r 193))] 24
def o148:Obj:=fiO .none #[(z 2),(z 0),(r 20),(z 4),(z 0),(r 33),(z 6),(z 0),(r 45),(z 8),(z 0),(r 57),(z 10),(z 0),(r 69),(z 12),(z 0),(r 81),(z 14),(z 0),(r 93),(z 16),(z 0),(r 105),(z 18),(z 0),(r 117),(z 20),(z 0),(r 129),(z 22),(z 0),(r 141),(z 24),(z 0),(r 153),(z 26),(z 0),(r 165),(z 28),(z 0),(r 177),(z 30),(z 0),(r 189)]
def o149:Obj:=(Obj.mk (.type "type") none (Data.cls (ClassData.mk "MillError" [(.type "ValueError")] [(r 24),(.type "ValueError"),(.type "Exception"),(.type "BaseException"),(.type "object")] 23 "MillError" true [] [(r 37),(r 49),(r 61),(r 73),(r 85),(r 97),(r 109),(r 121),(r 133),(r 145),(r 157),(r 169),(r 181),(r 193)] false none false)) #[(some (r 15)),none,(some (vS "MillError" 189)),(some (vS "MillError" 197)),(some (.builtin "ValueError.__new__")),(some (.bool true))])
def o150 (P:Params):Obj:=diO (.type "dict") #[(en P "__module__" 422 (vS "roundmill.errors" 187)),(en P "__qualname__" 424 (vS "NoName" 423)),(en P "__firstlineno__" 426 (vI 30 425)),(en P "__static_attributes__" 427 (r 191))] 4
def o151:Obj:=fiO (.type "code") #[(vS "NoName" 417),(vS "NoName" 418),(c 419),(z 30),(z 0),(z 0),(z 0),(z 0),(r 187),(.bool false),(z 181),(r 188),.none,.none,.none,.none,(z 420),(z 30),(c 421)]
def o152:Obj:=(Obj.mk (.type "frame") none Data.plain #[(some (r 189)),(some (r 3)),(some (r 186)),none,(some (vS "roundmill.errors" 187)),none,(some (r 0))])
def o153 (P:Params):Obj:=diO (.type "dict") #[(en P "__module__" 422 (vS "roundmill.errors" 187)),(en P "__firstlineno__" 426 (vI 30 425)),(en P "__static_attributes__" 427 (r 191)),(en P "__doc__" 428 .none)] 2
def o154:Obj:=(Obj.mk (.type "type") none (Data.cls (ClassData.mk "NoName" [(r 24)] [(r 193),(r 24),(.type "ValueError"),(.type "Exception"),(.type "BaseException"),(.type "object")] 192 "NoName" true [] [] false none false)) #[(some (r 184)),none,(some (vS "NoName" 415)),(some (vS "NoName" 423)),(some (.builtin "ValueError.__new__")),(some (.bool true))])
def o155:Obj:=fiO (.type "super") #[(r 193),(r 193),(r 193)]
def o156:Obj:=fiO (.type "builtin_function_or_method") #[(.builtin "object.__init_subclass__"),(r 193)]
def o157 (P:Params):Obj:=diO (.type "dict") #[(en P "__name__" 165 (vS "roundmill.sizes" 458)),(en P "__doc__" 166 .none),(en P "__package__" 167 .none),(en P "__loader__" 168 (.builtin "__main__.__loader__#opaque")),(en P "__spec__" 169 .none),(en P "__annotations__" 170 (r 6)),(en P "__builtins__" 171 (r 4)),(en P "__file__" 173 (c 172)),(en P "__cached__" 174 .none),(en P "MillError" 206 (r 24)),(en P "NoSize" 222 (r 37)),(en P "NoBits" 238 (r 49)),(en P "NoParts" 254 (r 61)),(en P "NoRank" 270 (r 73)),(en P "NotFinite" 286 (r 85)),(en P "NoWay" 302 (r 97)),(en P "NoFlags" 318 (r 109)),(en P "NoFraction" 334 (r 121)),(en P "Unlike" 350 (r 133)),(en P "Empty" 366 (r 145)),(en P "NoLeft" 382 (r 157)),(en P "NoText" 398 (r 169)),(en P "NoRow" 414 (r 181)),(en P "NoName" 430 (r 193)),(en P "Stopped" 457 (r 212)),(en P "bias" 466 (r 221)),(en P "low" 473 (r 228)),(en P "sign_bit" 480 (r 235)),(en P "last_field" 487 (r 242))] 29
def o158:Obj:=fiO .none #[(z 2),(z 0),(r 20),(z 4),(z 0),(r 33),(z 6),(z 0),(r 45),(z 8),(z 0),(r 57),(z 10),(z 0),(r 69),(z 12),(z 0),(r 81),(z 14),(z 0),(r 93),(z 16),(z 0),(r 105),(z 18),(z 0),(r 117),(z 20),(z 0),(r 129),(z 22),(z 0),(r 141),(z 24),(z 0),(r 153),(z 26),(z 0),(r 165),(z 28),(z 0),(r 177),(z 30),(z 0),(r 189),(z 32),(z 0),(r 201),(z 39),(z 0),(r 220),(z 41),(z 0),(r 227),(z 43),(z 0),(r 234),(z 45),(z 0),(r 241)]
def o159:Obj:=(Obj.mk (.type "type") none (Data.cls (ClassData.mk "MillError" [(.type "ValueError")] [(r 24),(.type "ValueError"),(.type "Exception"),(.type "BaseException"),(.type "object")] 23 "MillError" true [] [(r 37),(r 49),(r 61),(r 73),(r 85),(r 97),(r 109),(r 121),(r 133),(r 145),(r 157),(r 169),(r 181),(r 193),(r 212)] false none false)) #[(some (r 15)),none,(some (vS "MillError" 189)),(some (vS "MillError" 197)),(some (.builtin "ValueError.__new__")),(some (.bool true))])
def o160 (P:Params):Obj:=diO (.type "dict") #[(en P "__module__" 438 (vS "roundmill.errors" 187)),(en P "__qualname__" 440 (vS "Stopped" 439)),(en P "__firstlineno__" 442 (vI 32 441)),(en P "__init__" 451 (r 209)),(en P "__static_attributes__" 454 (r 210))] 5
def o161:Obj:=fiO .none #[(z 34),(z 4),(r 208)]
def o162:Obj:=fiO (.type "code") #[(vS "Stopped" 433),(vS "Stopped" 434),(c 435),(z 32),(z 0),(z 0),(z 0),(z 0),(r 199),(.bool false),(z 181),(r 200),.none,.none,.none,.none,(z 436),(z 32),(c 437)]
def o163:Obj:=(Obj.mk (.type "frame") none Data.plain #[(some (r 201)),(some (r 3)),(some (r 198)),none,(some (vS "roundmill.errors" 187)),none,(some (r 0))])
def o164:Obj:=sqO (.type "tuple") #[(vS "self" 446),(vS "at" 447),(vS "told" 448)]
def o165:Obj:=fnO .none "__init__" "Stopped.__init__" ((clsBody (T.top 16)).getD 0 (.Pass ⟨0,0,0,0⟩)) 0 [] .none .none .none .none none .none .none 0
def o166:Obj:=fiO (.type "code") #[(vS "__init__" 443),(vS "Stopped.__init__" 444),(c 445),(z 34),(z 3),(z 0),(z 0),(z 3),(r 203),(.bool true),(z 181),(r 204),.none,(r 205),(r 206),(r 207),(z 449),(z 34),(c 450)]
def o167:Obj:=fnO (.type "function") "__init__" "Stopped.__init__" ((clsBody (T.top 16)).getD 0 (.Pass ⟨0,0,0,0⟩)) 3 [] .none .none .none (vS "roundmill.errors" 187) none (r 208) .none 0
def o168:Obj:=sqO (.type "tuple") #[(vS "at" 452),(vS "told" 453)]
def o169 (P:Params):Obj:=diO (.type "dict") #[(en P "__module__" 438 (vS "roundmill.errors" 187)),(en P "__firstlineno__" 442 (vI 32 441)),(en P "__init__" 451 (r 209)),(en P "__static_attributes__" 454 (r 210)),(en P "__doc__" 455 .none)] 2
def o170:Obj:=(Obj.mk (.type "type") none (Data.cls (ClassData.mk "Stopped" [(r 24)] [(r 212),(r 24),(.type "ValueError"),(.type "Exception"),(.type "BaseException"),(.type "object")] 211 "Stopped" true [] [] false none false)) #[(some (r 196)),none,(some (vS "Stopped" 431)),(some (vS "Stopped" 439)),(some (.builtin "ValueError.__new__")),(some (.bool true))])
def o171:Obj:=fiO (.type "super") #[(r 212),(r 212),(r 212)]
def o172:Obj:=fiO (.type "builtin_function_or_method") #[(.builtin "object.__init_subclass__"),(r 212)]
def o173:Obj:=sqO (.type "tuple") #[(vS "size" 463)]
def o174:Obj:=fnO .none "bias" "bias" (T.top 18) 0 [] .none .none .none .none none .none .none 0
def o175:Obj:=fiO (.type "code") #[(vS "bias" 460),(vS "bias" 461),(c 462),(z 39),(z 1),(z 0),(z 0),(z 3),(r 215),(.bool true),(z 181),(r 216),.none,(r 217),(r 218),(r 219),(z 464),(z 39),(c 465)]
def o176:Obj:=fnO (.type "function") "bias" "bias" (T.top 18) 3 [] .none .none .none (vS "roundmill.sizes" 458) none (r 220) .none 0
def o177:Obj:=sqO (.type "tuple") #[(vS "size" 470)]
def o178:Obj:=fnO .none "low" "low" (T.top 19) 0 [] .none .none .none .none none .none .none 0
def o179:Obj:=fiO (.type "code") #[(vS "low" 467),(vS "low" 468),(c 469),(z 41),(z 1),(z 0),(z 0),(z 3),(r 222),(.bool true),(z 181),(r 223),.none,(r 224),(r 225),(r 226),(z 471),(z 41),(c 472)]
def o180:Obj:=fnO (.type "function") "low" "low" (T.top 19) 3 [] .none .none .none (vS "roundmill.sizes" 458) none (r 227) .none 0
def o181:Obj:=sqO (.type "tuple") #[(vS "size" 477)]
def o182:Obj:=fnO .none "sign_bit" "sign_bit" (T.top 20) 0 [] .none .none .none .none none .none .none 0
def o183:Obj:=fiO (.type "code") #[(vS "sign_bit" 474),(vS "sign_bit" 475),(c 476),(z 43),(z 1),(z 0),(z 0),(z 3),(r 229),(.bool true),(z 181),(r 230),.none,(r 231),(r 232),(r 233),(z 478),(z 43),(c 479)]
def o184:Obj:=fnO (.type "function") "sign_bit" "sign_bit" (T.top 20) 3 [] .none .none .none (vS "roundmill.sizes" 458) none (r 234) .none 0
def o185:Obj:=sqO (.type "tuple") #[(vS "size" 484)]
def o186:Obj:=fnO .none "last_field" "last_field" (T.top 21) 0 [] .none .none .none .none none .none .none 0
def o187:Obj:=fiO (.type "code") #[(vS "last_field" 481),(vS "last_field" 482),(c 483),(z 45),(z 1),(z 0),(z 0),(z 3),(r 236),(.bool true),(z 181),(r 237),.none,(r 238),(r 239),(r 240),(z 485),(z 45),(c 486)]
def o188:Obj:=fnO (.type "function") "last_field" "last_field" (T.top 21) 3 [] .none .none .none (vS "roundmill.sizes" 458) none (r 241) .none 0
def o189 (P:Params):Obj:=diO (.type "dict") #[(en P "__name__" 165 (vS "roundmill.ways" 576)),(en P "__doc__" 166 .none),(en P "__package__" 167 .none),(en P "__loader__" 168 (.builtin "__main__.__loader__#opaque")),(en P "__spec__" 169 .none),(en P "__annotations__" 170 (r 6)),(en P "__builtins__" 171 (r 4)),(en P "__file__" 173 (c 172)),(en P "__cached__" 174 .none),(en P "MillError" 206 (r 24)),(en P "NoSize" 222 (r 37)),(en P "NoBits" 238 (r 49)),(en P "NoParts" 254 (r 61)),(en P "NoRank" 270 (r 73)),(en P "NotFinite" 286 (r 85)),(en P "NoWay" 302 (r 97)),(en P "NoFlags" 318 (r 109)),(en P "NoFraction" 334 (r 121)),(en P "Unlike" 350 (r 133)),(en P "Empty" 366 (r 145)),(en P "NoLeft" 382 (r 157)),(en P "NoText" 398 (r 169)),(en P "NoRow" 414 (r 181)),(en P "NoName" 430 (r 193)),(en P "Stopped" 457 (r 212)),(en P "bias" 466 (r 221)),(en P "low" 473 (r 228)),(en P "sign_bit" 480 (r 235)),(en P "last_field" 487 (r 242)),(en P "endless" 494 (r 249)),(en P "no_number" 501 (r 256)),(en P "signed" 512 (r 263)),(en P "check_fraction" 522 (r 270)),(en P "scaled" 531 (r 277)),(en P "height" 541 (r 284)),(en P "rest_by_middle" 550 (r 291)),(en P "rest_of" 558 (r 298)),(en P "cut" 569 (r 305)),(en P "INEXACT" 571 (vI 1 570)),(en P "SMALL" 573 (vI 2 572)),(en P "GREAT" 575 (vI 4 574)),(en P "NAMES" 583 (r 306))] 42
def o190:Obj:=fiO .none #[(z 2),(z 0),(r 20),(z 4),(z 0),(r 33),(z 6),(z 0),(r 45),(z 8),(z 0),(r 57),(z 10),(z 0),(r 69),(z 12),(z 0),(r 81),(z 14),(z 0),(r 93),(z 16),(z 0),(r 105),(z 18),(z 0),(r 117),(z 20),(z 0),(r 129),(z 22),(z 0),(r 141),(z 24),(z 0),(r 153),(z 26),(z 0),(r 165),(z 28),(z 0),(r 177),(z 30),(z 0),(r 189),(z 32),(z 0),(r 201),(z 39),(z 0),(r 220),(z 41),(z 0),(r 227),(z 43),(z 0),(r 234),(z 45),(z 0),(r 241),(z 47),(z 0),(r 248),(z 49),(z 0),(r 255),(z 52),(z 0),(r 262),(z 55),(z 0),(r 269),(z 58),(z 0),(r 276),(z 62),(z 0),(r 283),(z 66),(z 0),(r 290),(z 72),(z 0),(r 297),(z 74),(z 0),(r 304)]
def o191:Obj:=sqO (.type "tuple") #[(vS "size" 491)]
def o192:Obj:=fnO .none "endless" "endless" (T.top 22) 0 [] .none .none .none .none none .none .none 0
def o193:Obj:=fiO (.type "code") #[(vS "endless" 488),(vS "endless" 489),(c 490),(z 47),(z 1),(z 0),(z 0),(z 3),(r 243),(.bool true),(z 181),(r 244),.none,(r 245),(r 246),(r 247),(z 492),(z 47),(c 493)]
def o194:Obj:=fnO (.type "function") "endless" "endless" (T.top 22) 3 [] .none .none .none (vS "roundmill.sizes" 458) none (r 248) .none 0
def o195:Obj:=sqO (.type "tuple") #[(vS "size" 498)]
def o196:Obj:=fnO .none "no_number" "no_number" (T.top 23) 0 [] .none .none .none .none none .none .none 0
def o197:Obj:=fiO (.type "code") #[(vS "no_number" 495),(vS "no_number" 496),(c 497),(z 49),(z 1),(z 0),(z 0),(z 3),(r 250),(.bool true),(z 181),(r 251),.none,(r 252),(r 253),(r 254),(z 499),(z 49),(c 500)]
def o198:Obj:=fnO (.type "function") "no_number" "no_number" (T.top 23) 3 [] .none .none .none (vS "roundmill.sizes" 458) none (r 255) .none 0
def o199:Obj:=sqO (.type "tuple") #[(vS "size" 507),(vS "sign" 508),(vS "code" 509)]
def o200:Obj:=fnO .none "signed" "signed" (T.top 25) 0 [] .none .none .none .none none .none .none 0
def o201:Obj:=fiO (.type "code") #[(vS "signed" 504),(vS "signed" 505),(c 506),(z 52),(z 3),(z 0),(z 0),(z 3),(r 257),(.bool true),(z 181),(r 258),.none,(r 259),(r 260),(r 261),(z 510),(z 52),(c 511)]
def o202:Obj:=fnO (.type "function") "signed" "signed" (T.top 25) 3 [] .none .none .none (vS "roundmill.parts" 502) none (r 262) .none 0
def o203:Obj:=sqO (.type "tuple") #[(vS "top" 518),(vS "bottom" 519)]
def o204:Obj:=fnO .none "check_fraction" "check_fraction" (T.top 27) 0 [] .none .none .none .none none .none .none 0
def o205:Obj:=fiO (.type "code") #[(vS "check_fraction" 515),(vS "check_fraction" 516),(c 517),(z 55),(z 2),(z 0),(z 0),(z 3),(r 264),(.bool true),(z 181),(r 265),.none,(r 266),(r 267),(r 268),(z 520),(z 55),(c 521)]
def o206:Obj:=fnO (.type "function") "check_fraction" "check_fraction" (T.top 27) 3 [] .none .none .none (vS "roundmill.cutting" 513) none (r 269) .none 0
def o207:Obj:=sqO (.type "tuple") #[(vS "top" 526),(vS "bottom" 527),(vS "power" 528)]
def o208:Obj:=fnO .none "scaled" "scaled" (T.top 28) 0 [] .none .none .none .none none .none .none 0
def o209:Obj:=fiO (.type "code") #[(vS "scaled" 523),(vS "scaled" 524),(c 525),(z 58),(z 3),(z 0),(z 0),(z 3),(r 271),(.bool true),(z 181),(r 272),.none,(r 273),(r 274),(r 275),(z 529),(z 58),(c 530)]
def o210:Obj:=fnO (.type "function") "scaled" "scaled" (T.top 28) 3 [] .none .none .none (vS "roundmill.cutting" 513) none (r 276) .none 0
def o211:Obj:=sqO (.type "tuple") #[(vS "top" 535),(vS "bottom" 536),(vS "guess" 537),(vS "parts" 538)]
def o212:Obj:=fnO .none "height" "height" (T.top 29) 0 [] .none .none .none .none none .none .none 0
def o213:Obj:=fiO (.type "code") #[(vS "height" 532),(vS "height" 533),(c 534),(z 62),(z 2),(z 0),(z 0),(z 3),(r 278),(.bool true),(z 181),(r 279),.none,(r 280),(r 281),(r 282),(z 539),(z 62),(c 540)]
def o214:Obj:=fnO (.type "function") "height" "height" (T.top 29) 3 [] .none .none .none (vS "roundmill.cutting" 513) none (r 283) .none 0
def o215:Obj:=sqO (.type "tuple") #[(vS "over" 545),(vS "number" 546),(vS "middle" 547)]
def o216:Obj:=fnO .none "rest_by_middle" "rest_by_middle" (T.top 30) 0 [] .none .none .none .none none .none .none 0
def o217:Obj:=fiO (.type "code") #[(vS "rest_by_middle" 542),(vS "rest_by_middle" 543),(c 544),(z 66),(z 3),(z 0),(z 0),(z 3),(r 285),(.bool true),(z 181),(r 286),.none,(r 287),(r 288),(r 289),(z 548),(z 66),(c 549)]
def o218:Obj:=fnO (.type "function") "rest_by_middle" "rest_by_middle" (T.top 30) 3 [] .none .none .none (vS "roundmill.cutting" 513) none (r 290) .none 0
def o219:Obj:=sqO (.type "tuple") #[(vS "over" 554),(vS "step" 555)]
def o220:Obj:=fnO .none "rest_of" "rest_of" (T.top 31) 0 [] .none .none .none .none none .none .none 0
def o221:Obj:=fiO (.type "code") #[(vS "rest_of" 551),(vS "rest_of" 552),(c 553),(z 72),(z 2),(z 0),(z 0),(z 3),(r 292),(.bool true),(z 181),(r 293),.none,(r 294),(r 295),(r 296),(z 556),(z 72),(c 557)]
def o222:Obj:=fnO (.type "function") "rest_of" "rest_of" (T.top 31) 3 [] .none .none .none (vS "roundmill.cutting" 513) none (r 297) .none 0
def o223:Obj:=sqO (.type "tuple") #[(vS "size" 562),(vS "top" 563),(vS "bottom" 564),(vS "power" 565),(vS "parts" 566)]
def o224:Obj:=fnO .none "cut" "cut" (T.top 32) 0 [] .none .none .none .none none .none .none 0
def o225:Obj:=fiO (.type "code") #[(vS "cut" 559),(vS "cut" 560),(c 561),(z 74),(z 3),(z 0),(z 0),(z 3),(r 299),(.bool true),(z 181),(r 300),.none,(r 301),(r 302),(r 303),(z 567),(z 74),(c 568)]
def o226:Obj:=fnO (.type "function") "cut" "cut" (T.top 32) 3 [] .none .none .none (vS "roundmill.cutting" 513) none (r 304) .none 0
def o227:Obj:=sqO (.type "tuple") #[(vS "even" 578),(vS "away" 579),(vS "nought" 580),(vS "up" 581),(vS "down" 582)]
def o228 (P:Params):Obj:=diO (.type "dict") #[(en P "__name__" 165 (vS "roundmill.rounding" 646)),(en P "__doc__" 166 .none),(en P "__package__" 167 .none),(en P "__loader__" 168 (.builtin "__main__.__loader__#opaque")),(en P "__spec__" 169 .none),(en P "__annotations__" 170 (r 6)),(en P "__builtins__" 171 (r 4)),(en P "__file__" 173 (c 172)),(en P "__cached__" 174 .none),(en P "MillError" 206 (r 24)),(en P "NoSize" 222 (r 37)),(en P "NoBits" 238 (r 49)),(en P "NoParts" 254 (r 61)),(en P "NoRank" 270 (r 73)),(en P "NotFinite" 286 (r 85)),(en P "NoWay" 302 (r 97)),(en P "NoFlags" 318 (r 109)),(en P "NoFraction" 334 (r 121)),(en P "Unlike" 350 (r 133)),(en P "Empty" 366 (r 145)),(en P "NoLeft" 382 (r 157)),(en P "NoText" 398 (r 169)),(en P "NoRow" 414 (r 181)),(en P "NoName" 430 (r 193)),(en P "Stopped" 457 (r 212)),(en P "bias" 466 (r 221)),(en P "low" 473 (r 228)),(en P "sign_bit" 480 (r 235)),(en P "last_field" 487 (r 242)),(en P "endless" 494 (r 249)),(en P "no_number" 501 (r 256)),(en P "signed" 512 (r 263)),(en P "check_fraction" 522 (r 270)),(en P "scaled" 531 (r 277)),(en P "height" 541 (r 284)),(en P "rest_by_middle" 550 (r 291)),(en P "rest_of" 558 (r 298)),(en P "cut" 569 (r 305)),(en P "INEXACT" 571 (vI 1 570)),(en P "SMALL" 573 (vI 2 572)),(en P "GREAT" 575 (vI 4 574)),(en P "NAMES" 583 (r 306)),(en P "Way" 638 (r 344)),(en P "way_of" 645 (r 355)),(en P "settled" 663 (r 362))] 45
def o229:Obj:=fiO .none #[(z 2),(z 0),(r 20),(z 4),(z 0),(r 33),(z 6),(z 0),(r 45),(z 8),(z 0),(r 57),(z 10),(z 0),(r 69),(z 12),(z 0),(r 81),(z 14),(z 0),(r 93),(z 16),(z 0),(r 105),(z 18),(z 0),(r 117),(z 20),(z 0),(r 129),(z 22),(z 0),(r 141),(z 24),(z 0),(r 153),(z 26),(z 0),(r 165),(z 28),(z 0),(r 177),(z 30),(z 0),(r 189),(z 32),(z 0),(r 201),(z 39),(z 0),(r 220),(z 41),(z 0),(r 227),(z 43),(z 0),(r 234),(z 45),(z 0),(r 241),(z 47),(z 0),(r 248),(z 49),(z 0),(r 255),(z 52),(z 0),(r 262),(z 55),(z 0),(r 269),(z 58),(z 0),(r 276),(z 62),(z 0),(r 283),(z 66),(z 0),(r 290),(z 72),(z 0),(r 297),(z 74),(z 0),(r 304),(z 86),(z 0),(r 312),(z 109),(z 0),(r 354),(z 114),(z 0),(r 361)]
def o230 (P:Params):Obj:=diO (.type "dict") #[(en P "__module__" 591 (vS "roundmill.ways" 576)),(en P "__qualname__" 593 (vS "Way" 592)),(en P "__firstlineno__" 595 (vI 86 594)),(en P "__init__" 603 (r 320)),(en P "grows" 613 (r 327)),(en P "bursts" 621 (r 334)),(en P "flees_nought" 629 (r 341)),(en P "__static_attributes__" 631 (r 342))] 8
def o231:Obj:=fiO .none #[(z 88),(z 4),(r 319),(z 91),(z 4),(r 326),(z 100),(z 4),(r 333),(z 105),(z 4),(r 340)]
def o232:Obj:=fiO (.type "code") #[(vS "Way" 586),(vS "Way" 587),(c 588),(z 86),(z 0),(z 0),(z 0),(z 0),(r 310),(.bool false),(z 181),(r 311),.none,.none,.none,.none,(z 589),(z 86),(c 590)]
def o233:Obj:=(Obj.mk (.type "frame") none Data.plain #[(some (r 312)),(some (r 3)),(some (r 309)),none,(some (vS "roundmill.ways" 576)),none,(some (r 0))])
def o234:Obj:=sqO (.type "tuple") #[(vS "self" 599),(vS "name" 600)]
def o235:Obj:=fnO .none "__init__" "Way.__init__" ((clsBody (T.top 38)).getD 0 (.Pass ⟨0,0,0,0⟩)) 0 [] .none .none .none .none none .none .none 0
def o236:Obj:=fiO (.type "code") #[(vS "__init__" 596),(vS "Way.__init__" 597),(c 598),(z 88),(z 2),(z 0),(z 0),(z 3),(r 314),(.bool true),(z 181),(r 315),.none,(r 316),(r 317),(r 318),(z 601),(z 88),(c 602)]
def o237:Obj:=fnO (.type "function") "__init__" "Way.__init__" ((clsBody (T.top 38)).getD 0 (.Pass ⟨0,0,0,0⟩)) 3 [] .none .none .none (vS "roundmill.ways" 576) none (r 319) .none 0
def o238:Obj:=sqO (.type "tuple") #[(vS "self" 607),(vS "sign" 608),(vS "odd" 609),(vS "rest" 610)]
def o239:Obj:=fnO .none "grows" "Way.grows" ((clsBody (T.top 38)).getD 1 (.Pass ⟨0,0,0,0⟩)) 0 [] .none .none .none .none none .none .none 0
def o240:Obj:=fiO (.type "code") #[(vS "grows" 604),(vS "Way.grows" 605),(c 606),(z 91),(z 4),(z 0),(z 0),(z 3),(r 321),(.bool true),(z 181),(r 322),.none,(r 323),(r 324),(r 325),(z 611),(z 91),(c 612)]
def o241:Obj:=fnO (.type "function") "grows" "Way.grows" ((clsBody (T.top 38)).getD 1 (.Pass ⟨0,0,0,0⟩)) 3 [] .none .none .none (vS "roundmill.ways" 576) none (r 326) .none 0
def o242:Obj:=sqO (.type "tuple") #[(vS "self" 617),(vS "sign" 618)]
def o243:Obj:=fnO .none "bursts" "Way.bursts" ((clsBody (T.top 38)).getD 2 (.Pass ⟨0,0,0,0⟩)) 0 [] .none .none .none .none none .none .none 0
def o244:Obj:=fiO (.type "code") #[(vS "bursts" 614),(vS "Way.bursts" 615),(c 616),(z 100),(z 2),(z 0),(z 0),(z 3),(r 328),(.bool true),(z 181),(r 329),.none,(r 330),(r 331),(r 332),(z 619),(z 100),(c 620)]
def o245:Obj:=fnO (.type "function") "bursts" "Way.bursts" ((clsBody (T.top 38)).getD 2 (.Pass ⟨0,0,0,0⟩)) 3 [] .none .none .none (vS "roundmill.ways" 576) none (r 333) .none 0
def o246:Obj:=sqO (.type "tuple") #[(vS "self" 625),(vS "sign" 626)]
def o247:Obj:=fnO .none "flees_nought" "Way.flees_nought" ((clsBody (T.top 38)).getD 3 (.Pass ⟨0,0,0,0⟩)) 0 [] .none .none .none .none none .none .none 0
def o248:Obj:=fiO (.type "code") #[(vS "flees_nought" 622),(vS "Way.flees_nought" 623),(c 624),(z 105),(z 2),(z 0),(z 0),(z 3),(r 335),(.bool true),(z 181),(r 336),.none,(r 337),(r 338),(r 339),(z 627),(z 105),(c 628)]
def o249:Obj:=fnO (.type "function") "flees_nought" "Way.flees_nought" ((clsBody (T.top 38)).getD 3 (.Pass ⟨0,0,0,0⟩)) 3 [] .none .none .none (vS "roundmill.ways" 576) none (r 340) .none 0
def o250:Obj:=sqO (.type "tuple") #[(vS "name" 630)]
def o251 (P:Params):Obj:=diO (.type "dict") #[(en P "__module__" 591 (vS "roundmill.ways" 576)),(en P "__firstlineno__" 595 (vI 86 594)),(en P "__init__" 603 (r 320)),(en P "grows" 613 (r 327)),(en P "bursts" 621 (r 334)),(en P "flees_nought" 629 (r 341)),(en P "__static_attributes__" 631 (r 342)),(en P "__dict__" 633 (r 345)),(en P "__weakref__" 635 (r 346)),(en P "__doc__" 636 .none)] 4
def o252:Obj:=(Obj.mk (.type "type") none (Data.cls (ClassData.mk "Way" [(.type "object")] [(r 344),(.type "object")] 343 "Way" true [] [] false none false)) #[none,none,(some (vS "Way" 584)),(some (vS "Way" 592)),(some (.builtin "object.__new__")),(some (.bool true))])
def o253:Obj:=fiO (.type "getset_descriptor") #[(vS "__dict__" 632),(r 344),(.builtin "function.__dict__"),(.builtin "function.__dict__#set")]
def o254:Obj:=fiO (.type "getset_descriptor") #[(vS "__weakref__" 634),(r 344),(.builtin "ExceptionGroup.__weakref__"),.none]
def o255:Obj:=fiO (.type "super") #[(r 344),(r 344),(r 344)]
def o256:Obj:=fiO (.type "builtin_function_or_method") #[(.builtin "object.__init_subclass__"),(r 344)]
def o257:Obj:=sqO (.type "tuple") #[(vS "name" 642)]
def o258:Obj:=fnO .none "way_of" "way_of" (T.top 39) 0 [] .none .none .none .none none .none .none 0
def o259:Obj:=fiO (.type "code") #[(vS "way_of" 639),(vS "way_of" 640),(c 641),(z 109),(z 1),(z 0),(z 0),(z 3),(r 349),(.bool true),(z 181),(r 350),.none,(r 351),(r 352),(r 353),(z 643),(z 109),(c 644)]
def o260:Obj:=fnO (.type "function") "way_of" "way_of" (T.top 39) 3 [] .none .none .none (vS "roundmill.ways" 576) none (r 354) .none 0
def o261:Obj:=sqO (.type "tuple") #[(vS "size" 651),(vS "way" 652),(vS "sign" 653),(vS "whole" 654),(vS "power" 655),(vS "rest" 656),(vS "chosen" 657),(vS "code" 658),(vS "end" 659),(vS "taken" 660)]
def o262:Obj:=fnO .none "settled" "settled" (T.top 41) 0 [] .none .none .none .none none .none .none 0
def o263:Obj:=fiO (.type "code") #[(vS "settled" 648),(vS "settled" 649),(c 650),(z 114),(z 6),(z 0),(z 0),(z 3),(r 356),(.bool true),(z 181),(r 357),.none,(r 358),(r 359),(r 360),(z 661),(z 114),(c 662)]
def o264:Obj:=fnO (.type "function") "settled" "settled" (T.top 41) 3 [] .none .none .none (vS "roundmill.rounding" 646) none (r 361) .none 0
def o265 (P:Params):Obj:=diO (.type "dict") #[(en P "__name__" 165 (vS "law_roundmill_k48_spelled_refused" 762)),(en P "__doc__" 166 .none),(en P "__package__" 167 .none),(en P "__loader__" 168 (.builtin "__main__.__loader__#opaque")),(en P "__spec__" 169 .none),(en P "__annotations__" 170 (r 6)),(en P "__builtins__" 171 (r 4)),(en P "__file__" 173 (c 172)),(en P "__cached__" 174 .none),(en P "MillError" 206 (r 24)),(en P "NoSize" 222 (r 37)),(en P "NoBits" 238 (r 49)),(en P "NoParts" 254 (r 61)),(en P "NoRank" 270 (r 73)),(en P "NotFinite" 286 (r 85)),(en P "NoWay" 302 (r 97)),(en P "NoFlags" 318 (r 109)),(en P "NoFraction" 334 (r 121)),(en P "Unlike" 350 (r 133)),(en P "Empty" 366 (r 145)),(en P "NoLeft" 382 (r 157)),(en P "NoText" 398 (r 169)),(en P "NoRow" 414 (r 181)),(en P "NoName" 430 (r 193)),(en P "Stopped" 457 (r 212)),(en P "bias" 466 (r 221)),(en P "low" 473 (r 228)),(en P "sign_bit" 480 (r 235)),(en P "last_field" 487 (r 242)),(en P "endless" 494 (r 249)),(en P "no_number" 501 (r 256)),(en P "signed" 512 (r 263)),(en P "check_fraction" 522 (r 270)),(en P "scaled" 531 (r 277)),(en P "height" 541 (r 284)),(en P "rest_by_middle" 550 (r 291)),(en P "rest_of" 558 (r 298)),(en P "cut" 569 (r 305)),(en P "INEXACT" 571 (vI 1 570)),(en P "SMALL" 573 (vI 2 572)),(en P "GREAT" 575 (vI 4 574)),(en P "NAMES" 583 (r 306)),(en P "Way" 638 (r 344)),(en P "way_of" 645 (r 355)),(en P "settled" 663 (r 362)),(en P "lost_flags" 673 (r 369)),(en P "rounded" 685 (r 376)),(en P "LONGEST_LINE" 689 (vI 400 688)),(en P "LONGEST_EXPONENT" 691 (vI 4 690)),(en P "FIGURES" 693 (vS "0123456789" 692)),(en P "ten_to" 701 (r 383)),(en P "tenfold" 710 (r 390)),(en P "all_figures" 716 (r 395)),(en P "bare_line" 723 (r 402)),(en P "sign_and_word" 730 (r 409)),(en P "exponent_of" 738 (r 416)),(en P "spelled" 749 (r 423)),(en P "read" 761 (r 430)),(en P "_law_cell_at" 771 (r 437))] 59
def o266:Obj:=fiO .none #[(z 2),(z 0),(r 20),(z 4),(z 0),(r 33),(z 6),(z 0),(r 45),(z 8),(z 0),(r 57),(z 10),(z 0),(r 69),(z 12),(z 0),(r 81),(z 14),(z 0),(r 93),(z 16),(z 0),(r 105),(z 18),(z 0),(r 117),(z 20),(z 0),(r 129),(z 22),(z 0),(r 141),(z 24),(z 0),(r 153),(z 26),(z 0),(r 165),(z 28),(z 0),(r 177),(z 30),(z 0),(r 189),(z 32),(z 0),(r 201),(z 39),(z 0),(r 220),(z 41),(z 0),(r 227),(z 43),(z 0),(r 234),(z 45),(z 0),(r 241),(z 47),(z 0),(r 248),(z 49),(z 0),(r 255),(z 52),(z 0),(r 262),(z 55),(z 0),(r 269),(z 58),(z 0),(r 276),(z 62),(z 0),(r 283),(z 66),(z 0),(r 290),(z 72),(z 0),(r 297),(z 74),(z 0),(r 304),(z 86),(z 0),(r 312),(z 109),(z 0),(r 354),(z 114),(z 0),(r 361),(z 125),(z 0),(r 368),(z 130),(z 0),(r 375),(z 138),(z 0),(r 382),(z 143),(z 0),(r 389),(z 147),(z 0),(r 394),(z 149),(z 0),(r 401),(z 153),(z 0),(r 408),(z 159),(z 0),(r 415),(z 164),(z 0),(r 422),(z 174),(z 0),(r 429),(z 185),(z 0),(r 436)]
def o267:Obj:=sqO (.type "tuple") #[(vS "size" 667),(vS "code" 668),(vS "taken" 669),(vS "faint" 670)]
def o268:Obj:=fnO .none "lost_flags" "lost_flags" (T.top 42) 0 [] .none .none .none .none none .none .none 0
def o269:Obj:=fiO (.type "code") #[(vS "lost_flags" 664),(vS "lost_flags" 665),(c 666),(z 125),(z 3),(z 0),(z 0),(z 3),(r 363),(.bool true),(z 181),(r 364),.none,(r 365),(r 366),(r 367),(z 671),(z 125),(c 672)]
def o270:Obj:=fnO (.type "function") "lost_flags" "lost_flags" (T.top 42) 3 [] .none .none .none (vS "roundmill.rounding" 646) none (r 368) .none 0
def o271:Obj:=sqO (.type "tuple") #[(vS "size" 677),(vS "way" 678),(vS "sign" 679),(vS "top" 680),(vS "bottom" 681),(vS "parts" 682)]
def o272:Obj:=fnO .none "rounded" "rounded" (T.top 43) 0 [] .none .none .none .none none .none .none 0
def o273:Obj:=fiO (.type "code") #[(vS "rounded" 674),(vS "rounded" 675),(c 676),(z 130),(z 5),(z 0),(z 0),(z 3),(r 370),(.bool true),(z 181),(r 371),.none,(r 372),(r 373),(r 374),(z 683),(z 130),(c 684)]
def o274:Obj:=fnO (.type "function") "rounded" "rounded" (T.top 43) 3 [] .none .none .none (vS "roundmill.rounding" 646) none (r 375) .none 0
def o275:Obj:=sqO (.type "tuple") #[(vS "number" 697),(vS "half" 698)]
def o276:Obj:=fnO .none "ten_to" "ten_to" (T.top 48) 0 [] .none .none .none .none none .none .none 0
def o277:Obj:=fiO (.type "code") #[(vS "ten_to" 694),(vS "ten_to" 695),(c 696),(z 138),(z 1),(z 0),(z 0),(z 3),(r 377),(.bool true),(z 181),(r 378),.none,(r 379),(r 380),(r 381),(z 699),(z 138),(c 700)]
def o278:Obj:=fnO (.type "function") "ten_to" "ten_to" (T.top 48) 3 [] .none .none .none (vS "roundmill.reading" 686) none (r 382) .none 0
def o279:Obj:=sqO (.type "tuple") #[(vS "top" 705),(vS "bottom" 706),(vS "place" 707)]
def o280:Obj:=fnO .none "tenfold" "tenfold" (T.top 49) 0 [] .none .none .none .none none .none .none 0
def o281:Obj:=fiO (.type "code") #[(vS "tenfold" 702),(vS "tenfold" 703),(c 704),(z 143),(z 3),(z 0),(z 0),(z 3),(r 384),(.bool true),(z 181),(r 385),.none,(r 386),(r 387),(r 388),(z 708),(z 143),(c 709)]
def o282:Obj:=fnO (.type "function") "tenfold" "tenfold" (T.top 49) 3 [] .none .none .none (vS "roundmill.reading" 686) none (r 389) .none 0
def o283:Obj:=fnO .none "all_figures" "all_figures" (T.top 50) 0 [] .none .none .none .none none .none .none 0
def o284:Obj:=fiO (.type "code") #[(vS "all_figures" 711),(vS "all_figures" 712),(c 713),(z 147),(z 1),(z 0),(z 0),(z 3),(r 391),(.bool true),(z 181),(r 392),.none,.none,.none,(r 393),(z 714),(z 147),(c 715)]
def o285:Obj:=fnO (.type "function") "all_figures" "all_figures" (T.top 50) 3 [] .none .none .none (vS "roundmill.reading" 686) none (r 394) .none 0
def o286:Obj:=sqO (.type "tuple") #[(vS "line" 720)]
def o287:Obj:=fnO .none "bare_line" "bare_line" (T.top 51) 0 [] .none .none .none .none none .none .none 0
def o288:Obj:=fiO (.type "code") #[(vS "bare_line" 717),(vS "bare_line" 718),(c 719),(z 149),(z 1),(z 0),(z 0),(z 3),(r 396),(.bool true),(z 181),(r 397),.none,(r 398),(r 399),(r 400),(z 721),(z 149),(c 722)]
def o289:Obj:=fnO (.type "function") "bare_line" "bare_line" (T.top 51) 3 [] .none .none .none (vS "roundmill.reading" 686) none (r 401) .none 0
def o290:Obj:=sqO (.type "tuple") #[(vS "word" 727)]
def o291:Obj:=fnO .none "sign_and_word" "sign_and_word" (T.top 52) 0 [] .none .none .none .none none .none .none 0
def o292:Obj:=fiO (.type "code") #[(vS "sign_and_word" 724),(vS "sign_and_word" 725),(c 726),(z 153),(z 1),(z 0),(z 0),(z 3),(r 403),(.bool true),(z 181),(r 404),.none,(r 405),(r 406),(r 407),(z 728),(z 153),(c 729)]
def o293:Obj:=fnO (.type "function") "sign_and_word" "sign_and_word" (T.top 52) 3 [] .none .none .none (vS "roundmill.reading" 686) none (r 408) .none 0
def o294:Obj:=sqO (.type "tuple") #[(vS "word" 734),(vS "parts" 735)]
def o295:Obj:=fnO .none "exponent_of" "exponent_of" (T.top 53) 0 [] .none .none .none .none none .none .none 0
def o296:Obj:=fiO (.type "code") #[(vS "exponent_of" 731),(vS "exponent_of" 732),(c 733),(z 159),(z 1),(z 0),(z 0),(z 3),(r 410),(.bool true),(z 181),(r 411),.none,(r 412),(r 413),(r 414),(z 736),(z 159),(c 737)]
def o297:Obj:=fnO (.type "function") "exponent_of" "exponent_of" (T.top 53) 3 [] .none .none .none (vS "roundmill.reading" 686) none (r 415) .none 0
def o298:Obj:=sqO (.type "tuple") #[(vS "line" 742),(vS "start" 743),(vS "halves" 744),(vS "exponent" 745),(vS "body" 746)]
def o299:Obj:=fnO .none "spelled" "spelled" (T.top 54) 0 [] .none .none .none .none none .none .none 0
def o300:Obj:=fiO (.type "code") #[(vS "spelled" 739),(vS "spelled" 740),(c 741),(z 164),(z 1),(z 0),(z 0),(z 3),(r 417),(.bool true),(z 181),(r 418),.none,(r 419),(r 420),(r 421),(z 747),(z 164),(c 748)]
def o301:Obj:=fnO (.type "function") "spelled" "spelled" (T.top 54) 3 [] .none .none .none (vS "roundmill.reading" 686) none (r 422) .none 0
def o302:Obj:=sqO (.type "tuple") #[(vS "size" 753),(vS "way" 754),(vS "line" 755),(vS "start" 756),(vS "spelling" 757),(vS "value" 758)]
def o303:Obj:=fnO .none "read" "read" (T.top 55) 0 [] .none .none .none .none none .none .none 0
def o304:Obj:=fiO (.type "code") #[(vS "read" 750),(vS "read" 751),(c 752),(z 174),(z 3),(z 0),(z 0),(z 3),(r 424),(.bool true),(z 181),(r 425),.none,(r 426),(r 427),(r 428),(z 759),(z 174),(c 760)]
def o305:Obj:=fnO (.type "function") "read" "read" (T.top 55) 3 [] .none .none .none (vS "roundmill.reading" 686) none (r 429) .none 0
def o306:Obj:=sqO (.type "tuple") #[(vS "_law_script" 767),(vS "_law_k" 768)]
def o307:Obj:=fnO .none "_law_cell_at" "_law_cell_at" (T.top 57) 0 [] .none .none .none .none none .none .none 0
def o308:Obj:=fiO (.type "code") #[(vS "_law_cell_at" 764),(vS "_law_cell_at" 765),(c 766),(z 185),(z 2),(z 0),(z 0),(z 3),(r 431),(.bool true),(z 181),(r 432),.none,(r 433),(r 434),(r 435),(z 769),(z 185),(c 770)]
def o309:Obj:=fnO (.type "function") "_law_cell_at" "_law_cell_at" (T.top 57) 3 [] .none .none .none (vS "law_roundmill_k48_spelled_refused" 762) none (r 436) .none 0
def o310 (P:Params):Obj:=diO (.type "dict") #[(en P "__name__" 165 (vS "law_roundmill_k48_spelled_refused" 762)),(en P "__doc__" 166 .none),(en P "__package__" 167 .none),(en P "__loader__" 168 (.builtin "__main__.__loader__#opaque")),(en P "__spec__" 169 .none),(en P "__annotations__" 170 (r 6)),(en P "__builtins__" 171 (r 4)),(en P "__file__" 173 (c 172)),(en P "__cached__" 174 .none),(en P "MillError" 206 (r 24)),(en P "NoSize" 222 (r 37)),(en P "NoBits" 238 (r 49)),(en P "NoParts" 254 (r 61)),(en P "NoRank" 270 (r 73)),(en P "NotFinite" 286 (r 85)),(en P "NoWay" 302 (r 97)),(en P "NoFlags" 318 (r 109)),(en P "NoFraction" 334 (r 121)),(en P "Unlike" 350 (r 133)),(en P "Empty" 366 (r 145)),(en P "NoLeft" 382 (r 157)),(en P "NoText" 398 (r 169)),(en P "NoRow" 414 (r 181)),(en P "NoName" 430 (r 193)),(en P "Stopped" 457 (r 212)),(en P "bias" 466 (r 221)),(en P "low" 473 (r 228)),(en P "sign_bit" 480 (r 235)),(en P "last_field" 487 (r 242)),(en P "endless" 494 (r 249)),(en P "no_number" 501 (r 256)),(en P "signed" 512 (r 263)),(en P "check_fraction" 522 (r 270)),(en P "scaled" 531 (r 277)),(en P "height" 541 (r 284)),(en P "rest_by_middle" 550 (r 291)),(en P "rest_of" 558 (r 298)),(en P "cut" 569 (r 305)),(en P "INEXACT" 571 (vI 1 570)),(en P "SMALL" 573 (vI 2 572)),(en P "GREAT" 575 (vI 4 574)),(en P "NAMES" 583 (r 306)),(en P "Way" 638 (r 344)),(en P "way_of" 645 (r 355)),(en P "settled" 663 (r 362)),(en P "lost_flags" 673 (r 369)),(en P "rounded" 685 (r 376)),(en P "LONGEST_LINE" 689 (vI 400 688)),(en P "LONGEST_EXPONENT" 691 (vI 4 690)),(en P "FIGURES" 693 (vS "0123456789" 692)),(en P "ten_to" 701 (r 383)),(en P "tenfold" 710 (r 390)),(en P "all_figures" 716 (r 395)),(en P "bare_line" 723 (r 402)),(en P "sign_and_word" 730 (r 409)),(en P "exponent_of" 738 (r 416)),(en P "spelled" 749 (r 423)),(en P "read" 761 (r 430)),(en P "_law_cell_at" 771 (r 437)),(en P "_law_whole" 778 (r 444)),(en P "_law_size_by" 787 (r 451)),(en P "_law_way_by" 794 (r 458)),(en P "_law_run" 803 (r 465)),(en P "_law_mark_by" 810 (r 472)),(en P "_law_numeral_by" 818 (r 479)),(en P "_law_sign_by" 826 (r 486)),(en P "_law_odd_by" 834 (r 493)),(en P "_law_spoiled" 845 (r 500)),(en P "_law_step" 854 (r 507)),(en P "_law_is_numeral" 863 (r 514)),(en P "_law_due_of" 873 (r 521)),(en P "_law_alone" 880 (r 528))] 72
def o311:Obj:=fiO .none #[(z 2),(z 0),(r 20),(z 4),(z 0),(r 33),(z 6),(z 0),(r 45),(z 8),(z 0),(r 57),(z 10),(z 0),(r 69),(z 12),(z 0),(r 81),(z 14),(z 0),(r 93),(z 16),(z 0),(r 105),(z 18),(z 0),(r 117),(z 20),(z 0),(r 129),(z 22),(z 0),(r 141),(z 24),(z 0),(r 153),(z 26),(z 0),(r 165),(z 28),(z 0),(r 177),(z 30),(z 0),(r 189),(z 32),(z 0),(r 201),(z 39),(z 0),(r 220),(z 41),(z 0),(r 227),(z 43),(z 0),(r 234),(z 45),(z 0),(r 241),(z 47),(z 0),(r 248),(z 49),(z 0),(r 255),(z 52),(z 0),(r 262),(z 55),(z 0),(r 269),(z 58),(z 0),(r 276),(z 62),(z 0),(r 283),(z 66),(z 0),(r 290),(z 72),(z 0),(r 297),(z 74),(z 0),(r 304),(z 86),(z 0),(r 312),(z 109),(z 0),(r 354),(z 114),(z 0),(r 361),(z 125),(z 0),(r 368),(z 130),(z 0),(r 375),(z 138),(z 0),(r 382),(z 143),(z 0),(r 389),(z 147),(z 0),(r 394),(z 149),(z 0),(r 401),(z 153),(z 0),(r 408),(z 159),(z 0),(r 415),(z 164),(z 0),(r 422),(z 174),(z 0),(r 429),(z 185),(z 0),(r 436),(z 189),(z 0),(r 443),(z 191),(z 0),(r 450),(z 205),(z 0),(r 457),(z 207),(z 0),(r 464),(z 210),(z 0),(r 471),(z 212),(z 0),(r 478),(z 221),(z 0),(r 485),(z 227),(z 0),(r 492),(z 232),(z 0),(r 499),(z 241),(z 0),(r 506),(z 260),(z 0),(r 513),(z 267),(z 0),(r 520),(z 276),(z 0),(r 527)]
def o312:Obj:=sqO (.type "tuple") #[(vS "_law_found" 775)]
def o313:Obj:=fnO .none "_law_whole" "_law_whole" (T.top 58) 0 [] .none .none .none .none none .none .none 0
def o314:Obj:=fiO (.type "code") #[(vS "_law_whole" 772),(vS "_law_whole" 773),(c 774),(z 189),(z 1),(z 0),(z 0),(z 3),(r 438),(.bool true),(z 181),(r 439),.none,(r 440),(r 441),(r 442),(z 776),(z 189),(c 777)]
def o315:Obj:=fnO (.type "function") "_law_whole" "_law_whole" (T.top 58) 3 [] .none .none .none (vS "law_roundmill_k48_spelled_refused" 762) none (r 443) .none 0
def o316:Obj:=sqO (.type "tuple") #[(vS "_law_cell" 782),(vS "_law_way" 783),(vS "_law_rest" 784)]
def o317:Obj:=fnO .none "_law_size_by" "_law_size_by" (T.top 59) 0 [] .none .none .none .none none .none .none 0
def o318:Obj:=fiO (.type "code") #[(vS "_law_size_by" 779),(vS "_law_size_by" 780),(c 781),(z 191),(z 1),(z 0),(z 0),(z 3),(r 445),(.bool true),(z 181),(r 446),.none,(r 447),(r 448),(r 449),(z 785),(z 191),(c 786)]
def o319:Obj:=fnO (.type "function") "_law_size_by" "_law_size_by" (T.top 59) 3 [] .none .none .none (vS "law_roundmill_k48_spelled_refused" 762) none (r 450) .none 0
def o320:Obj:=sqO (.type "tuple") #[(vS "_law_cell" 791)]
def o321:Obj:=fnO .none "_law_way_by" "_law_way_by" (T.top 60) 0 [] .none .none .none .none none .none .none 0
def o322:Obj:=fiO (.type "code") #[(vS "_law_way_by" 788),(vS "_law_way_by" 789),(c 790),(z 205),(z 1),(z 0),(z 0),(z 3),(r 452),(.bool true),(z 181),(r 453),.none,(r 454),(r 455),(r 456),(z 792),(z 205),(c 793)]
def o323:Obj:=fnO (.type "function") "_law_way_by" "_law_way_by" (T.top 60) 3 [] .none .none .none (vS "law_roundmill_k48_spelled_refused" 762) none (r 457) .none 0
def o324:Obj:=sqO (.type "tuple") #[(vS "_law_cell" 798),(vS "_law_count" 799),(vS "_law_some" 800)]
def o325:Obj:=fnO .none "_law_run" "_law_run" (T.top 61) 0 [] .none .none .none .none none .none .none 0
def o326:Obj:=fiO (.type "code") #[(vS "_law_run" 795),(vS "_law_run" 796),(c 797),(z 207),(z 2),(z 0),(z 0),(z 3),(r 459),(.bool true),(z 181),(r 460),.none,(r 461),(r 462),(r 463),(z 801),(z 207),(c 802)]
def o327:Obj:=fnO (.type "function") "_law_run" "_law_run" (T.top 61) 3 [] .none .none .none (vS "law_roundmill_k48_spelled_refused" 762) none (r 464) .none 0
def o328:Obj:=sqO (.type "tuple") #[(vS "_law_cell" 807)]
def o329:Obj:=fnO .none "_law_mark_by" "_law_mark_by" (T.top 62) 0 [] .none .none .none .none none .none .none 0
def o330:Obj:=fiO (.type "code") #[(vS "_law_mark_by" 804),(vS "_law_mark_by" 805),(c 806),(z 210),(z 1),(z 0),(z 0),(z 3),(r 466),(.bool true),(z 181),(r 467),.none,(r 468),(r 469),(r 470),(z 808),(z 210),(c 809)]
def o331:Obj:=fnO (.type "function") "_law_mark_by" "_law_mark_by" (T.top 62) 3 [] .none .none .none (vS "law_roundmill_k48_spelled_refused" 762) none (r 471) .none 0
def o332:Obj:=sqO (.type "tuple") #[(vS "_law_script" 814),(vS "_law_line" 815)]
def o333:Obj:=fnO .none "_law_numeral_by" "_law_numeral_by" (T.top 63) 0 [] .none .none .none .none none .none .none 0
def o334:Obj:=fiO (.type "code") #[(vS "_law_numeral_by" 811),(vS "_law_numeral_by" 812),(c 813),(z 212),(z 1),(z 0),(z 0),(z 3),(r 473),(.bool true),(z 181),(r 474),.none,(r 475),(r 476),(r 477),(z 816),(z 212),(c 817)]
def o335:Obj:=fnO (.type "function") "_law_numeral_by" "_law_numeral_by" (T.top 63) 3 [] .none .none .none (vS "law_roundmill_k48_spelled_refused" 762) none (r 478) .none 0
def o336:Obj:=sqO (.type "tuple") #[(vS "_law_cell" 822),(vS "_law_some" 823)]
def o337:Obj:=fnO .none "_law_sign_by" "_law_sign_by" (T.top 64) 0 [] .none .none .none .none none .none .none 0
def o338:Obj:=fiO (.type "code") #[(vS "_law_sign_by" 819),(vS "_law_sign_by" 820),(c 821),(z 221),(z 1),(z 0),(z 0),(z 3),(r 480),(.bool true),(z 181),(r 481),.none,(r 482),(r 483),(r 484),(z 824),(z 221),(c 825)]
def o339:Obj:=fnO (.type "function") "_law_sign_by" "_law_sign_by" (T.top 64) 3 [] .none .none .none (vS "law_roundmill_k48_spelled_refused" 762) none (r 485) .none 0
def o340:Obj:=sqO (.type "tuple") #[(vS "_law_cell" 830),(vS "_law_some" 831)]
def o341:Obj:=fnO .none "_law_odd_by" "_law_odd_by" (T.top 65) 0 [] .none .none .none .none none .none .none 0
def o342:Obj:=fiO (.type "code") #[(vS "_law_odd_by" 827),(vS "_law_odd_by" 828),(c 829),(z 227),(z 1),(z 0),(z 0),(z 3),(r 487),(.bool true),(z 181),(r 488),.none,(r 489),(r 490),(r 491),(z 832),(z 227),(c 833)]
def o343:Obj:=fnO (.type "function") "_law_odd_by" "_law_odd_by" (T.top 65) 3 [] .none .none .none (vS "law_roundmill_k48_spelled_refused" 762) none (r 492) .none 0
def o344:Obj:=sqO (.type "tuple") #[(vS "_law_line" 838),(vS "_law_way" 839),(vS "_law_place" 840),(vS "_law_sign" 841),(vS "_law_at" 842)]
def o345:Obj:=fnO .none "_law_spoiled" "_law_spoiled" (T.top 66) 0 [] .none .none .none .none none .none .none 0
def o346:Obj:=fiO (.type "code") #[(vS "_law_spoiled" 835),(vS "_law_spoiled" 836),(c 837),(z 232),(z 4),(z 0),(z 0),(z 3),(r 494),(.bool true),(z 181),(r 495),.none,(r 496),(r 497),(r 498),(z 843),(z 232),(c 844)]
def o347:Obj:=fnO (.type "function") "_law_spoiled" "_law_spoiled" (T.top 66) 3 [] .none .none .none (vS "law_roundmill_k48_spelled_refused" 762) none (r 499) .none 0
def o348:Obj:=sqO (.type "tuple") #[(vS "_law_state" 849),(vS "_law_sign" 850),(vS "_law_figure" 851)]
def o349:Obj:=fnO .none "_law_step" "_law_step" (T.top 67) 0 [] .none .none .none .none none .none .none 0
def o350:Obj:=fiO (.type "code") #[(vS "_law_step" 846),(vS "_law_step" 847),(c 848),(z 241),(z 2),(z 0),(z 0),(z 3),(r 501),(.bool true),(z 181),(r 502),.none,(r 503),(r 504),(r 505),(z 852),(z 241),(c 853)]
def o351:Obj:=fnO (.type "function") "_law_step" "_law_step" (T.top 67) 3 [] .none .none .none (vS "law_roundmill_k48_spelled_refused" 762) none (r 506) .none 0
def o352:Obj:=sqO (.type "tuple") #[(vS "_law_line" 858),(vS "_law_state" 859),(vS "_law_sign" 860)]
def o353:Obj:=fnO .none "_law_is_numeral" "_law_is_numeral" (T.top 68) 0 [] .none .none .none .none none .none .none 0
def o354:Obj:=fiO (.type "code") #[(vS "_law_is_numeral" 855),(vS "_law_is_numeral" 856),(c 857),(z 260),(z 1),(z 0),(z 0),(z 3),(r 508),(.bool true),(z 181),(r 509),.none,(r 510),(r 511),(r 512),(z 861),(z 260),(c 862)]
def o355:Obj:=fnO (.type "function") "_law_is_numeral" "_law_is_numeral" (T.top 68) 3 [] .none .none .none (vS "law_roundmill_k48_spelled_refused" 762) none (r 513) .none 0
def o356:Obj:=sqO (.type "tuple") #[(vS "_law_line" 867),(vS "_law_parts" 868),(vS "_law_point" 869),(vS "_law_number" 870)]
def o357:Obj:=fnO .none "_law_due_of" "_law_due_of" (T.top 69) 0 [] .none .none .none .none none .none .none 0
def o358:Obj:=fiO (.type "code") #[(vS "_law_due_of" 864),(vS "_law_due_of" 865),(c 866),(z 267),(z 1),(z 0),(z 0),(z 3),(r 515),(.bool true),(z 181),(r 516),.none,(r 517),(r 518),(r 519),(z 871),(z 267),(c 872)]
def o359:Obj:=fnO (.type "function") "_law_due_of" "_law_due_of" (T.top 69) 3 [] .none .none .none (vS "law_roundmill_k48_spelled_refused" 762) none (r 520) .none 0
def o360:Obj:=sqO (.type "tuple") #[(vS "_law_caught" 877)]
def o361:Obj:=fnO .none "_law_alone" "_law_alone" (T.top 70) 0 [] .none .none .none .none none .none .none 0
def o362:Obj:=fiO (.type "code") #[(vS "_law_alone" 874),(vS "_law_alone" 875),(c 876),(z 276),(z 1),(z 0),(z 0),(z 3),(r 522),(.bool true),(z 181),(r 523),.none,(r 524),(r 525),(r 526),(z 878),(z 276),(c 879)]
def o363:Obj:=fnO (.type "function") "_law_alone" "_law_alone" (T.top 70) 3 [] .none .none .none (vS "law_roundmill_k48_spelled_refused" 762) none (r 527) .none 0
def o364 (P:Params):Obj:=diO (.type "dict") #[(en P "__name__" 165 (vS "law_roundmill_k48_spelled_refused" 762)),(en P "__doc__" 166 .none),(en P "__package__" 167 .none),(en P "__loader__" 168 (.builtin "__main__.__loader__#opaque")),(en P "__spec__" 169 .none),(en P "__annotations__" 170 (r 6)),(en P "__builtins__" 171 (r 4)),(en P "__file__" 173 (c 172)),(en P "__cached__" 174 .none),(en P "MillError" 206 (r 24)),(en P "NoSize" 222 (r 37)),(en P "NoBits" 238 (r 49)),(en P "NoParts" 254 (r 61)),(en P "NoRank" 270 (r 73)),(en P "NotFinite" 286 (r 85)),(en P "NoWay" 302 (r 97)),(en P "NoFlags" 318 (r 109)),(en P "NoFraction" 334 (r 121)),(en P "Unlike" 350 (r 133)),(en P "Empty" 366 (r 145)),(en P "NoLeft" 382 (r 157)),(en P "NoText" 398 (r 169)),(en P "NoRow" 414 (r 181)),(en P "NoName" 430 (r 193)),(en P "Stopped" 457 (r 212)),(en P "bias" 466 (r 221)),(en P "low" 473 (r 228)),(en P "sign_bit" 480 (r 235)),(en P "last_field" 487 (r 242)),(en P "endless" 494 (r 249)),(en P "no_number" 501 (r 256)),(en P "signed" 512 (r 263)),(en P "check_fraction" 522 (r 270)),(en P "scaled" 531 (r 277)),(en P "height" 541 (r 284)),(en P "rest_by_middle" 550 (r 291)),(en P "rest_of" 558 (r 298)),(en P "cut" 569 (r 305)),(en P "INEXACT" 571 (vI 1 570)),(en P "SMALL" 573 (vI 2 572)),(en P "GREAT" 575 (vI 4 574)),(en P "NAMES" 583 (r 306)),(en P "Way" 638 (r 344)),(en P "way_of" 645 (r 355)),(en P "settled" 663 (r 362)),(en P "lost_flags" 673 (r 369)),(en P "rounded" 685 (r 376)),(en P "LONGEST_LINE" 689 (vI 400 688)),(en P "LONGEST_EXPONENT" 691 (vI 4 690)),(en P "FIGURES" 693 (vS "0123456789" 692)),(en P "ten_to" 701 (r 383)),(en P "tenfold" 710 (r 390)),(en P "all_figures" 716 (r 395)),(en P "bare_line" 723 (r 402)),(en P "sign_and_word" 730 (r 409)),(en P "exponent_of" 738 (r 416)),(en P "spelled" 749 (r 423)),(en P "read" 761 (r 430)),(en P "_law_cell_at" 771 (r 437)),(en P "_law_whole" 778 (r 444)),(en P "_law_size_by" 787 (r 451)),(en P "_law_way_by" 794 (r 458)),(en P "_law_run" 803 (r 465)),(en P "_law_mark_by" 810 (r 472)),(en P "_law_numeral_by" 818 (r 479)),(en P "_law_sign_by" 826 (r 486)),(en P "_law_odd_by" 834 (r 493)),(en P "_law_spoiled" 845 (r 500)),(en P "_law_step" 854 (r 507)),(en P "_law_is_numeral" 863 (r 514)),(en P "_law_due_of" 873 (r 521)),(en P "_law_alone" 880 (r 528)),(en P "_law_refused" 891 (r 535)),(en P "law" 902 (r 542))] 74
def o365:Obj:=fiO .none #[(z 2),(z 0),(r 20),(z 4),(z 0),(r 33),(z 6),(z 0),(r 45),(z 8),(z 0),(r 57),(z 10),(z 0),(r 69),(z 12),(z 0),(r 81),(z 14),(z 0),(r 93),(z 16),(z 0),(r 105),(z 18),(z 0),(r 117),(z 20),(z 0),(r 129),(z 22),(z 0),(r 141),(z 24),(z 0),(r 153),(z 26),(z 0),(r 165),(z 28),(z 0),(r 177),(z 30),(z 0),(r 189),(z 32),(z 0),(r 201),(z 39),(z 0),(r 220),(z 41),(z 0),(r 227),(z 43),(z 0),(r 234),(z 45),(z 0),(r 241),(z 47),(z 0),(r 248),(z 49),(z 0),(r 255),(z 52),(z 0),(r 262),(z 55),(z 0),(r 269),(z 58),(z 0),(r 276),(z 62),(z 0),(r 283),(z 66),(z 0),(r 290),(z 72),(z 0),(r 297),(z 74),(z 0),(r 304),(z 86),(z 0),(r 312),(z 109),(z 0),(r 354),(z 114),(z 0),(r 361),(z 125),(z 0),(r 368),(z 130),(z 0),(r 375),(z 138),(z 0),(r 382),(z 143),(z 0),(r 389),(z 147),(z 0),(r 394),(z 149),(z 0),(r 401),(z 153),(z 0),(r 408),(z 159),(z 0),(r 415),(z 164),(z 0),(r 422),(z 174),(z 0),(r 429),(z 185),(z 0),(r 436),(z 189),(z 0),(r 443),(z 191),(z 0),(r 450),(z 205),(z 0),(r 457),(z 207),(z 0),(r 464),(z 210),(z 0),(r 471),(z 212),(z 0),(r 478),(z 221),(z 0),(r 485),(z 227),(z 0),(r 492),(z 232),(z 0),(r 499),(z 241),(z 0),(r 506),(z 260),(z 0),(r 513),(z 267),(z 0),(r 520),(z 276),(z 0),(r 527),(z 282),(z 0),(r 534),(z 292),(z 0),(r 541)]
def o366:Obj:=sqO (.type "tuple") #[(vS "_law_line" 884),(vS "_law_way" 885),(vS "_law_size" 886),(vS "_law_caught" 887),(vS "e" 888)]
def o367:Obj:=fnO .none "_law_refused" "_law_refused" (T.top 71) 0 [] .none .none .none .none none .none .none 0
def o368:Obj:=fiO (.type "code") #[(vS "_law_refused" 881),(vS "_law_refused" 882),(c 883),(z 282),(z 3),(z 0),(z 0),(z 3),(r 529),(.bool true),(z 181),(r 530),.none,(r 531),(r 532),(r 533),(z 889),(z 282),(c 890)]
def o369:Obj:=fnO (.type "function") "_law_refused" "_law_refused" (T.top 71) 3 [] .none .none .none (vS "law_roundmill_k48_spelled_refused" 762) none (r 534) .none 0
def o370:Obj:=sqO (.type "tuple") #[(vS "_law_script" 895),(vS "_law_line" 896),(vS "_law_way" 897),(vS "_law_place" 898),(vS "_law_found" 899)]
def o371:Obj:=fnO .none "law" "law" (T.top 72) 0 [] .none .none .none .none none .none .none 0
def o372:Obj:=fiO (.type "code") #[(vS "law" 892),(vS "law" 893),(c 894),(z 292),(z 1),(z 0),(z 0),(z 3),(r 536),(.bool true),(z 181),(r 537),.none,(r 538),(r 539),(r 540),(z 900),(z 292),(c 901)]
def o373:Obj:=fnO (.type "function") "law" "law" (T.top 72) 3 [] .none .none .none (vS "law_roundmill_k48_spelled_refused" 762) none (r 541) .none 0
def full (P:Params):BT:=(B (boot_o_0 P) (B (boot_o_1 P) (B (o364 P) (B (boot_o_7 P) (B o6 (B o0 (B o46 (B o0 (B o197 (L o0) N) (L o278)) (B o0 (L o236) (L o316))) (B o0 (B o126 (L o215) (L o296)) (B o1 (L o257) (L o335)))) (B o0 (B o0 (B o0 (B o0 (L o362) N) (L o0)) (B o165 (L o0) (L o325))) (B o86 (B o0 (L o224) (L o0)) (B o0 (L o268) (L o1))))) (B (o11 P) (B o26 (B o0 (B o106 (B o202 (L o357) N) (L o0)) (B o0 (L o241) (L o0))) (B o0 (B o0 (L o0) (L o301)) (B o181 (L o0) (L o0)))) (B o0 (B o66 (B o0 (B o1 (L o369) N) (L o291)) (B o0 (L (o251 P)) (L o330))) (B o0 (B o146 (L o231) (L o1)) (B o192 (L o273) (L o348)))))) (B o0 (B o1 (B o0 (B o0 (B o0 (B o199 (L o0) N) (L o0)) (B o156 (L o238) (L o319))) (B o76 (B o0 (L o218) (L o298)) (B o179 (L o260) (L o0)))) (B o36 (B o0 (B o116 (B o208 (L o366) N) (L o0)) (B (o169 P) (L o247) (L o1))) (B o0 (B o0 (L o0) (L o307)) (B o0 (L o1) (L o346))))) (B o15 (B o0 (B o56 (B o0 (B o0 (L o1) N) (L o285)) (B o0 (L o0) (L o0))) (B o0 (B o136 (L o0) (L o0)) (B o184 (L o0) (L o341)))) (B o0 (B o0 (B o0 (B o213 (L o0) N) (L o1)) (B o174 (L o255) (L o332))) (B o96 (B o0 (L o1) (L o314)) (B o1 (L o275) (L o351))))))) (B (boot_o_5 P) (B (boot_o_9 P) (B (o8 P) (B o21 (B o7 (B o101 (B o0 (L o354) N) (L o1)) (B o154 (L o0) (L o317))) (B o74 (B o7 (L o216) (L o0)) (B o0 (L o258) (L o1)))) (B o34 (B o61 (B o114 (B o207 (L o0) N) (L o288)) (B o167 (L o246) (L o327))) (B o7 (B o141 (L o226) (L o306)) (B o187 (L o270) (L o0))))) (B o13 (B o7 (B o54 (B o7 (B o1 (L o359) N) (L o283)) (B o162 (L o1) (L o322))) (B o81 (B o134 (L o221) (L o1)) (B o182 (L o263) (L o340)))) (B o41 (B o7 (B o121 (B o0 (L o1) N) (L o293)) (B o173 (L o253) (L o0))) (B o94 (B o7 (L o233) (L o0)) (B o194 (L o0) (L o349)))))) (B o2 (B o10 (B o24 (B o51 (B o104 (B o200 (L o356) N) (L o281)) (B o7 (L o239) (L o1))) (B o7 (B o131 (L o1) (L o299)) (B o0 (L o1) (L o338)))) (B o7 (B o64 (B o7 (B o210 (L o367) N) (L o290)) (B o171 (L o249) (L o0))) (B o91 (B o144 (L (o230 P)) (L o309)) (B o191 (L o0) (L o0))))) (B o7 (B o31 (B o7 (B o111 (B o205 (L o0) N) (L o1)) (B o164 (L o244) (L o324))) (B o84 (B o7 (L o223) (L o304)) (B o1 (L o267) (L o343)))) (B o44 (B o71 (B o124 (B o0 (L o372) N) (L o0)) (B o176 (L o0) (L o333))) (B o7 (B o151 (L o0) (L o0)) (B o0 (L o276) (L o1)))))))) (B (boot_o_2 P) (B (boot_o_4 P) (B (boot_o_8 P) (B o7 (B o1 (B o19 (B o1 (B o198 (L o353) N) (L o0)) (B (o153 P) (L o237) (L o0))) (B (o73 P) (B o19 (L o0) (L o297)) (B o177 (L o0) (L o0)))) (B (o33 P) (B o1 (B (o113 P) (B o1 (L o363) N) (L o287)) (B o166 (L o1) (L o326))) (B o19 (B o1 (L o225) (L o1)) (B o186 (L o269) (L o344))))) (B o159 (B o19 (B (o53 P) (B o19 (B o0 (L o358) N) (L o1)) (B o161 (L o0) (L o321))) (B o1 (B (o133 P) (L o220) (L o0)) (B o0 (L o262) (L o1)))) (B o1 (B o19 (B o1 (B o211 (L o0) N) (L o292)) (B o1 (L o252) (L o331))) (B (o93 P) (B o19 (L o232) (L o312)) (B o193 (L o274) (L o0)))))) (B o365 (B o9 (B (o23 P) (B o1 (B (o103 P) (B o0 (L o1) N) (L o280)) (B o19 (L o0) (L o0))) (B o19 (B o1 (L o0) (L o0)) (B o180 (L o0) (L o337)))) (B o19 (B (o63 P) (B o19 (B o209 (L o0) N) (L o1)) (B o170 (L o248) (L o328))) (B o1 (B (o143 P) (L o7) (L o308)) (B o1 (L o271) (L o347))))) (B o19 (B o1 (B o19 (B o1 (B o204 (L o360) N) (L o0)) (B o1 (L o243) (L o1))) (B (o83 P) (B o19 (L o1) (L o303)) (B o0 (L o1) (L o342)))) (B (o43 P) (B o1 (B (o123 P) (B o214 (L o371) N) (L o294)) (B o175 (L o256) (L o0))) (B o19 (B o1 (L o234) (L o315)) (B o195 (L o0) (L o0))))))) (B (boot_o_6 P) (B (boot_o_10 P) (B o0 (B o22 (B (o50 P) (B o102 (B o1 (L o355) N) (L o279)) (B o155 (L o1) (L o318))) (B o75 (B (o130 P) (L o217) (L o1)) (B o178 (L o259) (L o336)))) (B o35 (B o62 (B o115 (B o0 (L o1) N) (L o289)) (B o168 (L o0) (L o0))) (B (o90 P) (B o142 (L o227) (L o0)) (B o188 (L o0) (L o345))))) (B o14 (B (o30 P) (B o55 (B (o110 P) (B o203 (L o0) N) (L o284)) (B o163 (L o242) (L o323))) (B o82 (B o135 (L o222) (L o302)) (B o183 (L o264) (L o0)))) (B o42 (B (o70 P) (B o122 (B o212 (L o370) N) (L o0)) (B o0 (L o254) (L o1))) (B o95 (B (o150 P) (L o0) (L o313)) (B o0 (L o1) (L o350)))))) (B o3 (B o0 (B o25 (B o52 (B o105 (B o201 (L o0) N) (L o282)) (B (o160 P) (L o240) (L o320))) (B (o80 P) (B o132 (L o219) (L o300)) (B o1 (L o261) (L o339)))) (B (o40 P) (B o65 (B (o120 P) (B o0 (L o368) N) (L o0)) (B o172 (L o250) (L o329))) (B o92 (B o145 (L o0) (L o0)) (B o0 (L o272) (L o1))))) (B (o20 P) (B o32 (B (o60 P) (B o112 (B o206 (L o361) N) (L o286)) (B o0 (L o245) (L o0))) (B o85 (B (o140 P) (L o0) (L o305)) (B o185 (L o0) (L o0)))) (B o45 (B o72 (B o125 (B o1 (L o373) N) (L o295)) (B o0 (L o1) (L o334))) (B (o100 P) (B o152 (L o235) (L o1)) (B o196 (L o277) (L o352)))))))))
def t_0 (P:Params):BT:=(((cut 15 (full P) 1 0).ins 3 (boot_o_3 P)).ins 12 (o1))
def t_1 (P:Params):BT:=((((cut 28 (full P) 1 0).ins 3 (o4 P)).ins 12 (o5)).ins 24 (o12))
def t_2 (P:Params):BT:=((((cut 40 (full P) 1 0).ins 3 (o16 P)).ins 12 (o17)).ins 24 (o18))
def t_3 (P:Params):BT:=((((cut 52 (full P) 1 0).ins 3 (o27 P)).ins 12 (o28)).ins 24 (o29))
def t_4 (P:Params):BT:=((((cut 64 (full P) 1 0).ins 3 (o37 P)).ins 12 (o38)).ins 24 (o39))
def t_5 (P:Params):BT:=((((cut 76 (full P) 1 0).ins 3 (o47 P)).ins 12 (o48)).ins 24 (o49))
def t_6 (P:Params):BT:=((((cut 88 (full P) 1 0).ins 3 (o57 P)).ins 12 (o58)).ins 24 (o59))
def t_7 (P:Params):BT:=((((cut 100 (full P) 1 0).ins 3 (o67 P)).ins 12 (o68)).ins 24 (o69))
def t_8 (P:Params):BT:=((((cut 112 (full P) 1 0).ins 3 (o77 P)).ins 12 (o78)).ins 24 (o79))
def t_9 (P:Params):BT:=((((cut 124 (full P) 1 0).ins 3 (o87 P)).ins 12 (o88)).ins 24 (o89))
def t_10 (P:Params):BT:=((((cut 136 (full P) 1 0).ins 3 (o97 P)).ins 12 (o98)).ins 24 (o99))
def t_11 (P:Params):BT:=((((cut 148 (full P) 1 0).ins 3 (o107 P)).ins 12 (o108)).ins 24 (o109))
def t_12 (P:Params):BT:=((((cut 160 (full P) 1 0).ins 3 (o117 P)).ins 12 (o118)).ins 24 (o119))
def t_13 (P:Params):BT:=((((cut 172 (full P) 1 0).ins 3 (o127 P)).ins 12 (o128)).ins 24 (o129))
def t_14 (P:Params):BT:=((((cut 184 (full P) 1 0).ins 3 (o137 P)).ins 12 (o138)).ins 24 (o139))
def t_15 (P:Params):BT:=((((cut 196 (full P) 1 0).ins 3 (o147 P)).ins 12 (o148)).ins 24 (o149))
def t_16 (P:Params):BT:=(((cut 243 (full P) 1 0).ins 3 (o157 P)).ins 12 (o158))
def t_17 (P:Params):BT:=(((cut 307 (full P) 1 0).ins 3 (o189 P)).ins 12 (o190))
def t_18 (P:Params):BT:=(((cut 363 (full P) 1 0).ins 3 (o228 P)).ins 12 (o229))
def t_19 (P:Params):BT:=(((cut 438 (full P) 1 0).ins 3 (o265 P)).ins 12 (o266))
def t_20 (P:Params):BT:=(((cut 529 (full P) 1 0).ins 3 (o310 P)).ins 12 (o311))
def t_21 (P:Params):BT:=(cut 543 (full P) 1 0)
def ha (P:Params):Heap:=⟨⟨[boot_o_0 P,boot_o_1 P,boot_o_2 P,boot_o_3 P,boot_o_4 P,boot_o_5 P,boot_o_6 P,boot_o_7 P,boot_o_8 P,boot_o_9 P,boot_o_10 P,o0,o1,o2,o3]⟩,(Life.mk [] [] [] 0 [] [] false #[] [] 0 false false false 0 [2000,10,10] false 0 true [] [] 0 false)⟩
def hf (P:Params):Heap:=absHeap (full P) 543 (Life.mk [] [] [] 0 [] [] false #[] [] 0 false false false 0 [2000,10,10] false 0 true [] [] 0 false)
def K (P:Params):Frag:=(nat_lit 2,boot_o_2 P)::(nat_lit 3,o364 P)::(nat_lit 15,o6)::(nat_lit 22,o0)::(nat_lit 23,o11 P)::(nat_lit 24,o159)::(nat_lit 25,o13)::(nat_lit 28,o19)::(nat_lit 35,o0)::(nat_lit 36,o23 P)::(nat_lit 37,o24)::(nat_lit 40,o19)::(nat_lit 47,o0)::(nat_lit 48,o33 P)::(nat_lit 49,o34)::(nat_lit 52,o19)::(nat_lit 59,o0)::(nat_lit 60,o43 P)::(nat_lit 61,o44)::(nat_lit 64,o19)::(nat_lit 71,o0)::(nat_lit 72,o53 P)::(nat_lit 73,o54)::(nat_lit 76,o19)::(nat_lit 83,o0)::(nat_lit 84,o63 P)::(nat_lit 85,o64)::(nat_lit 88,o19)::(nat_lit 95,o0)::(nat_lit 96,o73 P)::(nat_lit 97,o74)::(nat_lit 100,o19)::(nat_lit 107,o0)::(nat_lit 108,o83 P)::(nat_lit 109,o84)::(nat_lit 112,o19)::(nat_lit 119,o0)::(nat_lit 120,o93 P)::(nat_lit 121,o94)::(nat_lit 124,o19)::(nat_lit 131,o0)::(nat_lit 132,o103 P)::(nat_lit 133,o104)::(nat_lit 136,o19)::(nat_lit 143,o0)::(nat_lit 144,o113 P)::(nat_lit 145,o114)::(nat_lit 148,o19)::(nat_lit 155,o0)::(nat_lit 156,o123 P)::(nat_lit 157,o124)::(nat_lit 160,o19)::(nat_lit 167,o0)::(nat_lit 168,o133 P)::(nat_lit 169,o134)::(nat_lit 172,o19)::(nat_lit 179,o0)::(nat_lit 180,o143 P)::(nat_lit 181,o144)::(nat_lit 184,o19)::(nat_lit 191,o0)::(nat_lit 192,o153 P)::(nat_lit 193,o154)::(nat_lit 196,o19)::(nat_lit 203,o0)::(nat_lit 205,o164)::(nat_lit 206,o0)::(nat_lit 208,o166)::(nat_lit 209,o167)::(nat_lit 210,o168)::(nat_lit 211,o169 P)::(nat_lit 212,o170)::(nat_lit 215,o0)::(nat_lit 217,o173)::(nat_lit 218,o0)::(nat_lit 220,o175)::(nat_lit 221,o176)::(nat_lit 222,o0)::(nat_lit 224,o177)::(nat_lit 225,o0)::(nat_lit 227,o179)::(nat_lit 228,o180)::(nat_lit 229,o0)::(nat_lit 231,o181)::(nat_lit 232,o0)::(nat_lit 234,o183)::(nat_lit 235,o184)::(nat_lit 236,o0)::(nat_lit 238,o185)::(nat_lit 239,o0)::(nat_lit 241,o187)::(nat_lit 242,o188)::(nat_lit 243,o0)::(nat_lit 245,o191)::(nat_lit 246,o0)::(nat_lit 248,o193)::(nat_lit 249,o194)::(nat_lit 250,o0)::(nat_lit 252,o195)::(nat_lit 253,o0)::(nat_lit 255,o197)::(nat_lit 256,o198)::(nat_lit 257,o0)::(nat_lit 259,o199)::(nat_lit 260,o0)::(nat_lit 262,o201)::(nat_lit 263,o202)::(nat_lit 264,o0)::(nat_lit 266,o203)::(nat_lit 267,o0)::(nat_lit 269,o205)::(nat_lit 270,o206)::(nat_lit 271,o0)::(nat_lit 273,o207)::(nat_lit 274,o0)::(nat_lit 276,o209)::(nat_lit 277,o210)::(nat_lit 278,o0)::(nat_lit 280,o211)::(nat_lit 281,o0)::(nat_lit 283,o213)::(nat_lit 284,o214)::(nat_lit 285,o0)::(nat_lit 287,o215)::(nat_lit 288,o0)::(nat_lit 290,o217)::(nat_lit 291,o218)::(nat_lit 292,o0)::(nat_lit 294,o219)::(nat_lit 295,o0)::(nat_lit 297,o221)::(nat_lit 298,o222)::(nat_lit 299,o0)::(nat_lit 301,o223)::(nat_lit 302,o0)::(nat_lit 304,o225)::(nat_lit 305,o226)::(nat_lit 306,o227)::(nat_lit 314,o0)::(nat_lit 316,o234)::(nat_lit 317,o0)::(nat_lit 319,o236)::(nat_lit 320,o237)::(nat_lit 321,o0)::(nat_lit 323,o238)::(nat_lit 324,o0)::(nat_lit 326,o240)::(nat_lit 327,o241)::(nat_lit 328,o0)::(nat_lit 330,o242)::(nat_lit 331,o0)::(nat_lit 333,o244)::(nat_lit 334,o245)::(nat_lit 335,o0)::(nat_lit 337,o246)::(nat_lit 338,o0)::(nat_lit 340,o248)::(nat_lit 341,o249)::(nat_lit 342,o250)::(nat_lit 343,o251 P)::(nat_lit 344,o252)::(nat_lit 345,o253)::(nat_lit 346,o254)::(nat_lit 349,o0)::(nat_lit 351,o257)::(nat_lit 352,o0)::(nat_lit 354,o259)::(nat_lit 355,o260)::(nat_lit 356,o0)::(nat_lit 358,o261)::(nat_lit 359,o0)::(nat_lit 361,o263)::(nat_lit 362,o264)::(nat_lit 363,o0)::(nat_lit 365,o267)::(nat_lit 366,o0)::(nat_lit 368,o269)::(nat_lit 369,o270)::(nat_lit 370,o0)::(nat_lit 372,o271)::(nat_lit 373,o0)::(nat_lit 375,o273)::(nat_lit 376,o274)::(nat_lit 377,o0)::(nat_lit 379,o275)::(nat_lit 380,o0)::(nat_lit 382,o277)::(nat_lit 383,o278)::(nat_lit 384,o0)::(nat_lit 386,o279)::(nat_lit 387,o0)::(nat_lit 389,o281)::(nat_lit 390,o282)::(nat_lit 391,o0)::(nat_lit 394,o284)::(nat_lit 395,o285)::(nat_lit 396,o0)::(nat_lit 398,o286)::(nat_lit 399,o0)::(nat_lit 401,o288)::(nat_lit 402,o289)::(nat_lit 403,o0)::(nat_lit 405,o290)::(nat_lit 406,o0)::(nat_lit 408,o292)::(nat_lit 409,o293)::(nat_lit 410,o0)::(nat_lit 412,o294)::(nat_lit 413,o0)::(nat_lit 415,o296)::(nat_lit 416,o297)::(nat_lit 417,o0)::(nat_lit 419,o298)::(nat_lit 420,o0)::(nat_lit 422,o300)::(nat_lit 423,o301)::(nat_lit 424,o0)::(nat_lit 426,o302)::(nat_lit 427,o0)::(nat_lit 429,o304)::(nat_lit 430,o305)::(nat_lit 431,o0)::(nat_lit 433,o306)::(nat_lit 434,o0)::(nat_lit 436,o308)::(nat_lit 437,o309)::(nat_lit 438,o0)::(nat_lit 440,o312)::(nat_lit 441,o0)::(nat_lit 443,o314)::(nat_lit 444,o315)::(nat_lit 445,o0)::(nat_lit 447,o316)::(nat_lit 448,o0)::(nat_lit 450,o318)::(nat_lit 451,o319)::(nat_lit 452,o0)::(nat_lit 454,o320)::(nat_lit 455,o0)::(nat_lit 457,o322)::(nat_lit 458,o323)::(nat_lit 459,o0)::(nat_lit 461,o324)::(nat_lit 462,o0)::(nat_lit 464,o326)::(nat_lit 465,o327)::(nat_lit 466,o0)::(nat_lit 468,o328)::(nat_lit 469,o0)::(nat_lit 471,o330)::(nat_lit 472,o331)::(nat_lit 473,o0)::(nat_lit 475,o332)::(nat_lit 476,o0)::(nat_lit 478,o334)::(nat_lit 479,o335)::(nat_lit 480,o0)::(nat_lit 482,o336)::(nat_lit 483,o0)::(nat_lit 485,o338)::(nat_lit 486,o339)::(nat_lit 487,o0)::(nat_lit 489,o340)::(nat_lit 490,o0)::(nat_lit 492,o342)::(nat_lit 493,o343)::(nat_lit 494,o0)::(nat_lit 496,o344)::(nat_lit 497,o0)::(nat_lit 499,o346)::(nat_lit 500,o347)::(nat_lit 501,o0)::(nat_lit 503,o348)::(nat_lit 504,o0)::(nat_lit 506,o350)::(nat_lit 507,o351)::(nat_lit 508,o0)::(nat_lit 510,o352)::(nat_lit 511,o0)::(nat_lit 513,o354)::(nat_lit 514,o355)::(nat_lit 515,o0)::(nat_lit 517,o356)::(nat_lit 518,o0)::(nat_lit 520,o358)::(nat_lit 521,o359)::(nat_lit 522,o0)::(nat_lit 524,o360)::(nat_lit 525,o0)::(nat_lit 527,o362)::(nat_lit 528,o363)::(nat_lit 529,o0)::(nat_lit 531,o366)::(nat_lit 532,o0)::(nat_lit 534,o368)::(nat_lit 535,o369)::(nat_lit 536,o0)::(nat_lit 538,o370)::(nat_lit 539,o0)::(nat_lit 541,o372)::(nat_lit 542,o373)::[]
def as:List Addr:=[2,3,15,22,23,24,25,28,35,36,37,40,47,48,49,52,59,60,61,64,71,72,73,76,83,84,85,88,95,96,97,100,107,108,109,112,119,120,121,124,131,132,133,136,143,144,145,148,155,156,157,160,167,168,169,172,179,180,181,184,191,192,193,196,203,205,206,208,209,210,211,212,215,217,218,220,221,222,224,225,227,228,229,231,232,234,235,236,238,239,241,242,243,245,246,248,249,250,252,253,255,256,257,259,260,262,263,264,266,267,269,270,271,273,274,276,277,278,280,281,283,284,285,287,288,290,291,292,294,295,297,298,299,301,302,304,305,306,314,316,317,319,320,321,323,324,326,327,328,330,331,333,334,335,337,338,340,341,342,343,344,345,346,349,351,352,354,355,356,358,359,361,362,363,365,366,368,369,370,372,373,375,376,377,379,380,382,383,384,386,387,389,390,391,394,395,396,398,399,401,402,403,405,406,408,409,410,412,413,415,416,417,419,420,422,423,424,426,427,429,430,431,433,434,436,437,438,440,441,443,444,445,447,448,450,451,452,454,455,457,458,459,461,462,464,465,466,468,469,471,472,473,475,476,478,479,480,482,483,485,486,487,489,490,492,493,494,496,497,499,500,501,503,504,506,507,508,510,511,513,514,515,517,518,520,521,522,524,525,527,528,529,531,532,534,535,536,538,539,541,542]
def env:Env:={ scope:=PySem.Challenge.pw_roundmill_k48_spelled_refused.main.scope,locals:=mainNs,globals:=mainNs,cells:=[],code:=(.ref 13),frame:=some 14 }
def sts_1:List Stmt:=[T.top 0,T.top 1]
def sts_2:List Stmt:=[T.top 2]
def sts_3:List Stmt:=[T.top 3]
def sts_4:List Stmt:=[T.top 4]
def sts_5:List Stmt:=[T.top 5]
def sts_6:List Stmt:=[T.top 6]
def sts_7:List Stmt:=[T.top 7]
def sts_8:List Stmt:=[T.top 8]
def sts_9:List Stmt:=[T.top 9]
def sts_10:List Stmt:=[T.top 10]
def sts_11:List Stmt:=[T.top 11]
def sts_12:List Stmt:=[T.top 12]
def sts_13:List Stmt:=[T.top 13]
def sts_14:List Stmt:=[T.top 14]
def sts_15:List Stmt:=[T.top 15]
def sts_16:List Stmt:=[T.top 16,T.top 17,T.top 18,T.top 19,T.top 20,T.top 21]
def sts_17:List Stmt:=[T.top 22,T.top 23,T.top 24,T.top 25,T.top 26,T.top 27,T.top 28,T.top 29,T.top 30,T.top 31,T.top 32,T.top 33,T.top 34,T.top 35,T.top 36,T.top 37]
def sts_18:List Stmt:=[T.top 38,T.top 39,T.top 40,T.top 41]
def sts_19:List Stmt:=[T.top 42,T.top 43,T.top 44,T.top 45,T.top 46,T.top 47,T.top 48,T.top 49,T.top 50,T.top 51,T.top 52,T.top 53,T.top 54,T.top 55,T.top 56,T.top 57]
def sts_20:List Stmt:=[T.top 58,T.top 59,T.top 60,T.top 61,T.top 62,T.top 63,T.top 64,T.top 65,T.top 66,T.top 67,T.top 68,T.top 69,T.top 70]
def sts_21:List Stmt:=[T.top 71,T.top 72]
def q:Program:=PySem.W.view PySem.Challenge.pw_roundmill_k48_spelled_refused [1,2,3,4,5,6,7,8,9,10,11,12,13,14,15,16,18,19,20,21,22,23,25,27,28,29,30,31,32,33,34,35,37,38,39,41,42,43,45,46,47,48,49,50,51,52,53,54,55,57,58,59,60,61,62,63,64,65,66,67,68,69,70,71,72]
end
end H
namespace H
open PySem PySem.W PySem.Calls PySem.Spec PyProof.Rows L2 EV ES
noncomputable section
def cB:Code:=Code.body (behindTheImports PySem.Challenge.pw_roundmill_k48_spelled_refused) env
def row:RowW:=OpenRow.toRowW (OpenLaw.row PySem.Challenge.rw_roundmill_k48_spelled_refused)
def Xt (s:Shared):Bool:=xlAt q [] s&&recOk (RowW.records row) s
end
theorem cw_tws:(fun (_:Program) (_:Program) (_:Env) (_:Code) (_:Shared→Bool)=>true) PySem.Challenge.pw_roundmill_k48_spelled_refused q env cB Xt=true:=by k_qdec
set_option maxHeartbeats 0 in
theorem t_pre:∀ w:World,(fun os:OsState=>topGo treeTable PySem.Challenge.pw_roundmill_k48_spelled_refused w 11 (some (.ref 6)) 12 (Shared.mk (boot_heap w.params) (Array.mk []) boot_drawn boot_toks os) (topStub PySem.Challenge.pw_roundmill_k48_spelled_refused))=fun os:OsState=>some ((Shared.mk (ha w.params) ⟨[]⟩ (Drawn.mk 0 0 0 0) 187 os),Thread.mk (denote treeTable cB) cB (Pos.mk 0 0 0 0) [topFrame (Pos.mk 0 0 0 0)]):=by
  rewrite [PySem.W.Fast.te15667345088766844465,PySem.W.Fast.te14364793385576792824,PySem.W.Fast.te16121237936811829191,PySem.W.Fast.te11892475500146522536,PySem.W.Fast.te2060423359788512156]
  intro w
  kernel_rfl
set_option maxHeartbeats 0 in
theorem t_block:∀ w:World,(fun os:OsState=>segRun treeTable PySem.Challenge.pw_roundmill_k48_spelled_refused w 11 (some (.ref 6)) 1 1 (Shared.mk (ha w.params) ⟨[]⟩ (Drawn.mk 0 0 0 0) 187 os) (blockOf (behindTheImports PySem.Challenge.pw_roundmill_k48_spelled_refused) env cB (Pos.mk 0 0 0 0) [topFrame (Pos.mk 0 0 0 0)]))=fun os:OsState=>some (Flow.next,(SharedT.abs (SharedT.mk (t_0 w.params) 15 (Life.mk [] [] [] 0 [] [] false #[] [] 0 false false false 0 [2000,10,10] false 0 true [] [] 0 false) ⟨[]⟩ (Drawn.mk 0 0 0 0) 187 os)),cB,(Pos.mk 0 0 0 0)):=by
  rewrite [PySem.W.Fast.te14374325043358763698,PySem.W.Fast.te14364793385576792824,PySem.W.Fast.te16121237936811829191,PySem.W.Fast.te2060423359788512156]
  intro w
  kernel_rfl
set_option maxHeartbeats 0 in
theorem t_p1:∀ w:World,(fun os:OsState=>segRunT treeTable PySem.Challenge.pw_roundmill_k48_spelled_refused w 11 (some (.ref 6)) 1 196 (SharedT.mk (t_0 w.params) 15 (Life.mk [] [] [] 0 [] [] false #[] [] 0 false false false 0 [2000,10,10] false 0 true [] [] 0 false) ⟨[]⟩ (Drawn.mk 0 0 0 0) 187 os) (piecesOf sts_1 env cB (Pos.mk 0 0 0 0) [topFrame (Pos.mk 0 0 0 0)]))=fun os:OsState=>some (Flow.next,(SharedT.mk (t_1 w.params) 28 (Life.mk [] [] [] 0 [] [] false #[] [] 0 false false false 0 [2000,10,10] false 0 true [] [] 0 false) ⟨[]⟩ (Drawn.mk 0 0 0 0) 207 os),cB,(Pos.mk 2 0 3 8)):=by
  rewrite [PySem.W.Fast.te10110043849684766642,PySem.W.Fast.te14364793385576792824,PySem.W.Fast.te16121237936811829191,PySem.W.Fast.te2060423359788512156]
  intro w
  kernel_rfl
set_option maxHeartbeats 0 in
theorem t_p2:∀ w:World,(fun os:OsState=>segRunT treeTable PySem.Challenge.pw_roundmill_k48_spelled_refused w 11 (some (.ref 6)) 1 214 (SharedT.mk (t_1 w.params) 28 (Life.mk [] [] [] 0 [] [] false #[] [] 0 false false false 0 [2000,10,10] false 0 true [] [] 0 false) ⟨[]⟩ (Drawn.mk 0 0 0 0) 207 os) (piecesOf sts_2 env cB (Pos.mk 2 0 3 8) [topFrame (Pos.mk 0 0 0 0)]))=fun os:OsState=>some (Flow.next,(SharedT.mk (t_2 w.params) 40 (Life.mk [] [] [] 0 [] [] false #[] [] 0 false false false 0 [2000,10,10] false 0 true [] [] 0 false) ⟨[]⟩ (Drawn.mk 0 0 0 0) 223 os),cB,(Pos.mk 4 0 5 8)):=by
  rewrite [PySem.W.Fast.te10110043849684766642,PySem.W.Fast.te14364793385576792824,PySem.W.Fast.te16121237936811829191,PySem.W.Fast.te2060423359788512156]
  intro w
  kernel_rfl
set_option maxHeartbeats 0 in
theorem t_p3:∀ w:World,(fun os:OsState=>segRunT treeTable PySem.Challenge.pw_roundmill_k48_spelled_refused w 11 (some (.ref 6)) 1 214 (SharedT.mk (t_2 w.params) 40 (Life.mk [] [] [] 0 [] [] false #[] [] 0 false false false 0 [2000,10,10] false 0 true [] [] 0 false) ⟨[]⟩ (Drawn.mk 0 0 0 0) 223 os) (piecesOf sts_3 env cB (Pos.mk 4 0 5 8) [topFrame (Pos.mk 0 0 0 0)]))=fun os:OsState=>some (Flow.next,(SharedT.mk (t_3 w.params) 52 (Life.mk [] [] [] 0 [] [] false #[] [] 0 false false false 0 [2000,10,10] false 0 true [] [] 0 false) ⟨[]⟩ (Drawn.mk 0 0 0 0) 239 os),cB,(Pos.mk 6 0 7 8)):=by
  rewrite [PySem.W.Fast.te10110043849684766642,PySem.W.Fast.te14364793385576792824,PySem.W.Fast.te16121237936811829191,PySem.W.Fast.te2060423359788512156]
  intro w
  kernel_rfl
set_option maxHeartbeats 0 in
theorem t_p4:∀ w:World,(fun os:OsState=>segRunT treeTable PySem.Challenge.pw_roundmill_k48_spelled_refused w 11 (some (.ref 6)) 1 214 (SharedT.mk (t_3 w.params) 52 (Life.mk [] [] [] 0 [] [] false #[] [] 0 false false false 0 [2000,10,10] false 0 true [] [] 0 false) ⟨[]⟩ (Drawn.mk 0 0 0 0) 239 os) (piecesOf sts_4 env cB (Pos.mk 6 0 7 8) [topFrame (Pos.mk 0 0 0 0)]))=fun os:OsState=>some (Flow.next,(SharedT.mk (t_4 w.params) 64 (Life.mk [] [] [] 0 [] [] false #[] [] 0 false false false 0 [2000,10,10] false 0 true [] [] 0 false) ⟨[]⟩ (Drawn.mk 0 0 0 0) 255 os),cB,(Pos.mk 8 0 9 8)):=by
  rewrite [PySem.W.Fast.te10110043849684766642,PySem.W.Fast.te14364793385576792824,PySem.W.Fast.te16121237936811829191,PySem.W.Fast.te2060423359788512156]
  intro w
  kernel_rfl
set_option maxHeartbeats 0 in
theorem t_p5:∀ w:World,(fun os:OsState=>segRunT treeTable PySem.Challenge.pw_roundmill_k48_spelled_refused w 11 (some (.ref 6)) 1 214 (SharedT.mk (t_4 w.params) 64 (Life.mk [] [] [] 0 [] [] false #[] [] 0 false false false 0 [2000,10,10] false 0 true [] [] 0 false) ⟨[]⟩ (Drawn.mk 0 0 0 0) 255 os) (piecesOf sts_5 env cB (Pos.mk 8 0 9 8) [topFrame (Pos.mk 0 0 0 0)]))=fun os:OsState=>some (Flow.next,(SharedT.mk (t_5 w.params) 76 (Life.mk [] [] [] 0 [] [] false #[] [] 0 false false false 0 [2000,10,10] false 0 true [] [] 0 false) ⟨[]⟩ (Drawn.mk 0 0 0 0) 271 os),cB,(Pos.mk 10 0 11 8)):=by
  rewrite [PySem.W.Fast.te10110043849684766642,PySem.W.Fast.te14364793385576792824,PySem.W.Fast.te16121237936811829191,PySem.W.Fast.te2060423359788512156]
  intro w
  kernel_rfl
set_option maxHeartbeats 0 in
theorem t_p6:∀ w:World,(fun os:OsState=>segRunT treeTable PySem.Challenge.pw_roundmill_k48_spelled_refused w 11 (some (.ref 6)) 1 214 (SharedT.mk (t_5 w.params) 76 (Life.mk [] [] [] 0 [] [] false #[] [] 0 false false false 0 [2000,10,10] false 0 true [] [] 0 false) ⟨[]⟩ (Drawn.mk 0 0 0 0) 271 os) (piecesOf sts_6 env cB (Pos.mk 10 0 11 8) [topFrame (Pos.mk 0 0 0 0)]))=fun os:OsState=>some (Flow.next,(SharedT.mk (t_6 w.params) 88 (Life.mk [] [] [] 0 [] [] false #[] [] 0 false false false 0 [2000,10,10] false 0 true [] [] 0 false) ⟨[]⟩ (Drawn.mk 0 0 0 0) 287 os),cB,(Pos.mk 12 0 13 8)):=by
  rewrite [PySem.W.Fast.te10110043849684766642,PySem.W.Fast.te14364793385576792824,PySem.W.Fast.te16121237936811829191,PySem.W.Fast.te2060423359788512156]
  intro w
  kernel_rfl
set_option maxHeartbeats 0 in
theorem t_p7:∀ w:World,(fun os:OsState=>segRunT treeTable PySem.Challenge.pw_roundmill_k48_spelled_refused w 11 (some (.ref 6)) 1 214 (SharedT.mk (t_6 w.params) 88 (Life.mk [] [] [] 0 [] [] false #[] [] 0 false false false 0 [2000,10,10] false 0 true [] [] 0 false) ⟨[]⟩ (Drawn.mk 0 0 0 0) 287 os) (piecesOf sts_7 env cB (Pos.mk 12 0 13 8) [topFrame (Pos.mk 0 0 0 0)]))=fun os:OsState=>some (Flow.next,(SharedT.mk (t_7 w.params) 100 (Life.mk [] [] [] 0 [] [] false #[] [] 0 false false false 0 [2000,10,10] false 0 true [] [] 0 false) ⟨[]⟩ (Drawn.mk 0 0 0 0) 303 os),cB,(Pos.mk 14 0 15 8)):=by
  rewrite [PySem.W.Fast.te10110043849684766642,PySem.W.Fast.te14364793385576792824,PySem.W.Fast.te16121237936811829191,PySem.W.Fast.te2060423359788512156]
  intro w
  kernel_rfl
set_option maxHeartbeats 0 in
theorem t_p8:∀ w:World,(fun os:OsState=>segRunT treeTable PySem.Challenge.pw_roundmill_k48_spelled_refused w 11 (some (.ref 6)) 1 214 (SharedT.mk (t_7 w.params) 100 (Life.mk [] [] [] 0 [] [] false #[] [] 0 false false false 0 [2000,10,10] false 0 true [] [] 0 false) ⟨[]⟩ (Drawn.mk 0 0 0 0) 303 os) (piecesOf sts_8 env cB (Pos.mk 14 0 15 8) [topFrame (Pos.mk 0 0 0 0)]))=fun os:OsState=>some (Flow.next,(SharedT.mk (t_8 w.params) 112 (Life.mk [] [] [] 0 [] [] false #[] [] 0 false false false 0 [2000,10,10] false 0 true [] [] 0 false) ⟨[]⟩ (Drawn.mk 0 0 0 0) 319 os),cB,(Pos.mk 16 0 17 8)):=by
  rewrite [PySem.W.Fast.te10110043849684766642,PySem.W.Fast.te14364793385576792824,PySem.W.Fast.te16121237936811829191,PySem.W.Fast.te2060423359788512156]
  intro w
  kernel_rfl
set_option maxHeartbeats 0 in
theorem t_p9:∀ w:World,(fun os:OsState=>segRunT treeTable PySem.Challenge.pw_roundmill_k48_spelled_refused w 11 (some (.ref 6)) 1 214 (SharedT.mk (t_8 w.params) 112 (Life.mk [] [] [] 0 [] [] false #[] [] 0 false false false 0 [2000,10,10] false 0 true [] [] 0 false) ⟨[]⟩ (Drawn.mk 0 0 0 0) 319 os) (piecesOf sts_9 env cB (Pos.mk 16 0 17 8) [topFrame (Pos.mk 0 0 0 0)]))=fun os:OsState=>some (Flow.next,(SharedT.mk (t_9 w.params) 124 (Life.mk [] [] [] 0 [] [] false #[] [] 0 false false false 0 [2000,10,10] false 0 true [] [] 0 false) ⟨[]⟩ (Drawn.mk 0 0 0 0) 335 os),cB,(Pos.mk 18 0 19 8)):=by
  rewrite [PySem.W.Fast.te10110043849684766642,PySem.W.Fast.te14364793385576792824,PySem.W.Fast.te16121237936811829191,PySem.W.Fast.te2060423359788512156]
  intro w
  kernel_rfl
set_option maxHeartbeats 0 in
theorem t_p10:∀ w:World,(fun os:OsState=>segRunT treeTable PySem.Challenge.pw_roundmill_k48_spelled_refused w 11 (some (.ref 6)) 1 214 (SharedT.mk (t_9 w.params) 124 (Life.mk [] [] [] 0 [] [] false #[] [] 0 false false false 0 [2000,10,10] false 0 true [] [] 0 false) ⟨[]⟩ (Drawn.mk 0 0 0 0) 335 os) (piecesOf sts_10 env cB (Pos.mk 18 0 19 8) [topFrame (Pos.mk 0 0 0 0)]))=fun os:OsState=>some (Flow.next,(SharedT.mk (t_10 w.params) 136 (Life.mk [] [] [] 0 [] [] false #[] [] 0 false false false 0 [2000,10,10] false 0 true [] [] 0 false) ⟨[]⟩ (Drawn.mk 0 0 0 0) 351 os),cB,(Pos.mk 20 0 21 8)):=by
  rewrite [PySem.W.Fast.te10110043849684766642,PySem.W.Fast.te14364793385576792824,PySem.W.Fast.te16121237936811829191,PySem.W.Fast.te2060423359788512156]
  intro w
  kernel_rfl
set_option maxHeartbeats 0 in
theorem t_p11:∀ w:World,(fun os:OsState=>segRunT treeTable PySem.Challenge.pw_roundmill_k48_spelled_refused w 11 (some (.ref 6)) 1 214 (SharedT.mk (t_10 w.params) 136 (Life.mk [] [] [] 0 [] [] false #[] [] 0 false false false 0 [2000,10,10] false 0 true [] [] 0 false) ⟨[]⟩ (Drawn.mk 0 0 0 0) 351 os) (piecesOf sts_11 env cB (Pos.mk 20 0 21 8) [topFrame (Pos.mk 0 0 0 0)]))=fun os:OsState=>some (Flow.next,(SharedT.mk (t_11 w.params) 148 (Life.mk [] [] [] 0 [] [] false #[] [] 0 false false false 0 [2000,10,10] false 0 true [] [] 0 false) ⟨[]⟩ (Drawn.mk 0 0 0 0) 367 os),cB,(Pos.mk 22 0 23 8)):=by
  rewrite [PySem.W.Fast.te10110043849684766642,PySem.W.Fast.te14364793385576792824,PySem.W.Fast.te16121237936811829191,PySem.W.Fast.te2060423359788512156]
  intro w
  kernel_rfl
set_option maxHeartbeats 0 in
theorem t_p12:∀ w:World,(fun os:OsState=>segRunT treeTable PySem.Challenge.pw_roundmill_k48_spelled_refused w 11 (some (.ref 6)) 1 214 (SharedT.mk (t_11 w.params) 148 (Life.mk [] [] [] 0 [] [] false #[] [] 0 false false false 0 [2000,10,10] false 0 true [] [] 0 false) ⟨[]⟩ (Drawn.mk 0 0 0 0) 367 os) (piecesOf sts_12 env cB (Pos.mk 22 0 23 8) [topFrame (Pos.mk 0 0 0 0)]))=fun os:OsState=>some (Flow.next,(SharedT.mk (t_12 w.params) 160 (Life.mk [] [] [] 0 [] [] false #[] [] 0 false false false 0 [2000,10,10] false 0 true [] [] 0 false) ⟨[]⟩ (Drawn.mk 0 0 0 0) 383 os),cB,(Pos.mk 24 0 25 8)):=by
  rewrite [PySem.W.Fast.te10110043849684766642,PySem.W.Fast.te14364793385576792824,PySem.W.Fast.te16121237936811829191,PySem.W.Fast.te2060423359788512156]
  intro w
  kernel_rfl
set_option maxHeartbeats 0 in
theorem t_p13:∀ w:World,(fun os:OsState=>segRunT treeTable PySem.Challenge.pw_roundmill_k48_spelled_refused w 11 (some (.ref 6)) 1 214 (SharedT.mk (t_12 w.params) 160 (Life.mk [] [] [] 0 [] [] false #[] [] 0 false false false 0 [2000,10,10] false 0 true [] [] 0 false) ⟨[]⟩ (Drawn.mk 0 0 0 0) 383 os) (piecesOf sts_13 env cB (Pos.mk 24 0 25 8) [topFrame (Pos.mk 0 0 0 0)]))=fun os:OsState=>some (Flow.next,(SharedT.mk (t_13 w.params) 172 (Life.mk [] [] [] 0 [] [] false #[] [] 0 false false false 0 [2000,10,10] false 0 true [] [] 0 false) ⟨[]⟩ (Drawn.mk 0 0 0 0) 399 os),cB,(Pos.mk 26 0 27 8)):=by
  rewrite [PySem.W.Fast.te10110043849684766642,PySem.W.Fast.te14364793385576792824,PySem.W.Fast.te16121237936811829191,PySem.W.Fast.te2060423359788512156]
  intro w
  kernel_rfl
set_option maxHeartbeats 0 in
theorem t_p14:∀ w:World,(fun os:OsState=>segRunT treeTable PySem.Challenge.pw_roundmill_k48_spelled_refused w 11 (some (.ref 6)) 1 214 (SharedT.mk (t_13 w.params) 172 (Life.mk [] [] [] 0 [] [] false #[] [] 0 false false false 0 [2000,10,10] false 0 true [] [] 0 false) ⟨[]⟩ (Drawn.mk 0 0 0 0) 399 os) (piecesOf sts_14 env cB (Pos.mk 26 0 27 8) [topFrame (Pos.mk 0 0 0 0)]))=fun os:OsState=>some (Flow.next,(SharedT.mk (t_14 w.params) 184 (Life.mk [] [] [] 0 [] [] false #[] [] 0 false false false 0 [2000,10,10] false 0 true [] [] 0 false) ⟨[]⟩ (Drawn.mk 0 0 0 0) 415 os),cB,(Pos.mk 28 0 29 8)):=by
  rewrite [PySem.W.Fast.te10110043849684766642,PySem.W.Fast.te14364793385576792824,PySem.W.Fast.te16121237936811829191,PySem.W.Fast.te2060423359788512156]
  intro w
  kernel_rfl
set_option maxHeartbeats 0 in
theorem t_p15:∀ w:World,(fun os:OsState=>segRunT treeTable PySem.Challenge.pw_roundmill_k48_spelled_refused w 11 (some (.ref 6)) 1 214 (SharedT.mk (t_14 w.params) 184 (Life.mk [] [] [] 0 [] [] false #[] [] 0 false false false 0 [2000,10,10] false 0 true [] [] 0 false) ⟨[]⟩ (Drawn.mk 0 0 0 0) 415 os) (piecesOf sts_15 env cB (Pos.mk 28 0 29 8) [topFrame (Pos.mk 0 0 0 0)]))=fun os:OsState=>some (Flow.next,(SharedT.mk (t_15 w.params) 196 (Life.mk [] [] [] 0 [] [] false #[] [] 0 false false false 0 [2000,10,10] false 0 true [] [] 0 false) ⟨[]⟩ (Drawn.mk 0 0 0 0) 431 os),cB,(Pos.mk 30 0 31 8)):=by
  rewrite [PySem.W.Fast.te10110043849684766642,PySem.W.Fast.te14364793385576792824,PySem.W.Fast.te16121237936811829191,PySem.W.Fast.te2060423359788512156]
  intro w
  kernel_rfl
set_option maxHeartbeats 0 in
theorem t_p16:∀ w:World,(fun os:OsState=>segRunT treeTable PySem.Challenge.pw_roundmill_k48_spelled_refused w 11 (some (.ref 6)) 1 373 (SharedT.mk (t_15 w.params) 196 (Life.mk [] [] [] 0 [] [] false #[] [] 0 false false false 0 [2000,10,10] false 0 true [] [] 0 false) ⟨[]⟩ (Drawn.mk 0 0 0 0) 431 os) (piecesOf sts_16 env cB (Pos.mk 30 0 31 8) [topFrame (Pos.mk 0 0 0 0)]))=fun os:OsState=>some (Flow.next,(SharedT.mk (t_16 w.params) 243 (Life.mk [] [] [] 0 [] [] false #[] [] 0 false false false 0 [2000,10,10] false 0 true [] [] 0 false) ⟨[]⟩ (Drawn.mk 0 0 0 0) 488 os),cB,(Pos.mk 45 0 46 29)):=by
  rewrite [PySem.W.Fast.te10110043849684766642,PySem.W.Fast.te14364793385576792824,PySem.W.Fast.te16121237936811829191,PySem.W.Fast.te2060423359788512156]
  intro w
  kernel_rfl
set_option maxHeartbeats 0 in
theorem t_p17:∀ w:World,(fun os:OsState=>segRunT treeTable PySem.Challenge.pw_roundmill_k48_spelled_refused w 11 (some (.ref 6)) 1 346 (SharedT.mk (t_16 w.params) 243 (Life.mk [] [] [] 0 [] [] false #[] [] 0 false false false 0 [2000,10,10] false 0 true [] [] 0 false) ⟨[]⟩ (Drawn.mk 0 0 0 0) 488 os) (piecesOf sts_17 env cB (Pos.mk 45 0 46 29) [topFrame (Pos.mk 0 0 0 0)]))=fun os:OsState=>some (Flow.next,(SharedT.mk (t_17 w.params) 307 (Life.mk [] [] [] 0 [] [] false #[] [] 0 false false false 0 [2000,10,10] false 0 true [] [] 0 false) ⟨[]⟩ (Drawn.mk 0 0 0 0) 584 os),cB,(Pos.mk 85 0 85 5)):=by
  rewrite [PySem.W.Fast.te10110043849684766642,PySem.W.Fast.te14364793385576792824,PySem.W.Fast.te16121237936811829191,PySem.W.Fast.te2060423359788512156]
  intro w
  kernel_rfl
set_option maxHeartbeats 0 in
theorem t_p18:∀ w:World,(fun os:OsState=>segRunT treeTable PySem.Challenge.pw_roundmill_k48_spelled_refused w 11 (some (.ref 6)) 1 397 (SharedT.mk (t_17 w.params) 307 (Life.mk [] [] [] 0 [] [] false #[] [] 0 false false false 0 [2000,10,10] false 0 true [] [] 0 false) ⟨[]⟩ (Drawn.mk 0 0 0 0) 584 os) (piecesOf sts_18 env cB (Pos.mk 85 0 85 5) [topFrame (Pos.mk 0 0 0 0)]))=fun os:OsState=>some (Flow.next,(SharedT.mk (t_18 w.params) 363 (Life.mk [] [] [] 0 [] [] false #[] [] 0 false false false 0 [2000,10,10] false 0 true [] [] 0 false) ⟨[]⟩ (Drawn.mk 0 0 0 0) 664 os),cB,(Pos.mk 114 0 124 69)):=by
  rewrite [PySem.W.Fast.te10110043849684766642,PySem.W.Fast.te14364793385576792824,PySem.W.Fast.te16121237936811829191,PySem.W.Fast.te2060423359788512156]
  intro w
  kernel_rfl
set_option maxHeartbeats 0 in
theorem t_p19:∀ w:World,(fun os:OsState=>segRunT treeTable PySem.Challenge.pw_roundmill_k48_spelled_refused w 11 (some (.ref 6)) 1 384 (SharedT.mk (t_18 w.params) 363 (Life.mk [] [] [] 0 [] [] false #[] [] 0 false false false 0 [2000,10,10] false 0 true [] [] 0 false) ⟨[]⟩ (Drawn.mk 0 0 0 0) 664 os) (piecesOf sts_19 env cB (Pos.mk 114 0 124 69) [topFrame (Pos.mk 0 0 0 0)]))=fun os:OsState=>some (Flow.next,(SharedT.mk (t_19 w.params) 438 (Life.mk [] [] [] 0 [] [] false #[] [] 0 false false false 0 [2000,10,10] false 0 true [] [] 0 false) ⟨[]⟩ (Drawn.mk 0 0 0 0) 772 os),cB,(Pos.mk 185 0 188 12)):=by
  rewrite [PySem.W.Fast.te10110043849684766642,PySem.W.Fast.te14364793385576792824,PySem.W.Fast.te16121237936811829191,PySem.W.Fast.te2060423359788512156]
  intro w
  kernel_rfl
set_option maxHeartbeats 0 in
theorem t_p20:∀ w:World,(fun os:OsState=>segRunT treeTable PySem.Challenge.pw_roundmill_k48_spelled_refused w 11 (some (.ref 6)) 1 396 (SharedT.mk (t_19 w.params) 438 (Life.mk [] [] [] 0 [] [] false #[] [] 0 false false false 0 [2000,10,10] false 0 true [] [] 0 false) ⟨[]⟩ (Drawn.mk 0 0 0 0) 772 os) (piecesOf sts_20 env cB (Pos.mk 185 0 188 12) [topFrame (Pos.mk 0 0 0 0)]))=fun os:OsState=>some (Flow.next,(SharedT.mk (t_20 w.params) 529 (Life.mk [] [] [] 0 [] [] false #[] [] 0 false false false 0 [2000,10,10] false 0 true [] [] 0 false) ⟨[]⟩ (Drawn.mk 0 0 0 0) 881 os),cB,(Pos.mk 276 0 281 99)):=by
  rewrite [PySem.W.Fast.te10110043849684766642,PySem.W.Fast.te14364793385576792824,PySem.W.Fast.te16121237936811829191,PySem.W.Fast.te2060423359788512156]
  intro w
  kernel_rfl
set_option maxHeartbeats 0 in
theorem t_p21:∀ w:World,(fun os:OsState=>segRunT treeTable PySem.Challenge.pw_roundmill_k48_spelled_refused w 11 (some (.ref 6)) 1 67 (SharedT.mk (t_20 w.params) 529 (Life.mk [] [] [] 0 [] [] false #[] [] 0 false false false 0 [2000,10,10] false 0 true [] [] 0 false) ⟨[]⟩ (Drawn.mk 0 0 0 0) 881 os) (piecesOf sts_21 env cB (Pos.mk 276 0 281 99) [topFrame (Pos.mk 0 0 0 0)]))=fun os:OsState=>some (Flow.next,(SharedT.mk (t_21 w.params) 543 (Life.mk [] [] [] 0 [] [] false #[] [] 0 false false false 0 [2000,10,10] false 0 true [] [] 0 false) ⟨[]⟩ (Drawn.mk 0 0 0 0) 903 os),cB,(Pos.mk 292 0 315 123)):=by
  rewrite [PySem.W.Fast.te10110043849684766642,PySem.W.Fast.te14364793385576792824,PySem.W.Fast.te16121237936811829191,PySem.W.Fast.te2060423359788512156]
  intro w
  kernel_rfl
set_option maxHeartbeats 0 in
theorem t_fin:∀ w:World,(fun os:OsState=>topRun treeTable PySem.Challenge.pw_roundmill_k48_spelled_refused w 11 (some (.ref 6)) 2 (SharedT.abs (SharedT.mk (t_21 w.params) 543 (Life.mk [] [] [] 0 [] [] false #[] [] 0 false false false 0 [2000,10,10] false 0 true [] [] 0 false) ⟨[]⟩ (Drawn.mk 0 0 0 0) 903 os)) (Thread.mk (doneF Flow.next) cB (Pos.mk 292 0 315 123) [topFrame (Pos.mk 0 0 0 0)]))=fun os:OsState=>some (Shared.mk (hf w.params) ⟨[]⟩ (Drawn.mk 0 0 0 0) 903 os):=by
  rewrite [PySem.W.Fast.te14082659384304107361,PySem.W.Fast.te14364793385576792824,PySem.W.Fast.te16121237936811829191,PySem.W.Fast.te2060423359788512156]
  intro w
  kernel_rfl
set_option maxHeartbeats 0 in
theorem t_size:∀ w:World,((boot_heap w.params).isNs mainGlobals&&(Array.mk []:Array GenState).size == 0,(boot_heap w.params).objs.size,(boot_heap w.params).nsMap mainGlobals "__annotations__")=(true,11,(some (.ref 6))):=by
  rewrite [PySem.W.Fast.te8920871248978507458]
  intro w
  kernel_rfl
set_option maxHeartbeats 0 in
theorem l_1:∀ w:World,(fun os:OsState=>staticsOk (importedModules (Program.main PySem.Challenge.pw_roundmill_k48_spelled_refused).body) (boot_heap w.params) (hf w.params)&&namesBound PySem.Challenge.pw_roundmill_k48_spelled_refused (hf w.params)&&gensDone (Shared.mk (hf w.params) ⟨[]⟩ (Drawn.mk 0 0 0 0) 903 os)&&laidKept (boot_heap w.params) (hf w.params))=fun os:OsState=>true:=by
  rewrite [PySem.W.Fast.te5923862056798008813,PySem.W.Fast.te16121237936811829191]
  intro w
  kernel_rfl
set_option maxHeartbeats 0 in
theorem l_s0:∀ w:World,(fun os:OsState=>(openSeen q [] (importedModules (Program.main PySem.Challenge.pw_roundmill_k48_spelled_refused).body) Xt true (Shared.mk (hf w.params) ⟨[]⟩ (Drawn.mk 0 0 0 0) 903 os)).1)=fun os:OsState=>(openGood q []).1:=by
  unfold openSeen openGood
  dsimp only
  rewrite [PySem.W.Fast.te5160383126252970620,PySem.W.R.mapR_eq,PySem.W.Fast.te3399658132070893891,PySem.W.Fast.te5991557255702980513]
  intro w
  kernel_rfl
set_option maxHeartbeats 0 in
theorem l_s1:∀ w:World,(fun os:OsState=>(openSeen q [] (importedModules (Program.main PySem.Challenge.pw_roundmill_k48_spelled_refused).body) Xt true (Shared.mk (hf w.params) ⟨[]⟩ (Drawn.mk 0 0 0 0) 903 os)).2.1)=fun os:OsState=>(openGood q []).2.1:=by
  unfold openSeen openGood
  dsimp only
  intro w
  kernel_rfl
set_option maxHeartbeats 0 in
theorem l_s2:∀ w:World,(fun os:OsState=>(openSeen q [] (importedModules (Program.main PySem.Challenge.pw_roundmill_k48_spelled_refused).body) Xt true (Shared.mk (hf w.params) ⟨[]⟩ (Drawn.mk 0 0 0 0) 903 os)).2.2.1)=fun os:OsState=>(openGood q []).2.2.1:=by
  unfold openSeen openGood
  dsimp only
  rewrite [PySem.W.Fast.te10880121769531294198,PySem.W.Fast.te821141287760084731,PySem.W.R.mapR_eq,PySem.W.Fast.te3399658132070893891,PySem.W.Fast.te7409074990110511671,PySem.W.Fast.te13664370479719496447,PySem.W.Fast.te14722251495701143533,PySem.W.Fast.te5923862056798008813,PySem.W.Fast.te16121237936811829191,PySem.W.Fast.te10994771534591457954,PySem.W.Fast.te18408535023408442824]
  intro w
  kernel_rfl
set_option maxHeartbeats 0 in
theorem l_s3:∀ w:World,(fun os:OsState=>(openSeen q [] (importedModules (Program.main PySem.Challenge.pw_roundmill_k48_spelled_refused).body) Xt true (Shared.mk (hf w.params) ⟨[]⟩ (Drawn.mk 0 0 0 0) 903 os)).2.2.2.1)=fun os:OsState=>(openGood q []).2.2.2.1:=by
  unfold openSeen openGood
  dsimp only
  rewrite [PySem.W.Fast.te479339242167458305]
  intro w
  kernel_rfl
set_option maxHeartbeats 0 in
theorem l_s4:∀ w:World,(fun os:OsState=>(openSeen q [] (importedModules (Program.main PySem.Challenge.pw_roundmill_k48_spelled_refused).body) Xt true (Shared.mk (hf w.params) ⟨[]⟩ (Drawn.mk 0 0 0 0) 903 os)).2.2.2.2.1)=fun os:OsState=>(openGood q []).2.2.2.2.1:=by
  unfold openSeen openGood
  dsimp only
  rewrite [PySem.W.Fast.te16090120013241838585,PySem.W.Fast.te3247288618530077131]
  intro w
  kernel_rfl
set_option maxHeartbeats 0 in
theorem l_s5:∀ w:World,(fun os:OsState=>(openSeen q [] (importedModules (Program.main PySem.Challenge.pw_roundmill_k48_spelled_refused).body) Xt true (Shared.mk (hf w.params) ⟨[]⟩ (Drawn.mk 0 0 0 0) 903 os)).2.2.2.2.2.1)=fun os:OsState=>(openGood q []).2.2.2.2.2.1:=by
  unfold openSeen openGood
  dsimp only
  rewrite [PySem.W.Fast.te2386780881361962483,PySem.W.Fast.te821141287760084731]
  intro w
  kernel_rfl
set_option maxHeartbeats 0 in
theorem l_s6:∀ w:World,(fun os:OsState=>(openSeen q [] (importedModules (Program.main PySem.Challenge.pw_roundmill_k48_spelled_refused).body) Xt true (Shared.mk (hf w.params) ⟨[]⟩ (Drawn.mk 0 0 0 0) 903 os)).2.2.2.2.2.2.1)=fun os:OsState=>(openGood q []).2.2.2.2.2.2.1:=by
  unfold openSeen openGood
  dsimp only
  rewrite [PySem.W.Fast.te11698064438423848299]
  intro w
  kernel_rfl
set_option maxHeartbeats 0 in
theorem l_s7:∀ w:World,(fun os:OsState=>(openSeen q [] (importedModules (Program.main PySem.Challenge.pw_roundmill_k48_spelled_refused).body) Xt true (Shared.mk (hf w.params) ⟨[]⟩ (Drawn.mk 0 0 0 0) 903 os)).2.2.2.2.2.2.2.1)=fun os:OsState=>(openGood q []).2.2.2.2.2.2.2.1:=by
  unfold openSeen openGood
  dsimp only
  rewrite [PySem.W.Fast.te7317090234206586261]
  intro w
  kernel_rfl
set_option maxHeartbeats 0 in
theorem l_s8:∀ w:World,(fun os:OsState=>(openSeen q [] (importedModules (Program.main PySem.Challenge.pw_roundmill_k48_spelled_refused).body) Xt true (Shared.mk (hf w.params) ⟨[]⟩ (Drawn.mk 0 0 0 0) 903 os)).2.2.2.2.2.2.2.2)=fun os:OsState=>(openGood q []).2.2.2.2.2.2.2.2:=by
  unfold openSeen openGood
  dsimp only
  rewrite [PySem.W.Fast.te7369524293546568484]
  intro w
  kernel_rfl
set_option maxHeartbeats 0 in
theorem l_k:∀ w:World,(fun os:OsState=>as.map (Shared.heap (Shared.mk (hf w.params) ⟨[]⟩ (Drawn.mk 0 0 0 0) 903 os)).get?)=fun os:OsState=>(K w.params).map fun x=>some x.2:=by
  rewrite [PySem.W.R.mapR_eq]
  intro w
  kernel_rfl
theorem h_b:behindTheImports PySem.Challenge.pw_roundmill_k48_spelled_refused=sts_1++(sts_2++(sts_3++(sts_4++(sts_5++(sts_6++(sts_7++(sts_8++(sts_9++(sts_10++(sts_11++(sts_12++(sts_13++(sts_14++(sts_15++(sts_16++(sts_17++(sts_18++(sts_19++(sts_20++(sts_21++[])))))))))))))))))))):=by kernel_rfl
theorem run_b (w:World) (os:OsState):topRun treeTable PySem.Challenge.pw_roundmill_k48_spelled_refused w 11 (some (.ref 6)) (196+(214+(214+(214+(214+(214+(214+(214+(214+(214+(214+(214+(214+(214+(214+(373+(346+(397+(384+(396+(67+(2)))))))))))))))))))))) (SharedT.abs (SharedT.mk (t_0 w.params) 15 (Life.mk [] [] [] 0 [] [] false #[] [] 0 false false false 0 [2000,10,10] false 0 true [] [] 0 false) ⟨[]⟩ (Drawn.mk 0 0 0 0) 187 os)) (restOf (sts_1++(sts_2++(sts_3++(sts_4++(sts_5++(sts_6++(sts_7++(sts_8++(sts_9++(sts_10++(sts_11++(sts_12++(sts_13++(sts_14++(sts_15++(sts_16++(sts_17++(sts_18++(sts_19++(sts_20++(sts_21++[]))))))))))))))))))))) env cB (Pos.mk 0 0 0 0) [topFrame (Pos.mk 0 0 0 0)])=some (Shared.mk (hf w.params) ⟨[]⟩ (Drawn.mk 0 0 0 0) 903 os) :=
  piece_app (segRun_of (congrFun (t_p1 w) os)) (piece_app (segRun_of (congrFun (t_p2 w) os)) (piece_app (segRun_of (congrFun (t_p3 w) os)) (piece_app (segRun_of (congrFun (t_p4 w) os)) (piece_app (segRun_of (congrFun (t_p5 w) os)) (piece_app (segRun_of (congrFun (t_p6 w) os)) (piece_app (segRun_of (congrFun (t_p7 w) os)) (piece_app (segRun_of (congrFun (t_p8 w) os)) (piece_app (segRun_of (congrFun (t_p9 w) os)) (piece_app (segRun_of (congrFun (t_p10 w) os)) (piece_app (segRun_of (congrFun (t_p11 w) os)) (piece_app (segRun_of (congrFun (t_p12 w) os)) (piece_app (segRun_of (congrFun (t_p13 w) os)) (piece_app (segRun_of (congrFun (t_p14 w) os)) (piece_app (segRun_of (congrFun (t_p15 w) os)) (piece_app (segRun_of (congrFun (t_p16 w) os)) (piece_app (segRun_of (congrFun (t_p17 w) os)) (piece_app (segRun_of (congrFun (t_p18 w) os)) (piece_app (segRun_of (congrFun (t_p19 w) os)) (piece_app (segRun_of (congrFun (t_p20 w) os)) (piece_app (segRun_of (congrFun (t_p21 w) os)) (piece_nil (congrFun (t_fin w) os))))))))))))))))))))))
theorem run (w:World) (os:OsState):topRun treeTable PySem.Challenge.pw_roundmill_k48_spelled_refused w 11 (some (.ref 6)) (12+(1+(196+(214+(214+(214+(214+(214+(214+(214+(214+(214+(214+(214+(214+(214+(214+(373+(346+(397+(384+(396+(67+(2)))))))))))))))))))))))) (Shared.mk (boot_heap w.params) (Array.mk []) boot_drawn boot_toks os) (topStub PySem.Challenge.pw_roundmill_k48_spelled_refused)=some (Shared.mk (hf w.params) ⟨[]⟩ (Drawn.mk 0 0 0 0) 903 os) :=
  go_top (congrFun (t_pre w) os) (piece_block (congrFun (t_block w) os) ((congrArg (fun b=>topRun treeTable PySem.Challenge.pw_roundmill_k48_spelled_refused w 11 (some (.ref 6)) (196+(214+(214+(214+(214+(214+(214+(214+(214+(214+(214+(214+(214+(214+(214+(373+(346+(397+(384+(396+(67+(2)))))))))))))))))))))) (SharedT.abs (SharedT.mk (t_0 w.params) 15 (Life.mk [] [] [] 0 [] [] false #[] [] 0 false false false 0 [2000,10,10] false 0 true [] [] 0 false) ⟨[]⟩ (Drawn.mk 0 0 0 0) 187 os)) (restOf b env cB (Pos.mk 0 0 0 0) [topFrame (Pos.mk 0 0 0 0)])) h_b).trans (run_b w os)))
theorem opened:∀ w:World,(fencedOpening treeTable PySem.Challenge.pw_roundmill_k48_spelled_refused w 10394).map (fun s=>(s.heap,s.gens,s.drawn,s.toks))=some (boot_heap w.params,Array.mk [],boot_drawn,boot_toks):=boot_open (by kernel_rfl) (by decide) (fun s=>by kernel_rfl)
theorem he:∀ P,as=(K P).map (·.1):=fun _=>by kernel_rfl
theorem left:LeftO PySem.Challenge.pw_roundmill_k48_spelled_refused q [] Xt (kHook K as he).obs (kHook K as he).val 10394 :=
  LeftO.of_pieces opened t_size run (by decide) fun w=>funext fun os=>Prod.ext (congrFun (l_1 w) os) (Prod.ext (Prod.ext (congrFun (l_s0 w) os) (Prod.ext (congrFun (l_s1 w) os) (Prod.ext (congrFun (l_s2 w) os) (Prod.ext (congrFun (l_s3 w) os) (Prod.ext (congrFun (l_s4 w) os) (Prod.ext (congrFun (l_s5 w) os) (Prod.ext (congrFun (l_s6 w) os) (Prod.ext (congrFun (l_s7 w) os) (congrFun (l_s8 w) os))))))))) (congrFun (l_k w) os))
end H
namespace EV
open PySem (Str)
theorem nb_le {i:Int} {k:Nat}:nb i≤k↔i.natAbs<2^k:=by
  unfold nb
  by_cases h:i=0
  · subst h
    simp
    exact Nat.two_pow_pos k
  · rw [if_neg h]
    have h0:i.natAbs≠0:=by omega
    rw [← Nat.log2_lt h0]
    omega
theorem nb_le_self (i:Int):i.natAbs<2^nb i:=nb_le.mp (Nat.le_refl _)
theorem nb_mono {i j:Int} (h:i.natAbs≤j.natAbs):nb i≤nb j:=nb_le.mpr (Nat.lt_of_le_of_lt h (nb_le_self j))
theorem natAbs_div {i j:Int} (h:0<j):(i / j).natAbs≤i.natAbs:=by
  have h3:i=j*(i / j)+i%j:=(Int.mul_ediv_add_emod i j).symm
  have h1:=Int.emod_nonneg i (by omega:j≠0)
  have h2:=Int.emod_lt_of_pos i h
  by_cases hi:0≤i
  · have:=Int.ediv_nonneg hi (by omega:(0:Int)≤j)
    have:=Int.ediv_le_self j hi
    omega
  · have h4:i / j<0:=Int.ediv_neg_of_neg_of_pos (by omega) h
    have h5:(j - 1)*(i / j)≤(j - 1)*(-1):=Int.mul_le_mul_of_nonneg_left (by omega) (by omega)
    rw [Int.sub_mul,Int.one_mul] at h5
    generalize j*(i / j)=z at *
    omega
theorem nb_div {i j:Int} {a:Nat} (h:0<j) (hi:nb i≤a):nb (i / j)≤a:=Nat.le_trans (nb_mono (natAbs_div h)) hi
theorem MulOk.of {i j:Int} {a b:Nat} (hi:nb i≤a) (hj:nb j≤b) (h:a+b≤134217728):MulOk i j:=by
  unfold MulOk
  omega
theorem DivOk.small {i j:Int} (h:0<j) (hj:nb j≤9000):DivOk i j:=⟨h,.inl hj⟩
theorem oMul_ok {i j:Int} (h:MulOk i j):oMul (.int i) (.int j)=.ok (.int (i*j)):=by unfold oMul;simp only;rw [if_pos h]
theorem oDiv_ok {i j:Int} (h:DivOk i j):oDiv (.int i) (.int j)=.ok (.int (i / j)):=by unfold oDiv;simp only;rw [if_pos h]
theorem oMod_ok {i j:Int} (h:0<j):oMod (.int i) (.int j)=.ok (.int (i%j)):=by unfold oMod;simp only;rw [if_pos h]
theorem oDiv_lit {i j:Int} (h:0<j) (h2:j<18446744073709551616):oDiv (.int i) (.int j)=.ok (.int (i / j)):=oDiv_ok (DivOk.small h (by
  have:nb j≤64:=nb_le.mpr (by omega)
  omega))
theorem oShr_ok {i j:Int} (h:0≤j):oShr (.int i) (.int j)=.ok (.int (i / pw j)):=by unfold oShr;simp only;rw [if_pos h]
theorem oPow_ok {i j:Int} (h:0≤j) (h2:(nb i:Int)*j≤134217728):oPow (.int i) (.int j)=.ok (.int (i^j.toNat)):=by unfold oPow;simp only;rw [if_pos ⟨h,h2⟩]
section
variable {α β:Type} {d d':D} {δ:Dt} {C:String} {f:α→R β} {c:Option D}
theorem bind_ok (a:α):(R.ok a).bind f=f a:=rfl
theorem bind_ex:(R.ex C:R α).bind f=.ex C:=rfl
theorem bind_bad:(R.bad:R α).bind f=.bad:=rfl
theorem bind_ite {p:Prop} [Decidable p] (x y:R α):(if p then x else y).bind f=if p then x.bind f else y.bind f:=by split<;>rfl
theorem then_nx {s:S}:(O.nx δ).then s=s δ:=rfl
theorem then_rt {s:S}:(O.rt d).then s=.rt d:=rfl
theorem then_ex {s:S}:(O.ex C δ).then s=.ex C δ:=rfl
theorem then_mk {s:S}:(O.mk C δ).then s=.mk C δ:=rfl
theorem then_bk {s:S}:(O.bk δ).then s=.bk δ:=rfl
theorem then_ct {s:S}:(O.ct δ).then s=.ct δ:=rfl
theorem then_bad {s:S}:(O.bad).then s=.bad:=rfl
theorem then_ite {p:Prop} [Decidable p] (x y:O) {s:S}:(if p then x else y).then s=if p then x.then s else y.then s:=by split<;>rfl
theorem res_rt:(O.rt d).res=.ok d:=rfl
theorem res_nx:(O.nx δ).res=.ok .non:=rfl
theorem res_ex:(O.ex C δ).res=.ex C:=rfl
theorem res_mk:(O.mk C δ).res=.ex C:=rfl
theorem res_bad:O.bad.res=.bad:=rfl
theorem res_ite {p:Prop} [Decidable p] (x y:O):(if p then x else y).res=if p then x.res else y.res:=by split<;>rfl
theorem asg_ok {i:Nat}:asg i δ (.ok d)=.nx (δ.set i (some d)):=rfl
theorem asg_ex {i:Nat}:asg i δ (.ex C)=.ex C (noOwn δ):=rfl
theorem asg_ite {i:Nat} {p:Prop} [Decidable p] (x y:R D):asg i δ (if p then x else y)=if p then asg i δ x else asg i δ y:=by split<;>rfl
theorem xpr_ok:xpr δ (.ok d)=.nx δ:=rfl
theorem xpr_ex:xpr δ (.ex C)=.ex C (noOwn δ):=rfl
theorem xpr_ite {p:Prop} [Decidable p] (x y:R D):xpr δ (if p then x else y)=if p then xpr δ x else xpr δ y:=by split<;>rfl
theorem rtn_ok:rtn δ (.ok d)=.rt d:=rfl
theorem rtn_ex:rtn δ (.ex C)=.ex C (noOwn δ):=rfl
theorem rtn_ite {p:Prop} [Decidable p] (x y:R D):rtn δ (if p then x else y)=if p then rtn δ x else rtn δ y:=by split<;>rfl
theorem ifO_bl {b:Bool} {x y:O}:ifO δ (.ok (.bl b)) x y=if b=true then x else y:=by cases b<;>rfl
theorem ifO_ex {x y:O}:ifO δ (.ex C) x y=.ex C (noOwn δ):=rfl
theorem ifO_ite {p:Prop} [Decidable p] (u v:R D) {x y:O}:ifO δ (if p then u else v) x y=if p then ifO δ u x y else ifO δ v x y:=by split<;>rfl
theorem truth_bl {b:Bool} {x y:R β}:truth (.bl b) x y=if b=true then x else y:=by cases b<;>rfl
theorem ite_bl {p:Prop} [Decidable p] {a b:Bool}:(if p then R.ok (D.bl a) else R.ok (D.bl b))=R.ok (D.bl (if p then a else b)):=by split<;>rfl
theorem ite_int {p:Prop} [Decidable p] {a b:Int}:(if p then R.ok (D.int a) else R.ok (D.int b))=R.ok (D.int (if p then a else b)):=by split<;>rfl
theorem ite_b1 {p:Prop} [Decidable p] {b:Bool}:((if p then b else false)=true)=(p∧b=true):=by by_cases h:p<;>simp [h]
theorem ite_b2 {p:Prop} [Decidable p] {b:Bool}:((if p then true else b)=true)=(p∨b=true):=by by_cases h:p<;>simp [h]
theorem ite_b3 {p:Prop} [Decidable p]:((if p then false else true)=true)=¬ p:=by by_cases h:p<;>simp [h]
theorem var_0n:var 0 (none::δ)=.bad:=rfl
theorem var_int {i:Int}:var 0 (some (.int i)::δ)=.ok (.int i):=rfl
theorem var_bl {b:Bool}:var 0 (some (.bl b)::δ)=.ok (.bl b):=rfl
theorem var_str {x:PySem.Str}:var 0 (some (.str x)::δ)=.ok (.str x):=rfl
theorem var_non:var 0 (some .non::δ)=.ok .non:=rfl
theorem var_tup {ds:List D}:var 0 (some (.tup ds)::δ)=.ok (.tup ds):=rfl
theorem var_lst {ds:List D}:var 0 (some (.lst ds)::δ)=.ok (.lst ds):=rfl
theorem var_own {ds:List D}:var 0 (some (.own ds)::δ)=.bad:=rfl
theorem var_exc:var 0 (some (.exc C)::δ)=.ok (.exc C):=rfl
theorem var_cls:var 0 (some (.cls C)::δ)=.ok (.cls C):=rfl
theorem var_ins {fs:List (String×D)}:var 0 (some (.ins C fs)::δ)=.ok (.ins C fs):=rfl
theorem var_succ {n:Nat}:var (n+1) (c::δ)=var n δ:=rfl
theorem evs_nil:evs [] δ=.ok []:=rfl
theorem evs_cons {e:E} {es:List E}:evs (e::es) δ=(e δ).bind fun d=>(evs es δ).bind fun ds=>.ok (d::ds):=rfl
theorem oAdd_int {i j:Int}:oAdd (.int i) (.int j)=.ok (.int (i+j)):=rfl
theorem oSub_int {i j:Int}:oSub (.int i) (.int j)=.ok (.int (i - j)):=rfl
theorem oNeg_int {i:Int}:oNeg (.int i)=.ok (.int (-i)):=rfl
theorem oLt_int {i j:Int}:oLt (.int i) (.int j)=.ok (.bl (decide (i<j))):=rfl
theorem oLe_int {i j:Int}:oLe (.int i) (.int j)=.ok (.bl (decide (i≤j))):=rfl
theorem oGt_int {i j:Int}:oGt (.int i) (.int j)=.ok (.bl (decide (j<i))):=rfl
theorem oGe_int {i j:Int}:oGe (.int i) (.int j)=.ok (.bl (decide (j≤i))):=rfl
theorem oEq_int {i j:Int}:oEq (.int i) (.int j)=.ok (.bl (decide (i=j))):=by simp [oEq,D.cmp,D.sc,D.beq,Bool.beq_eq_decide_eq]
theorem oNe_int {i j:Int}:oNe (.int i) (.int j)=.ok (.bl (decide (i≠j))):=by simp [oNe,D.cmp,D.sc,D.beq,Bool.beq_eq_decide_eq]
theorem oEq_str {i j:PySem.Str}:oEq (.str i) (.str j)=.ok (.bl (decide (i=j))):=by simp [oEq,D.cmp,D.sc,D.beq,Bool.beq_eq_decide_eq]
theorem oNe_str {i j:PySem.Str}:oNe (.str i) (.str j)=.ok (.bl (decide (i≠j))):=by simp [oNe,D.cmp,D.sc,D.beq,Bool.beq_eq_decide_eq]
theorem oEq_bl {i j:Bool}:oEq (.bl i) (.bl j)=.ok (.bl (decide (i=j))):=by simp [oEq,D.cmp,D.sc,D.beq,Bool.beq_eq_decide_eq]
theorem oIsN_non:oIsN .non=.ok (.bl true):=rfl
theorem oNotN_non:oNotN .non=.ok (.bl false):=rfl
theorem oIsN_exc:oIsN (.exc C)=.ok (.bl false):=rfl
theorem oNotN_exc:oNotN (.exc C)=.ok (.bl true):=rfl
theorem oIsN_int {i:Int}:oIsN (.int i)=.ok (.bl false):=rfl
theorem oNotN_int {i:Int}:oNotN (.int i)=.ok (.bl true):=rfl
theorem bMax_int {i j:Int}:bMax [.int i,.int j]=.ok (.int (max i j)):=by
  unfold bMax;simp only;congr 2;omega
theorem bMin_int {i j:Int}:bMin [.int i,.int j]=.ok (.int (min i j)):=by
  unfold bMin;simp only;congr 2;omega
theorem bAbs_int {i:Int}:bAbs [.int i]=.ok (.int (if i<0 then -i else i)):=rfl
theorem bLen_lst {ds:List D}:bLen [.lst ds]=.ok (.int ds.length):=rfl
theorem bLen_tup {ds:List D}:bLen [.tup ds]=.ok (.int ds.length):=rfl
theorem bInt_int {i:Int}:bInt [.int i]=.ok (.int i):=rfl
theorem bInt_bl {k:Bool}:bInt [.bl k]=.ok (.int (if k then 1 else 0)):=rfl
theorem bBitLen_int {i:Int}:bBitLen [.int i]=.ok (.int (nb i)):=rfl
theorem bList_lst {ds:List D}:bList [.lst ds]=.ok (.lst ds):=rfl
theorem bList_tup {ds:List D}:bList [.tup ds]=.ok (.lst ds):=rfl
theorem isi_int_int {i:Int}:bIsi [.int i,.ty "int"]=.ok (.bl true):=by simp [bIsi]
theorem isi_int_bool {i:Int}:bIsi [.int i,.ty "bool"]=.ok (.bl false):=by simp [bIsi]
theorem isi_tup_tup {ds:List D}:bIsi [.tup ds,.ty "tuple"]=.ok (.bl true):=by simp [bIsi]
theorem isi_lst_lst {ds:List D}:bIsi [.lst ds,.ty "list"]=.ok (.bl true):=by simp [bIsi]
theorem isi_exc_ve:bIsi [.exc C,.ty "ValueError"]=if excNames.contains C then .ok (.bl true) else .bad:=by simp [bIsi]
theorem isi_exc_cls {B:String}:bIsi [.exc C,.cls B]=if excNames.contains C&&excNames.contains B then .ok (.bl (C == B||B == "MillError")) else .bad:=rfl
theorem isi_non_cls {B:String}:bIsi [.non,.cls B]=if excNames.contains B then .ok (.bl false) else .bad:=rfl
theorem trn_nx {k:S}:trn (.nx δ) k=k δ:=rfl
theorem trn_ct {k:S}:trn (.ct δ) k=k δ:=rfl
theorem trn_bk {k:S}:trn (.bk δ) k=.nx δ:=rfl
theorem trn_rt {k:S}:trn (.rt d) k=.rt d:=rfl
theorem trn_ex {k:S}:trn (.ex C δ) k=.ex C δ:=rfl
theorem trn_mk {k:S}:trn (.mk C δ) k=.mk C δ:=rfl
theorem trn_ite {p:Prop} [Decidable p] (x y:O) {k:S}:trn (if p then x else y) k=if p then trn x k else trn y k:=by split<;>rfl
theorem forL_cons {i:Nat} {b:S} {ds:List D}:forL i b (d::ds) δ=trn (b (δ.set i (some d))) (forL i b ds):=rfl
theorem ovL_ok {ds:List D} {k:List D→O}:ovL δ (.ok (.lst ds)) k=k ds:=rfl
theorem ovT_ok {ds:List D} {k:List D→O}:ovT δ (.ok (.tup ds)) k=k ds:=rfl
theorem tryO_nx {B:String} {i:Nat} {s:S}:tryO (.nx δ) B i s=.nx δ:=rfl
theorem tryO_ex {B:String} {i:Nat} {s:S}:tryO (.ex C δ) B i s=if exSub C B then forget i (s ((noOwn δ).set i (some (.exc C)))) else .bad:=rfl
theorem tryO_ite {p:Prop} [Decidable p] (x y:O) {B:String} {i:Nat} {s:S}:tryO (if p then x else y) B i s=if p then tryO x B i s else tryO y B i s:=by split<;>rfl
theorem forget_nx {i:Nat}:forget i (.nx δ)=.nx (δ.set i none):=rfl
theorem noOwn_nil:noOwn []=[]:=rfl
theorem noOwn_none:noOwn (none::δ)=none::noOwn δ:=rfl
theorem noOwn_int {i:Int}:noOwn (some (.int i)::δ)=some (.int i)::noOwn δ:=rfl
theorem noOwn_bl {i:Bool}:noOwn (some (.bl i)::δ)=some (.bl i)::noOwn δ:=rfl
theorem noOwn_str {i:PySem.Str}:noOwn (some (.str i)::δ)=some (.str i)::noOwn δ:=rfl
theorem noOwn_non:noOwn (some .non::δ)=some .non::noOwn δ:=rfl
theorem noOwn_tup {ds:List D}:noOwn (some (.tup ds)::δ)=some (.tup ds)::noOwn δ:=rfl
theorem noOwn_lst {ds:List D}:noOwn (some (.lst ds)::δ)=some (.lst ds)::noOwn δ:=rfl
theorem noOwn_exc:noOwn (some (.exc C)::δ)=some (.exc C)::noOwn δ:=rfl
theorem exSub_mill {C:String}:exSub C "MillError"=excNames.contains C:=by simp [exSub]
end
theorem ix_tup {ds:List D} {k:Nat} {d:D} (h:ds[k]? = some d):oIx (.tup ds) (.int k)=.ok d:=by
  obtain ⟨hk,he⟩:=List.getElem?_eq_some_iff.mp h
  unfold oIx ixN
  simp [he,hk]
theorem ix_lst {ds:List D} {k:Nat} {d:D} (h:ds[k]? = some d):oIx (.lst ds) (.int k)=.ok d:=by
  obtain ⟨hk,he⟩:=List.getElem?_eq_some_iff.mp h
  unfold oIx ixN
  simp [he,hk]
section
variable {a b c d e:D} {r:List D}
theorem ix0:oIx (.tup (a::r)) (.int 0)=.ok a:=ix_tup (k:=0) rfl
theorem ix1:oIx (.tup (a::b::r)) (.int 1)=.ok b:=ix_tup (k:=1) rfl
theorem ix2:oIx (.tup (a::b::c::r)) (.int 2)=.ok c:=ix_tup (k:=2) rfl
theorem ix3:oIx (.tup (a::b::c::d::r)) (.int 3)=.ok d:=ix_tup (k:=3) rfl
theorem ixl0:oIx (.lst (a::r)) (.int 0)=.ok a:=ix_lst (k:=0) rfl
theorem ixl1:oIx (.lst (a::b::r)) (.int 1)=.ok b:=ix_lst (k:=1) rfl
theorem ixl2:oIx (.lst (a::b::c::r)) (.int 2)=.ok c:=ix_lst (k:=2) rfl
end
theorem fn_0 {m:Nat} {gg:S}:fn 0 m gg []=(gg (List.replicate m none)).res:=rfl
theorem fn_1 {m:Nat} {gg:S} {a:D}:fn 1 m gg [a]=(gg (some a::List.replicate (m - 1) none)).res:=rfl
theorem fn_2 {m:Nat} {gg:S} {a b:D}:fn 2 m gg [a,b]=(gg (some a::some b::List.replicate (m - 2) none)).res:=rfl
theorem fn_3 {m:Nat} {gg:S} {a b c:D}:fn 3 m gg [a,b,c]=(gg (some a::some b::some c::List.replicate (m - 3) none)).res:=rfl
theorem fn_4 {m:Nat} {gg:S} {a b c d:D}:fn 4 m gg [a,b,c,d]=(gg (some a::some b::some c::some d::List.replicate (m - 4) none)).res:=rfl
theorem fn_5 {m:Nat} {gg:S} {a b c d e:D}:fn 5 m gg [a,b,c,d,e]=(gg (some a::some b::some c::some d::some e::List.replicate (m - 5) none)).res:=rfl
theorem fn_6 {m:Nat} {gg:S} {a b c d e f:D}:fn 6 m gg [a,b,c,d,e,f]=(gg (some a::some b::some c::some d::some e::some f::List.replicate (m - 6) none)).res:=rfl
theorem fn_7 {m:Nat} {gg:S} {a b c d e f g:D}:fn 7 m gg [a,b,c,d,e,f,g]=(gg (some a::some b::some c::some d::some e::some f::some g::List.replicate (m - 7) none)).res:=rfl
theorem fn_8 {m:Nat} {gg:S} {a b c d e f g h:D}:fn 8 m gg [a,b,c,d,e,f,g,h]=(gg (some a::some b::some c::some d::some e::some f::some g::some h::List.replicate (m - 8) none)).res:=rfl
section
variable {α β:Type} {a:α} {l:List α} {n:Nat} {p:Prop} {x y:α}
theorem z_len_cons:(a::l).length=l.length+1:=rfl
theorem z_len_nil:([]:List α).length=0:=rfl
theorem z_len_map {f:α→β}:(l.map f).length=l.length:=List.length_map f
theorem z_map_cons {f:α→β}:(a::l).map f=f a::l.map f:=rfl
theorem z_map_nil {f:α→β}:([]:List α).map f=[]:=rfl
theorem z_set_0:(a::l).set 0 x=x::l:=rfl
theorem z_set_s:(a::l).set (n+1) x=a::l.set n x:=rfl
theorem z_rep_0:List.replicate 0 a=[]:=rfl
theorem z_rep_s:List.replicate (n+1) a=a::List.replicate n a:=rfl
theorem z_add0:0+n=n:=Nat.zero_add n
theorem z_if_t:(if True then x else y)=x:=if_pos trivial
theorem z_if_f:(if False then x else y)=y:=if_neg id
theorem z_ft:(false=true)=False:=by simp
theorem z_tt:(true=true)=True:=by simp
theorem z_not_t:(!true)=false:=rfl
theorem z_not_f:(!false)=true:=rfl
theorem z_dec [Decidable p]:(decide p=true)=p:=decide_eq_true_eq
theorem z_dec_t [Decidable True]:decide True=true:=by simp
theorem z_dec_f [Decidable False]:decide False=false:=by simp
theorem z_and_t:(p∧True)=p:=by simp
theorem z_t_and:(True∧p)=p:=by simp
theorem z_and_f:(p∧False)=False:=by simp
theorem z_f_and:(False∧p)=False:=by simp
theorem z_or_t:(p∨True)=True:=by simp
theorem z_t_or:(True∨p)=True:=by simp
theorem z_or_f:(p∨False)=p:=by simp
theorem z_f_or:(False∨p)=p:=by simp
theorem z_nt:(¬ True)=False:=by simp
theorem z_nf:(¬ False)=True:=by simp
end
section
variable {a b c:E} {s t:S} {δ:Dt} {i:Nat} {f h:D→D→R D} {k:D→R D} {es:List E} {F:List D→R D} {d:D} {C:String}
theorem u_seq:seq s t δ=(s δ).then t:=rfl
theorem u_assign:assign i a δ=asg i δ (a δ):=rfl
theorem u_ret:ret a δ=rtn δ (a δ):=rfl
theorem u_retV:retV a δ=rtn δ (a (view δ)):=rfl
theorem u_ifs:ifs a s t δ=ifO δ (a δ) (s δ) (t δ):=rfl
theorem u_expr:expr a δ=xpr δ (a δ):=rfl
theorem u_raise:raise C δ=.mk C δ:=rfl
theorem u_pass:pass_ δ=.nx δ:=rfl
theorem u_retN:retN δ=.rt .non:=rfl
theorem u_brk:brk δ=.bk δ:=rfl
theorem u_cont:cont δ=.ct δ:=rfl
theorem u_con:con d δ=.ok d:=rfl
theorem u_bin:bin f a b δ=(a δ).bind fun x=>(b δ).bind fun y=>f x y:=rfl
theorem u_un:un k a δ=(a δ).bind k:=rfl
theorem u_and:and_ a b δ=(a δ).bind fun d=>truth d (b δ) (.ok (.bl false)):=rfl
theorem u_or:or_ a b δ=(a δ).bind fun d=>truth d (.ok (.bl true)) (b δ):=rfl
theorem u_not:not_ a δ=(a δ).bind fun d=>truth d (.ok (.bl false)) (.ok (.bl true)):=rfl
theorem u_ife:ife c a b δ=(c δ).bind fun d=>truth d (a δ) (b δ):=rfl
theorem u_chain:chain f h a b c δ=(a δ).bind fun x=>(b δ).bind fun y=>(f x y).bind fun d=>truth d ((c δ).bind fun z=>h y z) (.ok (.bl false)):=rfl
theorem u_tup:tupE es δ=(evs es δ).bind fun ds=>.ok (.tup ds):=rfl
theorem u_lst:lstE es δ=(evs es δ).bind fun ds=>.ok (.lst ds):=rfl
theorem u_call:call F es δ=(evs es δ).bind F:=rfl
theorem u_try:try_ s C i t δ=tryO (s δ) C i t:=rfl
theorem u_forsL:forsL i a s δ=ovL δ (a δ) fun ds=>forL i s ds δ:=rfl
theorem u_forsT:forsT i a s δ=ovT δ (a δ) fun ds=>forL i s ds δ:=rfl
theorem u_forR1:forR1 i a s δ=ovR δ (a δ) fun ds=>forL i s ds δ:=rfl
end
theorem xn_MillError:excNames.contains "MillError"=true:=by decide
theorem xn_NoSize:excNames.contains "NoSize"=true:=by decide
theorem xn_NoBits:excNames.contains "NoBits"=true:=by decide
theorem xn_NoParts:excNames.contains "NoParts"=true:=by decide
theorem xn_NoRank:excNames.contains "NoRank"=true:=by decide
theorem xn_NotFinite:excNames.contains "NotFinite"=true:=by decide
theorem xn_NoWay:excNames.contains "NoWay"=true:=by decide
theorem xn_NoFlags:excNames.contains "NoFlags"=true:=by decide
theorem xn_NoFraction:excNames.contains "NoFraction"=true:=by decide
theorem xn_Unlike:excNames.contains "Unlike"=true:=by decide
theorem xn_Empty:excNames.contains "Empty"=true:=by decide
theorem xn_NoLeft:excNames.contains "NoLeft"=true:=by decide
theorem xn_NoText:excNames.contains "NoText"=true:=by decide
theorem xn_NoRow:excNames.contains "NoRow"=true:=by decide
theorem xn_NoName:excNames.contains "NoName"=true:=by decide
theorem xn_Stopped:excNames.contains "Stopped"=true:=by decide
section
variable {α:Type} {b:Bool} {ds es:List D} {i:Nat} {it:IT} {g h:E} {s:S} {δ:Dt} {C:String} {ks:List Nat} {k:List D→O} {x:D} {fs:List (String×D)} {F:List D→R D} {gs:List E} {cn m f:String}
theorem y_and_t:(b&&true)=b:=by simp
theorem y_t_and:(true&&b)=b:=by simp
theorem y_f_and:(false&&b)=false:=by simp
theorem y_and_f:(b&&false)=false:=by simp
theorem y_or_f:(b||false)=b:=by simp
theorem y_f_or:(false||b)=b:=by simp
theorem y_t_or:(true||b)=true:=by simp
theorem y_or_t:(b||true)=true:=by simp
theorem u_forI:forI i it s δ=ovI δ (it δ) fun ds=>forL i s ds δ:=rfl
theorem ovI_ok:ovI δ (.ok ds) k=k ds:=rfl
theorem ovI_ex:ovI δ (.ex C) k=.ex C (noOwn δ):=rfl
theorem u_itL:itL g δ=(g δ).bind asL:=rfl
theorem u_itT:itT g δ=(g δ).bind asT:=rfl
theorem u_itR1:itR1 g δ=(g δ).bind asR1:=rfl
theorem u_itR2:itR2 g h δ=(evs [g,h] δ).bind asR2:=rfl
theorem asL_lst:asL (.lst ds)=.ok ds:=rfl
theorem asT_tup:asT (.tup ds)=.ok ds:=rfl
theorem asR1_int {n:Int} (h0 : -4611686018427387904≤n) (h1:n<4611686018427387904):asR1 (.int n)=.ok (rngD 0 n):=by unfold asR1;simp only;rw [if_pos ⟨h0,h1⟩]
theorem asR2_int {n m:Int} (h0 : -4611686018427387904≤n) (h1:n<4611686018427387904) (h2 : -4611686018427387904≤m) (h3:m<4611686018427387904):asR2 [.int n,.int m]=.ok (rngD n m):=by unfold asR2;simp only;rw [if_pos ⟨h0,h1,h2,h3⟩]
theorem u_comp:comp it ks g δ=(it δ).bind fun ds=>if ds.length≤100000 then (runC (stC (con (.bl true)) g ks δ) ds).bind flatR else .bad:=rfl
theorem u_compIf:compIf it ks g h δ=(it δ).bind fun ds=>if ds.length≤100000 then (runC (stC g h ks δ) ds).bind flatR else .bad:=rfl
theorem u_meth:meth cn m F g gs δ=(g δ).bind fun d=>if isMeth cn m d then (evs gs δ).bind fun ds=>F (d::ds) else .bad:=rfl
theorem u_mk1:mk1 cn f [x]=.ok (.ins cn [(f,x)]):=rfl
theorem fld1:oFld cn f (.ins cn ((f,x)::fs))=.ok x:=by simp [oFld]
theorem im1:isMeth cn m (.ins cn [(f,x)])=(m != f):=by
  have:isMeth cn m (.ins cn [(f,x)])=((cn == cn)&&(List.lookup m [(f,x)]).isNone):=rfl
  rw [this,List.lookup_cons]
  cases e:(m == f)<;>simp [e,bne]
theorem noOwn_ins:noOwn (some (.ins C fs)::δ)=some (.ins C fs)::noOwn δ:=rfl
theorem bIsiT_tup {d:D}:bIsiT [d,.tup ds]=isiAny d ds:=rfl
theorem isiAny_nil {d:D}:isiAny d []=.ok (.bl false):=rfl
theorem isiAny_cons {d c:D}:isiAny d (c::ds)=(bIsi [d,c]).bind fun x=>truth x (.ok (.bl true)) (isiAny d ds):=rfl
theorem isi_non_ty {n:String}:bIsi [.non,.ty n]=if ["int","bool","str","tuple","list","ValueError"].contains n then .ok (.bl false) else .bad:=rfl
theorem oIsN_tup:oIsN (.tup ds)=.ok (.bl false):=rfl
theorem oNotN_tup:oNotN (.tup ds)=.ok (.bl true):=rfl
theorem oIsN_lst:oIsN (.lst ds)=.ok (.bl false):=rfl
theorem oNotN_lst:oNotN (.lst ds)=.ok (.bl true):=rfl
theorem oIsN_str {z:PySem.Str}:oIsN (.str z)=.ok (.bl false):=rfl
theorem oNotN_str {z:PySem.Str}:oNotN (.str z)=.ok (.bl true):=rfl
end
theorem ofStr_inj {x y:String} (h:(PySem.Str.ofString x)=PySem.Str.ofString y):x=y:=by
  rw [PySem.Str.ofString_eq_toList,PySem.Str.ofString_eq_toList] at h
  have h1:(x.toList.map Char.toNat).toArray=(y.toList.map Char.toNat).toArray:=congrArg PySem.Str.cps h
  have h2:x.toList.map Char.toNat=y.toList.map Char.toNat:=by simpa using h1
  have h3:∀ (l m:List Char),l.map Char.toNat=m.map Char.toNat→l=m:=by
    intro l
    induction l with
    | nil=>intro m e;cases m with | nil=>rfl | cons _ _=>cases e
    | cons c r ih =>
      intro m e
      cases m with
      | nil=>cases e
      | cons c' r' =>
        rw [List.map_cons,List.map_cons,List.cons.injEq] at e
        rw [Char.ext (UInt32.toNat_inj.mp e.1),ih r' e.2]
  exact String.toList_inj.mp (h3 _ _ h2)
theorem ofStr_eq {x y:String}:((PySem.Str.ofString x)=PySem.Str.ofString y)=(x=y):=propext ⟨ofStr_inj,fun e=>by rw [e]⟩
theorem oEq_tup2 {a b c d:Int}:oEq (.tup [.int a,.int b]) (.tup [.int c,.int d])=.ok (.bl (decide (a=c∧b=d))):=by
  simp [oEq,D.cmp,D.sc,D.pl,D.beq,D.beqs,Bool.beq_eq_decide_eq]
theorem oNe_tup2 {a b c d:Int}:oNe (.tup [.int a,.int b]) (.tup [.int c,.int d])=.ok (.bl (!decide (a=c∧b=d))):=by
  simp [oNe,D.cmp,D.sc,D.pl,D.beq,D.beqs,Bool.beq_eq_decide_eq]
theorem oEq_tup3 {a b c d e f:Int}:oEq (.tup [.int a,.int b,.int e]) (.tup [.int c,.int d,.int f])=.ok (.bl (decide (a=c∧b=d∧e=f))):=by
  simp [oEq,D.cmp,D.sc,D.pl,D.beq,D.beqs,Bool.beq_eq_decide_eq]
theorem oNe_tup3 {a b c d e f:Int}:oNe (.tup [.int a,.int b,.int e]) (.tup [.int c,.int d,.int f])=.ok (.bl (!decide (a=c∧b=d∧e=f))):=by
  simp [oNe,D.cmp,D.sc,D.pl,D.beq,D.beqs,Bool.beq_eq_decide_eq]
theorem not_dec {p:Prop} [Decidable p]:((!decide p)=true)=¬ p:=by simp
theorem u_itA {g:E} {δ:Dt}:itA g δ=(g δ).bind asA:=rfl
theorem asA_lst {ds:List D}:asA (.lst ds)=.ok ds:=rfl
theorem asA_tup {ds:List D}:asA (.tup ds)=.ok ds:=rfl
theorem u_slc {a:E} {lo hi:Option E} {δ:Dt}:slc a lo hi δ=(a δ).bind fun d=>(part lo δ).bind fun l=>(part hi δ).bind fun h=>oSl d l h:=rfl
theorem part_none {δ:Dt}:part none δ=.ok none:=rfl
theorem part_con {i:Int} {δ:Dt}:part (some (con (.int i))) δ=.ok (some i):=rfl
theorem oSl_lst {ds:List D} {lo hi:Option Int}:oSl (.lst ds) lo hi=.ok (.lst (cut ds lo hi)):=rfl
theorem isi_str_str {x:PySem.Str}:bIsi [.str x,.ty "str"]=.ok (.bl true):=rfl
theorem oNe_tups {a b c x y z:Int}:oNe (.tup [.int a,.int b,.int c]) (.tup [.int x,.int y,.int z])=.ok (.bl (decide (¬ (a=x∧b=y∧c=z)))):=by
  unfold oNe
  rw [if_pos (show D.cmp _ _=true from rfl)]
  congr 2
  simp only [D.beq,D.beqs]
  by_cases h1:a=x<;>by_cases h2:b=y<;>by_cases h3:c=z<;>simp [h1,h2,h3]
theorem oEq_tups {a b c x y z:Int}:oEq (.tup [.int a,.int b,.int c]) (.tup [.int x,.int y,.int z])=.ok (.bl (decide (a=x∧b=y∧c=z))):=by
  unfold oEq
  rw [if_pos (show D.cmp _ _=true from rfl)]
  congr 2
  simp only [D.beq,D.beqs]
  by_cases h1:a=x<;>by_cases h2:b=y<;>by_cases h3:c=z<;>simp [h1,h2,h3]
theorem ofS_inj {a b:String}:(PySem.Str.ofString a=PySem.Str.ofString b)=(a=b):=by
  apply propext
  constructor
  · intro h
    rw [PySem.Str.ofString_eq_toList,PySem.Str.ofString_eq_toList] at h
    have h1:a.toList.map Char.toNat=b.toList.map Char.toNat:=by
      have:=congrArg (fun z:PySem.Str=>z.cps.toList) h
      simpa using this
    have h2:a.toList=b.toList:=by
      refine List.map_inj_right (f:=Char.toNat) (fun x y e => ?_) |>.mp h1
      exact Char.toNat_inj.mp e
    exact String.toList_inj.mp h2
  · intro h;rw [h]
theorem oFld_1 {cn f:String} {d:D}:oFld cn f (.ins cn [(f,d)])=.ok d:=by simp [oFld,List.lookup]
theorem isMeth_1 {cn m f:String} {d:D}:isMeth cn m (.ins cn [(f,d)]) = !(m == f):=by
  unfold isMeth
  cases h:m == f<;>simp [List.lookup,h]
theorem mk1_ok {cn f:String} {d:D}:mk1 cn f [d]=.ok (.ins cn [(f,d)]):=rfl
theorem isMeth_b:(!false)=true:=rfl
theorem u_itR3 {g h k:E}:itR3 g h k δ=(evs [g,h,k] δ).bind asR3:=rfl
theorem asR3_int {n m c:Int} (h : -1099511627776≤n∧n<1099511627776 ∧ -1099511627776≤m∧m<1099511627776) (h0:0<c) (h1:c<1048576):asR3 [.int n,.int m,.int c]=.ok (rngS n m c):=by unfold asR3;simp only;rw [if_pos ⟨h,h0,h1⟩]
theorem u_ownNew {i:Nat}:ownNew i δ=.nx (δ.set i (some (.own []))):=rfl
theorem u_ownApp {i:Nat} {g:E}:ownApp i g δ=onOwn i δ fun ds=>appO i δ ds (g (view δ)):=rfl
theorem u_ownRev {i:Nat}:ownRev i δ=onOwn i δ fun ds=>.nx (δ.set i (some (.own ds.reverse))):=rfl
theorem onOwn_0 {ds:List D} {l:Dt} {f:List D→O}:onOwn 0 (some (.own ds)::l) f=f ds:=rfl
theorem onOwn_s {i:Nat} {c:Option D} {l:Dt} {f:List D→O}:onOwn (i+1) (c::l) f=onOwn i l f:=rfl
theorem appO_ok {i:Nat} {ds:List D} {d:D} (h:D.flat d=true) (h2:ds.length<100000):appO i δ ds (.ok d)=.nx (δ.set i (some (.own (ds++[d])))):=by unfold appO;simp only;rw [if_pos ⟨h,h2⟩]
theorem appO_ex {i:Nat} {ds:List D}:appO i δ ds (.ex C)=.ex C (noOwn δ):=rfl
theorem u_pubS {i:Nat} {s:S}:pubS i s δ=s (pub i δ):=rfl
theorem pub_0 {ds:List D} {l:Dt}:pub 0 (some (.own ds)::l)=some (.lst ds)::l:=rfl
theorem pub_s {i:Nat} {c:Option D} {l:Dt}:pub (i+1) (c::l)=c::pub i l:=by
  unfold pub
  rw [List.getElem?_cons_succ]
  split<;>rename_i q
  · rw [q];rfl
  · rfl
theorem noOwn_own {ds:List D}:noOwn (some (.own ds)::δ)=none::noOwn δ:=rfl
theorem view_nil:view []=[]:=rfl
theorem view_none:view (none::δ)=none::view δ:=rfl
theorem view_own {ds:List D}:view (some (.own ds)::δ)=some (.lst ds)::view δ:=rfl
theorem view_int {i:Int}:view (some (.int i)::δ)=some (.int i)::view δ:=rfl
theorem view_bl {i:Bool}:view (some (.bl i)::δ)=some (.bl i)::view δ:=rfl
theorem view_str {i:PySem.Str}:view (some (.str i)::δ)=some (.str i)::view δ:=rfl
theorem view_non  : view (some (.non)::δ)=some (.non)::view δ:=rfl
theorem view_tup {ds:List D}:view (some (.tup ds)::δ)=some (.tup ds)::view δ:=rfl
theorem view_lst {ds:List D}:view (some (.lst ds)::δ)=some (.lst ds)::view δ:=rfl
theorem view_exc  : view (some (.exc C)::δ)=some (.exc C)::view δ:=rfl
theorem view_ins {fs:List (String×D)}:view (some (.ins C fs)::δ)=some (.ins C fs)::view δ:=rfl
theorem u_assignV {i:Nat} {g:E}:assignV i g δ=asgF i δ (g (view δ)):=rfl
theorem asgF_int {i:Nat} {n:Int}:asgF i δ (.ok (.int n))=.nx (δ.set i (some (.int n))):=rfl
theorem u_ifsV {c:E} {a b:S}:ifsV c a b δ=ifO δ (c (view δ)) (a δ) (b δ):=rfl
theorem u_ownComp {i:Nat} {g:E}:ownComp i g δ=takO i δ (g (view δ)):=rfl
theorem takO_lst {i:Nat} {rs:List D}:takO i δ (.ok (.lst rs))=.nx (δ.set i (some (.own rs))):=rfl
theorem u_ownSet {i:Nat} {a b:E}:ownSet i a b δ=onOwn i δ fun ds=>setO i δ ds (b (view δ)) (a (view δ)):=rfl
theorem setO_ok {i:Nat} {ds:List D} {d:D} {k:Int} (h:D.flat d=true) (h0:0≤k) (h1:k<ds.length):setO i δ ds (.ok d) (.ok (.int k))=.nx (δ.set i (some (.own (ds.set k.toNat d)))):=by unfold setO;simp only;rw [if_pos ⟨h,h0,h1⟩]
theorem u_ownTake {i:Nat} {g:E}:ownTake i g δ=takO i δ (g δ):=rfl
theorem EvS:(type_of% @oMod_ok)∧(type_of% @oDiv_lit)∧(type_of% @oShr_ok)∧(type_of% @bind_ok)∧(type_of% @bind_ex)∧(type_of% @bind_bad)∧(type_of% @bind_ite)∧(type_of% @then_nx)∧(type_of% @then_rt)∧(type_of% @then_ex)∧(type_of% @then_mk)∧(type_of% @then_bk)∧(type_of% @then_ct)∧(type_of% @then_bad)∧(type_of% @then_ite)∧(type_of% @res_rt)∧(type_of% @res_nx)∧(type_of% @res_ex)∧(type_of% @res_mk)∧(type_of% @res_bad)∧(type_of% @res_ite)∧(type_of% @asg_ok)∧(type_of% @asg_ex)∧(type_of% @asg_ite)∧(type_of% @xpr_ok)∧(type_of% @xpr_ex)∧(type_of% @xpr_ite)∧(type_of% @rtn_ok)∧(type_of% @rtn_ex)∧(type_of% @rtn_ite)∧(type_of% @ifO_bl)∧(type_of% @ifO_ex)∧(type_of% @ifO_ite)∧(type_of% @truth_bl)∧(type_of% @ite_bl)∧(type_of% @ite_int)∧(type_of% @ite_b1)∧(type_of% @ite_b2)∧(type_of% @ite_b3)∧(type_of% @var_0n)∧(type_of% @var_int)∧(type_of% @var_bl)∧(type_of% @var_str)∧(type_of% @var_non)∧(type_of% @var_tup)∧(type_of% @var_lst)∧(type_of% @var_own)∧(type_of% @var_exc)∧(type_of% @var_cls)∧(type_of% @var_ins)∧(type_of% @var_succ)∧(type_of% @evs_nil)∧(type_of% @evs_cons)∧(type_of% @oAdd_int)∧(type_of% @oSub_int)∧(type_of% @oNeg_int)∧(type_of% @oLt_int)∧(type_of% @oLe_int)∧(type_of% @oGt_int)∧(type_of% @oGe_int)∧(type_of% @oEq_int)∧(type_of% @oNe_int)∧(type_of% @oEq_str)∧(type_of% @oNe_str)∧(type_of% @oEq_bl)∧(type_of% @oIsN_non)∧(type_of% @oNotN_non)∧(type_of% @oIsN_exc)∧(type_of% @oNotN_exc)∧(type_of% @oIsN_int)∧(type_of% @oNotN_int)∧(type_of% @bMax_int)∧(type_of% @bMin_int)∧(type_of% @bAbs_int)∧(type_of% @bLen_lst)∧(type_of% @bLen_tup)∧(type_of% @bInt_int)∧(type_of% @bInt_bl)∧(type_of% @bBitLen_int)∧(type_of% @bList_lst)∧(type_of% @bList_tup)∧(type_of% @isi_int_int)∧(type_of% @isi_int_bool)∧(type_of% @isi_tup_tup)∧(type_of% @isi_lst_lst)∧(type_of% @isi_exc_ve)∧(type_of% @isi_exc_cls)∧(type_of% @isi_non_cls)∧(type_of% @trn_nx)∧(type_of% @trn_ct)∧(type_of% @trn_bk)∧(type_of% @trn_rt)∧(type_of% @trn_ex)∧(type_of% @trn_mk)∧(type_of% @trn_ite)∧(type_of% @ovL_ok)∧(type_of% @ovT_ok)∧(type_of% @tryO_nx)∧(type_of% @tryO_ex)∧(type_of% @tryO_ite)∧(type_of% @forget_nx)∧(type_of% @noOwn_nil)∧(type_of% @noOwn_none)∧(type_of% @noOwn_int)∧(type_of% @noOwn_bl)∧(type_of% @noOwn_str)∧(type_of% @noOwn_non)∧(type_of% @noOwn_tup)∧(type_of% @noOwn_lst)∧(type_of% @noOwn_exc)∧(type_of% @exSub_mill)∧(type_of% @ix0)∧(type_of% @ix1)∧(type_of% @ix2)∧(type_of% @ix3)∧(type_of% @ixl0)∧(type_of% @ixl1)∧(type_of% @ixl2)∧(type_of% @fn_0)∧(type_of% @fn_1)∧(type_of% @fn_2)∧(type_of% @fn_3)∧(type_of% @fn_4)∧(type_of% @fn_5)∧(type_of% @fn_6)∧(type_of% @fn_7)∧(type_of% @fn_8)∧(type_of% @z_len_cons)∧(type_of% @z_len_nil)∧(type_of% @z_len_map)∧(type_of% @z_map_cons)∧(type_of% @z_map_nil)∧(type_of% @z_set_0)∧(type_of% @z_set_s)∧(type_of% @z_rep_0)∧(type_of% @z_rep_s)∧(type_of% @z_add0)∧(type_of% @z_if_t)∧(type_of% @z_if_f)∧(type_of% @z_ft)∧(type_of% @z_tt)∧(type_of% @z_not_t)∧(type_of% @z_not_f)∧(type_of% @z_dec)∧(type_of% @z_dec_t)∧(type_of% @z_dec_f)∧(type_of% @z_and_t)∧(type_of% @z_t_and)∧(type_of% @z_and_f)∧(type_of% @z_f_and)∧(type_of% @z_or_t)∧(type_of% @z_t_or)∧(type_of% @z_or_f)∧(type_of% @z_f_or)∧(type_of% @z_nt)∧(type_of% @z_nf)∧(type_of% @u_seq)∧(type_of% @u_assign)∧(type_of% @u_ret)∧(type_of% @u_retV)∧(type_of% @u_ifs)∧(type_of% @u_expr)∧(type_of% @u_raise)∧(type_of% @u_pass)∧(type_of% @u_retN)∧(type_of% @u_brk)∧(type_of% @u_cont)∧(type_of% @u_con)∧(type_of% @u_bin)∧(type_of% @u_un)∧(type_of% @u_and)∧(type_of% @u_or)∧(type_of% @u_not)∧(type_of% @u_ife)∧(type_of% @u_chain)∧(type_of% @u_tup)∧(type_of% @u_lst)∧(type_of% @u_call)∧(type_of% @u_try)∧(type_of% @u_forsL)∧(type_of% @u_forsT)∧(type_of% @u_forR1)∧(type_of% @xn_MillError)∧(type_of% @xn_NoSize)∧(type_of% @xn_NoBits)∧(type_of% @xn_NoParts)∧(type_of% @xn_NoRank)∧(type_of% @xn_NotFinite)∧(type_of% @xn_NoWay)∧(type_of% @xn_NoFlags)∧(type_of% @xn_NoFraction)∧(type_of% @xn_Unlike)∧(type_of% @xn_Empty)∧(type_of% @xn_NoLeft)∧(type_of% @xn_NoText)∧(type_of% @xn_NoRow)∧(type_of% @xn_NoName)∧(type_of% @xn_Stopped)∧(type_of% @y_and_t)∧(type_of% @y_t_and)∧(type_of% @y_f_and)∧(type_of% @y_and_f)∧(type_of% @y_or_f)∧(type_of% @y_f_or)∧(type_of% @y_t_or)∧(type_of% @y_or_t)∧(type_of% @u_forI)∧(type_of% @ovI_ok)∧(type_of% @ovI_ex)∧(type_of% @u_itL)∧(type_of% @u_itT)∧(type_of% @u_itR1)∧(type_of% @u_itR2)∧(type_of% @asL_lst)∧(type_of% @asT_tup)∧(type_of% @asR1_int)∧(type_of% @asR2_int)∧(type_of% @u_comp)∧(type_of% @u_compIf)∧(type_of% @u_meth)∧(type_of% @u_mk1)∧(type_of% @fld1)∧(type_of% @im1)∧(type_of% @noOwn_ins)∧(type_of% @bIsiT_tup)∧(type_of% @isiAny_nil)∧(type_of% @isiAny_cons)∧(type_of% @isi_non_ty)∧(type_of% @oIsN_tup)∧(type_of% @oNotN_tup)∧(type_of% @oIsN_lst)∧(type_of% @oNotN_lst)∧(type_of% @oIsN_str)∧(type_of% @oNotN_str)∧(type_of% @ofStr_eq)∧(type_of% @oEq_tup2)∧(type_of% @oNe_tup2)∧(type_of% @oEq_tup3)∧(type_of% @oNe_tup3)∧(type_of% @not_dec)∧(type_of% @u_itA)∧(type_of% @asA_lst)∧(type_of% @asA_tup)∧(type_of% @u_slc)∧(type_of% @part_none)∧(type_of% @part_con)∧(type_of% @oSl_lst)∧(type_of% @isi_str_str)∧(type_of% @oNe_tups)∧(type_of% @oEq_tups)∧(type_of% @ofS_inj)∧(type_of% @oFld_1)∧(type_of% @isMeth_1)∧(type_of% @mk1_ok)∧(type_of% @isMeth_b)∧(type_of% @u_itR3)∧(type_of% @asR3_int)∧(type_of% @u_ownNew)∧(type_of% @u_ownApp)∧(type_of% @u_ownRev)∧(type_of% @onOwn_0)∧(type_of% @onOwn_s)∧(type_of% @appO_ok)∧(type_of% @appO_ex)∧(type_of% @u_pubS)∧(type_of% @pub_0)∧(type_of% @pub_s)∧(type_of% @noOwn_own)∧(type_of% @view_nil)∧(type_of% @view_none)∧(type_of% @view_own)∧(type_of% @view_int)∧(type_of% @view_bl)∧(type_of% @view_str)∧(type_of% @view_non)∧(type_of% @view_tup)∧(type_of% @view_lst)∧(type_of% @view_exc)∧(type_of% @view_ins)∧(type_of% @u_assignV)∧(type_of% @asgF_int)∧(type_of% @u_ifsV)∧(type_of% @u_ownComp)∧(type_of% @takO_lst)∧(type_of% @u_ownSet)∧(type_of% @setO_ok)∧(type_of% @u_ownTake) :=
  ⟨@oMod_ok,@oDiv_lit,@oShr_ok,@bind_ok,@bind_ex,@bind_bad,@bind_ite,@then_nx,@then_rt,@then_ex,@then_mk,@then_bk,@then_ct,@then_bad,@then_ite,@res_rt,@res_nx,@res_ex,@res_mk,@res_bad,@res_ite,@asg_ok,@asg_ex,@asg_ite,@xpr_ok,@xpr_ex,@xpr_ite,@rtn_ok,@rtn_ex,@rtn_ite,@ifO_bl,@ifO_ex,@ifO_ite,@truth_bl,@ite_bl,@ite_int,@ite_b1,@ite_b2,@ite_b3,@var_0n,@var_int,@var_bl,@var_str,@var_non,@var_tup,@var_lst,@var_own,@var_exc,@var_cls,@var_ins,@var_succ,@evs_nil,@evs_cons,@oAdd_int,@oSub_int,@oNeg_int,@oLt_int,@oLe_int,@oGt_int,@oGe_int,@oEq_int,@oNe_int,@oEq_str,@oNe_str,@oEq_bl,@oIsN_non,@oNotN_non,@oIsN_exc,@oNotN_exc,@oIsN_int,@oNotN_int,@bMax_int,@bMin_int,@bAbs_int,@bLen_lst,@bLen_tup,@bInt_int,@bInt_bl,@bBitLen_int,@bList_lst,@bList_tup,@isi_int_int,@isi_int_bool,@isi_tup_tup,@isi_lst_lst,@isi_exc_ve,@isi_exc_cls,@isi_non_cls,@trn_nx,@trn_ct,@trn_bk,@trn_rt,@trn_ex,@trn_mk,@trn_ite,@ovL_ok,@ovT_ok,@tryO_nx,@tryO_ex,@tryO_ite,@forget_nx,@noOwn_nil,@noOwn_none,@noOwn_int,@noOwn_bl,@noOwn_str,@noOwn_non,@noOwn_tup,@noOwn_lst,@noOwn_exc,@exSub_mill,@ix0,@ix1,@ix2,@ix3,@ixl0,@ixl1,@ixl2,@fn_0,@fn_1,@fn_2,@fn_3,@fn_4,@fn_5,@fn_6,@fn_7,@fn_8,@z_len_cons,@z_len_nil,@z_len_map,@z_map_cons,@z_map_nil,@z_set_0,@z_set_s,@z_rep_0,@z_rep_s,@z_add0,@z_if_t,@z_if_f,@z_ft,@z_tt,@z_not_t,@z_not_f,@z_dec,@z_dec_t,@z_dec_f,@z_and_t,@z_t_and,@z_and_f,@z_f_and,@z_or_t,@z_t_or,@z_or_f,@z_f_or,@z_nt,@z_nf,@u_seq,@u_assign,@u_ret,@u_retV,@u_ifs,@u_expr,@u_raise,@u_pass,@u_retN,@u_brk,@u_cont,@u_con,@u_bin,@u_un,@u_and,@u_or,@u_not,@u_ife,@u_chain,@u_tup,@u_lst,@u_call,@u_try,@u_forsL,@u_forsT,@u_forR1,@xn_MillError,@xn_NoSize,@xn_NoBits,@xn_NoParts,@xn_NoRank,@xn_NotFinite,@xn_NoWay,@xn_NoFlags,@xn_NoFraction,@xn_Unlike,@xn_Empty,@xn_NoLeft,@xn_NoText,@xn_NoRow,@xn_NoName,@xn_Stopped,@y_and_t,@y_t_and,@y_f_and,@y_and_f,@y_or_f,@y_f_or,@y_t_or,@y_or_t,@u_forI,@ovI_ok,@ovI_ex,@u_itL,@u_itT,@u_itR1,@u_itR2,@asL_lst,@asT_tup,@asR1_int,@asR2_int,@u_comp,@u_compIf,@u_meth,@u_mk1,@fld1,@im1,@noOwn_ins,@bIsiT_tup,@isiAny_nil,@isiAny_cons,@isi_non_ty,@oIsN_tup,@oNotN_tup,@oIsN_lst,@oNotN_lst,@oIsN_str,@oNotN_str,@ofStr_eq,@oEq_tup2,@oNe_tup2,@oEq_tup3,@oNe_tup3,@not_dec,@u_itA,@asA_lst,@asA_tup,@u_slc,@part_none,@part_con,@oSl_lst,@isi_str_str,@oNe_tups,@oEq_tups,@ofS_inj,@oFld_1,@isMeth_1,@mk1_ok,@isMeth_b,@u_itR3,@asR3_int,@u_ownNew,@u_ownApp,@u_ownRev,@onOwn_0,@onOwn_s,@appO_ok,@appO_ex,@u_pubS,@pub_0,@pub_s,@noOwn_own,@view_nil,@view_none,@view_own,@view_int,@view_bl,@view_str,@view_non,@view_tup,@view_lst,@view_exc,@view_ins,@u_assignV,@asgF_int,@u_ifsV,@u_ownComp,@takO_lst,@u_ownSet,@setO_ok,@u_ownTake⟩
theorem oAdd_lst {xs ys:List D} (h:xs.length+ys.length≤100000):oAdd (.lst xs) (.lst ys)=.ok (.lst (xs++ys)):=by unfold oAdd;simp only;rw [if_pos h]
end EV
local macro_rules | `(tactic| walk_at "pos")=>`(tactic| first | (with_reducible assumption) | decide +kernel | (with_reducible exact EV.pw_pos _) | omega)
local macro_rules | `(tactic| walk_at "nb")=>`(tactic| first
  | (with_reducible assumption)
  | ((with_reducible apply EV.nb_add)<;>walk_at "nb")
  | ((with_reducible apply EV.nb_sub)<;>walk_at "nb")
  | ((with_reducible apply EV.nb_mul)<;>walk_at "nb")
  | ((with_reducible apply EV.nb_neg_le)<;>walk_at "nb")
  | ((with_reducible apply EV.nb_mod);(walk_at "pos");(walk_at "nb"))
  | ((with_reducible apply EV.nb_div);(walk_at "pos");(walk_at "nb"))
  | ((with_reducible apply EV.nb_max)<;>walk_at "nb")
  | ((with_reducible apply EV.nb_min)<;>walk_at "nb")
  | ((with_reducible apply EV.nb_ite)<;>walk_at "nb")
  | exact EV.nb_self)
/- nb e≤a number -/
local macro_rules | `(tactic| walk_at "nbk")=>`(tactic| exact EV.nb_le_of (by walk_at "nb") (by decide +kernel))
local macro_rules | `(tactic| walk_at "mul")=>`(tactic| exact EV.MulOk.of (by walk_at "nb") (by walk_at "nb") (by decide +kernel))
local macro_rules | `(tactic| simp_arith [$ls,*])=>`(tactic| simp only [EV.EvS,reduceIte,Nat.reduceAdd,Nat.reduceSub,Int.reduceAdd,Int.reduceSub,Int.reduceMul,Int.reduceNeg,Int.reducePow,Int.reduceLT,Int.reduceLE,Int.reduceGT,Int.reduceGE,Int.reduceEq,Int.reduceNe,Int.reduceDiv,Int.reduceMod,Int.reduceToNat,String.reduceEq,String.reduceBEq,Nat.reduceLeDiff,Int.cast_ofNat_Int,Int.natCast_one,Int.natCast_zero,List.cons_append,List.nil_append,ne_eq,$ls,*])
namespace EV
open PySem (Str)
def Sz (E F:Int):Prop:=2≤E∧E≤15∧1≤F∧F≤112
def szE (c:Int):Int:=if c%8<4 then [5,8,11,15].getD (c%8).toNat 0 else if c%8<6 then 2+c / 8%14 else 2+c / 8%4
def szF (c:Int):Int:=if c%8<4 then [10,23,52,112].getD (c%8).toNat 0 else if c%8<6 then 1+c / 8 / 14%112 else 1+c / 8 / 4%5
theorem four {r:Int} (h0:0≤r) (h1:r<4):r=0∨r=1∨r=2∨r=3:=by omega
theorem sz_ok (c:Int):Sz (szE c) (szF c):=by
  unfold Sz szE szF
  by_cases h:c%8<4
  · rw [if_pos h,if_pos h]
    rcases four (Int.emod_nonneg c (by decide)) h with e | e | e | e<;>rw [e]<;>decide
  · rw [if_neg h,if_neg h]
    by_cases h2:c%8<6
    · rw [if_pos h2,if_pos h2];omega
    · rw [if_neg h2,if_neg h2];omega
theorem getD_end {ns:List Int} {j:Int} (h0:0≤j) (h:¬ j<(ns.length:Int)):ns.getD j.toNat 0=0:=by
  rw [List.getD_eq_getElem?_getD,List.getElem?_eq_none (by omega)]
  rfl
theorem ixl3 {a b c d:D} {r:List D}:oIx (.lst (a::b::c::d::r)) (.int 3)=.ok d:=ix_lst (k:=3) rfl
theorem ixl4 {a b c d e:D} {r:List D}:oIx (.lst (a::b::c::d::e::r)) (.int 4)=.ok e:=ix_lst (k:=4) rfl
def In (E F b:Int):Prop:=0≤b∧b<pw (E+F+1)
def wh (F f g:Int):Int:=if f=0 then g else pw F+g
def lo (E F:Int):Int:=2 - pw (E - 1) - F
def po (E F f:Int):Int:=if f=0 then lo E F else lo E F+f - 1
theorem getD_nb {ns:List Int} (hb:∀ m∈ns,nb m≤2^20) (k:Nat):nb (ns.getD k 0)≤2^20:=by
  rw [List.getD_eq_getElem?_getD]
  cases h:ns[k]? with
  | none=>exact Nat.zero_le _
  | some v=>exact hb v (List.mem_of_getElem? h)
end EV
namespace EV
def st (l:List Nat):PySem.Str:=⟨l.toArray⟩
def dg (n:Nat):List Nat:=(Nat.toDigits 10 n).map Char.toNat
theorem dg_small {n:Nat} (h:n<10):dg n=[48+n]:=by
  unfold dg
  rw [Nat.toDigits_of_lt_base h]
  rcases (show n=0∨n=1∨n=2∨n=3∨n=4∨n=5∨n=6∨n=7∨n=8∨n=9 by omega) with e | e | e | e | e | e | e | e | e | e<;>subst e<;>rfl
theorem dg_ten {n d:Nat} (h:0<n) (hd:d<10):dg (10*n+d)=dg n++dg d:=by
  unfold dg
  rw [← Nat.toDigits_append_toDigits (by decide) h hd,List.map_append]
theorem dg_len {n k:Nat} (hk:0<k):(dg n).length≤k↔n<10^k:=by
  unfold dg
  rw [List.length_map]
  exact Nat.length_toDigits_le_iff (by decide) hk
theorem dg_code:∀ (n:Nat),∀ c∈dg n,48≤c∧c≤57:=by
  intro n
  induction n using Nat.strongRecOn with
  | ind n ih =>
    intro c hc
    by_cases h:n<10
    · rw [dg_small h,List.mem_singleton] at hc
      omega
    · rw [show n=10*(n / 10)+n%10 by omega,dg_ten (by omega) (by omega),List.mem_append] at hc
      rcases hc with z | z
      · exact ih _ (by omega) c z
      · exact ih _ (by omega) c z
def pad (k r:Nat):List Nat:=List.replicate (k - (dg r).length) 48++dg r
theorem str_is {i:Int} (h:0≤i):((toString i:String):PySem.Str)=st (dg i.toNat):=by
  obtain ⟨n,rfl⟩:=Int.eq_ofNat_of_zero_le h
  show PySem.Str.ofString (Nat.repr n)=_
  rw [PySem.Str.ofString_eq_toList]
  unfold Nat.repr st dg
  rw [String.toList_ofList]
  rfl
theorem oAdd_st {a b:List Nat} (h:a.length+b.length≤1000000):oAdd (.str (st a)) (.str (st b))=.ok (.str (st (a++b))):=by
  unfold oAdd st
  simp only [List.size_toArray]
  rw [if_pos h]
  simp
theorem bLen_st {a:List Nat} (h:a.length≤1000000):bLen [.str (st a)]=.ok (.int a.length):=by
  unfold bLen st
  simp only [List.size_toArray]
  rw [if_pos h]
theorem bStr_dg {i:Int} (h:0≤i) (hn:nb i≤1900):bStr [.int i]=.ok (.str (st (dg i.toNat))):=by
  unfold bStr
  simp only
  rw [if_pos hn,str_is h]
theorem rep_st {n:Int} (h0 : -100000≤n) (h1:n≤100000):oRepS (.str (st [48])) (.int n)=.ok (.str (st (List.replicate n.toNat 48))):=by
  unfold oRepS
  simp only
  rw [if_pos ⟨rfl,h0,h1⟩]
  rfl
theorem sl_lo {a:List Nat} {k:Int} (h0:0≤k) (h1:k≤a.length) (h:a.length≤1000000):oSlS (.str (st a)) none (some k)=.ok (.str (st (a.take k.toNat))):=by
  rw [oSlS_str (by unfold st;simpa using h)]
  unfold cutS EV.cut sIx st
  simp only [if_neg (show ¬ k<0 by omega),List.drop_zero,Nat.sub_zero]
  congr 3
  rw [show min k.toNat a.toArray.toList.length=k.toNat by simp;omega]
theorem sl_hi {a:List Nat} {k:Int} (h0:0≤k) (h1:k≤a.length) (h:a.length≤1000000):oSlS (.str (st a)) (some k) none=.ok (.str (st (a.drop k.toNat))):=by
  rw [oSlS_str (by unfold st;simpa using h)]
  unfold cutS EV.cut sIx st
  simp only [if_neg (show ¬ k<0 by omega)]
  congr 3
  rw [show min k.toNat a.toArray.toList.length=k.toNat by simp;omega]
  simp
  exact List.take_of_length_le (by rw [List.length_drop];exact Nat.le_refl _)
theorem zf_st {r:Nat} {k:Int} (h0:0≤k) (h1:k≤100000) (hl:((dg r).length:Int)≤k):mZfill (st (dg r)) (.int k)=.ok (.str (st (pad k.toNat r))):=by
  have hc:∀ c,(st (dg r)).cps[0]? = some c→48≤c:=fun c e=>by
    unfold st at e
    simp only [List.getElem?_toArray] at e
    exact (dg_code r c (List.mem_of_getElem? e)).1
  unfold mZfill
  simp only
  rw [if_pos ⟨h0,h1,fun e=>absurd (hc _ e) (by decide),fun e=>absurd (hc _ e) (by decide)⟩]
  unfold zf pad st
  simp only [List.size_toArray]
  split
  · rw [show k.toNat - (dg r).length=0 by omega]
    rfl
  · simp
end EV
namespace EV
theorem st_list {l:List Nat}:(st l).cps.toList=l:=by unfold st;simp
theorem st_size {l:List Nat}:(st l).cps.size=l.length:=by unfold st;simp
theorem st_inj {a b:List Nat}:(st a=st b)=(a=b):=by
  apply propext
  constructor
  · intro h
    have:=congrArg (fun x=>x.cps.toList) h
    simpa [st_list] using this
  · intro h;rw [h]
theorem part_st {l:List Nat} {c:Nat} (h:l.length≤1000000):mPartition (st l) (.str (st [c]))=.ok (.tup [.str (st (partL c l).1),.str (st (partL c l).2.1),.str (st (partL c l).2.2)]):=by
  unfold mPartition
  simp only [st_list]
  rw [if_pos (by rw [st_size];exact h)]
  rfl
theorem starts_st {l:List Nat} {c:Nat}:mStartswith (st l) (.str (st [c]))=.ok (.bl (decide (l.head? = some c))):=by
  unfold mStartswith
  simp only
  congr 2
  cases l with
  | nil=>rfl
  | cons x r =>
    unfold st
    simp
    by_cases h:x=c
    · subst h;simp
    · simp [h]
theorem intS_st {l:List Nat} (h:figs l=true) (h0:l≠[]) (h1:l.length≤640):bIntS [.str (st l)]=.ok (.int (dv l)):=by
  unfold bIntS
  simp only [st_list]
  rw [if_pos ⟨h,h0,by rw [st_size];exact h1⟩]
theorem isIn_figs {c:Nat}:oIn (.str ⟨#[c]⟩) (.str "0123456789")=.ok (.bl (decide (48≤c∧c≤57))):=by
  unfold oIn
  simp only
  congr 2
  have:(PySem.Str.ofString "0123456789").cps.toList=[48,49,50,51,52,53,54,55,56,57]:=by decide
  show decide (c∈(PySem.Str.ofString "0123456789").cps.toList)=_
  rw [this]
  apply decide_eq_decide.mpr
  simp only [List.mem_cons,List.not_mem_nil,or_false]
  omega
theorem bools_map {α:Type} (f:α→Bool):∀ l:List α,boolsOf (l.map fun x=>D.bl (f x))=some (l.map f)
  | []=>rfl
  | a::r=>by rw [List.map_cons];unfold boolsOf;rw [bools_map f r];rfl
theorem flats_bl {α:Type} (f:α→Bool):∀ l:List α,D.flats (l.map fun x=>D.bl (f x))=true
  | []=>by unfold D.flats;rfl
  | a::r=>by rw [List.map_cons];unfold D.flats D.flat;rw [flats_bl f r];rfl
theorem comp_signs {l:List Nat} {g:E} {δ:Dt} {f:Nat→Bool} (hg:∀ c,g [some (.str ⟨#[c]⟩)]=.ok (.bl (f c))):∀ l:List Nat,runC (stC (con (.bl true)) g [] δ) (l.map fun c=>D.str ⟨#[c]⟩)=.ok (l.map fun c=>D.bl (f c))
  | []=>rfl
  | c::r=>by
    have e:stC (con (.bl true)) g [] δ (.str ⟨#[c]⟩)=.ok (some (.bl (f c))):=by
      unfold stC inC
      rw [List.map_nil,hg c]
      rfl
    rw [List.map_cons]
    unfold runC
    rw [e,comp_signs (l:=r) hg r]
    rfl
theorem takeWhile_rep {l:List Nat} {q:Nat→Bool} {c:Nat} (hc:q c=true):∀ k:Nat,(List.replicate k c++l).takeWhile q=List.replicate k c++l.takeWhile q
  | 0=>by simp
  | k+1=>by
    rw [List.replicate_succ,List.cons_append,List.takeWhile_cons,if_pos hc,takeWhile_rep hc k,List.cons_append]
def bare (l:List Nat):List Nat:=cutBy (#[32]:Array Nat).contains true true l
theorem strip_st {l:List Nat} (h:l.length≤1000000):mStrip (st l) (.str (st [32]))=.ok (.str (st (bare l))):=by
  unfold mStrip mCut
  simp only
  rw [if_pos (by rw [st_size];exact h),st_list]
  rfl
theorem head_not {q:Nat→Bool} {l:List Nat} (h:∀ c,l.head? = some c→q c=false):l.takeWhile q=[]:=by
  cases l with
  | nil=>rfl
  | cons x r=>rw [List.takeWhile_cons,if_neg (by rw [h x rfl];decide)]
theorem bare_is {i j:Nat} {l:List Nat} (h0:l≠[]) (h1:l.head? ≠ some 32) (h2:l.getLast? ≠ some 32):bare (List.replicate i 32++l++List.replicate j 32)=l:=by
  have q32:(#[32]:Array Nat).contains 32=true:=by simp
  have qn:∀ c,c≠32→(#[32]:Array Nat).contains c=false:=fun c hc=>by simp [hc]
  unfold bare cutBy
  simp only [if_true]
  have t1:(List.replicate i 32++l++List.replicate j 32).takeWhile (#[32]:Array Nat).contains=List.replicate i 32:=by
    rw [List.append_assoc,takeWhile_rep q32,head_not,List.append_nil]
    intro c hc
    refine qn c fun z=>h1 ?_
    cases l with
    | nil=>exact absurd rfl h0
    | cons x r=>rw [List.cons_append] at hc;rw [← z];exact hc
  rw [t1,List.length_replicate]
  have t2:(List.replicate i 32++l++List.replicate j 32).drop i=l++List.replicate j 32:=by
    rw [List.append_assoc,List.drop_left' (by simp)]
  rw [t2,List.reverse_append,List.reverse_replicate,takeWhile_rep q32,head_not,List.append_nil,List.length_replicate]
  · have t3:(List.replicate i 32++l++List.replicate j 32).length - j=(List.replicate i 32++l).length:=by simp;omega
    rw [t3,List.take_left' rfl,List.drop_left' (by simp)]
  · intro c hc
    refine qn c fun z=>h2 ?_
    rw [List.head?_reverse] at hc
    rw [← z];exact hc
def signOf:List Nat→Int×List Nat
  | 45::r=>(1,r)
  | 43::r=>(0,r)
  | l=>(0,l)
def fig1 (l:List Nat):Bool:=figs l&&decide (l≠[])
def exL (l:List Nat):Option Int:=if fig1 (signOf l).2=true∧(signOf l).2.length≤4 then some (if (signOf l).1=1 then -(dv (signOf l).2:Int) else dv (signOf l).2) else none
def exOf (w:List Nat):Option Int:=if (partL 101 w).2.1=[101] then exL (partL 101 w).2.2 else some 0
def spL (l:List Nat):Option (Int×Int×Int):=if l.length≤400 then
  (exOf (signOf (bare l)).2).bind fun e =>
    if fig1 (partL 46 (partL 101 (signOf (bare l)).2).1).1=true∧((partL 46 (partL 101 (signOf (bare l)).2).1).2.1=[46]→fig1 (partL 46 (partL 101 (signOf (bare l)).2).1).2.2=true) then
      some ((signOf (bare l)).1,dv ((partL 46 (partL 101 (signOf (bare l)).2).1).1++(partL 46 (partL 101 (signOf (bare l)).2).1).2.2),e - (partL 46 (partL 101 (signOf (bare l)).2).1).2.2.length)
    else none
  else none
theorem part_no {c:Nat} {l:List Nat} (h:c∉l):partL c l=(l,[],[]):=by unfold partL;rw [if_neg h]
theorem part_yes {c:Nat} {a b:List Nat} (h:c∉a):partL c (a++c::b)=(a,[c],b):=by
  unfold partL
  rw [if_pos (by simp)]
  have q:∀ x∈a,(x != c)=true:=fun x hx=>by
    have:x≠c:=fun z=>h (z▸hx)
    simpa using this
  have t:(a++c::b).takeWhile (· != c)=a:=by
    rw [List.takeWhile_append_of_pos q,List.takeWhile_cons,if_neg (by simp),List.append_nil]
  have d:(a++c::b).dropWhile (· != c)=c::b:=by
    rw [List.dropWhile_append_of_pos q,List.dropWhile_cons,if_neg (by simp)]
  rw [t,d]
  rfl
theorem part_len (c:Nat) (l:List Nat):(partL c l).1.length≤l.length∧(partL c l).2.1.length≤1∧(partL c l).2.2.length≤l.length∧(partL c l).1.length+(partL c l).2.2.length≤l.length:=by
  by_cases h:c∈l
  · obtain ⟨a,b,rfl,hn⟩:=List.eq_append_cons_of_mem h
    rw [part_yes hn]
    simp
    omega
  · rw [part_no h]
    simp
theorem partL_none {c:Nat} {l:List Nat} (h:(partL c l).2.1≠[c]):(partL c l).2.2=[]:=by
  by_cases g:c∈l
  · obtain ⟨a,b,rfl,hn⟩:=List.eq_append_cons_of_mem g
    rw [part_yes hn] at h
    exact absurd rfl h
  · rw [part_no g]
theorem figs_app {a b:List Nat}:figs (a++b)=(figs a&&figs b):=by unfold figs;rw [List.all_append]
theorem fig1_iff {l:List Nat}:fig1 l=true↔figs l=true∧l≠[]:=by unfold fig1;simp
theorem sign_other {c:Nat} {r:List Nat} (h1:c≠45) (h2:c≠43):signOf (c::r)=(0,c::r):=by
  unfold signOf
  split
  · rename_i e;cases e;exact absurd rfl h1
  · rename_i e;cases e;exact absurd rfl h2
  · rfl
theorem sign_len (l:List Nat):(signOf l).2.length≤l.length:=by
  unfold signOf
  split<;>simp
theorem bare_len (l:List Nat):(bare l).length≤l.length:=by
  unfold bare cutBy
  simp only [List.length_drop,List.length_take]
  omega
theorem all_st {l:List Nat} {f:Nat→Bool}:bAll [.lst (l.map fun c=>.bl (f c))]=.ok (.bl (l.all f)):=by
  unfold bAll
  simp only
  rw [bools_map]
  simp only
  congr 2
  rw [List.all_map]
  rfl
theorem figs_iff {l:List Nat}:figs l=true↔∀ c∈l,48≤c∧c≤57:=by
  unfold figs
  rw [List.all_eq_true]
  constructor
  · intro h c hc;exact of_decide_eq_true (h c hc)
  · intro h c hc;exact decide_eq_true (h c hc)
theorem figs_dg (n:Nat):figs (dg n)=true:=figs_iff.mpr (dg_code n)
theorem figs_sub {a b:List Nat} (h:∀ c∈a,c∈b) (hb:figs b=true):figs a=true:=figs_iff.mpr fun c hc=>figs_iff.mp hb c (h c hc)
theorem figs_rep (k:Nat):figs (List.replicate k 48)=true:=figs_iff.mpr fun c hc=>by
  have:=List.eq_of_mem_replicate hc
  omega
theorem figs_pad (k r:Nat):figs (pad k r)=true:=by unfold pad;rw [figs_app,figs_rep,figs_dg];rfl
theorem padL_len {k r:Nat} (h:r<10^k) (hk:0<k):(pad k r).length=k:=by
  unfold pad
  rw [List.length_append,List.length_replicate]
  have:=(dg_len (n:=r) hk).mpr h
  omega
theorem repT_st {l:List Nat} {n:Int} (h0:0≤n) (h1:n≤1000) (h2:l.length≤100):oRepT (.str (st l)) (.int n)=.ok (.str (st (List.replicate n.toNat l).flatten)):=by
  unfold oRepT
  simp only [st_list,st_size]
  have:l.length*n.toNat≤100*1000:=Nat.mul_le_mul h2 (by omega)
  rw [if_pos ⟨this,by omega,by omega,by omega⟩]
  rfl
def Mk (m:List Nat) (s:Int):Prop:=(m=[]∧s=0)∨(m=[45]∧s=1)∨(m=[43]∧s=0)
def Pt (pt b:List Nat):Prop:=(pt=[]∧b=[])∨(fig1 b=true∧pt=46::b)
def Tl (tl:List Nat) (e:Int):Prop:=(tl=[]∧e=0)∨∃ m s c,Mk m s∧fig1 c=true∧c.length≤4∧tl=101::(m++c)∧e=if s=1 then -(dv c:Int) else dv c
theorem sign_mk {m a x:List Nat} {s:Int} (hm:Mk m s) (ha:fig1 a=true):signOf (m++(a++x))=(s,a++x):=by
  obtain ⟨h1,h2⟩:=fig1_iff.mp ha
  rcases hm with ⟨rfl,rfl⟩ | ⟨rfl,rfl⟩ | ⟨rfl,rfl⟩
  · cases a with
    | nil=>exact absurd rfl h2
    | cons c r =>
      have:=figs_iff.mp h1 c (by simp)
      exact sign_other (by omega) (by omega)
  · rfl
  · rfl
theorem not_fig {c:Nat} {l:List Nat} (h:figs l=true) (hc:c<48∨57<c):c∉l:=fun z=>by
  have:=figs_iff.mp h c z
  omega
theorem not_mk {c:Nat} {m:List Nat} {s:Int} (hm:Mk m s) (hc:c≠45) (hc':c≠43):c∉m:=by
  rcases hm with ⟨rfl,_⟩ | ⟨rfl,_⟩ | ⟨rfl,_⟩<;>simp [hc,hc']
theorem not_pt {c:Nat} {pt b:List Nat} (hp:Pt pt b) (h46:c≠46) (hc:c<48∨57<c):c∉pt:=by
  rcases hp with ⟨rfl,_⟩ | ⟨h,rfl⟩
  · simp
  · have:=not_fig (fig1_iff.mp h).1 hc
    simp [h46,this]
theorem sp_num {i j:Nat} {m a pt b tl:List Nat} {s e:Int} (hm:Mk m s) (ha:fig1 a=true) (hp:Pt pt b) (ht:Tl tl e) (hl:(List.replicate i 32++(m++(a++(pt++tl)))++List.replicate j 32).length≤400) :
    spL (List.replicate i 32++(m++(a++(pt++tl)))++List.replicate j 32)=some (s,(dv (a++b):Int),e - b.length):=by
  obtain ⟨a1,a2⟩:=fig1_iff.mp ha
  have n32:(32:Nat)∉m++(a++(pt++tl)):=by
    have x1:=not_mk (c:=32) hm (by decide) (by decide)
    have x2:=not_fig (c:=32) a1 (by decide)
    have x3:=not_pt (c:=32) hp (by decide) (by decide)
    have x4:32∉tl:=by
      rcases ht with ⟨rfl,_⟩ | ⟨m2,s2,c,h1,h2,h3,rfl,_⟩
      · simp
      · have y1:=not_mk (c:=32) h1 (by decide) (by decide)
        have y2:=not_fig (c:=32) (fig1_iff.mp h2).1 (by decide)
        simp [y1,y2]
    simp [x1,x2,x3,x4]
  have eb:bare (List.replicate i 32++(m++(a++(pt++tl)))++List.replicate j 32)=m++(a++(pt++tl)):=by
    refine bare_is (by simp [a2]) (fun z=>n32 ?_) (fun z=>n32 ?_)
    · exact List.mem_of_mem_head? z
    · exact List.mem_of_getLast? z
  have e1:(a++(pt++tl))=(a++pt)++tl:=(List.append_assoc _ _ _).symm
  have n101:(101:Nat)∉a++pt:=by
    have x2:=not_fig (c:=101) a1 (by decide)
    have x3:=not_pt (c:=101) hp (by decide) (by decide)
    simp [x2,x3]
  have p1:(partL 101 (a++(pt++tl))).1=a++pt∧exOf (a++(pt++tl))=some e:=by
    unfold exOf
    rw [e1]
    rcases ht with ⟨rfl,rfl⟩ | ⟨m2,s2,c,h1,h2,h3,rfl,rfl⟩
    · rw [List.append_nil,part_no n101]
      exact ⟨rfl,if_neg (by simp)⟩
    · rw [part_yes n101]
      refine ⟨rfl,?_⟩
      rw [if_pos rfl]
      unfold exL
      have:=sign_mk (x:=[]) h1 h2
      rw [List.append_nil] at this
      rw [this]
      exact if_pos ⟨h2,h3⟩
  have p2:partL 46 (a++pt)=(a,if pt=[] then [] else [46],b):=by
    have x2:=not_fig (c:=46) a1 (by decide)
    rcases hp with ⟨rfl,rfl⟩ | ⟨h,rfl⟩
    · rw [List.append_nil,part_no x2]
      rfl
    · rw [part_yes x2,if_neg (by simp)]
  unfold spL
  rw [if_pos hl,eb,sign_mk hm ha]
  simp only
  rw [p1.2,p1.1,p2]
  simp only [Option.bind_some]
  have hq:(if pt=[] then [] else [46])=[46]→fig1 b=true:=by
    rcases hp with ⟨rfl,rfl⟩ | ⟨h,rfl⟩
    · intro z;simp at z
    · exact fun _=>h
  rw [if_pos ⟨ha,hq⟩]
theorem sp_num0 {m a pt b tl:List Nat} {s e:Int} (hm:Mk m s) (ha:fig1 a=true) (hp:Pt pt b) (ht:Tl tl e) (hl:(m++(a++(pt++tl))).length≤400) :
    spL (m++(a++(pt++tl)))=some (s,(dv (a++b):Int),e - b.length):=by
  have:=sp_num (i:=0) (j:=0) hm ha hp ht (by simpa using hl)
  simpa using this
def nch (c:Nat):Bool:=decide (48≤c∧c≤57)||c == 46||c == 101||c == 43||c == 45
theorem nch_figs {l:List Nat} (h:figs l=true):∀ c∈l,nch c=true:=fun c hc=>by
  unfold nch
  simp [figs_iff.mp h c hc]
theorem ix_str {x:PySem.Str} {i:Int} (h0:0≤i) (h1:i<x.cps.size) (h2:x.cps.size≤1000000):∃ c,oIx (.str x) (.int i)=.ok (.str (st [c])):=by
  have h:i.toNat<x.cps.toList.length:=by simp;omega
  refine ⟨x.cps.toList[i.toNat],?_⟩
  unfold oIx ixN
  simp only
  rw [if_pos h2,if_pos h0,if_pos (by simpa using h1)]
  simp only [Option.bind_some]
  rw [List.getElem?_eq_getElem h]
  rfl
end EV
namespace EV
def dig (c:Nat):Prop:=48≤c∧c≤57
instance {c:Nat}:Decidable (dig c):=inferInstanceAs (Decidable (_∧_))
def stp (q:Int) (c:Nat):Int :=
  if q=0∧(c=43∨c=45) then 1 else if q<3∧dig c then 2 else if q=2∧c=46 then 3 else if (q=3∨q=4)∧dig c then 4 else
  if (q=2∨q=4)∧c=101 then 5 else if q=5∧(c=43∨c=45) then 6 else if (q=5∨q=6)∧dig c then 7 else if (7≤q∧q≤9)∧dig c then q+1 else 99
def Rd (q:Int) (l:List Nat):Prop :=
  (q=0∧l=[])∨(q=1∧(l=[43]∨l=[45]))∨(q=2∧∃ m s a,Mk m s∧fig1 a=true∧l=m++a)∨(q=3∧∃ m s a,Mk m s∧fig1 a=true∧l=m++(a++[46])) ∨
  (q=4∧∃ m s a b,Mk m s∧fig1 a=true∧fig1 b=true∧l=m++(a++46::b))∨(q=5∧∃ m s a pt b,Mk m s∧fig1 a=true∧Pt pt b∧l=m++(a++(pt++[101]))) ∨
  (q=6∧∃ m s a pt b g,Mk m s∧fig1 a=true∧Pt pt b∧(g=43∨g=45)∧l=m++(a++(pt++[101,g]))) ∨
  ((7≤q∧q≤10)∧∃ m s a pt b m2 s2 c,Mk m s∧fig1 a=true∧Pt pt b∧Mk m2 s2∧fig1 c=true∧(c.length:Int)=q - 6∧l=m++(a++(pt++101::(m2++c))))∨q=99
theorem fig1_add {a:List Nat} {c:Nat} (h:figs a=true) (hc:dig c):fig1 (a++[c])=true:=by
  refine fig1_iff.mpr ⟨?_,by simp⟩
  rw [figs_app,h]
  unfold figs
  simp [hc.1,hc.2]
theorem fig1_one {c:Nat} (hc:dig c):fig1 [c]=true:=fig1_add (a:=[]) rfl hc
theorem mk_of {g:Nat} (h:g=43∨g=45):∃ s,Mk [g] s:=by
  rcases h with rfl | rfl
  · exact ⟨0,.inr (.inr ⟨rfl,rfl⟩)⟩
  · exact ⟨1,.inr (.inl ⟨rfl,rfl⟩)⟩
theorem mk_nil:Mk [] 0:=.inl ⟨rfl,rfl⟩
theorem rd_step {q:Int} {l:List Nat} (c:Nat) (h:Rd q l):Rd (stp q c) (l++[c]):=by
  have r2:∀ {m a:List Nat} {s:Int},Mk m s→fig1 a=true→∀ l,l=m++a→Rd 2 l:=fun h1 h2 l e=>.inr (.inr (.inl ⟨rfl,_,_,_,h1,h2,e⟩))
  have r99:∀ l,Rd 99 l:=fun l=>.inr (.inr (.inr (.inr (.inr (.inr (.inr (.inr rfl)))))))
  have r7:∀ {q:Int} {m a pt b m2 c:List Nat} {s s2:Int},7≤q∧q≤10→Mk m s→fig1 a=true→Pt pt b→Mk m2 s2→fig1 c=true→(c.length:Int)=q - 6→∀ l,l=m++(a++(pt++101::(m2++c)))→Rd q l :=
    fun h0 h1 h2 h3 h4 h5 h6 l e=>.inr (.inr (.inr (.inr (.inr (.inr (.inr (.inl ⟨h0,_,_,_,_,_,_,_,_,h1,h2,h3,h4,h5,h6,e⟩)))))))
  rcases h with ⟨rfl,rfl⟩ | ⟨rfl,hl⟩ | ⟨rfl,m,s,a,h1,h2,rfl⟩ | ⟨rfl,m,s,a,h1,h2,rfl⟩ | ⟨rfl,m,s,a,b,h1,h2,h3,rfl⟩ | ⟨rfl,m,s,a,pt,b,h1,h2,h3,rfl⟩ | ⟨rfl,m,s,a,pt,b,g,h1,h2,h3,hg,rfl⟩ | ⟨hq,m,s,a,pt,b,m2,s2,c',h1,h2,h3,h4,h5,h6,rfl⟩ | rfl
  · -- 0
    unfold stp
    by_cases g1:c=43∨c=45
    · rw [if_pos ⟨rfl,g1⟩]
      exact .inr (.inl ⟨rfl,by rcases g1 with e | e<;>simp [e]⟩)
    · rw [if_neg (fun z=>g1 z.2)]
      by_cases g2:dig c
      · rw [if_pos ⟨by decide,g2⟩]
        exact r2 mk_nil (fig1_one g2) _ rfl
      · rw [if_neg (fun z=>g2 z.2),if_neg (fun z=>by omega),if_neg (fun z=>by omega),if_neg (fun z=>by omega),if_neg (fun z=>by omega),if_neg (fun z=>by omega),if_neg (fun z=>by omega)]
        exact r99 _
  · -- 1
    unfold stp
    rw [if_neg (fun z=>by omega)]
    by_cases g2:dig c
    · rw [if_pos ⟨by decide,g2⟩]
      rcases hl with e | e
      · obtain ⟨s,hs⟩:=mk_of (g:=43) (.inl rfl)
        exact r2 hs (fig1_one g2) _ (by rw [e])
      · obtain ⟨s,hs⟩:=mk_of (g:=45) (.inr rfl)
        exact r2 hs (fig1_one g2) _ (by rw [e])
    · rw [if_neg (fun z=>g2 z.2),if_neg (fun z=>by omega),if_neg (fun z=>by omega),if_neg (fun z=>by omega),if_neg (fun z=>by omega),if_neg (fun z=>by omega),if_neg (fun z=>by omega)]
      exact r99 _
  · -- 2
    unfold stp
    rw [if_neg (fun z=>by omega)]
    by_cases g2:dig c
    · rw [if_pos ⟨by decide,g2⟩]
      exact r2 h1 (fig1_add (fig1_iff.mp h2).1 g2) _ (by simp)
    · rw [if_neg (fun z=>g2 z.2)]
      by_cases g3:c=46
      · rw [if_pos ⟨rfl,g3⟩]
        exact .inr (.inr (.inr (.inl ⟨rfl,_,_,_,h1,h2,by rw [g3];simp⟩)))
      · rw [if_neg (fun z=>g3 z.2),if_neg (fun z=>by omega)]
        by_cases g4:c=101
        · rw [if_pos ⟨.inl rfl,g4⟩]
          exact .inr (.inr (.inr (.inr (.inr (.inl ⟨rfl,_,_,_,[],[],h1,h2,.inl ⟨rfl,rfl⟩,by rw [g4];simp⟩)))))
        · rw [if_neg (fun z=>g4 z.2),if_neg (fun z=>by omega),if_neg (fun z=>by omega),if_neg (fun z=>by omega)]
          exact r99 _
  · -- 3
    unfold stp
    rw [if_neg (fun z=>by omega),if_neg (fun z=>by omega),if_neg (fun z=>by omega)]
    by_cases g2:dig c
    · rw [if_pos ⟨.inl rfl,g2⟩]
      exact .inr (.inr (.inr (.inr (.inl ⟨rfl,_,_,_,[c],h1,h2,fig1_one g2,by simp⟩))))
    · rw [if_neg (fun z=>g2 z.2),if_neg (fun z=>by omega),if_neg (fun z=>by omega),if_neg (fun z=>by omega),if_neg (fun z=>by omega)]
      exact r99 _
  · -- 4
    unfold stp
    rw [if_neg (fun z=>by omega),if_neg (fun z=>by omega),if_neg (fun z=>by omega)]
    by_cases g2:dig c
    · rw [if_pos ⟨.inr rfl,g2⟩]
      exact .inr (.inr (.inr (.inr (.inl ⟨rfl,_,_,_,b++[c],h1,h2,fig1_add (fig1_iff.mp h3).1 g2,by simp⟩))))
    · rw [if_neg (fun z=>g2 z.2)]
      by_cases g4:c=101
      · rw [if_pos ⟨.inr rfl,g4⟩]
        exact .inr (.inr (.inr (.inr (.inr (.inl ⟨rfl,_,_,_,46::b,b,h1,h2,.inr ⟨h3,rfl⟩,by rw [g4];simp⟩)))))
      · rw [if_neg (fun z=>g4 z.2),if_neg (fun z=>by omega),if_neg (fun z=>by omega),if_neg (fun z=>by omega)]
        exact r99 _
  · -- 5
    unfold stp
    rw [if_neg (fun z=>by omega),if_neg (fun z=>by omega),if_neg (fun z=>by omega),if_neg (fun z=>by omega),if_neg (fun z=>by omega)]
    by_cases g1:c=43∨c=45
    · rw [if_pos ⟨rfl,g1⟩]
      exact .inr (.inr (.inr (.inr (.inr (.inr (.inl ⟨rfl,_,_,_,_,_,c,h1,h2,h3,g1,by simp⟩))))))
    · rw [if_neg (fun z=>g1 z.2)]
      by_cases g2:dig c
      · rw [if_pos ⟨.inl rfl,g2⟩]
        exact r7 (by decide) h1 h2 h3 mk_nil (fig1_one g2) (by simp) _ (by simp)
      · rw [if_neg (fun z=>g2 z.2),if_neg (fun z=>by omega)]
        exact r99 _
  · -- 6
    unfold stp
    rw [if_neg (fun z=>by omega),if_neg (fun z=>by omega),if_neg (fun z=>by omega),if_neg (fun z=>by omega),if_neg (fun z=>by omega),if_neg (fun z=>by omega)]
    by_cases g2:dig c
    · rw [if_pos ⟨.inr rfl,g2⟩]
      obtain ⟨s2,hs⟩:=mk_of hg
      exact r7 (by decide) h1 h2 h3 hs (fig1_one g2) (by simp) _ (by simp)
    · rw [if_neg (fun z=>g2 z.2),if_neg (fun z=>by omega)]
      exact r99 _
  · -- 7 .. 10
    unfold stp
    rw [if_neg (fun z=>by omega),if_neg (fun z=>by omega),if_neg (fun z=>by omega),if_neg (fun z=>by omega),if_neg (fun z=>by omega),if_neg (fun z=>by omega),if_neg (fun z=>by omega)]
    by_cases g2:(7≤q∧q≤9)∧dig c
    · rw [if_pos g2]
      exact r7 (by omega) h1 h2 h3 h4 (fig1_add (fig1_iff.mp h5).1 g2.2) (by simp;omega) _ (by simp)
    · rw [if_neg g2]
      exact r99 _
  · -- 99
    unfold stp
    rw [if_neg (fun z=>by omega),if_neg (fun z=>by omega),if_neg (fun z=>by omega),if_neg (fun z=>by omega),if_neg (fun z=>by omega),if_neg (fun z=>by omega),if_neg (fun z=>by omega),if_neg (fun z=>by omega)]
    exact r99 _
theorem rd_all:∀ (l2:List Nat) (q:Int) (l1:List Nat),Rd q l1→Rd (l2.foldl stp q) (l1++l2)
  | [],q,l1,h=>by rw [List.append_nil];exact h
  | c::r,q,l1,h=>by
    have:=rd_all r (stp q c) (l1++[c]) (rd_step c h)
    rw [List.append_assoc] at this
    exact this
def Num (B:List Nat) (s f p:Int):Prop:=∃ m a pt b tl e,Mk m s∧fig1 a=true∧Pt pt b∧Tl tl e∧B=m++(a++(pt++tl))∧f=(dv (a++b):Int)∧p=e - b.length
def Accp (q:Int):Prop:=q=2∨q=4∨(7≤q∧q≤10)
theorem acc_num {B:List Nat} (h:Accp (B.foldl stp 0)):∃ s f p,Num B s f p:=by
  have r:=rd_all B 0 [] (.inl ⟨rfl,rfl⟩)
  rw [List.nil_append] at r
  generalize B.foldl stp 0=q at *
  unfold Accp at h
  rcases r with ⟨rfl,_⟩ | ⟨rfl,_⟩ | ⟨rfl,m,s,a,h1,h2,e⟩ | ⟨rfl,_⟩ | ⟨rfl,m,s,a,b,h1,h2,h3,e⟩ | ⟨rfl,_⟩ | ⟨rfl,_⟩ | ⟨hq,m,s,a,pt,b,m2,s2,c',h1,h2,h3,h4,h5,h6,e⟩ | rfl
  · omega
  · omega
  · exact ⟨s,_,_,m,a,[],[],[],0,h1,h2,.inl ⟨rfl,rfl⟩,.inl ⟨rfl,rfl⟩,by rw [e];simp,rfl,rfl⟩
  · omega
  · exact ⟨s,_,_,m,a,46::b,b,[],0,h1,h2,.inr ⟨h3,rfl⟩,.inl ⟨rfl,rfl⟩,by rw [e];simp,rfl,rfl⟩
  · omega
  · omega
  · exact ⟨s,_,_,m,a,pt,b,101::(m2++c'),_,h1,h2,h3,.inr ⟨m2,s2,c',h4,h5,by omega,rfl,rfl⟩,e,rfl,rfl⟩
  · omega
theorem fold_figs {q q':Int} (h:∀ c,dig c→stp q c=q') (h':∀ c,dig c→stp q' c=q'):∀ {a:List Nat},fig1 a=true→a.foldl stp q=q':=by
  have k:∀ a:List Nat,figs a=true→a.foldl stp q'=q':=by
    intro a
    induction a with
    | nil=>intro _;rfl
    | cons c r ih =>
      intro z
      have zc:=figs_iff.mp z c (by simp)
      rw [List.foldl_cons,h' c zc]
      exact ih (figs_sub (fun x hx=>by simp [hx]) z)
  intro a z
  obtain ⟨z1,z2⟩:=fig1_iff.mp z
  cases a with
  | nil=>exact absurd rfl z2
  | cons c r =>
    rw [List.foldl_cons,h c (figs_iff.mp z1 c (by simp))]
    exact k r (figs_sub (fun x hx=>by simp [hx]) z1)
theorem stp_lo {q:Int} {c:Nat} (h:0≤q) (h2:q<3) (hc:dig c):stp q c=2:=by
  unfold stp
  unfold dig at hc
  rw [if_neg (by omega),if_pos ⟨h2,hc⟩]
theorem stp_34 {q:Int} {c:Nat} (h:q=3∨q=4) (hc:dig c):stp q c=4:=by
  unfold stp
  rw [if_neg (by omega),if_neg (by omega),if_neg (by omega),if_pos ⟨h,hc⟩]
theorem fold_tail {q:Int}:∀ (c:List Nat),figs c=true→7≤q→q+c.length≤10→c.foldl stp q=q+c.length
  | [],_,_,_=>by simp
  | x::r,h,h1,h2=>by
    have hx:=figs_iff.mp h x (by simp)
    rw [List.length_cons] at h2
    have e:stp q x=q+1:=by
      unfold stp
      rw [if_neg (by omega),if_neg (by omega),if_neg (by omega),if_neg (by omega),if_neg (by omega),if_neg (by omega),if_neg (by omega),if_pos ⟨⟨by omega,by omega⟩,hx⟩]
    rw [List.foldl_cons,e,fold_tail (q:=q+1) r (figs_sub (fun x hx=>by simp [hx]) h) (by omega) (by omega),List.length_cons]
    omega
theorem num_acc {B:List Nat} {s f p:Int} (h:Num B s f p):Accp (B.foldl stp 0):=by
  obtain ⟨m,a,pt,b,tl,e,hm,ha,hp,ht,rfl,_,_⟩:=h
  rw [List.foldl_append,List.foldl_append,List.foldl_append]
  have q1:(m.foldl stp 0=0∨m.foldl stp 0=1):=by rcases hm with ⟨rfl,_⟩ | ⟨rfl,_⟩ | ⟨rfl,_⟩<;>decide
  have q2:a.foldl stp (m.foldl stp 0)=2:=by
    rcases q1 with z | z<;>rw [z]
    · exact fold_figs (fun c hc=>stp_lo (by decide) (by decide) hc) (fun c hc=>stp_lo (by decide) (by decide) hc) ha
    · exact fold_figs (fun c hc=>stp_lo (by decide) (by decide) hc) (fun c hc=>stp_lo (by decide) (by decide) hc) ha
  rw [q2]
  have q3:pt.foldl stp 2=2∨pt.foldl stp 2=4:=by
    rcases hp with ⟨rfl,_⟩ | ⟨hb,rfl⟩
    · exact .inl rfl
    · refine .inr ?_
      rw [List.foldl_cons,show stp 2 46=3 by decide]
      exact fold_figs (fun c hc=>stp_34 (.inl rfl) hc) (fun c hc=>stp_34 (.inr rfl) hc) hb
  generalize pt.foldl stp 2=q at *
  rcases ht with ⟨rfl,_⟩ | ⟨m2,s2,c,h1,h2,h3,rfl,_⟩
  · unfold Accp
    rw [List.foldl_nil]
    omega
  · rw [List.foldl_cons,List.foldl_append]
    have e5:stp q 101=5:=by rcases q3 with rfl | rfl<;>decide
    rw [e5]
    obtain ⟨c1,c2⟩:=fig1_iff.mp h2
    cases c with
    | nil=>exact absurd rfl c2
    | cons x r =>
      have hx:=figs_iff.mp c1 x (by simp)
      have e7:stp (m2.foldl stp 5) x=7:=by
        have:m2.foldl stp 5=5∨m2.foldl stp 5=6:=by rcases h1 with ⟨rfl,_⟩ | ⟨rfl,_⟩ | ⟨rfl,_⟩<;>decide
        generalize m2.foldl stp 5=y at *
        unfold stp
        have hx':dig x:=hx
        unfold dig at hx
        rw [if_neg (by omega),if_neg (by omega),if_neg (by omega),if_neg (by omega),if_neg (by omega),if_neg (by omega),if_pos ⟨this,hx'⟩]
      rw [List.length_cons] at h3
      rw [List.foldl_cons,e7,fold_tail r (figs_sub (fun x hx=>by simp [hx]) c1) (by decide) (by omega)]
      unfold Accp
      omega
theorem sign_back (l:List Nat):∃ m,Mk m (signOf l).1∧l=m++(signOf l).2:=by
  unfold signOf
  split
  · exact ⟨[45],.inr (.inl ⟨rfl,rfl⟩),rfl⟩
  · exact ⟨[43],.inr (.inr ⟨rfl,rfl⟩),rfl⟩
  · exact ⟨[],mk_nil,rfl⟩
theorem part_back (c:Nat) (l:List Nat):((partL c l).2.1=[c]∧l=(partL c l).1++c::(partL c l).2.2)∨((partL c l).2.1=[]∧l=(partL c l).1∧(partL c l).2.2=[]):=by
  by_cases g:c∈l
  · obtain ⟨a,b,rfl,hn⟩:=List.eq_append_cons_of_mem g
    rw [part_yes hn]
    exact .inl ⟨rfl,rfl⟩
  · rw [part_no g]
    exact .inr ⟨rfl,rfl,rfl⟩
theorem sp_shape {l:List Nat} {s f p:Int} (h:spL l=some (s,f,p)):Num (bare l) s f p:=by
  unfold spL at h
  split at h
  · cases he:exOf (signOf (bare l)).2 with
    | none=>rw [he] at h;cases h
    | some ex =>
      rw [he] at h
      simp only [Option.bind_some] at h
      split at h
      · rename_i g
        injection h with h
        injection h with e1 e2
        injection e2 with e2 e3
        obtain ⟨m,hm,em⟩:=sign_back (bare l)
        rw [e1] at hm
        generalize (signOf (bare l)).2=w at *
        have tl:∃ tl,Tl tl ex∧w=(partL 101 w).1++tl:=by
          unfold exOf at he
          rcases part_back 101 w with ⟨x1,x2⟩ | ⟨x1,x2,x3⟩
          · rw [if_pos x1] at he
            unfold exL at he
            obtain ⟨m2,hm2,em2⟩:=sign_back (partL 101 w).2.2
            split at he
            · rename_i g2
              injection he with he
              refine ⟨101::(partL 101 w).2.2,.inr ⟨m2,_,_,hm2,g2.1,g2.2,by rw [← em2],he.symm⟩,x2⟩
            · cases he
          · rw [if_neg (by rw [x1];simp)] at he
            injection he with he
            exact ⟨[],.inl ⟨rfl,he.symm⟩,by rw [List.append_nil];exact x2⟩
        obtain ⟨tl,ht,ew⟩:=tl
        generalize (partL 101 w).1=h0 at *
        have pt:∃ pt,Pt pt (partL 46 h0).2.2∧h0=(partL 46 h0).1++pt:=by
          rcases part_back 46 h0 with ⟨x1,x2⟩ | ⟨x1,x2,x3⟩
          · exact ⟨46::(partL 46 h0).2.2,.inr ⟨g.2 x1,rfl⟩,x2⟩
          · exact ⟨[],.inl ⟨rfl,x3⟩,by rw [List.append_nil];exact x2⟩
        obtain ⟨pt,hp,ep⟩:=pt
        refine ⟨m,(partL 46 h0).1,pt,(partL 46 h0).2.2,tl,ex,hm,g.1,hp,ht,?_,e2.symm,e3.symm⟩
        rw [em,ew]
        conv=>lhs;rw [ep]
        simp
      · cases h
  · cases h
theorem num_bare {m a pt b tl:List Nat} {s e:Int} (hm:Mk m s) (ha:fig1 a=true) (hp:Pt pt b) (ht:Tl tl e):bare (m++(a++(pt++tl)))=m++(a++(pt++tl)):=by
  obtain ⟨a1,a2⟩:=fig1_iff.mp ha
  have n32:(32:Nat)∉m++(a++(pt++tl)):=by
    have x1:=not_mk (c:=32) hm (by decide) (by decide)
    have x2:=not_fig (c:=32) a1 (by decide)
    have x3:=not_pt (c:=32) hp (by decide) (by decide)
    have x4:32∉tl:=by
      rcases ht with ⟨rfl,_⟩ | ⟨m2,s2,c,h1,h2,h3,rfl,_⟩
      · simp
      · have y1:=not_mk (c:=32) h1 (by decide) (by decide)
        have y2:=not_fig (c:=32) (fig1_iff.mp h2).1 (by decide)
        simp [y1,y2]
    simp [x1,x2,x3,x4]
  have:=bare_is (i:=0) (j:=0) (l:=m++(a++(pt++tl))) (by simp [a2]) (fun z=>n32 (List.mem_of_mem_head? z)) (fun z=>n32 (List.mem_of_getLast? z))
  simpa using this
theorem sp_of_num {l:List Nat} {s f p:Int} (hl:l.length≤400) (h:Num (bare l) s f p):spL l=some (s,f,p):=by
  obtain ⟨m,a,pt,b,tl,e,hm,ha,hp,ht,eB,rfl,rfl⟩:=h
  have l2:(m++(a++(pt++tl))).length≤400:=by rw [← eB];exact Nat.le_trans (bare_len l) hl
  have:=sp_num0 hm ha hp ht l2
  unfold spL at this ⊢
  rw [if_pos l2,num_bare hm ha hp ht,sign_mk hm ha] at this
  rw [if_pos hl,eB,sign_mk hm ha]
  exact this
theorem sp_iff {l:List Nat} (hl:l.length≤400):(∃ s f p,spL l=some (s,f,p))↔Accp ((bare l).foldl stp 0):=by
  constructor
  · rintro ⟨s,f,p,e⟩
    exact num_acc (sp_shape e)
  · intro h
    obtain ⟨s,f,p,hn⟩:=acc_num h
    exact ⟨s,f,p,sp_of_num hl hn⟩
theorem takeWhile_all {q:Nat→Bool} {l:List Nat}:∀ {p:List Nat},(∀ c∈p,q c=true)→(p++l).takeWhile q=p++l.takeWhile q
  | [],_=>rfl
  | c::r,h=>by rw [List.cons_append,List.takeWhile_cons,if_pos (h c (by simp)),takeWhile_all fun c hc=>h c (by simp [hc]),List.cons_append]
theorem cut_left {q:Nat→Bool} {p l:List Nat} (hp:∀ c∈p,q c=true) (h0:l≠[]) (hq:∀ c∈l,q c=false):cutBy q true true (p++l)=l:=by
  unfold cutBy
  simp only [if_true]
  have t1:(p++l).takeWhile q=p:=by
    rw [takeWhile_all hp,head_not,List.append_nil]
    intro c hc
    exact hq c (List.mem_of_mem_head? hc)
  rw [t1,List.drop_left' rfl,head_not (l:=l.reverse),List.length_nil,Nat.sub_zero,List.take_length,List.drop_left' rfl]
  intro c hc
  exact hq c (List.mem_reverse.mp (List.mem_of_mem_head? hc))
theorem stripPM {p l:List Nat} {s:Int} (hm:Mk p s) (h0:l≠[]) (hq:∀ c∈l,c≠43∧c≠45) (hl:(p++l).length≤1000000):mStrip (st (p++l)) (.str (st [43,45]))=.ok (.str (st l)):=by
  unfold mStrip mCut
  simp only
  rw [if_pos (by rw [st_size];exact hl),st_list,cut_left (p:=p) (l:=l) ?_ h0 ?_]
  · rfl
  · intro c hc
    rcases hm with ⟨rfl,_⟩ | ⟨rfl,_⟩ | ⟨rfl,_⟩
    · cases hc
    · have:c=45:=by simpa using hc
      subst this
      unfold st;simp
    · have:c=43:=by simpa using hc
      subst this
      unfold st;simp
  · intro c hc
    have:=hq c hc
    unfold st
    simp [this.1,this.2]
end EV
namespace EV
def cd (E F b:Int):Int:=b%pw (E+F)
def rk (E F b:Int):Int:=if pw (E+F)≤b then -(cd E F b) else cd E F b
def vl (F c:Int):Int:=if c / pw F=0 then c else (pw F+c%pw F)*pw (c / pw F - 1)
def nn (E F b:Int):Prop:=pw (E+F) - pw F<cd E F b
instance {E F b:Int}:Decidable (nn E F b):=inferInstanceAs (Decidable (_<_))
section
variable {E F a b c c':Int}
def ab (E F b:Int):Int:=if rk E F b=pw (E+F) - pw F then b else if rk E F b<0 then pw (E+F) - (rk E F b+1) else rk E F b+1
def be (E F b:Int):Int:=if rk E F b = -(pw (E+F) - pw F) then b else if 0<rk E F b then rk E F b - 1 else pw (E+F) - (rk E F b - 1)
end
end EV
namespace EV
section
variable {t n p k a b c:Int}
theorem mul_lt_iff (hc:0<c):a*c<b*c↔a<b:=⟨fun h=>Int.lt_of_mul_lt_mul_right h (Int.le_of_lt hc),fun h=>Int.mul_lt_mul_of_pos_right h hc⟩
def Lt (t n p:Int):Prop:=t*pw (-p)<n*pw p
instance:Decidable (Lt t n p):=inferInstanceAs (Decidable (_<_))
variable {E F:Int}
end
end EV
namespace EV
section
variable {E F t n P w l A B K D:Int}
theorem stand (hB:0<B) (hK:0<K) (l0:0≤l) (l1:l<B) (e:D*B=l*K):0≤D∧D<K∧(D=0↔l=0)∧(2*D<K↔2*l<B)∧(2*D=K↔2*l=B):=by
  have k0:0≤l*K:=Int.mul_nonneg l0 (Int.le_of_lt hK)
  have d0:0≤D:=by
    refine Classical.byContradiction fun q => ?_
    have:=Int.mul_neg_of_neg_of_pos (show D<0 by omega) hB
    omega
  have d1:D<K:=by
    rw [← mul_lt_iff hB,e,Int.mul_comm K]
    exact Int.mul_lt_mul_of_pos_right l1 hK
  have e2:2*D*B=2*l*K:=by rw [Int.mul_assoc,e,Int.mul_assoc]
  refine ⟨d0,d1,⟨fun q => ?_,fun q => ?_⟩,?_,?_⟩
  · rw [q,Int.zero_mul] at e
    rcases Int.mul_eq_zero.mp e.symm with z | z
    · exact z
    · omega
  · rw [q,Int.zero_mul] at e
    rcases Int.mul_eq_zero.mp e with z | z
    · exact z
    · omega
  · rw [← mul_lt_iff hB,e2,Int.mul_comm K,mul_lt_iff hK]
  · constructor
    · intro q
      rw [q,Int.mul_comm] at e2
      exact (Int.eq_of_mul_eq_mul_right (by omega) e2).symm
    · intro q
      rw [q,Int.mul_comm B] at e2
      exact Int.eq_of_mul_eq_mul_right (by omega) e2
end
section
variable {E F T n c:Int}
end
section
variable {E F T n c c' r r' s t w p:Int}
end
end EV
namespace EV
inductive Wy where
  | even | away | nought | up | down
def Wy.s:Wy→PySem.Str
  | .even=>"even" | .away=>"away" | .nought=>"nought" | .up=>"up" | .down=>"down"
def wayD (w:Wy):D:=.ins "Way" [("name",.str w.s)]
def wayNames:List PySem.Str:=["even","away","nought","up","down"]
theorem oNotIn_strs {x:PySem.Str} {ys:List PySem.Str}:oNotIn (.str x) (.tup (ys.map D.str))=.ok (.bl (decide (x∉ys))):=by
  have h1:∀ ys:List PySem.Str,(ys.map D.str).all D.sc=true:=fun ys=>by induction ys with
    | nil=>rfl
    | cons a l ih=>simp only [List.map_cons,List.all_cons,ih,D.sc,Bool.and_self]
  have h2:∀ ys:List PySem.Str,((ys.map D.str).any fun y=>D.beq y (.str x))=decide (x∈ys):=fun ys=>by induction ys with
    | nil=>rfl
    | cons a l ih =>
      simp only [List.map_cons,List.any_cons,ih,D.beq]
      by_cases h:a=x
      · subst h;simp
      · have:¬ x=a:=fun z=>h z.symm
        simp [h,this]
  unfold oNotIn oIn isIn
  simp only [D.sc,h1,Bool.and_self,if_true,h2,R.bind]
  by_cases h:x∈ys<;>simp [h]
section
variable {E F s T T' n k c c' r r':Int} {w:Wy}
end
section
variable {E F s T T' n n' k c c' r r' b W P:Int} {w:Wy}
end
section
variable {E F E2 F2 c:Int}
end
section
variable {E F s t n c T Z:Int} {w:Wy}
end
section
variable {E F P S A B G X t n r c:Int}
end
section
variable {E F s c r:Int}
end
end EV
namespace EV
end EV
namespace T
open EV
theorem cell_ok {ns:List Int} {j:Int} (h0:0≤j):p_law_cell_at [.lst (ns.map .int),.int j]=.ok (.int (ns.getD j.toNat 0)):=by
  unfold p_law_cell_at g_law_cell_at
  by_cases h:j<(ns.length:Int)
  · have e:oIx (.lst (ns.map D.int)) (.int j)=.ok (.int (ns.getD j.toNat 0)):=by
      obtain ⟨k,rfl⟩:=Int.eq_ofNat_of_zero_le h0
      have hk:k<ns.length:=by omega
      refine ix_lst ?_
      simp [List.getElem?_map,List.getElem?_eq_getElem hk,List.getD_eq_getElem?_getD]
    simp_arith [h,e]
  · simp_arith [h,getD_end h0 h]
theorem way_ok (w:Wy):p_way_of [.str w.s]=.ok (wayD w):=by
  have h:oNotIn (.str w.s) (.tup [.str "even",.str "away",.str "nought",.str "up",.str "down"])=.ok (.bl false):=by
    show oNotIn (.str w.s) (.tup (wayNames.map D.str))=_
    rw [oNotIn_strs]
    cases w<;>rfl
  unfold p_way_of g_way_of
  simp_arith [h]
  rfl
theorem way_by_ok (c:Int):∃ w:Wy,p_law_way_by [.int c]=.ok (.str w.s):=by
  unfold p_law_way_by g_law_way_by
  rcases (by omega:c%5=0∨c%5=1∨c%5=2∨c%5=3∨c%5=4) with e | e | e | e | e
  · exact ⟨.even,by simp_arith [e];rfl⟩
  · exact ⟨.away,by simp_arith [e];rfl⟩
  · exact ⟨.nought,by simp_arith [e];rfl⟩
  · exact ⟨.up,by simp_arith [e,ixl3];rfl⟩
  · exact ⟨.down,by simp_arith [e,ixl4];rfl⟩
theorem size_ok (c:Int):p_law_size_by [.int c]=.ok (.tup [.int (szE c),.int (szF c)]):=by
  unfold p_law_size_by g_law_size_by
  by_cases h:c%8<4
  · rcases four (Int.emod_nonneg c (by decide)) h with e | e | e | e<;>(simp_arith [e];unfold szE szF;rw [e];rfl)
  · by_cases h2:c%8<6
    · simp_arith [h2,show ¬ c%8=0 by omega,show ¬ c%8=1 by omega,show ¬ c%8=2 by omega,show ¬ c%8=3 by omega]
      unfold szE szF
      rw [if_neg h,if_pos h2,if_neg h,if_pos h2]
    · simp_arith [h2,show ¬ c%8=0 by omega,show ¬ c%8=1 by omega,show ¬ c%8=2 by omega,show ¬ c%8=3 by omega]
      unfold szE szF
      rw [if_neg h,if_neg h2,if_neg h,if_neg h2]
theorem whole_int (i:Int):p_law_whole [.int i]=.ok (.bl true):=by
  unfold p_law_whole g_law_whole
  simp_arith []
theorem d45:PySem.Str.ofString "-"=st [45]:=by decide
theorem d43:PySem.Str.ofString "+"=st [43]:=by decide
theorem d46:PySem.Str.ofString "."=st [46]:=by decide
theorem d101:PySem.Str.ofString "e"=st [101]:=by decide
theorem d32:PySem.Str.ofString " "=st [32]:=by decide
theorem d0:PySem.Str.ofString ""=st []:=by decide
theorem figures_ok {l:List Nat} (h:l.length≤100000):p_all_figures [.str (st l)]=.ok (.bl (fig1 l)):=by
  have hi:itS (var 0) [some (.str (st l))]=.ok (l.map fun c=>D.str ⟨#[c]⟩):=by
    show asS (.str (st l))=_
    rw [asS_str (by rw [st_size];exact h),st_list]
  have hc:comp (itS (var 0)) [] (bin oIn (var 0) (con (.str "0123456789"))) [some (.str (st l))]=.ok (.lst (l.map fun c=>D.bl (decide (48≤c∧c≤57)))):=by
    unfold comp compIf
    rw [hi]
    show (if (l.map fun c=>D.str ⟨#[c]⟩).length≤100000 then _ else _)=_
    rw [if_pos (by rw [List.length_map];exact h),comp_signs (l:=l) (f:=fun c=>decide (48≤c∧c≤57)) (fun c=>isIn_figs)]
    show flatR _=_
    unfold flatR
    rw [if_pos (flats_bl _ l)]
  have ha:=all_st (l:=l) (f:=fun c=>decide (48≤c∧c≤57))
  unfold p_all_figures g_all_figures
  generalize comp (itS (var 0)) [] (bin oIn (var 0) (con (.str "0123456789")))=C at *
  unfold fig1 figs
  by_cases g:l=[]
  · subst g
    simp_arith [d0,st_inj]
    try rfl
  · simp_arith [d0,st_inj,g,hc,ha]
    try simp
theorem bare_line_ok {l:List Nat} (h:l.length≤400):p_bare_line [.str (st l)]=.ok (.str (st (bare l))):=by
  unfold p_bare_line g_bare_line
  simp_arith [bLen_st (a:=l) (by omega),show ¬ (400:Int)<l.length by omega,u_mS,d32,strip_st (l:=l) (by omega)]
theorem bare_line_ex {l:List Nat} (h:400<l.length) (h2:l.length≤1000000):p_bare_line [.str (st l)]=.ex "NoText":=by
  unfold p_bare_line g_bare_line
  simp_arith [bLen_st (a:=l) h2,show (400:Int)<l.length by omega]
theorem sign_word_ok {l:List Nat} (h:l.length≤1000000):p_sign_and_word [.str (st l)]=.ok (.tup [.int (signOf l).1,.str (st (signOf l).2)]):=by
  have s1:=starts_st (l:=l) (c:=45)
  have s2:=starts_st (l:=l) (c:=43)
  unfold p_sign_and_word g_sign_and_word
  cases l with
  | nil =>
    simp_arith [u_mS,d45,d43,s1,s2,List.head?_nil,show ¬ (none:Option Nat)=some 45 by decide,show ¬ (none:Option Nat)=some 43 by decide]
    try rfl
  | cons c r =>
    have b1:=sl_hi (a:=c::r) (k:=1) (by decide) (by simp;omega) h
    rw [show ((1:Int).toNat)=1 from rfl,show (c::r).drop 1=r from rfl] at b1
    rw [List.head?_cons] at s1 s2
    by_cases g1:c=45
    · subst g1
      generalize hx:st (45::r)=x at *
      simp_arith [u_mS,d45,s1,u_slcS,part_some,b1]
      try rfl
    · by_cases g2:c=43
      · subst g2
        generalize hx:st (43::r)=x at *
        simp_arith [u_mS,d45,d43,s1,s2,show ¬ (some 43:Option Nat)=some 45 by decide,u_slcS,part_some,b1]
        try rfl
      · rw [sign_other g1 g2]
        simp_arith [u_mS,d45,d43,s1,s2,show ¬ (some c:Option Nat)=some 45 by simpa using g1,show ¬ (some c:Option Nat)=some 43 by simpa using g2]
theorem exponent_ok {l:List Nat} (h:l.length≤1000):p_exponent_of [.str (st l)]=match exL l with | some e=>.ok (.int e) | none=>.ex "NoText":=by
  have sw:=sign_word_ok (l:=l) (by omega)
  have sl:=sign_len l
  have fo:=figures_ok (l:=(signOf l).2) (by omega)
  have bl:=bLen_st (a:=(signOf l).2) (by omega)
  unfold exL
  generalize signOf l=sg at *
  obtain ⟨s,r⟩:=sg
  simp only at *
  unfold p_exponent_of g_exponent_of
  by_cases g:fig1 r=true
  · obtain ⟨g1,g2⟩:=fig1_iff.mp g
    by_cases g3:r.length≤4
    · rw [if_pos ⟨g,g3⟩]
      have it:=intS_st g1 g2 (by omega)
      by_cases g4:s=1
      · rw [if_pos g4]
        simp_arith [sw,fo,g,bl,show ¬ (4:Int)<r.length by omega,eq_true g4,it]
      · rw [if_neg g4]
        simp_arith [sw,fo,g,bl,show ¬ (4:Int)<r.length by omega,g4,it]
    · rw [if_neg (fun z=>g3 z.2)]
      simp_arith [sw,fo,g,bl,show (4:Int)<r.length by omega]
  · rw [if_neg (fun z=>g z.1)]
    simp_arith [sw,fo,Bool.eq_false_iff.mpr g]
theorem spelled_ok {l:List Nat} (h:l.length≤1000000):p_spelled [.str (st l)]=match spL l with | some (s,f,p)=>.ok (.tup [.int s,.int f,.int p]) | none=>.ex "NoText":=by
  unfold spL
  by_cases g:l.length≤400
  · rw [if_pos g]
    have bo:=bare_line_ok g
    have bl:=bare_len l
    have so:=sign_word_ok (l:=bare l) (by omega)
    have sl:=sign_len (bare l)
    generalize signOf (bare l)=sg at *
    obtain ⟨s,w⟩:=sg
    simp only at *
    have p1:=part_st (l:=w) (c:=101) (by omega)
    obtain ⟨l1,_,l2,_⟩:=part_len 101 w
    have eo:=exponent_ok (l:=(partL 101 w).2.2) (by omega)
    have p2:=part_st (l:=(partL 101 w).1) (c:=46) (by omega)
    obtain ⟨m1,_,m2,m3⟩:=part_len 46 (partL 101 w).1
    have pn:=partL_none (c:=46) (l:=(partL 101 w).1)
    unfold exOf
    generalize partL 101 w=q at *
    obtain ⟨h0,h1,h2⟩:=q
    simp only at *
    generalize partL 46 h0=q at *
    obtain ⟨b0,b1,b2⟩:=q
    simp only at *
    have f0:=figures_ok (l:=b0) (by omega)
    have f2:=figures_ok (l:=b2) (by omega)
    have ad:=oAdd_st (a:=b0) (b:=b2) (by omega)
    have ln:=bLen_st (a:=b2) (by omega)
    have rest:∀ ex:Int,∀ z:D,(seq (ifs (not_ (call p_all_figures [bin oIx (var 4) (con (.int 0))])) (raise "NoText") (pass_))
  (seq (ifs (and_ (bin oEq (bin oIx (var 4) (con (.int 1))) (con (.str "."))) (not_ (call p_all_figures [bin oIx (var 4) (con (.int 2))]))) (raise "NoText") (pass_))
  (ret (tupE [bin oIx (var 1) (con (.int 0)),call bIntS [bin oAdd (bin oIx (var 4) (con (.int 0))) (bin oIx (var 4) (con (.int 2)))],bin oSub (var 3) (call bLen [bin oIx (var 4) (con (.int 2))])])))
      [some (.str (st l)),some (.tup [.int s,.str (st w)]),some z,some (.int ex),some (.tup [.str (st b0),.str (st b1),.str (st b2)])]).res =
      match (if fig1 b0=true∧(b1=[46]→fig1 b2=true) then some (s,(dv (b0++b2):Int),ex - (b2.length:Int)) else none) with
      | some (s,f,p)=>.ok (.tup [.int s,.int f,.int p]) | none=>.ex "NoText":=by
      intro ex z
      by_cases c0:fig1 b0=true
      · by_cases c1:b1=[46]
        · by_cases c2:fig1 b2=true
          · rw [if_pos ⟨c0,fun _=>c2⟩]
            obtain ⟨x1,x2⟩:=fig1_iff.mp c0
            obtain ⟨y1,y2⟩:=fig1_iff.mp c2
            have it:=intS_st (l:=b0++b2) (by rw [figs_app,x1,y1];rfl) (by simp [x2]) (by rw [List.length_append];omega)
            subst c1
            generalize b0++b2=b at *
            simp_arith [f0,c0,d46,f2,c2,ad,it,ln]
          · rw [if_neg (fun z=>c2 (z.2 c1))]
            subst c1
            simp_arith [f0,c0,d46,f2,Bool.eq_false_iff.mpr c2]
        · rw [if_pos ⟨c0,fun z=>absurd z c1⟩]
          have e2:=pn c1
          obtain ⟨x1,x2⟩:=fig1_iff.mp c0
          subst e2
          have it:=intS_st (l:=b0++[]) (by rw [List.append_nil];exact x1) (by simp [x2]) (by rw [List.length_append];simp;omega)
          generalize b0++[]=b at *
          simp_arith [f0,c0,d46,st_inj,c1,ad,it,ln]
      · rw [if_neg (fun z=>c0 z.1)]
        simp_arith [f0,Bool.eq_false_iff.mpr c0]
    unfold p_spelled g_spelled
    generalize hrest:seq (ifs (not_ (call p_all_figures [bin oIx (var 4) (con (.int 0))])) (raise "NoText") (pass_)) _=X at *
    by_cases c:h1=[101]
    · rw [if_pos c]
      subst c
      cases he:exL h2 with
      | none =>
        rw [he] at eo
        simp_arith [bo,so,u_mS,d101,p1,eo]
        try rfl
      | some ex =>
        rw [he] at eo
        simp_arith [bo,so,u_mS,d101,p1,eo,d46,p2,rest]
        try rfl
    · rw [if_neg c]
      simp_arith [bo,so,u_mS,d101,p1,st_inj,c,d46,p2,rest]
      try rfl
  · rw [if_neg g]
    unfold p_spelled g_spelled
    simp_arith [bare_line_ex (l:=l) (by omega) h]
theorem s60:oPow (.int 10) (.int 60)=.ok (.int 1000000000000000000000000000000000000000000000000000000000000):=by rw [oPow_ok (by decide) (by decide)];rfl
theorem run_ok {c n:Int} (hc:nb c≤2^20) (n0:1≤n) (n1:n≤420):∃ l,p_law_run [.int c,.int n]=.ok (.str (st l))∧(l.length:Int)=n∧fig1 l=true:=by
  have mm:MulOk c 73846150927364518273645509182736455091827:=MulOk.of hc (b:=200) (nb_le.mpr (by decide)) (by decide)
  have a0:=Int.emod_nonneg (c*73846150927364518273645509182736455091827) (show (1000000000000000000000000000000000000000000000000000000000000:Int)≠0 by decide)
  have a1:=Int.emod_lt_of_pos (c*73846150927364518273645509182736455091827) (show (0:Int)<1000000000000000000000000000000000000000000000000000000000000 by decide)
  have hm:=oMod_ok (i:=c*73846150927364518273645509182736455091827) (show (0:Int)<1000000000000000000000000000000000000000000000000000000000000 by decide)
  generalize c*73846150927364518273645509182736455091827%1000000000000000000000000000000000000000000000000000000000000=x at *
  have bs:=bStr_dg (i:=x) a0 (Nat.le_trans (nb_le (k:=200).mpr (by omega)) (by decide))
  have xl:x.toNat<10^60:=by omega
  have dl:=(dg_len (n:=x.toNat) (k:=60) (by decide)).mpr xl
  have zz:=zf_st (r:=x.toNat) (k:=60) (by decide) (by decide) (by omega)
  rw [show (60:Int).toNat=60 from rfl] at zz
  have pl:=padL_len xl (by decide)
  have fp:=figs_pad 60 x.toNat
  generalize pad 60 x.toNat=P at *
  have rt:=repT_st (l:=P) (n:=7) (by decide) (by decide) (by omega)
  rw [show (7:Int).toNat=7 from rfl] at rt
  have fl:figs (List.replicate 7 P).flatten=true:=figs_sub (fun c hc=>by
    obtain ⟨l,hl,hc⟩:=List.mem_flatten.mp hc
    rw [List.eq_of_mem_replicate hl] at hc
    exact hc) fp
  have ll:(List.replicate 7 P).flatten.length=420:=by
    rw [List.length_flatten,List.map_replicate,List.sum_replicate_nat,pl]
  generalize (List.replicate 7 P).flatten=Z at *
  have sl:=sl_hi (a:=Z) (k:=420 - n) (by omega) (by omega) (by omega)
  have lz:(Z.drop (420 - n).toNat).length=n.toNat:=by rw [List.length_drop];omega
  refine ⟨Z.drop (420 - n).toNat,?_,by omega,fig1_iff.mpr ⟨figs_sub (fun c hc=>List.mem_of_mem_drop hc) fl,fun z => ?_⟩⟩
  · generalize Z.drop (420 - n).toNat=Y at *
    unfold p_law_run g_law_run
    simp_arith [oMul_ok mm,s60,hm,bs,u_mS,zz,rt,u_slcS,part_some,sl]
  · rw [z] at lz
    simp at lz
    omega
theorem mark_ok {c:Int}:∃ m s,p_law_mark_by [.int c]=.ok (.str (st m))∧Mk m s∧m.length≤1:=by
  unfold p_law_mark_by g_law_mark_by
  have hs:c%3=0∨c%3=1∨c%3=2:=by omega
  have l3:∀ a b c':D,oIx (.lst [a,b,c']) (.int 0)=.ok a∧oIx (.lst [a,b,c']) (.int 1)=.ok b∧oIx (.lst [a,b,c']) (.int 2)=.ok c':=fun _ _ _=>⟨rfl,rfl,rfl⟩
  rcases hs with h | h | h
  · exact ⟨[],0,by simp_arith [h,d0,(l3 _ _ _).1],.inl ⟨rfl,rfl⟩,by decide⟩
  · exact ⟨[45],1,by simp_arith [h,d45,(l3 _ _ _).2.1],.inr (.inl ⟨rfl,rfl⟩),by decide⟩
  · exact ⟨[43],0,by simp_arith [h,d43,(l3 _ _ _).2.2],.inr (.inr ⟨rfl,rfl⟩),by decide⟩
theorem blank_st {n:Int} (h0 : -100000≤n) (h1:n≤100000):oRepS (.str (st [32])) (.int n)=.ok (.str (st (List.replicate n.toNat 32))):=by
  unfold oRepS
  simp only
  rw [if_pos ⟨rfl,h0,h1⟩]
  rfl
theorem dEnd:PySem.Str.ofString "endless"=st [101,110,100,108,101,115,115]:=by decide
theorem dNon:PySem.Str.ofString "none"=st [110,111,110,101]:=by decide
theorem read_long {E F:Int} {l:List Nat} (w:Wy) (h:400<l.length) (h2:l.length≤1000000):p_read [.tup [.int E,.int F],.str w.s,.str (st l)]=.ex "NoText":=by
  unfold p_read g_read
  simp_arith [way_ok w,bare_line_ex h h2]
theorem read_bad {E F:Int} {l:List Nat} (w:Wy) (hl:l.length≤400) (hsp:spL l=none) (n1:¬ (signOf (bare l)).2=[101,110,100,108,101,115,115]) (n2:¬ (signOf (bare l)).2=[110,111,110,101]) :
    p_read [.tup [.int E,.int F],.str w.s,.str (st l)]=.ex "NoText":=by
  have bo:=bare_line_ok hl
  have bl:=bare_len l
  have so:=sign_word_ok (l:=bare l) (by omega)
  have sp:=spelled_ok (l:=l) (by omega)
  rw [hsp] at sp
  simp only at sp
  generalize signOf (bare l)=sg at *
  obtain ⟨sg1,wd⟩:=sg
  simp only at *
  unfold p_read g_read
  simp_arith [way_ok w,bo,so,dEnd,dNon,st_inj,n1,n2,sp]
theorem s1_in {c:Nat} {x:Nat}:(PySem.Str.mk #[c]=st [x])=(c=x):=by
  apply propext
  show (st [c]=st [x])↔_
  rw [st_inj]
  simp
theorem step_ok {q:Int} {c:Nat}:p_law_step [.int q,.str ⟨#[c]⟩]=.ok (.int (stp q c)):=by
  have hd:oIn (.str ⟨#[c]⟩) (.str "0123456789")=.ok (.bl (decide (dig c))):=isIn_figs
  obtain ⟨k,hk⟩:∃ k,decide (dig c)=k:=⟨_,rfl⟩
  rw [hk] at hd
  have kt:dig c→k=true:=fun z=>by rw [← hk];exact decide_eq_true z
  have kf:¬ dig c→k=false:=fun z=>by rw [← hk];exact decide_eq_false z
  unfold p_law_step g_law_step stp
  by_cases g1:q=0∧(c=43∨c=45)
  · rw [if_pos g1]
    obtain ⟨h1,h2⟩:=g1
    rcases h2 with h2 | h2
    · subst h2;simp_arith [hd,eq_true h1,d43,d45,s1_in]
    · subst h2;simp_arith [hd,eq_true h1,d43,d45,s1_in,show ¬ 45=43 by decide]
  rw [if_neg g1]
  have t1:and_ (bin oEq (var 0) (con (.int 0))) (or_ (bin oEq (var 1) (con (.str "+"))) (bin oEq (var 1) (con (.str "-")))) [some (.int q),some (.str ⟨#[c]⟩),some (.bl k)]=.ok (.bl false):=by
    by_cases z:q=0
    · have:¬ c=43∧¬ c=45:=by omega
      simp_arith [eq_true z,d43,d45,s1_in,this.1,this.2]
    · simp_arith [z]
  generalize hA1:and_ (bin oEq (var 0) (con (.int 0))) (or_ (bin oEq (var 1) (con (.str "+"))) (bin oEq (var 1) (con (.str "-"))))=A1 at *
  by_cases g2:q<3∧dig c
  · rw [if_pos g2]
    have:=kt g2.2
    subst this
    simp_arith [hd,t1,g2.1]
  rw [if_neg g2]
  have t2:and_ (bin oLt (var 0) (con (.int 3))) (var 2) [some (.int q),some (.str ⟨#[c]⟩),some (.bl k)]=.ok (.bl false):=by
    by_cases z:q<3
    · have:=kf (fun y=>g2 ⟨z,y⟩)
      simp_arith [z,this]
    · simp_arith [z]
  generalize hA2:and_ (bin oLt (var 0) (con (.int 3))) (var 2)=A2 at *
  by_cases g3:q=2∧c=46
  · rw [if_pos g3]
    obtain ⟨h1,h2⟩:=g3
    subst h2
    simp_arith [hd,t1,t2,eq_true h1,d46,s1_in]
  rw [if_neg g3]
  have t3:and_ (bin oEq (var 0) (con (.int 2))) (bin oEq (var 1) (con (.str "."))) [some (.int q),some (.str ⟨#[c]⟩),some (.bl k)]=.ok (.bl false):=by
    by_cases z:q=2
    · have:¬ c=46:=fun y=>g3 ⟨z,y⟩
      simp_arith [eq_true z,d46,s1_in,this]
    · simp_arith [z]
  generalize hA3:and_ (bin oEq (var 0) (con (.int 2))) (bin oEq (var 1) (con (.str ".")))=A3 at *
  have o34:or_ (bin oEq (var 0) (con (.int 3))) (bin oEq (var 0) (con (.int 4))) [some (.int q),some (.str ⟨#[c]⟩),some (.bl k)]=.ok (.bl (decide (q=3∨q=4))):=by
    by_cases z:q=3
    · simp_arith [eq_true z]
    · by_cases z2:q=4
      · simp_arith [z,eq_true z2]
      · simp_arith [z,z2]
  have o24:or_ (bin oEq (var 0) (con (.int 2))) (bin oEq (var 0) (con (.int 4))) [some (.int q),some (.str ⟨#[c]⟩),some (.bl k)]=.ok (.bl (decide (q=2∨q=4))):=by
    by_cases z:q=2
    · simp_arith [eq_true z]
    · by_cases z2:q=4
      · simp_arith [z,eq_true z2]
      · simp_arith [z,z2]
  have o56:or_ (bin oEq (var 0) (con (.int 5))) (bin oEq (var 0) (con (.int 6))) [some (.int q),some (.str ⟨#[c]⟩),some (.bl k)]=.ok (.bl (decide (q=5∨q=6))):=by
    by_cases z:q=5
    · simp_arith [eq_true z]
    · by_cases z2:q=6
      · simp_arith [z,eq_true z2]
      · simp_arith [z,z2]
  generalize hO1:or_ (bin oEq (var 0) (con (.int 3))) (bin oEq (var 0) (con (.int 4)))=O1 at *
  generalize hO2:or_ (bin oEq (var 0) (con (.int 2))) (bin oEq (var 0) (con (.int 4)))=O2 at *
  generalize hO3:or_ (bin oEq (var 0) (con (.int 5))) (bin oEq (var 0) (con (.int 6)))=O3 at *
  by_cases g4:(q=3∨q=4)∧dig c
  · rw [if_pos g4]
    have:=kt g4.2
    subst this
    simp_arith [hd,t1,t2,t3,o34,g4.1]
  rw [if_neg g4]
  have t4:and_ O1 (var 2) [some (.int q),some (.str ⟨#[c]⟩),some (.bl k)]=.ok (.bl false):=by
    by_cases z:q=3∨q=4
    · have:=kf (fun y=>g4 ⟨z,y⟩)
      subst this
      simp_arith [o34,z]
    · simp_arith [o34,z]
  generalize hA4:and_ O1 (var 2)=A4 at *
  by_cases g5:(q=2∨q=4)∧c=101
  · rw [if_pos g5]
    obtain ⟨h1,h2⟩:=g5
    subst h2
    simp_arith [hd,t1,t2,t3,t4,o24,h1,d101,s1_in]
  rw [if_neg g5]
  have t5:and_ O2 (bin oEq (var 1) (con (.str "e"))) [some (.int q),some (.str ⟨#[c]⟩),some (.bl k)]=.ok (.bl false):=by
    by_cases z:q=2∨q=4
    · have:¬ c=101:=fun y=>g5 ⟨z,y⟩
      simp_arith [o24,z,d101,s1_in,this]
    · simp_arith [o24,z]
  generalize hA5:and_ O2 (bin oEq (var 1) (con (.str "e")))=A5 at *
  by_cases g6:q=5∧(c=43∨c=45)
  · rw [if_pos g6]
    obtain ⟨h1,h2⟩:=g6
    rcases h2 with h2 | h2
    · subst h2;simp_arith [hd,t1,t2,t3,t4,t5,eq_true h1,d43,d45,s1_in]
    · subst h2;simp_arith [hd,t1,t2,t3,t4,t5,eq_true h1,d43,d45,s1_in,show ¬ 45=43 by decide]
  rw [if_neg g6]
  have t6:and_ (bin oEq (var 0) (con (.int 5))) (or_ (bin oEq (var 1) (con (.str "+"))) (bin oEq (var 1) (con (.str "-")))) [some (.int q),some (.str ⟨#[c]⟩),some (.bl k)]=.ok (.bl false):=by
    by_cases z:q=5
    · have:¬ c=43∧¬ c=45:=by omega
      simp_arith [eq_true z,d43,d45,s1_in,this.1,this.2]
    · simp_arith [z]
  generalize hA6:and_ (bin oEq (var 0) (con (.int 5))) (or_ (bin oEq (var 1) (con (.str "+"))) (bin oEq (var 1) (con (.str "-"))))=A6 at *
  by_cases g7:(q=5∨q=6)∧dig c
  · rw [if_pos g7]
    have:=kt g7.2
    subst this
    simp_arith [hd,t1,t2,t3,t4,t5,t6,o56,g7.1]
  rw [if_neg g7]
  have t7:and_ O3 (var 2) [some (.int q),some (.str ⟨#[c]⟩),some (.bl k)]=.ok (.bl false):=by
    by_cases z:q=5∨q=6
    · have:=kf (fun y=>g7 ⟨z,y⟩)
      subst this
      simp_arith [o56,z]
    · simp_arith [o56,z]
  generalize hA7:and_ O3 (var 2)=A7 at *
  by_cases g8:(7≤q∧q≤9)∧dig c
  · rw [if_pos g8]
    have:=kt g8.2
    subst this
    simp_arith [hd,t1,t2,t3,t4,t5,t6,t7,g8.1.1,g8.1.2]
  · rw [if_neg g8]
    by_cases z1:7≤q
    · by_cases z2:q≤9
      · have:=kf (fun y=>g8 ⟨⟨z1,z2⟩,y⟩)
        subst this
        simp_arith [hd,t1,t2,t3,t4,t5,t6,t7,z1,z2]
      · simp_arith [hd,t1,t2,t3,t4,t5,t6,t7,z1,z2]
    · simp_arith [hd,t1,t2,t3,t4,t5,t6,t7,z1]
theorem walk_line {a0:Option D}:∀ (l:List Nat) (q:Int) (z:Option D),∃ z',forL 2 (assign 1 (call p_law_step [var 1,var 2])) (l.map fun c=>D.str ⟨#[c]⟩) [a0,some (.int q),z]=.nx [a0,some (.int (l.foldl stp q)),z']
  | [],q,z=>⟨z,rfl⟩
  | c::r,q,z=>by
    obtain ⟨z',e⟩:=walk_line r (stp q c) (some (.str ⟨#[c]⟩))
    refine ⟨z',?_⟩
    rw [List.map_cons,forL_cons]
    have b:assign 1 (call p_law_step [var 1,var 2]) (([a0,some (.int q),z]:Dt).set 2 (some (.str ⟨#[c]⟩)))=.nx [a0,some (.int (stp q c)),some (.str ⟨#[c]⟩)]:=by
      simp_arith [step_ok]
    rw [b]
    exact e
instance {q:Int}:Decidable (Accp q):=inferInstanceAs (Decidable (_∨_∨_))
theorem is_num_ok {l:List Nat} (hl:l.length≤1000):p_law_is_numeral [.str (st l)]=.ok (.bl (decide (l.length≤400∧Accp ((bare l).foldl stp 0)))):=by
  have bl:=bLen_st (a:=l) (by omega)
  have ss:=strip_st (l:=l) (by omega)
  have bb:=bare_len l
  unfold p_law_is_numeral g_law_is_numeral
  by_cases g:400<l.length
  · rw [decide_eq_false (by omega)]
    simp_arith [bl,show (400:Int)<l.length by omega]
  · obtain ⟨z',e⟩:=walk_line (a0:=some (.str (st l))) (bare l) 0 none
    have it:asS (.str (st (bare l)))=.ok ((bare l).map fun c=>D.str ⟨#[c]⟩):=by rw [asS_str (by rw [st_size];omega),st_list]
    generalize (bare l).foldl stp 0=q at *
    have fin:or_ (bin oEq (var 1) (con (.int 2))) (or_ (bin oEq (var 1) (con (.int 4))) (chain oLe oLe (con (.int 7)) (var 1) (con (.int 10)))) [some (.str (st l)),some (.int q),z']=.ok (.bl (decide (Accp q))):=by
      unfold Accp
      by_cases y1:q=2
      · simp_arith [eq_true y1]
      · by_cases y2:q=4
        · simp_arith [y1,eq_true y2]
        · by_cases y3:7≤q
          · by_cases y4:q≤10
            · simp_arith [y1,y2,y3,y4]
            · simp_arith [y1,y2,y3,y4]
          · simp_arith [y1,y2,y3]
    generalize hO:or_ (bin oEq (var 1) (con (.int 2))) (or_ (bin oEq (var 1) (con (.int 4))) (chain oLe oLe (con (.int 7)) (var 1) (con (.int 10))))=O at *
    have e2:decide (l.length≤400∧Accp q)=decide (Accp q):=decide_eq_decide.mpr ⟨fun z=>z.2,fun z=>⟨by omega,z⟩⟩
    rw [e2]
    simp_arith [bl,show ¬ (400:Int)<l.length by omega,u_itS,u_mS,d32,ss,it,e,fin]
theorem head_mk {m x:List Nat} {s:Int} (hm:Mk m s) (hx:∀ c,x.head? = some c→c≠45):decide ((m++x).head? = some 45)=decide (s=1):=by
  rcases hm with ⟨rfl,rfl⟩ | ⟨rfl,rfl⟩ | ⟨rfl,rfl⟩
  · rw [List.nil_append,decide_eq_false (fun z=>hx 45 z rfl)]
    rfl
  · rfl
  · rfl
theorem dPM:PySem.Str.ofString "+-"=st [43,45]:=by decide
theorem due_ok {l:List Nat} {s f p:Int} (hl:l.length≤400) (h:Num (bare l) s f p):p_law_due_of [.str (st l)]=.ok (.tup [.int s,.int f,.int p]):=by
  obtain ⟨m,a,pt,b,tl,e,hm,ha,hp,ht,eB,rfl,rfl⟩:=h
  obtain ⟨a1,a2⟩:=fig1_iff.mp ha
  have bb:=bare_len l
  have ss:=strip_st (l:=l) (by omega)
  have lB:(m++(a++(pt++tl))).length≤400:=by rw [← eB];omega
  rw [eB] at ss
  have n101:(101:Nat)∉m++(a++pt):=by
    have x1:=not_mk (c:=101) hm (by decide) (by decide)
    have x2:=not_fig (c:=101) a1 (by decide)
    have x3:=not_pt (c:=101) hp (by decide) (by decide)
    simp [x1,x2,x3]
  have n46:(46:Nat)∉a:=not_fig a1 (by decide)
  have figc:∀ {x:List Nat},figs x=true→∀ c∈x,c≠43∧c≠45:=fun hx c hc=>by
    have:=figs_iff.mp hx c hc
    omega
  have fb:figs b=true:=by
    rcases hp with ⟨_,rfl⟩ | ⟨z,_⟩
    · rfl
    · exact (fig1_iff.mp z).1
  have apc:∀ c∈a++pt,c≠43∧c≠45:=fun c hc=>by
    rcases List.mem_append.mp hc with z | z
    · exact figc a1 c z
    · rcases hp with ⟨rfl,_⟩ | ⟨y,rfl⟩
      · cases z
      · rcases List.mem_cons.mp z with w | w
        · subst w;decide
        · exact figc (fig1_iff.mp y).1 c w
  simp only [List.length_append] at lB
  have st1:=stripPM (l:=a++pt) hm (by simp [a2]) apc (by simp only [List.length_append];omega)
  have p2:partL 46 (a++pt)=(a,if pt=[] then [] else [46],b):=by
    rcases hp with ⟨rfl,rfl⟩ | ⟨h,rfl⟩
    · rw [List.append_nil,part_no n46]
      rfl
    · rw [part_yes n46,if_neg (by simp)]
  have q2:=part_st (l:=a++pt) (c:=46) (by simp only [List.length_append];omega)
  rw [p2] at q2
  simp only at q2
  have hd:decide ((m++(a++pt)).head? = some 45)=decide (s=1):=head_mk hm (fun c hc=>(apc c (List.mem_of_mem_head? hc)).2)
  have sw:=starts_st (l:=m++(a++pt)) (c:=45)
  rw [hd] at sw
  have s01:bInt [.bl (decide (s=1))]=.ok (.int s):=by
    rcases hm with ⟨_,rfl⟩ | ⟨_,rfl⟩ | ⟨_,rfl⟩<;>rfl
  have blen:b.length≤pt.length:=by
    rcases hp with ⟨rfl,rfl⟩ | ⟨h,rfl⟩<;>simp
  have ab:=oAdd_st (a:=a) (b:=b) (by omega)
  have il:=intS_st (l:=a++b) (by rw [figs_app,a1,fb];rfl) (by simp [a2]) (by rw [List.length_append];omega)
  have ln:=bLen_st (a:=b) (by omega)
  have q1:=part_st (l:=m++(a++(pt++tl))) (c:=101) (by simp only [List.length_append];omega)
  unfold p_law_due_of g_law_due_of
  generalize (if pt=[] then [] else [46]:List Nat)=pd at *
  rcases ht with ⟨rfl,rfl⟩ | ⟨m2,s2,c,h1,h2,h3,rfl,rfl⟩
  · rw [List.append_nil] at q1 ss
    rw [part_no n101] at q1
    simp only at q1
    have se:=starts_st (l:=[]) (c:=45)
    have se':decide (([]:List Nat).head? = some 45)=false:=rfl
    rw [se'] at se
    generalize m++(a++pt)=M at *
    generalize a++pt=M2 at *
    generalize a++b=M3 at *
    simp_arith [u_mS,d32,ss,d101,q1,dPM,st1,d46,q2,st_inj,show ¬ ([]:List Nat)=[101] by decide,d45,se,sw,s01,ab,il,ln]
  · rw [show m++(a++(pt++101::(m2++c)))=(m++(a++pt))++101::(m2++c) by simp,part_yes n101] at q1
    rw [show m++(a++(pt++101::(m2++c)))=(m++(a++pt))++101::(m2++c) by simp] at ss
    simp only at q1
    obtain ⟨c1,c2⟩:=fig1_iff.mp h2
    have lm:m2.length≤1:=by rcases h1 with ⟨rfl,_⟩ | ⟨rfl,_⟩ | ⟨rfl,_⟩<;>simp
    have st2:=stripPM (l:=c) h1 c2 (figc c1) (by rw [List.length_append];omega)
    have ic:=intS_st c1 c2 (by omega)
    have hd2:decide ((m2++c).head? = some 45)=decide (s2=1):=head_mk h1 (fun x hx=>(figc c1 x (List.mem_of_mem_head? hx)).2)
    have sw2:=starts_st (l:=m2++c) (c:=45)
    rw [hd2] at sw2
    generalize (m++(a++pt))++101::(m2++c)=M0 at *
    generalize m++(a++pt)=M at *
    generalize a++pt=M2 at *
    generalize a++b=M3 at *
    generalize m2++c=M4 at *
    by_cases g:s2=1
    · rw [if_pos g]
      rw [decide_eq_true g] at sw2
      simp_arith [u_mS,d32,ss,d101,q1,dPM,st1,d46,q2,st2,ic,d45,sw2,sw,s01,ab,il,ln]
    · rw [if_neg g]
      rw [decide_eq_false g] at sw2
      simp_arith [u_mS,d32,ss,d101,q1,dPM,st1,d46,q2,st2,ic,d45,sw2,sw,s01,ab,il,ln]
def bad (c:Nat):Bool:=c == 110||c == 111||c == 100||c == 108||c == 115
theorem bad_ch {c:Nat} (h:bad c=true):c≠32∧nch c=false:=by
  unfold bad at h
  simp only [Bool.or_eq_true,beq_iff_eq] at h
  rcases h with (((rfl | rfl) | rfl) | rfl) | rfl<;>decide
def cnt (l:List Nat):Nat:=l.countP bad
theorem cnt_app {a b:List Nat}:cnt (a++b)=cnt a+cnt b:=List.countP_append
theorem cnt_figs {l:List Nat} (h:figs l=true):cnt l=0:=by
  unfold cnt
  rw [List.countP_eq_zero]
  intro c hc z
  have h1:=nch_figs h c hc
  rw [(bad_ch z).2] at h1
  cases h1
theorem cnt_mk {m:List Nat} {s:Int} (h:Mk m s):cnt m=0:=by rcases h with ⟨rfl,_⟩ | ⟨rfl,_⟩ | ⟨rfl,_⟩<;>decide
theorem cnt_rep {k c:Nat} (h:bad c=false):cnt (List.replicate k c)=0:=by
  unfold cnt
  rw [List.countP_eq_zero]
  intro x hx
  rw [List.eq_of_mem_replicate hx,h]
  decide
theorem cnt_one {c:Nat}:cnt [c]≤1:=by unfold cnt;exact List.countP_le_length
theorem cnt_take {l:List Nat} (k:Nat):cnt (l.take k)≤cnt l:=(List.take_sublist k l).countP_le
theorem cnt_drop {l:List Nat} (k:Nat):cnt (l.drop k)≤cnt l:=(List.drop_sublist k l).countP_le
theorem cnt_word {l:List Nat} (h:cnt l≤1):¬ (signOf (bare l)).2=[101,110,100,108,101,115,115]∧¬ (signOf (bare l)).2=[110,111,110,101]:=by
  have a:cnt (bare l)≤cnt l:=by
    unfold bare cutBy
    exact Nat.le_trans (cnt_drop _) (cnt_take _)
  obtain ⟨m,_,e⟩:=sign_back (bare l)
  have b:cnt (signOf (bare l)).2≤cnt (bare l):=by
    conv=>rhs;rw [e]
    rw [cnt_app]
    omega
  have c1:cnt [101,110,100,108,101,115,115]=5:=by decide
  have c2:cnt [110,111,110,101]=3:=by decide
  constructor
  · intro z
    rw [z] at b
    omega
  · intro z
    rw [z] at b
    omega
theorem numeral_ok {ns:List Int} (hb:∀ m∈ns,nb m≤2^20):∃ l,p_law_numeral_by [.lst (ns.map .int)]=.ok (.str (st l))∧l.length≤40∧cnt l=0:=by
  have b1:=getD_nb hb 1
  have b4:=getD_nb hb 4
  have b6:=getD_nb hb 6
  have q0:=cell_ok (ns:=ns) (j:=0) (by decide)
  have q1:=cell_ok (ns:=ns) (j:=1) (by decide)
  have q2:=cell_ok (ns:=ns) (j:=2) (by decide)
  have q3:=cell_ok (ns:=ns) (j:=3) (by decide)
  have q4:=cell_ok (ns:=ns) (j:=4) (by decide)
  have q5:=cell_ok (ns:=ns) (j:=5) (by decide)
  have q6:=cell_ok (ns:=ns) (j:=6) (by decide)
  simp only [show (0:Int).toNat=0 from rfl,show (1:Int).toNat=1 from rfl,show (2:Int).toNat=2 from rfl,show (3:Int).toNat=3 from rfl,show (4:Int).toNat=4 from rfl,show (5:Int).toNat=5 from rfl,show (6:Int).toNat=6 from rfl] at q0 q1 q2 q3 q4 q5 q6
  generalize ns.getD 0 0=x0 at *
  generalize ns.getD 1 0=x1 at *
  generalize ns.getD 2 0=x2 at *
  generalize ns.getD 3 0=x3 at *
  generalize ns.getD 4 0=x4 at *
  generalize ns.getD 5 0=x5 at *
  generalize ns.getD 6 0=x6 at *
  obtain ⟨m,s,em,hm,ml⟩:=mark_ok (c:=x0)
  obtain ⟨a,ea,la,fa⟩:=run_ok (n:=1+x2%12) b1 (by omega) (by omega)
  obtain ⟨b,eb,lb,fb⟩:=run_ok (n:=1+x3 / 2%13) b4 (by omega) (by omega)
  obtain ⟨m2,s2,em2,hm2,ml2⟩:=mark_ok (c:=x6)
  obtain ⟨c,ec,lc,fc⟩:=run_ok (c:=x6 / 3) (n:=1+x5 / 2%4) (nb_div (by decide) b6) (by omega) (by omega)
  have c0:=cnt_mk hm
  have c1:=cnt_figs (fig1_iff.mp fa).1
  have c2:=cnt_figs (fig1_iff.mp fb).1
  have c3:=cnt_mk hm2
  have c4:=cnt_figs (fig1_iff.mp fc).1
  have k46:cnt [46]=0:=by decide
  have k101:cnt [101]=0:=by decide
  have a1:=oAdd_st (a:=m) (b:=a) (by omega)
  have last:∀ L:List Nat,L.length≤28→cnt L=0→∃ l,l.length≤40∧cnt l=0∧(seq (ifs (bin oEq (bin oMod (call p_law_cell_at [var 0,con (.int 5)]) (con (.int 2))) (con (.int 1))) (seq (assign 1 (bin oAdd (bin oAdd (var 1) (con (.str "e"))) (call p_law_mark_by [call p_law_cell_at [var 0,con (.int 6)]])))
  (assign 1 (bin oAdd (var 1) (call p_law_run [bin oDiv (call p_law_cell_at [var 0,con (.int 6)]) (con (.int 3)),bin oAdd (con (.int 1)) (bin oMod (bin oDiv (call p_law_cell_at [var 0,con (.int 5)]) (con (.int 2))) (con (.int 4)))])))) (pass_))
  (ret (var 1)) [some (.lst (ns.map .int)),some (.str (st L))]).res=.ok (.str (st l)):=fun L hL cL=>by
    by_cases g:x5%2=1
    · have d1:=oAdd_st (a:=L) (b:=[101]) (by simp;omega)
      have d2:=oAdd_st (a:=L++[101]) (b:=m2) (by simp;omega)
      have d3:=oAdd_st (a:=L++[101]++m2) (b:=c) (by simp;omega)
      refine ⟨L++[101]++m2++c,by simp;omega,by simp only [cnt_app];omega,?_⟩
      generalize L++[101]++m2++c=Z at *
      generalize L++[101]++m2=Z1 at *
      generalize L++[101]=Z2 at *
      simp_arith [q5,q6,eq_true g,d101,d1,em2,d2,ec,d3]
    · exact ⟨L,by omega,cL,by simp_arith [q5,g]⟩
  unfold p_law_numeral_by g_law_numeral_by
  generalize hX:seq (ifs (bin oEq (bin oMod (call p_law_cell_at [var 0,con (.int 5)]) (con (.int 2))) (con (.int 1))) _ _) _=X at *
  by_cases g:x3%2=1
  · have d1:=oAdd_st (a:=m++a) (b:=[46]) (by simp;omega)
    have d2:=oAdd_st (a:=m++a++[46]) (b:=b) (by simp;omega)
    obtain ⟨l,l1,l2,l3⟩:=last (m++a++[46]++b) (by simp;omega) (by simp only [cnt_app];omega)
    refine ⟨l,?_,l1,l2⟩
    generalize m++a++[46]++b=Z at *
    generalize m++a++[46]=Z1 at *
    generalize m++a=Z2 at *
    simp_arith [q0,q1,q2,em,ea,a1,q3,q4,eq_true g,d46,d1,eb,d2,l3]
  · obtain ⟨l,l1,l2,l3⟩:=last (m++a) (by simp;omega) (by simp only [cnt_app];omega)
    refine ⟨l,?_,l1,l2⟩
    generalize m++a=Z2 at *
    simp_arith [q0,q1,q2,em,ea,a1,q3,g,l3]
theorem drop_over {l:List Nat} {k:Int} (h0:0≤k) (h:l.length≤1000):oSlS (.str (st l)) (some k) none=.ok (.str (st (l.drop k.toNat))):=by
  by_cases g:k≤l.length
  · exact sl_hi h0 g (by omega)
  · rw [oSlS_str (by rw [st_size];omega)]
    unfold cutS EV.cut sIx
    rw [st_list]
    simp only [if_neg (show ¬ k<0 by omega)]
    rw [show min k.toNat l.length=l.length by omega,List.drop_length,List.drop_eq_nil_of_le (by omega),List.take_nil]
    rfl
theorem spoiled_ok {W:List Nat} {w p:Int} (hW:W.length≤40) (cW:cnt W=0) {ch:Nat}:∃ l,p_law_spoiled [.str (st W),.int w,.int p,.str (st [ch])]=.ok (.str (st l))∧l.length≤100∧cnt l≤1:=by
  have bl:=bLen_st (a:=W) (by omega)
  have r0:=Int.emod_nonneg p (show (W.length:Int)+1≠0 by omega)
  have r1:=Int.emod_lt_of_pos p (show 0<(W.length:Int)+1 by omega)
  have hr:=oMod_ok (i:=p) (show 0<(W.length:Int)+1 by omega)
  generalize p%((W.length:Int)+1)=k at *
  have s1:=sl_lo (a:=W) (k:=k) r0 (by omega) (by omega)
  have s2:=sl_hi (a:=W) (k:=k) r0 (by omega) (by omega)
  have s3:=drop_over (l:=W) (k:=k+1) (by omega) (by omega)
  rw [show (k+1).toNat=k.toNat+1 by omega] at s3
  have tl:(W.take k.toNat).length≤40:=by rw [List.length_take];omega
  have dl:(W.drop k.toNat).length≤40:=by rw [List.length_drop];omega
  have dl2:(W.drop (k.toNat+1)).length≤40:=by rw [List.length_drop];omega
  have c1:=cnt_take (l:=W) k.toNat
  have c2:=cnt_drop (l:=W) k.toNat
  have c3:=cnt_drop (l:=W) (k.toNat+1)
  have c4:=cnt_one (c:=ch)
  generalize W.take k.toNat=T at *
  generalize W.drop k.toNat=U at *
  generalize W.drop (k.toNat+1)=V at *
  have a1:=oAdd_st (a:=T) (b:=[ch]) (by simp;omega)
  have a2:=oAdd_st (a:=T++[ch]) (b:=U) (by simp;omega)
  have a3:=oAdd_st (a:=T++[ch]) (b:=V) (by simp;omega)
  have a4:=oAdd_st (a:=T) (b:=V) (by omega)
  have a5:=oAdd_st (a:=U) (b:=T) (by omega)
  unfold p_law_spoiled g_law_spoiled
  by_cases g0:w=0
  · refine ⟨T++[ch]++U,?_,by simp;omega,by simp only [cnt_app];omega⟩
    generalize T++[ch]++U=Z at *
    generalize T++[ch]=Z1 at *
    simp_arith [bl,hr,eq_true g0,u_slcS,part_some,s1,s2,a1,a2]
  by_cases g1:w=1
  · refine ⟨T++[ch]++V,?_,by simp;omega,by simp only [cnt_app];omega⟩
    generalize T++[ch]++V=Z at *
    generalize T++[ch]=Z1 at *
    simp_arith [bl,hr,g0,eq_true g1,u_slcS,part_some,s1,s3,a1,a3]
  by_cases g2:w=2
  · refine ⟨T++V,?_,by simp;omega,by simp only [cnt_app];omega⟩
    generalize T++V=Z at *
    simp_arith [bl,hr,g0,g1,eq_true g2,u_slcS,part_some,s1,s3,a4]
  · refine ⟨U++T,?_,by simp;omega,by simp only [cnt_app];omega⟩
    generalize U++T=Z at *
    simp_arith [bl,hr,g0,g1,g2,u_slcS,part_some,s1,s2,a5]
theorem sign_by_ok {x:Int}:∃ c,p_law_sign_by [.int x]=.ok (.str (st [c])):=by
  have n1:(PySem.Str.ofString " !\"#$&'()*+,-./0123456789:;<=>?@ABCDEFGHIJKLMNOPQRSTUVWXYZ[\\]^_`").cps.size=64:=by decide +kernel
  have n2:(PySem.Str.ofString "abcdefghijklmnopqrstuvwxyz{|}~").cps.size=30:=by decide +kernel
  have n3:(PySem.Str.ofString ".e+-0 E5").cps.size=8:=by decide +kernel
  unfold p_law_sign_by g_law_sign_by
  generalize PySem.Str.ofString " !\"#$&'()*+,-./0123456789:;<=>?@ABCDEFGHIJKLMNOPQRSTUVWXYZ[\\]^_`"=A at *
  generalize PySem.Str.ofString "abcdefghijklmnopqrstuvwxyz{|}~"=B at *
  generalize PySem.Str.ofString ".e+-0 E5"=C at *
  have ad:oAdd (.str A) (.str B)=.ok (.str ⟨A.cps++B.cps⟩):=by unfold oAdd;simp only;rw [if_pos (by omega)]
  have n4:(⟨A.cps++B.cps⟩:PySem.Str).cps.size=94:=by simp [n1,n2]
  generalize (⟨A.cps++B.cps⟩:PySem.Str)=M at *
  by_cases h:x%2=0
  · obtain ⟨c,ec⟩:=ix_str (x:=C) (i:=x / 2%8) (by omega) (by omega) (by omega)
    exact ⟨c,by simp_arith [ad,h,ec]⟩
  · obtain ⟨c,ec⟩:=ix_str (x:=M) (i:=x / 2%94) (by omega) (by omega) (by omega)
    exact ⟨c,by simp_arith [ad,h,ec]⟩
def odds:List PySem.Str:=[""," ","+","-",".","e","e5",".5","5.","-.5","+.e1","1e","1e+","1e-","1.e5","1e5.0","1 e5","1e 5","+ 1","--1","+-1","1e00001","1e12345","0x1","1E5","1_0","1,5","none","endless","1/2"]
theorem odds_ok:∀ x∈odds,x.cps.toList.length≤40∧(x.cps.toList=[110,111,110,101]∨x.cps.toList=[101,110,100,108,101,115,115]∨cnt x.cps.toList≤1):=by decide +kernel
theorem str_st (x:PySem.Str):x=st x.cps.toList:=by unfold st;simp
theorem odd_ok {x:Int}:∃ l,p_law_odd_by [.int x]=.ok (.str (st l))∧l.length≤40∧(l=[110,111,110,101]∨l=[101,110,100,108,101,115,115]∨cnt l≤1):=by
  have hl:(x%30).toNat<odds.length:=by show (x%30).toNat<30;omega
  have ix:=ix_lst (ds:=odds.map .str) (k:=(x%30).toNat) (d:=.str odds[(x%30).toNat]) (by rw [List.getElem?_map,List.getElem?_eq_getElem hl];rfl)
  rw [show (((x%30).toNat:Nat):Int)=x%30 by omega] at ix
  have oo:=odds_ok odds[(x%30).toNat] (List.getElem_mem hl)
  generalize odds[(x%30).toNat]=y at *
  refine ⟨y.cps.toList,?_,oo.1,oo.2⟩
  rw [← str_st y]
  unfold p_law_odd_by g_law_odd_by
  have l1:oAdd (.lst ([""," ","+","-",".","e","e5",".5","5.","-.5","+.e1","1e","1e+","1e-","1.e5","1e5.0"].map fun x:String=>D.str x)) (.lst (["1 e5","1e 5","+ 1","--1","+-1","1e00001","1e12345","0x1","1E5","1_0","1,5","none"].map fun x:String=>D.str x))=.ok (.lst ([""," ","+","-",".","e","e5",".5","5.","-.5","+.e1","1e","1e+","1e-","1.e5","1e5.0","1 e5","1e 5","+ 1","--1","+-1","1e00001","1e12345","0x1","1E5","1_0","1,5","none"].map fun x:String=>D.str x)):=oAdd_lst (by decide)
  have l2:oAdd (.lst ([""," ","+","-",".","e","e5",".5","5.","-.5","+.e1","1e","1e+","1e-","1.e5","1e5.0","1 e5","1e 5","+ 1","--1","+-1","1e00001","1e12345","0x1","1E5","1_0","1,5","none"].map fun x:String=>D.str x)) (.lst (["endless","1/2"].map fun x:String=>D.str x))=.ok (.lst (odds.map .str)):=oAdd_lst (by decide)
  show (seq (assign 1 (fun _=>.ok (.lst ([""," ","+","-",".","e","e5",".5","5.","-.5","+.e1","1e","1e+","1e-","1.e5","1e5.0"].map fun x:String=>D.str x)))) (seq (assign 1 (bin oAdd (var 1) (fun _=>.ok (.lst (["1 e5","1e 5","+ 1","--1","+-1","1e00001","1e12345","0x1","1E5","1_0","1,5","none"].map fun x:String=>D.str x))))) (seq (assign 1 (bin oAdd (var 1) (fun _=>.ok (.lst (["endless","1/2"].map fun x:String=>D.str x))))) (ret (bin oIx (var 1) (bin oMod (var 0) (con (.int 30))))))) [some (.int x),none]).res=_
  generalize ([""," ","+","-",".","e","e5",".5","5.","-.5","+.e1","1e","1e+","1e-","1.e5","1e5.0"].map fun x:String=>D.str x)=A1 at *
  generalize (["1 e5","1e 5","+ 1","--1","+-1","1e00001","1e12345","0x1","1E5","1_0","1,5","none"].map fun x:String=>D.str x)=A2 at *
  generalize (["endless","1/2"].map fun x:String=>D.str x)=A3 at *
  generalize ([""," ","+","-",".","e","e5",".5","5.","-.5","+.e1","1e","1e+","1e-","1.e5","1e5.0","1 e5","1e 5","+ 1","--1","+-1","1e00001","1e12345","0x1","1E5","1_0","1,5","none"].map fun x:String=>D.str x)=A4 at *
  generalize odds.map D.str=A5 at *
  simp_arith [l1,l2,ix]
theorem alone_ok:p_law_alone [.exc "NoText"]=.ok (.bl true):=by
  unfold p_law_alone g_law_alone
  simp_arith []
theorem refused_sp {l:List Nat} (e:p_spelled [.str (st l)]=.ex "NoText"):p_law_refused [.str (st l),.str "",.tup [.int 5,.int 10]]=.ok (.bl true):=by
  unfold p_law_refused g_law_refused
  simp_arith [e,alone_ok]
theorem refused_rd {E F:Int} {l:List Nat} (w:Wy) (e:p_read [.tup [.int E,.int F],.str w.s,.str (st l)]=.ex "NoText"):p_law_refused [.str (st l),.str w.s,.tup [.int E,.int F]]=.ok (.bl true):=by
  have n:¬ w.s=PySem.Str.ofString "":=by cases w<;>decide
  unfold p_law_refused g_law_refused
  simp_arith [n,e,alone_ok]
theorem law_good:Good p_law:=by
  intro ns hl hb
  unfold p_law g_law
  have q7:=cell_ok (ns:=ns) (j:=7) (by decide)
  have q8:=cell_ok (ns:=ns) (j:=8) (by decide)
  have q9:=cell_ok (ns:=ns) (j:=9) (by decide)
  have q10:=cell_ok (ns:=ns) (j:=10) (by decide)
  have q11:=cell_ok (ns:=ns) (j:=11) (by decide)
  obtain ⟨W,eW,lW,cW⟩:=numeral_ok hb
  have h:=sz_ok (ns.getD 11 0)
  have z:=size_ok (ns.getD 11 0)
  simp only [show (7:Int).toNat=7 from rfl,show (8:Int).toNat=8 from rfl,show (9:Int).toNat=9 from rfl,show (10:Int).toNat=10 from rfl,show (11:Int).toNat=11 from rfl] at q7 q8 q9 q10 q11
  generalize szE (ns.getD 11 0)=E at *
  generalize szF (ns.getD 11 0)=F at *
  generalize ns.getD 7 0=x7 at *
  generalize ns.getD 8 0=x8 at *
  generalize ns.getD 9 0=x9 at *
  generalize ns.getD 10 0=x10 at *
  generalize ns.getD 11 0=x11 at *
  obtain ⟨w,ew⟩:=way_by_ok x10
  have key:∀ (l:List Nat) (a2 a3:Option D),l.length≤1000→(l=[110,111,110,101]∨l=[101,110,100,108,101,115,115]∨cnt l≤1)→(seq (ifs (call p_law_is_numeral [var 1]) (seq (assign 4 (call p_spelled [var 1]))
  (seq (ifs (or_ (not_ (call bIsi [var 4,con (.ty "tuple")])) (bin oNe (call bLen [var 4]) (con (.int 3)))) (ret (con (.bl false))) (pass_))
  (seq (ifs (or_ (not_ (call p_law_whole [bin oIx (var 4) (con (.int 0))])) (or_ (not_ (call p_law_whole [bin oIx (var 4) (con (.int 1))])) (not_ (call p_law_whole [bin oIx (var 4) (con (.int 2))])))) (ret (con (.bl false))) (pass_))
  (ret (bin oEq (var 4) (call p_law_due_of [var 1])))))) (pass_))
  (seq (ifs (not_ (call p_law_refused [var 1,con (.str ""),tupE [con (.int 5),con (.int 10)]])) (ret (con (.bl false))) (pass_))
  (seq (ifs (or_ (bin oEq (var 1) (con (.str "none"))) (bin oEq (var 1) (con (.str "endless")))) (ret (con (.bl true))) (pass_))
  (ret (call p_law_refused [var 1,call p_law_way_by [call p_law_cell_at [var 0,con (.int 10)]],call p_law_size_by [call p_law_cell_at [var 0,con (.int 11)]]]))))
      [some (.lst (ns.map .int)),some (.str (st l)),a2,a3,none]).res=.ok (.bl true):=fun l a2 a3 ll hc=>by
    have nu:=is_num_ok ll
    have so:=spelled_ok (l:=l) (by omega)
    by_cases g:l.length≤400∧Accp ((bare l).foldl stp 0)
    · rw [decide_eq_true g] at nu
      obtain ⟨s,f,p,e⟩:=(sp_iff g.1).mpr g.2
      rw [e] at so
      simp only at so
      have du:=due_ok g.1 (sp_shape e)
      simp_arith [nu,so,whole_int,du]
    · rw [decide_eq_false g] at nu
      have sn:spL l=none:=by
        cases e:spL l with
        | none=>rfl
        | some r =>
          obtain ⟨s,f,p⟩:=r
          exfalso
          by_cases gl:l.length≤400
          · exact g ⟨gl,(sp_iff gl).mp ⟨s,f,p,e⟩⟩
          · unfold spL at e
            rw [if_neg gl] at e
            cases e
      rw [sn] at so
      simp only at so
      have rs:=refused_sp so
      by_cases gn:l=[110,111,110,101]
      · subst gn
        simp_arith [nu,rs,dNon,st_inj]
      · by_cases ge:l=[101,110,100,108,101,115,115]
        · subst ge
          simp_arith [nu,rs,dNon,dEnd,st_inj,gn]
        · have cl:cnt l≤1:=by
            rcases hc with e | e | e
            · exact absurd e gn
            · exact absurd e ge
            · exact e
          have rd:p_read [.tup [.int E,.int F],.str w.s,.str (st l)]=.ex "NoText":=by
            by_cases gl:l.length≤400
            · exact read_bad w gl sn (cnt_word cl).1 (cnt_word cl).2
            · exact read_long w (by omega) (by omega)
          have rr:=refused_rd w rd
          simp_arith [nu,rs,dNon,dEnd,st_inj,gn,ge,q10,q11,ew,z,rr]
  generalize hrest:seq (ifs (call p_law_is_numeral [var 1]) _ _) _=X at *
  have bW:=bLen_st (a:=W) (by omega)
  by_cases g4:x7%6<4
  · obtain ⟨c,ec⟩:=sign_by_ok (x:=x9)
    obtain ⟨l,el,ll,cl⟩:=spoiled_ok (w:=x7%6) (p:=x8) (ch:=c) lW cW
    have k:=key l (some (.int (x7%6))) (some (.int x8)) (by omega) (.inr (.inr cl))
    simp_arith [eW,q7,q8,q9,g4,ec,el,show ¬ x7%6=4 by omega,show ¬ x7%6=5 by omega,k]
  by_cases g5:x7%6=4
  · obtain ⟨l,el,ll,cl⟩:=odd_ok (x:=x8)
    have k:=key l (some (.int 4)) (some (.int x8)) (by omega) cl
    simp_arith [eW,q7,q8,g5,el,k]
  have g6:x7%6=5:=by omega
  have bn:0≤395+x8 / 2%66 - (W.length:Int):=by omega
  by_cases g7:x8%2=0
  · have r:=blank_st (n:=395+x8 / 2%66 - (W.length:Int)) (by omega) (by omega)
    have a:=oAdd_st (a:=W) (b:=List.replicate (395+x8 / 2%66 - (W.length:Int)).toNat 32) (by rw [List.length_replicate];omega)
    have k:=key (W++List.replicate (395+x8 / 2%66 - (W.length:Int)).toNat 32) (some (.int 5)) (some (.int x8)) (by rw [List.length_append,List.length_replicate];omega) (.inr (.inr (by rw [cnt_app,cW,cnt_rep (by decide)];omega)))
    generalize W++List.replicate (395+x8 / 2%66 - (W.length:Int)).toNat 32=Z at *
    generalize List.replicate (395+x8 / 2%66 - (W.length:Int)).toNat 32=Z2 at *
    simp_arith [eW,q7,q8,g6,g7,d32,bW,r,a,k]
  · have r:=rep_st (n:=395+x8 / 2%66 - (W.length:Int)) (by omega) (by omega)
    have a:=oAdd_st (a:=List.replicate (395+x8 / 2%66 - (W.length:Int)).toNat 48) (b:=W) (by rw [List.length_replicate];omega)
    have k:=key (List.replicate (395+x8 / 2%66 - (W.length:Int)).toNat 48++W) (some (.int 5)) (some (.int x8)) (by rw [List.length_append,List.length_replicate];omega) (.inr (.inr (by rw [cnt_app,cW,cnt_rep (by decide)];omega)))
    have c48:PySem.Str.ofString "0"=st [48]:=by decide
    generalize List.replicate (395+x8 / 2%66 - (W.length:Int)).toNat 48++W=Z at *
    generalize List.replicate (395+x8 / 2%66 - (W.length:Int)).toNat 48=Z2 at *
    simp_arith [eW,q7,q8,g6,show x8%2=1 by omega,c48,bW,r,a,k]
end T
open PySem PySem.W PyProof.Rows
set_option maxHeartbeats 0 in
theorem PySem.Challenge.cw_roundmill_k48_spelled_refused_holds : PySem.Challenge.rw_roundmill_k48_spelled_refused.Holds := by
  w_on;o_law
  refine holds_open (q:=H.q) (loose:=[]) (Xt:=H.Xt) (XP:=XL H.q []) (Yf:=(kHook H.K H.as H.he).obs) (Ya:=(kHook H.K H.as H.he).val) (YP:=(kHook H.K H.as H.he).says) (N:=10394) H.left (kHook H.K H.as H.he).of (kHook H.K H.as H.he).keeps (fun s e=>xl_of s (Bool.and_eq_true_iff.mp e).1) XL.keeps (by rfl) (by rfl) (by rfl) (fun s e=>recFacts_of (Bool.and_eq_true_iff.mp e).2) (by rfl) (by first | assumption | decide +kernel) (by decide +kernel) ⟨rfl,rfl,rfl,rfl,rfl,by decide +kernel⟩ ?hw ?hc
  (case hw=>w_witness2)
  k_fill
  refine ES.walk_law (l:=PySem.Challenge.rw_roundmill_k48_spelled_refused) (k:=25) (x:="_law_script") (f:=T.p_law) T.law_good rfl rfl ⟨rfl,by decide,by decide⟩ (fun w h Y=>PySem.W.kIn_of Y) ?F
  case F =>
    intro w mg fa h KX GG hmg
    refine' T.all_mk KX GG hmg ?n_Way ?pg_Way ?hd_Way ?po_Way ?sa_Way ?na_Way ?aIWay ?uIWay ?mm_Way ?kc_Way ?lIWay ?eIWay ?kIWay ?q1 ?q2 ?q3 ?q4 ?q5 ?q6 ?q7 ?q8 ?q9 ?q10 ?q11 ?q12 ?q13 ?a14 ?l14 ?e14 ?k14 ?q15 ?q16 ?q17 ?q18 ?q19 ?q20 ?q21 ?q22 ?q23 ?q24 ?q25 ?q26 ?q27 ?q28 ?a29 ?u29 ?l29 ?e29 ?k29 ?a30 ?u30 ?l30 ?e30 ?k30 ?a31 ?u31 ?l31 ?e31 ?k31 ?q32 ?q33 ?q34 ?q35 ?q36 ?q37 ?q38 ?q39 ?q40 ?q41 ?q42 ?q43 ?a44 ?l44 ?e44 ?k44 ?z_len ?z_str ?z_isinstance ?z_ValueError ?z_all ?z_int ?z_max ?z_bool ?z_tuple ?y_LONGEST_LINE ?y_FIGURES ?y_LONGEST_EXPONENT ?y_NAMES ?yl_NAMES ?y_INEXACT ?y_GREAT ?y_SMALL ?n_MillError ?n_NoSize ?n_NoBits ?n_NoParts ?n_NoRank ?n_NotFinite ?n_NoWay ?n_NoFlags ?n_NoFraction ?n_Unlike ?n_Empty ?n_NoLeft ?n_NoText ?n_NoRow ?n_NoName ?n_Stopped ?xi_NoText ?xi_NoWay ?xi_NoFraction ?v_MillError ?v_NoSize ?v_NoBits ?v_NoParts ?v_NoRank ?v_NotFinite ?v_NoWay ?v_NoFlags ?v_NoFraction ?v_Unlike ?v_Empty ?v_NoLeft ?v_NoText ?v_NoRow ?v_NoName ?v_Stopped ?cb_MillError ?r_MillError_MillError ?r_MillError_NoSize ?r_MillError_NoBits ?r_MillError_NoParts ?r_MillError_NoRank ?r_MillError_NotFinite ?r_MillError_NoWay ?r_MillError_NoFlags ?r_MillError_NoFraction ?r_MillError_Unlike ?r_MillError_Empty ?r_MillError_NoLeft ?r_MillError_NoText ?r_MillError_NoRow ?r_MillError_NoName ?r_MillError_Stopped ?i0_NoText ?i_NoText_MillError ?i_NoText_NoSize ?i_NoText_NoBits ?i_NoText_NoParts ?i_NoText_NoRank ?i_NoText_NotFinite ?i_NoText_NoWay ?i_NoText_NoFlags ?i_NoText_NoFraction ?i_NoText_Unlike ?i_NoText_Empty ?i_NoText_NoLeft ?i_NoText_NoText ?i_NoText_NoRow ?i_NoText_NoName ?i_NoText_Stopped ?i_VE_NoneType ?i_VE_bool ?i_VE_int ?i_VE_str ?i_VE_tuple ?i_VE_list ?i_ValueError_MillError ?i_ValueError_NoSize ?i_ValueError_NoBits ?i_ValueError_NoParts ?i_ValueError_NoRank ?i_ValueError_NotFinite ?i_ValueError_NoWay ?i_ValueError_NoFlags ?i_ValueError_NoFraction ?i_ValueError_Unlike ?i_ValueError_Empty ?i_ValueError_NoLeft ?i_ValueError_NoText ?i_ValueError_NoRow ?i_ValueError_NoName ?i_ValueError_Stopped ?i0_NoSize ?i_NoSize_MillError ?i_NoSize_NoSize ?i_NoSize_NoBits ?i_NoSize_NoParts ?i_NoSize_NoRank ?i_NoSize_NotFinite ?i_NoSize_NoWay ?i_NoSize_NoFlags ?i_NoSize_NoFraction ?i_NoSize_Unlike ?i_NoSize_Empty ?i_NoSize_NoLeft ?i_NoSize_NoText ?i_NoSize_NoRow ?i_NoSize_NoName ?i_NoSize_Stopped ?i0_NoBits ?i_NoBits_MillError ?i_NoBits_NoSize ?i_NoBits_NoBits ?i_NoBits_NoParts ?i_NoBits_NoRank ?i_NoBits_NotFinite ?i_NoBits_NoWay ?i_NoBits_NoFlags ?i_NoBits_NoFraction ?i_NoBits_Unlike ?i_NoBits_Empty ?i_NoBits_NoLeft ?i_NoBits_NoText ?i_NoBits_NoRow ?i_NoBits_NoName ?i_NoBits_Stopped ?i0_NoParts ?i_NoParts_MillError ?i_NoParts_NoSize ?i_NoParts_NoBits ?i_NoParts_NoParts ?i_NoParts_NoRank ?i_NoParts_NotFinite ?i_NoParts_NoWay ?i_NoParts_NoFlags ?i_NoParts_NoFraction ?i_NoParts_Unlike ?i_NoParts_Empty ?i_NoParts_NoLeft ?i_NoParts_NoText ?i_NoParts_NoRow ?i_NoParts_NoName ?i_NoParts_Stopped ?i0_NoRank ?i_NoRank_MillError ?i_NoRank_NoSize ?i_NoRank_NoBits ?i_NoRank_NoParts ?i_NoRank_NoRank ?i_NoRank_NotFinite ?i_NoRank_NoWay ?i_NoRank_NoFlags ?i_NoRank_NoFraction ?i_NoRank_Unlike ?i_NoRank_Empty ?i_NoRank_NoLeft ?i_NoRank_NoText ?i_NoRank_NoRow ?i_NoRank_NoName ?i_NoRank_Stopped ?i0_NotFinite ?i_NotFinite_MillError ?i_NotFinite_NoSize ?i_NotFinite_NoBits ?i_NotFinite_NoParts ?i_NotFinite_NoRank ?i_NotFinite_NotFinite ?i_NotFinite_NoWay ?i_NotFinite_NoFlags ?i_NotFinite_NoFraction ?i_NotFinite_Unlike ?i_NotFinite_Empty ?i_NotFinite_NoLeft ?i_NotFinite_NoText ?i_NotFinite_NoRow ?i_NotFinite_NoName ?i_NotFinite_Stopped ?i0_NoWay ?i_NoWay_MillError ?i_NoWay_NoSize ?i_NoWay_NoBits ?i_NoWay_NoParts ?i_NoWay_NoRank ?i_NoWay_NotFinite ?i_NoWay_NoWay ?i_NoWay_NoFlags ?i_NoWay_NoFraction ?i_NoWay_Unlike ?i_NoWay_Empty ?i_NoWay_NoLeft ?i_NoWay_NoText ?i_NoWay_NoRow ?i_NoWay_NoName ?i_NoWay_Stopped ?i0_NoFlags ?i_NoFlags_MillError ?i_NoFlags_NoSize ?i_NoFlags_NoBits ?i_NoFlags_NoParts ?i_NoFlags_NoRank ?i_NoFlags_NotFinite ?i_NoFlags_NoWay ?i_NoFlags_NoFlags ?i_NoFlags_NoFraction ?i_NoFlags_Unlike ?i_NoFlags_Empty ?i_NoFlags_NoLeft ?i_NoFlags_NoText ?i_NoFlags_NoRow ?i_NoFlags_NoName ?i_NoFlags_Stopped ?i0_NoFraction ?i_NoFraction_MillError ?i_NoFraction_NoSize ?i_NoFraction_NoBits ?i_NoFraction_NoParts ?i_NoFraction_NoRank ?i_NoFraction_NotFinite ?i_NoFraction_NoWay ?i_NoFraction_NoFlags ?i_NoFraction_NoFraction ?i_NoFraction_Unlike ?i_NoFraction_Empty ?i_NoFraction_NoLeft ?i_NoFraction_NoText ?i_NoFraction_NoRow ?i_NoFraction_NoName ?i_NoFraction_Stopped ?i0_Unlike ?i_Unlike_MillError ?i_Unlike_NoSize ?i_Unlike_NoBits ?i_Unlike_NoParts ?i_Unlike_NoRank ?i_Unlike_NotFinite ?i_Unlike_NoWay ?i_Unlike_NoFlags ?i_Unlike_NoFraction ?i_Unlike_Unlike ?i_Unlike_Empty ?i_Unlike_NoLeft ?i_Unlike_NoText ?i_Unlike_NoRow ?i_Unlike_NoName ?i_Unlike_Stopped ?i0_Empty ?i_Empty_MillError ?i_Empty_NoSize ?i_Empty_NoBits ?i_Empty_NoParts ?i_Empty_NoRank ?i_Empty_NotFinite ?i_Empty_NoWay ?i_Empty_NoFlags ?i_Empty_NoFraction ?i_Empty_Unlike ?i_Empty_Empty ?i_Empty_NoLeft ?i_Empty_NoText ?i_Empty_NoRow ?i_Empty_NoName ?i_Empty_Stopped ?i0_NoLeft ?i_NoLeft_MillError ?i_NoLeft_NoSize ?i_NoLeft_NoBits ?i_NoLeft_NoParts ?i_NoLeft_NoRank ?i_NoLeft_NotFinite ?i_NoLeft_NoWay ?i_NoLeft_NoFlags ?i_NoLeft_NoFraction ?i_NoLeft_Unlike ?i_NoLeft_Empty ?i_NoLeft_NoLeft ?i_NoLeft_NoText ?i_NoLeft_NoRow ?i_NoLeft_NoName ?i_NoLeft_Stopped ?i0_NoRow ?i_NoRow_MillError ?i_NoRow_NoSize ?i_NoRow_NoBits ?i_NoRow_NoParts ?i_NoRow_NoRank ?i_NoRow_NotFinite ?i_NoRow_NoWay ?i_NoRow_NoFlags ?i_NoRow_NoFraction ?i_NoRow_Unlike ?i_NoRow_Empty ?i_NoRow_NoLeft ?i_NoRow_NoText ?i_NoRow_NoRow ?i_NoRow_NoName ?i_NoRow_Stopped ?i0_NoName ?i_NoName_MillError ?i_NoName_NoSize ?i_NoName_NoBits ?i_NoName_NoParts ?i_NoName_NoRank ?i_NoName_NotFinite ?i_NoName_NoWay ?i_NoName_NoFlags ?i_NoName_NoFraction ?i_NoName_Unlike ?i_NoName_Empty ?i_NoName_NoLeft ?i_NoName_NoText ?i_NoName_NoRow ?i_NoName_NoName ?i_NoName_Stopped ?i0_Stopped ?i_Stopped_MillError ?i_Stopped_NoSize ?i_Stopped_NoBits ?i_Stopped_NoParts ?i_Stopped_NoRank ?i_Stopped_NotFinite ?i_Stopped_NoWay ?i_Stopped_NoFlags ?i_Stopped_NoFraction ?i_Stopped_Unlike ?i_Stopped_Empty ?i_Stopped_NoLeft ?i_Stopped_NoText ?i_Stopped_NoRow ?i_Stopped_NoName ?i_Stopped_Stopped ?i_int_NoneType ?i_int_bool ?i_int_int ?i_int_str ?i_int_tuple ?i_int_list ?i_bool_NoneType ?i_bool_bool ?i_bool_int ?i_bool_str ?i_bool_tuple ?i_bool_list ?i_tuple_NoneType ?i_tuple_bool ?i_tuple_int ?i_tuple_str ?i_tuple_tuple ?i_tuple_list
    (case n_Way | pg_Way | hd_Way | po_Way | sa_Way | na_Way | aIWay | uIWay | mm_Way | kc_Way | lIWay | eIWay | kIWay=>k_is)
    (case q1 | q2 | q3 | q4 | q5 | q6 | q7 | q8 | q9 | q10 | q11 | q12 | q13=>exact ES.da_mk (by k_is) (by k_is) (by k_is) (by k_is))
    (case a14 | l14 | e14 | k14=>k_is)
    (case q15 | q16 | q17 | q18 | q19 | q20 | q21 | q22 | q23 | q24 | q25 | q26 | q27 | q28=>exact ES.da_mk (by k_is) (by k_is) (by k_is) (by k_is))
    (case a29 | u29 | l29 | e29 | k29 | a30 | u30 | l30 | e30 | k30 | a31 | u31 | l31 | e31 | k31=>k_is)
    (case q32 | q33 | q34 | q35 | q36 | q37 | q38 | q39 | q40 | q41 | q42 | q43=>exact ES.da_mk (by k_is) (by k_is) (by k_is) (by k_is))
    (case a44 | l44 | e44 | k44 | z_len | z_str | z_isinstance | z_ValueError | z_all | z_int | z_max | z_bool | z_tuple | y_LONGEST_LINE | y_FIGURES | y_LONGEST_EXPONENT | y_NAMES | yl_NAMES | y_INEXACT | y_GREAT | y_SMALL | n_MillError | n_NoSize | n_NoBits | n_NoParts | n_NoRank | n_NotFinite | n_NoWay | n_NoFlags | n_NoFraction | n_Unlike | n_Empty | n_NoLeft | n_NoText | n_NoRow | n_NoName | n_Stopped=>k_is)
    (case xi_NoText | xi_NoWay | xi_NoFraction=>k_exc)
    (case v_MillError | v_NoSize | v_NoBits | v_NoParts | v_NoRank | v_NotFinite | v_NoWay | v_NoFlags | v_NoFraction | v_Unlike | v_Empty | v_NoLeft | v_NoText | v_NoRow | v_NoName | v_Stopped=>exact ⟨by k_is,by k_is,by k_is,by k_is,by k_is,⟨_,by k_is⟩⟩)
    (case cb_MillError=>exact ⟨⟨_,by k_is⟩,by k_is,by k_is,by k_is⟩)
    (case r_MillError_MillError | r_MillError_NoSize | r_MillError_NoBits | r_MillError_NoParts | r_MillError_NoRank | r_MillError_NotFinite | r_MillError_NoWay | r_MillError_NoFlags | r_MillError_NoFraction | r_MillError_Unlike | r_MillError_Empty | r_MillError_NoLeft | r_MillError_NoText | r_MillError_NoRow | r_MillError_NoName | r_MillError_Stopped=>k_is)
    (case i0_NoText | i_NoText_MillError | i_NoText_NoSize | i_NoText_NoBits | i_NoText_NoParts | i_NoText_NoRank | i_NoText_NotFinite | i_NoText_NoWay | i_NoText_NoFlags | i_NoText_NoFraction | i_NoText_Unlike | i_NoText_Empty | i_NoText_NoLeft | i_NoText_NoText | i_NoText_NoRow | i_NoText_NoName | i_NoText_Stopped | i_VE_NoneType | i_VE_bool | i_VE_int | i_VE_str | i_VE_tuple | i_VE_list | i_ValueError_MillError | i_ValueError_NoSize | i_ValueError_NoBits | i_ValueError_NoParts | i_ValueError_NoRank | i_ValueError_NotFinite | i_ValueError_NoWay | i_ValueError_NoFlags | i_ValueError_NoFraction | i_ValueError_Unlike | i_ValueError_Empty | i_ValueError_NoLeft | i_ValueError_NoText | i_ValueError_NoRow | i_ValueError_NoName | i_ValueError_Stopped | i0_NoSize | i_NoSize_MillError | i_NoSize_NoSize | i_NoSize_NoBits | i_NoSize_NoParts | i_NoSize_NoRank | i_NoSize_NotFinite | i_NoSize_NoWay | i_NoSize_NoFlags | i_NoSize_NoFraction | i_NoSize_Unlike | i_NoSize_Empty | i_NoSize_NoLeft | i_NoSize_NoText | i_NoSize_NoRow | i_NoSize_NoName | i_NoSize_Stopped | i0_NoBits | i_NoBits_MillError | i_NoBits_NoSize | i_NoBits_NoBits | i_NoBits_NoParts | i_NoBits_NoRank | i_NoBits_NotFinite | i_NoBits_NoWay | i_NoBits_NoFlags | i_NoBits_NoFraction | i_NoBits_Unlike | i_NoBits_Empty | i_NoBits_NoLeft | i_NoBits_NoText | i_NoBits_NoRow | i_NoBits_NoName | i_NoBits_Stopped | i0_NoParts | i_NoParts_MillError | i_NoParts_NoSize | i_NoParts_NoBits | i_NoParts_NoParts | i_NoParts_NoRank | i_NoParts_NotFinite | i_NoParts_NoWay | i_NoParts_NoFlags | i_NoParts_NoFraction | i_NoParts_Unlike | i_NoParts_Empty | i_NoParts_NoLeft | i_NoParts_NoText | i_NoParts_NoRow | i_NoParts_NoName | i_NoParts_Stopped | i0_NoRank | i_NoRank_MillError | i_NoRank_NoSize | i_NoRank_NoBits | i_NoRank_NoParts | i_NoRank_NoRank | i_NoRank_NotFinite | i_NoRank_NoWay | i_NoRank_NoFlags | i_NoRank_NoFraction | i_NoRank_Unlike | i_NoRank_Empty | i_NoRank_NoLeft | i_NoRank_NoText | i_NoRank_NoRow | i_NoRank_NoName | i_NoRank_Stopped | i0_NotFinite | i_NotFinite_MillError | i_NotFinite_NoSize | i_NotFinite_NoBits | i_NotFinite_NoParts | i_NotFinite_NoRank | i_NotFinite_NotFinite | i_NotFinite_NoWay | i_NotFinite_NoFlags | i_NotFinite_NoFraction | i_NotFinite_Unlike | i_NotFinite_Empty | i_NotFinite_NoLeft | i_NotFinite_NoText | i_NotFinite_NoRow | i_NotFinite_NoName | i_NotFinite_Stopped | i0_NoWay | i_NoWay_MillError | i_NoWay_NoSize | i_NoWay_NoBits | i_NoWay_NoParts | i_NoWay_NoRank | i_NoWay_NotFinite | i_NoWay_NoWay | i_NoWay_NoFlags | i_NoWay_NoFraction | i_NoWay_Unlike | i_NoWay_Empty | i_NoWay_NoLeft | i_NoWay_NoText | i_NoWay_NoRow | i_NoWay_NoName | i_NoWay_Stopped | i0_NoFlags | i_NoFlags_MillError | i_NoFlags_NoSize | i_NoFlags_NoBits | i_NoFlags_NoParts | i_NoFlags_NoRank | i_NoFlags_NotFinite | i_NoFlags_NoWay | i_NoFlags_NoFlags | i_NoFlags_NoFraction | i_NoFlags_Unlike | i_NoFlags_Empty | i_NoFlags_NoLeft | i_NoFlags_NoText | i_NoFlags_NoRow | i_NoFlags_NoName | i_NoFlags_Stopped | i0_NoFraction | i_NoFraction_MillError | i_NoFraction_NoSize | i_NoFraction_NoBits | i_NoFraction_NoParts | i_NoFraction_NoRank | i_NoFraction_NotFinite | i_NoFraction_NoWay | i_NoFraction_NoFlags | i_NoFraction_NoFraction | i_NoFraction_Unlike | i_NoFraction_Empty | i_NoFraction_NoLeft | i_NoFraction_NoText | i_NoFraction_NoRow | i_NoFraction_NoName | i_NoFraction_Stopped | i0_Unlike | i_Unlike_MillError | i_Unlike_NoSize | i_Unlike_NoBits | i_Unlike_NoParts | i_Unlike_NoRank | i_Unlike_NotFinite | i_Unlike_NoWay | i_Unlike_NoFlags | i_Unlike_NoFraction | i_Unlike_Unlike | i_Unlike_Empty | i_Unlike_NoLeft | i_Unlike_NoText | i_Unlike_NoRow | i_Unlike_NoName | i_Unlike_Stopped | i0_Empty | i_Empty_MillError | i_Empty_NoSize | i_Empty_NoBits | i_Empty_NoParts | i_Empty_NoRank | i_Empty_NotFinite | i_Empty_NoWay | i_Empty_NoFlags | i_Empty_NoFraction | i_Empty_Unlike | i_Empty_Empty | i_Empty_NoLeft | i_Empty_NoText | i_Empty_NoRow | i_Empty_NoName | i_Empty_Stopped | i0_NoLeft | i_NoLeft_MillError | i_NoLeft_NoSize | i_NoLeft_NoBits | i_NoLeft_NoParts | i_NoLeft_NoRank | i_NoLeft_NotFinite | i_NoLeft_NoWay | i_NoLeft_NoFlags | i_NoLeft_NoFraction | i_NoLeft_Unlike | i_NoLeft_Empty | i_NoLeft_NoLeft | i_NoLeft_NoText | i_NoLeft_NoRow | i_NoLeft_NoName | i_NoLeft_Stopped | i0_NoRow | i_NoRow_MillError | i_NoRow_NoSize | i_NoRow_NoBits | i_NoRow_NoParts | i_NoRow_NoRank | i_NoRow_NotFinite | i_NoRow_NoWay | i_NoRow_NoFlags | i_NoRow_NoFraction | i_NoRow_Unlike | i_NoRow_Empty | i_NoRow_NoLeft | i_NoRow_NoText | i_NoRow_NoRow | i_NoRow_NoName | i_NoRow_Stopped | i0_NoName | i_NoName_MillError | i_NoName_NoSize | i_NoName_NoBits | i_NoName_NoParts | i_NoName_NoRank | i_NoName_NotFinite | i_NoName_NoWay | i_NoName_NoFlags | i_NoName_NoFraction | i_NoName_Unlike | i_NoName_Empty | i_NoName_NoLeft | i_NoName_NoText | i_NoName_NoRow | i_NoName_NoName | i_NoName_Stopped | i0_Stopped | i_Stopped_MillError | i_Stopped_NoSize | i_Stopped_NoBits | i_Stopped_NoParts | i_Stopped_NoRank | i_Stopped_NotFinite | i_Stopped_NoWay | i_Stopped_NoFlags | i_Stopped_NoFraction | i_Stopped_Unlike | i_Stopped_Empty | i_Stopped_NoLeft | i_Stopped_NoText | i_Stopped_NoRow | i_Stopped_NoName | i_Stopped_Stopped | i_int_NoneType | i_int_bool | i_int_int | i_int_str | i_int_tuple | i_int_list | i_bool_NoneType | i_bool_bool | i_bool_int | i_bool_str | i_bool_tuple | i_bool_list | i_tuple_NoneType | i_tuple_bool | i_tuple_int | i_tuple_str | i_tuple_tuple | i_tuple_list=>kit_is)
#print axioms PySem.Challenge.cw_roundmill_k48_spelled_refused_holds
