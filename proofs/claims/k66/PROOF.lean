import PyProof.Rows.All
import Wide.All
import OpenK.AllK
import Wide.FinOn
import Lean
import PyProof.EqAt
import PyProof.EqKinds
import PyProof.TupleCall
import PySem.Challenge.RW_roundmill_k66_words_of
set_option Elab.async false
set_option linter.all false
set_option genSizeOf false
set_option maxRecDepth 100000
local macro_rules (kind:=Lean.Parser.Command.declaration)
 | s=>if (s[1].isOfKind ``Lean.Parser.Command.definition||s[1].isOfKind ``Lean.Parser.Command.abbrev)&&s[0][4].getNumArgs == 0&&s[1][1][0].getId != `bmV then pure (s.setArg 0 (s[0].setArg 4 (Lean.mkNullNode #[Lean.mkNode ``Lean.Parser.Command.noncomputable #[Lean.mkAtom "noncomputable"]]))) else Lean.Macro.throwUnsupported
set_option hygiene false
local macro_rules | `(tactic| omega)=>`(tactic| first | lia | omega +splitNatSub)
local macro_rules | `(⋯)=>`(by omega)
local macro_rules | `(⇑$x)=>`(con (.int $x))
local macro_rules | `(↥$n:num)=>match n.getNat with | 0=>`(by decide) | 1=>`(Life.mk [] [] [] 0 [] [] false #[] [] 0 false false false 0 [2000,10,10] false 0 true [] [] 0 false) | 2=>`(vS "roundmill.errors" 187) | 3=>`(PySem.W.fnOf x qual (eJ st) (aC st) (ae st) .none kV doc pm an cdv ct) | 4=>`(model X.prog X.w) | 5=>`(Shared.mk (hf w.params) ⟨[]⟩ (Drawn.mk 0 0 0 0) 759 os) | 6=>`(importedModules (Program.main PySem.Challenge.pw_roundmill_k66_words_of).body) | 7=>`(Addr×Obj) | 8=>`(.type "ValueError") | 9=>`(some (.builtin "ValueError.__new__")) | 10=>`(cxU X xs ksn sc C fp s H W) | 11=>`(.type "tuple") | 12=>`(.type "builtin_function_or_method") | 13=>`(.builtin "object.__init_subclass__") | 14=>`(.bl false) | 15=>`(cxU X xs ksn sc s3.heap.objs.size fp s3 H3 WW) | 16=>`(bin oIx (var 2) (bin oMod (bin aR (bin oDiv (var 1) ⇑8) (bin gm (bin gm ⇑7 (var 0)) (bin oMod (bin oDiv (var 1) ⇑3) ⇑2))) ⇑26)) | 17=>`(.type "BaseException") | 18=>`(aA (yu (x:="NoRow") L.calm (P.w 2) q_NoRow xi_NoRow)) | 19=>`(by simp) | 20=>`(ay.refl _) | 21=>`(.type "dict") | 22=>`(Nat.le_of_ble_eq_true rfl) | 23=>`(.str (st v)) | 24=>`(by decide +kernel) | 25=>`(nm++tl) | 26=>`(hide H os) | 27=>`(bV eM eE (P.w 0) m_len PySem.boot_len (a1 (P.v 1))) | 28=>`(bV eM eE (P.w 0) m_len PySem.boot_len (a1 (P.v 0))) | 29=>`(.tup [.str "sum",.str "turn",.str "halves"]) | 30=>`(Nat.le_refl _) | 31=>`(List Nat) | 32=>`(model prog w) | 33=>`((∀ c o,c≠z->c≠TO->c≠i1->c≠i2->s.heap.get? c=some o->h'.get? c=some o)) | 34=>`(.bl true) | 35=>`(dk I q ↥19) | 36=>`(.str (st l)) | 37=>`(Option Value) | 38=>`(.tup [.str "add",.str "take",.str "mul",.str "div"]) | 39=>`(.type "object") | _=>Lean.Macro.throwUnsupported
set_option hygiene true
namespace L2
open PySem PySem.Spec PyProof.Rows
abbrev Key:=Sum Int Str
def CK:Key->Value->Bool
 | .inl k,v=>Value.isInt k v
 | .inr x,v=>Value.isStrOf x v
def JJ (w:World):Key->Int
 | .inl k=>hashInt k
 | .inr x=>hashStr w x
theorem bb:∀ {k:Key} {v:Value},CK k v=true->(∃ i t,k=Sum.inl i/\v=Value.int i t)\/(∃ x t,k=Sum.inr x/\v=Value.str x t)
 | .inl i,v,h=>by
  obtain ⟨t,e⟩:=Value.isInt_shape (k:=i) (v:=v) h
  exact .inl ⟨i,t,rfl,e⟩
 | .inr x,v,h=>by
  obtain ⟨t,e⟩:=Value.isStrOf_shape (x:=x) (v:=v) h
  exact .inr ⟨x,t,rfl,e⟩
theorem CJ (a b:Int):decide ((Sum.inl a:Key)=Sum.inl b)=(a == b):=by
 by_cases e:a=b
 ·subst e;simp
 ·have h:¬ (Sum.inl a:Key)=Sum.inl b:=fun q=>e (Sum.inl.inj q)
  rw [decide_eq_false h]
  exact (beq_eq_false_iff_ne.mpr e).symm
theorem CG (a b:Str):decide ((Sum.inr a:Key)=Sum.inr b)=decide (a=b):=by
 by_cases e:a=b
 ·subst e;simp
 ·have h:¬ (Sum.inr a:Key)=Sum.inr b:=fun q=>e (Sum.inr.inj q)
  rw [decide_eq_false h,decide_eq_false e]
theorem CI (a:Int) (b:Str):decide ((Sum.inl a:Key)=Sum.inr b)=false:=decide_eq_false (fun q=>nomatch q)
theorem CH (a:Str) (b:Int):decide ((Sum.inr a:Key)=Sum.inl b)=false:=decide_eq_false (fun q=>nomatch q)
def qU (prog:Program) (w:World):PySem.KeyKind prog w Key where
 is:=CK
 hash:=JJ w
 inj:=fun v a b ha hb=>by
  rcases bb ha with ⟨i,t,rfl,rfl⟩ | ⟨x,t,rfl,rfl⟩
  ·rcases bb hb with ⟨j,u,rfl,e⟩ | ⟨y,u,rfl,e⟩
   ·injection e with e1 _;rw [e1]
   ·exact nomatch e
  ·rcases bb hb with ⟨j,u,rfl,e⟩ | ⟨y,u,rfl,e⟩
   ·exact nomatch e
   ·injection e with e1 _;rw [e1]
 byValue:=fun k v h=>by
  rcases bb h with ⟨i,t,rfl,rfl⟩ | ⟨x,t,rfl,rfl⟩<;>rfl
 pyHash:=fun hv h=>by
  rcases bb hv with ⟨i,t,rfl,rfl⟩ | ⟨x,t,rfl,rfl⟩
  ·exact wpAny_pyHash_int h
  ·exact wpAny_pyHash_str h
 eqBool:=fun hu hv h=>by
  rcases bb hu with ⟨i,t,rfl,rfl⟩ | ⟨x,t,rfl,rfl⟩
  ·rcases bb hv with ⟨j,u,rfl,rfl⟩ | ⟨y,u,rfl,rfl⟩
   ·rw [CJ] at h;exact wpAny_eqBool_int h
   ·rw [CI] at h;exact SeqAt.EqAt.int_str i t y u _ _ _ _ h
  ·rcases bb hv with ⟨j,u,rfl,rfl⟩ | ⟨y,u,rfl,rfl⟩
   ·rw [CH] at h;exact SeqAt.EqAt.str_int x t j u _ _ _ _ h
   ·rw [CG] at h;exact wpAny_eqBool_str h
 «strs»:=fun k x t v h=>by
  rcases bb h with ⟨i,u,rfl,e⟩ | ⟨y,u,rfl,e⟩
  ·exact nomatch e
  ·injection e with e1 _
   subst e1
   cases v<;>rfl
end L2
namespace L2
open PySem PySem.Spec PyProof.Rows
inductive V where
 | non | bl (b:Bool) | int (i:Int) | str (x:Str) | byt (b:Array UInt8) | flt (b:UInt64) | ref (a:Addr) | ty (n:String)
 deriving DecidableEq
def RelV:V->Value->Prop
 | .non,u=>u=Value.none
 | .bl b,u=>u=Value.bool b
 | .int i,u=>∃ t,u=Value.int i t
 | .str x,u=>∃ t,u=Value.str x t
 | .byt b,u=>∃ t,u=Value.bytes b t
 | .flt b,u=>∃ t,u=Value.float b t
 | .ref a,u=>u=Value.ref a
 | .ty n,u=>u=Value.type n
abbrev Vals:List V->List Value->Prop:=Paired RelV
theorem Vals.length {xs:List V} {us:List Value} (r:Vals xs us):xs.length=us.length:=Paired.length r
theorem Vals.get:∀ {xs:List V} {us:List Value} {i:Nat} {x:V},Vals xs us->xs[i]? = some x->∃ u,us[i]? = some u/\RelV x u
 | _,_,_,_,.nil,e=>by simp at e
 | _,_,0,_,.cons r _,e=>by simp at e;subst e;exact ⟨_,rfl,r⟩
 | _,_,i+1,x,.cons _ t,e=>by
  obtain ⟨u,h1,h2⟩:=Vals.get (i:=i) (x:=x) t (by simpa using e)
  exact ⟨u,by simpa using h1,h2⟩
theorem Vals.append:∀ {xs ys:List V} {us ws:List Value},Vals xs us->Vals ys ws->Vals (xs++ys) (us++ws)
 | _,_,_,_,.nil,s=>s
 | _,_,_,_,.cons r t,s=>.cons r (Vals.append t s)
theorem Vals.take:∀ {xs:List V} {us:List Value} (n:Nat),Vals xs us->Vals (xs.take n) (us.take n)
 | _,_,0,_=>.nil
 | _,_,_+1,.nil=>.nil
 | _,_,n+1,.cons r t=>.cons r (Vals.take n t)
theorem Vals.drop:∀ {xs:List V} {us:List Value} (n:Nat),Vals xs us->Vals (xs.drop n) (us.drop n)
 | _,_,0,r=>r
 | _,_,_+1,.nil=>.nil
 | _,_,n+1,.cons _ t=>Vals.drop n t
def HE:Option V->Option Value->Prop
 | some v,some u=>RelV v u
 | none,none=>True
 | _,_=>False
def KV {κ:Type}:List (κ×V)->List (κ×Value)->Prop:=Paired fun (p:κ×V) (q:κ×Value)=>p.1=q.1/\RelV p.2 q.2
def kV:Key->V
 | .inl i=>.int i
 | .inr x=>.str x
inductive HO where
 /-- a list -/
 | lst (xs:List V)
 /-- a tuple (never changes) -/
 | tup (xs:List V)
 /-- a dict whose keys are ints and texts;one whose keys are tuples of ints and texts (the empty one is both) -/
 | dK (kvs:List (Key×V)) | dT (kvs:List (List Key×V))
 /-- a set of ints: its members,its size -/
 | set (S:Int->Bool) (n:Nat)
 /-- an instance of the class at C,its dict at dx,its attributes -/
 | ins (C dx:Addr) (fs:List (Str×V))
 /-- the dict of the instance at x -/
 | own (x:Addr)
 /-- the dict of an exception -/
 | xd (fs:List (Str×V))
 /-- a bound method,f of x -/
 | met (f x:Addr)
 /-- a range object lo,lo+1,.. below hi -/
 | rng (lo hi:Int)
 /-- a thing that is known to the object (the script;a dict while a loop walks it): read,never written while it is so -/
 | frz (o:Obj) (u:HO)
 /-- a code object's table -/
 | tbl (ps:Array Value)
 /-- any other thing,by what is true of its one object (a def of one's own: SetO a S n:=HO.ext fun h=>..) -/
 | ext (φ:Heap->Prop)
abbrev Hp:=Addr->Option HO
def upd (H:Hp) (a:Addr) (o:HO):Hp:=fun b=>if b=a then some o else H b
theorem aS {H:Hp} {a:Addr} {o:HO}:upd H a o a=some o:=by unfold upd;rw [if_pos rfl]
theorem aM {H:Hp} {a b:Addr} {o:HO} (h:b≠a):upd H a o b=H b:=by unfold upd;rw [if_neg h]
theorem cx {H:Hp} {a b:Addr} {o:HO} (h:H a=some o) (h':H b=none):a≠b:=by
 intro e;subst e;rw [h] at h';cases h'
section
variable (P:Program) (w:World)
def fY (H:Hp) (h:Heap) (a:Addr):HO->Prop
 | .lst xs=>xs.length<=sizeLine/\∃ (its:List Value) (n:Nat),Vals xs its/\h.get? a=some { cls:=.type "list",data:=.seq its.toArray n }
 | .tup xs=>xs.length<=sizeLine/\∃ its:List Value,Vals xs its/\IsTup h a its.toArray
 | .dK kvs=>kvs.length<=sizeLine/\(a == sysModules)=false/\∃ vs,KV kvs vs/\h.DictOf (qU P w) a vs
 | .dT kvs=>kvs.length<=sizeLine/\(a == sysModules)=false/\∃ xs:List (List Key×Addr×Value),
   Paired (fun (p:List Key×V) (q:List Key×Addr×Value)=>p.1=q.1/\H q.2.1=some (.tup (p.1.map kV))/\RelV p.2 q.2.2) kvs xs /\
   ∃ o es ep,h.get? a=some o/\o.ExactDict/\o.data=.dict es ep/\es.toList=xs.map (entryOfKey (tupleKind (qU P w)))/\(xs.map (·.1)).Nodup
 | .set S n=>h.SetOf (intKind P w) a S n
 | .ins C dx fs=>H dx=some (.own a)/\fs.length<=1000/\dx≠a/\h.get? a=some (PySem.W.instObj C dx) /\
   ∃ mA,h.Ns1 dx mA/\(∀ f,HE (fs.lookup f) (mA f))/\PySem.Within mA (fs.map (·.1))
 | .own _=>∃ o,h.get? a=some o
 | .xd fs=>∃ mA,h.Ns1 a mA/\∀ f,HE (fs.lookup f) (mA f)
 | .rng lo hi=>∃ t u v,h.get? a=some { cls:=.type "range",data:=.fields #[.int lo t,.int hi u,.int 1 v] }
 | .frz o u=>h.get? a=some o/\fY H h a u
 | .tbl ps=>h.get? a=some { cls:=.none,data:=.fields ps }
 | .met f x=>h.get? a=some (PySem.W.methodObj (.ref f) (.ref x))
 | .ext φ=>φ h/\(∃ o,h.get? a=some o)/\∀ h1 h2:Heap,φ h1->(∀ o,h1.get? a=some o->h2.get? a=some o)->φ h2
def HOk (H:Hp) (h:Heap):Prop:=∀ a o,H a=some o->fY P w H h a o
end
section
variable {P:Program} {w:World} {H H':Hp} {h h':Heap} {a:Addr} {o:HO}
theorem fY.lt (x:fY P w H h a o):a<h.objs.size:=by
 cases o with
 | lst xs=>obtain ⟨_,_,_,_,e⟩:=x;exact Heap.lt_size e
 | tup xs=>obtain ⟨_,_,_,p⟩:=x;exact p.lt
 | dK kvs=>obtain ⟨_,_,_,_,o,_,_,e,_⟩:=x;exact Heap.lt_size e
 | dT kvs=>obtain ⟨_,_,_,_,o,_,_,e,_⟩:=x;exact Heap.lt_size e
 | set S n=>obtain ⟨o,_,_,_,e,_⟩:=x;exact Heap.lt_size e
 | ins C dx fs=>obtain ⟨_,_,_,e,_⟩:=x;exact Heap.lt_size e
 | own y=>obtain ⟨_,e⟩:=x;exact Heap.lt_size e
 | xd fs=>obtain ⟨_,⟨_,_,_,e,_⟩,_⟩:=x;exact Heap.lt_size e
 | rng lo hi=>obtain ⟨_,_,_,e⟩:=x;exact Heap.lt_size e
 | frz ob u=>obtain ⟨e,_⟩:=x;exact Heap.lt_size e
 | tbl ps=>exact Heap.lt_size (show h.get? a=some _ from x)
 | met f y=>exact Heap.lt_size (show h.get? a=some _ from x)
 | ext φ=>obtain ⟨_,⟨_,e⟩,_⟩:=x;exact Heap.lt_size e
theorem Paired.mapP {α β:Type} {F G:α->β->Prop}:∀ {l₁:List α} {l₂:List β},Paired F l₁ l₂->(∀ a b,F a b->G a b)->Paired G l₁ l₂
 | _,_,.nil,_=>.nil
 | _,_,.cons r t,f=>.cons (f _ _ r) (Paired.mapP t f)
theorem fY.stay (x:fY P w H h a o) (k:∀ b u,(b=a\/H b=some (.own a))->h.get? b=some u->h'.get? b=some u)
  (ho:∀ b,H b=some (.own a)->H' b=some (.own a)) (ht:∀ b xs,H b=some (.tup xs)->H' b=some (.tup xs)):fY P w H' h' a o:=by
 induction o with
 | lst xs=>obtain ⟨z,its,n,r,e⟩:=x;exact ⟨z,its,n,r,k _ _ (.inl rfl) e⟩
 | tup xs=>obtain ⟨z,its,r,ob,e,c⟩:=x;exact ⟨z,its,r,ob,k _ _ (.inl rfl) e,c⟩
 | dK kvs=>obtain ⟨z,y,vs,r,ob,es,ep,e,c⟩:=x;exact ⟨z,y,vs,r,ob,es,ep,k _ _ (.inl rfl) e,c⟩
 | dT kvs =>
  obtain ⟨z,y,xs,r,ob,es,ep,e,c⟩:=x
  exact ⟨z,y,xs,Paired.mapP r fun p q z=>⟨z.1,ht _ _ z.2.1,z.2.2⟩,ob,es,ep,k _ _ (.inl rfl) e,c⟩
 | set S n=>obtain ⟨ob,es,ep,t,e,c⟩:=x;exact ⟨ob,es,ep,t,k _ _ (.inl rfl) e,c⟩
 | ins C dx fs =>
  obtain ⟨d,z,ne,e,mA,⟨od,es,ep,e2,c⟩,r⟩:=x
  exact ⟨ho _ d,z,ne,k _ _ (.inl rfl) e,mA,⟨od,es,ep,k _ _ (.inr d) e2,c⟩,r⟩
 | own y=>obtain ⟨ob,e⟩:=x;exact ⟨ob,k _ _ (.inl rfl) e⟩
 | xd fs=>obtain ⟨mA,⟨od,es,ep,e,c⟩,r⟩:=x;exact ⟨mA,⟨od,es,ep,k _ _ (.inl rfl) e,c⟩,r⟩
 | rng lo hi=>obtain ⟨t,u,v,e⟩:=x;exact ⟨t,u,v,k _ _ (.inl rfl) e⟩
 | frz ob u ih=>obtain ⟨e,q⟩:=x;exact ⟨k _ _ (.inl rfl) e,ih q⟩
 | tbl ps =>
  have e:h.get? a=some { cls:=.none,data:=.fields ps }:=x
  show h'.get? a=some { cls:=.none,data:=.fields ps }
  exact k a _ (.inl rfl) e
 | met f y =>
  have e:h.get? a=some (PySem.W.methodObj (.ref f) (.ref y)):=x
  show h'.get? a=some (PySem.W.methodObj (.ref f) (.ref y))
  exact k a _ (.inl rfl) e
 | ext φ=>obtain ⟨p,⟨o,e⟩,st⟩:=x;exact ⟨st _ _ p fun o q=>k _ _ (.inl rfl) q,⟨o,k _ _ (.inl rfl) e⟩,st⟩
theorem HOk.lt (x:HOk P w H h) (e:H a=some o):a<h.objs.size:=(x a o e).lt
theorem HOk.fresh (x:HOk P w H h) (e:h.objs.size<=a):H a=none:=by
 cases q:H a with
 | none=>rfl
 | some u=>exact absurd (Nat.lt_of_lt_of_le (x.lt q) e) (Nat.lt_irrefl _)
theorem HOk.kept (x:HOk P w H h) (k:∀ b u,h.get? b=some u->h'.get? b=some u):HOk P w H h':=fun a o e =>
 (x a o e).stay (fun b u _ q=>k b u q) (fun _ q=>q) fun _ _ q=>q
theorem HOk.laid (x:HOk P w H h) (k:∀ b u,h.get? b=some u->h'.get? b=some u) (hp:h.objs.size<=a) (new:fY P w (upd H a o) h' a o):HOk P w (upd H a o) h':=fun b u e=>by
 have hn:=x.fresh hp
 by_cases hb:b=a
 ·subst hb;rw [aS] at e;cases e;exact new
 ·rw [aM hb] at e
  exact (x b u e).stay (fun c v _ q=>k c v q) (fun c q=>by rw [aM (cx q hn)];exact q) fun c xs q=>by rw [aM (cx q hn)];exact q
end
def Rd (H:Hp) (a:Addr) (u:HO):Prop:=H a=some u\/∃ o,H a=some (.frz o u)
theorem Rd.ok {P:Program} {w:World} {H:Hp} {h:Heap} {a:Addr} {u:HO} (r:Rd H a u) (x:HOk P w H h):fY P w H h a u:=by
 rcases r with r | ⟨o,r⟩
 ·exact x a u r
 ·obtain ⟨_,q⟩:=x a _ r
  exact q
def Mut:Option HO->Prop
 | some (.lst _)=>True
 | some (.dK _)=>True
 | some (.dT _)=>True
 | some (.set _ _)=>True
 | some (.ins _ _ _)=>True
 | some (.ext _)=>True
 | _=>False
section
variable {P:Program} {w:World} {H:Hp} {h h':Heap} {x e:Addr} {o':HO}
theorem HOk.write (ok:HOk P w H h) (mu:Mut (H x)) (he:e=x\/H e=some (.own x)) (k:∀ b u,b≠e->h.get? b=some u->h'.get? b=some u) (heo:∃ u,h'.get? e=some u)
  (new:fY P w (upd H x o') h' x o'):HOk P w (upd H x o') h':=fun b u q=>by
 have nown:∀ c y,H c=some (.own y)->c≠x:=fun c y r z=>by subst z;rw [r] at mu;exact mu
 have ntup:∀ c xs,H c=some (.tup xs)->c≠x:=fun c xs r z=>by subst z;rw [r] at mu;exact mu
 by_cases hb:b=x
 ·subst hb;rw [aS] at q;cases q;exact new
 ·rw [aM hb] at q
  by_cases hbe:b=e
  ·have q':H b=some (.own x):=by
    rcases he with z | z
    ·exact absurd (hbe.trans z) hb
    ·rw [hbe];exact z
   rw [q] at q';cases q'
   obtain ⟨v,hv⟩:=heo
   exact ⟨v,by rw [hbe];exact hv⟩
  ·refine (ok b u q).stay (fun c v hc r=>k c v ?_ r) (fun c r=>by rw [aM (nown c b r)];exact r) fun c xs r=>by rw [aM (ntup c xs r)];exact r
   rcases hc with rfl | hc
   ·exact hbe
   ·rintro rfl
    rcases he with z | z
    ·exact nown c b hc z
    ·rw [hc] at z;cases z;exact hb rfl
end
structure Un (fs ex:List Addr) (H H':Hp) (h h':Heap):Prop where
 keep:∀ b o,h.get? b=some o->H b=none->b∉fs->b∉ex->h'.get? b=some o
 slot:∀ b o,h.get? b=some o->H b=none->b∈fs->b∉ex->∃ sl,h'.get? b=some { o with slots:=sl }
 free:∀ b o,h.get? b=some o->H b=none->b∉ex->H' b=none
 there:∀ b o,h.get? b=some o->b∉ex->∃ o',h'.get? b=some o'
 tups:∀ b xs,H b=some (.tup xs)->H' b=some (.tup xs)
 frzs:∀ b o u,H b=some (.frz o u)->H' b=some (.frz o u)
 tbls:∀ b ps,H b=some (.tbl ps)->∃ more,H' b=some (.tbl (ps++more))
section
variable {fs fs' ex ex':List Addr} {H H1 H2:Hp} {h h1 h2 h':Heap} {a x e:Addr} {o:HO}
theorem Un.any (u:Un fs ex H H1 h h1) {b:Addr} {ob:Obj} (q:h.get? b=some ob) (n:H b=none) (hx:b∉ex):∃ sl,h1.get? b=some { ob with slots:=sl }:=by
 by_cases hb:b∈fs
 ·exact u.slot b ob q n hb hx
 ·exact ⟨ob.slots,u.keep b ob q n hb hx⟩
theorem Un.kept (k:∀ b u,h.get? b=some u->h'.get? b=some u):Un fs ex H H h h' :=
 ⟨fun b ob q _ _ _=>k b ob q,fun b ob q _ _ _=>⟨ob.slots,k b ob q⟩,fun _ _ _ n _=>n,fun b ob q _=>⟨ob,k b ob q⟩,fun _ _ q=>q,fun _ _ _ q=>q,fun _ ps q=>⟨#[],by rw [q];simp⟩⟩
theorem Un.refl:Un fs ex H H h h:=Un.kept fun _ _ q=>q
theorem Un.laid (k:∀ b u,h.get? b=some u->h'.get? b=some u) (hp:h.objs.size<=a) (hn:H a=none):Un fs ex H (upd H a o) h h' where
 keep:=fun b u q _ _ _=>k b u q
 slot:=fun b u q _ _ _=>⟨u.slots,k b u q⟩
 free:=fun b u q n _=>by rw [aM (Nat.ne_of_lt (Nat.lt_of_lt_of_le (Heap.lt_size q) hp))];exact n
 there:=fun b u q _=>⟨u,k b u q⟩
 tups:=fun b xs q=>by rw [aM (cx q hn)];exact q
 frzs:=fun b u xs q=>by rw [aM (cx q hn)];exact q
 tbls:=fun b ps q=>⟨#[],by rw [aM (cx q hn),q];simp⟩
theorem Un.write (mu:Mut (H x)) (he:e=x\/H e=some (.own x)) (k:∀ b u,b≠e->h.get? b=some u->h'.get? b=some u) (heo:∃ u,h'.get? e=some u):Un fs ex H (upd H x o) h h':=by
 have hx:∀ b,H b=none->b≠x:=fun b n z=>by subst z;rw [n] at mu;exact mu
 have hb:∀ b,H b=none->b≠e:=fun b n z=>by
  subst z
  rcases he with r | r
  ·exact hx b n r
  ·rw [n] at r;cases r
 have hm:∀ b u,H b=some u->¬ Mut (some u)->b≠x:=fun b u q nm z=>by subst z;rw [q] at mu;exact nm mu
 refine ⟨fun b u q n _ _=>k b u (hb b n) q,fun b u q n _ _=>⟨u.slots,k b u (hb b n) q⟩,fun b u q n _=>by rw [aM (hx b n)];exact n,fun b u q _ => ?_,
  fun b xs q=>by rw [aM (hm b _ q fun z=>z)];exact q,fun b u xs q=>by rw [aM (hm b _ q fun z=>z)];exact q,fun b ps q=>⟨#[],by rw [aM (hm b _ q fun z=>z),q];simp⟩⟩
 by_cases hbe:b=e
 ·subst hbe;exact heo
 ·exact ⟨u,k b u hbe q⟩
end
def trk (h:Heap) (H:Hp):List Addr:=(List.range h.objs.size).filter fun a=>(H a).isSome
def u0 (h:Heap) (H:Hp):Heap:=PySem.W.hideAll h (trk h H)
theorem rl (h:Heap) (H:Hp):(u0 h H).objs.size=h.objs.size:=PySem.W.hideAll_size _ _
theorem uZ {h:Heap} {H:Hp} {b:Addr} {o:Obj} (e:h.get? b=some o) (n:H b=none):(u0 h H).get? b=some o :=
 PySem.W.hideAll_get _ e fun hm=>by
  have q:(H b).isSome=true:=(List.mem_filter.mp hm).2
  rw [n] at q;simp at q
theorem zg {h:Heap} {H:Hp} {b:Addr} {o:Obj} (e:(u0 h H).get? b=some o):h.get? b=some o/\H b=none:=by
 have e':h.get? b=some o:=PySem.W.of_hideAll (trk h H) e
 refine ⟨e',?_⟩
 cases q:H b with
 | none=>rfl
 | some x =>
  have hm:b∈trk h H:=List.mem_filter.mpr ⟨List.mem_range.mpr (Heap.lt_size e'),by simp [q]⟩
  have z:(u0 h H).get? b=none:=PySem.W.hideAll_none (trk h H) hm
  rw [z] at e;cases e
def Ao (g h:Heap) (L:Addr):List ↥7:=(List.range h.objs.size).filterMap fun a=>if a=L\/(g.get? a).isSome=true then none else (h.get? a).map fun o=>(a,o)
def rest (g h:Heap) (L d:Addr):List ↥7:=(Ao g h L).filter fun p=>decide (p.1≠d)
end L2
namespace L2
open PySem PySem.Spec PyProof.Rows
structure Mod (K:PySem.W.Frag) (mg:Str->Option Value) (base:Heap):Prop where
 kin:K.In base
 glob:base.Ns mainGlobals mg
 blt:∃ mb,base.Ns builtinsNs mb/\∀ x:Str,x≠"__name__"->mb x=bootBuiltins x
 nolimit:base.NoLimit
structure Cx where
 prog:Program
 w:World
 K:PySem.W.Frag
 mg:Str->Option Value
 base:Heap
 A:Around
 N:List Str
 s₀:Shared
 H₀:Hp
 env:Env
 outer:List Env
 stack:List Env
 ex:List Addr
 fn:Str->Bool
 calm:Bool
 pn:List ↥7
 xe:Value->Shared->Prop
def frs (l:List Env):List Addr:=l.filterMap (·.frame)
abbrev Cx.fs (X:Cx):List Addr:=frs X.outer
def Vis (sc:Scope) (x:Str):Prop:=sc.names.lookup x=some .local\/sc.names.lookup x=some .cell\/sc.names.lookup x=some .free
def Loc (sc:Scope) (x:Str):Prop:=sc.names.lookup x=some .local\/sc.names.lookup x=some .cell
def Look (env:Env) (h:Heap) (m:Str->Option Value) (x:Str) (u:Value):Prop :=
 (env.kindOf x=some .local/\m x=some u)\/((env.kindOf x=some .cell\/env.kindOf x=some .free)/\∃ c,env.cells.lookup x=some c/\h.IsCell c (some u))
structure Cx.Ok (X:Cx):Prop where
 mod:Mod X.K X.mg X.base
 kind:X.env.scope.kind=.function
 glob:X.env.globals=mainGlobals
 blt:X.env.builtins=builtinsNs
 above:X.s₀.heap.objs.size<=X.env.locals
 inj:∀ x y c,X.env.cells.lookup x=some c->X.env.cells.lookup y=some c->x=y
 has:∀ x,(X.env.kindOf x=some .cell\/X.env.kindOf x=some .free)->∃ c,X.env.cells.lookup x=some c
 cab:∀ x c,X.fn x=true->X.env.cells.lookup x=some c->X.s₀.heap.objs.size<=c
 hd:X.calm=true->X.A.handled=none
 frames:X.A.frames=some X.stack
 stk:X.stack=X.outer\/(X.stack=X.env::X.outer/\X.env.frame=some X.env.locals)
 exf:∀ b∈X.ex,b≠X.env.locals/\∀ x c,X.env.cells.lookup x=some c->c≠b
 bs:∀ b o,X.base.get? b=some o->X.s₀.heap.get? b=some o/\X.H₀ b=none
 bsz:X.base.objs.size<=X.s₀.heap.objs.size
 noex:∀ b o,X.base.get? b=some o->b∉X.ex
 exfs:∀ b∈X.ex,b∉X.fs
 funs:X.s₀.heap.FunFrames X.base X.outer
 frf:∀ b∈X.fs,X.H₀ b=none
structure Inv (X:Cx) (pins:List ↥7) (σ:List (Option V)) (H:Hp) (s:Shared):Prop where
 ok:X.Ok
 os:s.os=X.s₀.os
 bare:AllBare s.gens
 base:Un X.fs X.ex X.H₀ H X.s₀.heap s.heap
 loc:∃ m,s.heap.Ns X.env.locals m/\∀ (i:Nat) (x:Str) (v:V),X.N[i]? = some x->σ[i]? = some (some v)->Vis X.env.scope x->∃ u,RelV v u/\Look X.env s.heap m x u
 cell:∀ x c,X.env.cells.lookup x=some c->∃ v,s.heap.IsCell c v
 free:H X.env.locals=none
 freeC:∀ x c,X.env.cells.lookup x=some c->H c=none
 pin:∀ p∈X.pn++pins,s.heap.get? p.1=some p.2/\H p.1=none/\p.1≠X.env.locals/\p.1∉X.fs/\∀ v,p.2.data ≠ .cell v
 hok:HOk X.prog X.w H s.heap
 len:σ.length=X.N.length
section
variable {X:Cx} {pins:List ↥7} {σ:List (Option V)} {H H':Hp} {s:Shared} {h':Heap}
theorem Cx.Ok.nofr (ok:X.Ok) {b:Addr} {o:Obj} (e:X.base.get? b=some o):b∉X.fs:=fun hb=>by
 have:=(ok.funs.mem hb).1
 rw [e] at this;cases this
theorem Inv.bs (I:Inv X pins σ H s):∀ b o,X.base.get? b=some o->s.heap.get? b=some o/\H b=none:=fun b o e =>
 ⟨I.base.keep b o (I.ok.bs b o e).1 (I.ok.bs b o e).2 (I.ok.nofr e) (I.ok.noex b o e),I.base.free b o (I.ok.bs b o e).1 (I.ok.bs b o e).2 (I.ok.noex b o e)⟩
theorem Inv.bk (I:Inv X pins σ H s):∀ b o,X.base.get? b=some o->s.heap.get? b=some o:=fun b o e=>(I.bs b o e).1
theorem Inv.mod (I:Inv X pins σ H s):Mod X.K X.mg X.base:=I.ok.mod
theorem Inv.kIn (I:Inv X pins σ H s):X.K.In s.heap:=I.ok.mod.kin.keeps I.bk
theorem Inv.lt (I:Inv X pins σ H s):X.env.locals<s.heap.objs.size:=let ⟨_,hn,_⟩:=I.loc;hn.lt
theorem Inv.sz (I:Inv X pins σ H s):X.s₀.heap.objs.size<=s.heap.objs.size:=Nat.le_trans I.ok.above (Nat.le_of_lt I.lt)
theorem Inv.nofs (I:Inv X pins σ H s) {a:Addr} (h:s.heap.objs.size<=a):a∉X.fs:=fun hb=>by
 obtain ⟨_,o,ho,_⟩:=I.ok.funs.mem hb
 exact absurd (Nat.lt_of_lt_of_le (Heap.lt_size ho) (Nat.le_trans I.sz h)) (Nat.lt_irrefl _)
theorem Inv.cne (I:Inv X pins σ H s):∀ x c,X.env.cells.lookup x=some c->c≠X.env.locals:=fun x c e z=>by
 obtain ⟨v,o,ho,hd⟩:=I.cell x c e
 obtain ⟨m,⟨o',es,ep,ho',hd',_⟩,_⟩:=I.loc
 rw [z,ho'] at ho;cases ho;rw [hd'] at hd;cases hd
theorem Inv.funs (I:Inv X pins σ H s):s.heap.FunFrames X.base X.outer:=by
 have all:∀ (l:List Env),(∀ b∈frs l,b∈X.fs)->X.s₀.heap.FunFrames X.base l->s.heap.FunFrames X.base l:=by
  intro l
  induction l with
  | nil=>intro _ _;trivial
  | cons env r ih =>
   intro hs hl
   obtain ⟨hk,⟨L,o,hf,hn,ho,hd⟩,hr⟩:=hl
   have hL:L∈X.fs:=hs L (by unfold frs;rw [List.filterMap_cons,hf];exact List.mem_cons_self)
   obtain ⟨sl,e⟩:=I.base.slot L o ho (I.ok.frf L hL) hL fun z=>I.ok.exfs L z hL
   exact ⟨hk,⟨L,_,hf,hn,e,hd⟩,ih (fun b hb=>hs b (by unfold frs;rw [List.filterMap_cons,hf];exact List.mem_cons_of_mem _ hb)) hr⟩
 exact all X.outer (fun _ hb=>hb) I.ok.funs
theorem Inv.stack (I:Inv X pins σ H s):s.heap.FunFrames X.base X.stack:=by
 rcases I.ok.stk with e | ⟨e,hf⟩
 ·rw [e];exact I.funs
 ·rw [e]
  obtain ⟨m,hn,_⟩:=I.loc
  refine .cons (by rw [I.ok.kind];decide) hf hn ?_ I.funs
  exact Heap.get?_none_of_le (Nat.le_trans I.ok.bsz I.ok.above)
theorem Inv.stkSub (I:Inv X pins σ H s):∀ b∈frs X.stack,b∈X.env.locals::X.fs:=fun b hb=>by
 rcases I.ok.stk with e | ⟨e,hf⟩
 ·rw [e] at hb;exact List.mem_cons_of_mem _ hb
 ·rw [e] at hb
  unfold frs at hb
  rw [List.filterMap_cons,hf] at hb
  exact hb
theorem Inv.stkFree (I:Inv X pins σ H s):∀ b∈frs X.stack,H b=none:=fun b hb=>by
 rcases List.mem_cons.mp (I.stkSub b hb) with e | hb
 ·rw [e];exact I.free
 ·obtain ⟨_,o,ho,_⟩:=I.ok.funs.mem hb
  exact I.base.free b o ho (I.ok.frf b hb) fun z=>I.ok.exfs b z hb
theorem Inv.step {g':Array GenState} {t':Nat} {d':Drawn} {ch:List Addr} (I:Inv X pins σ H s)
  (hch:∀ b∈ch,(b∈X.ex\/X.s₀.heap.objs.size<=b)/\b≠X.env.locals/\(∀ x c,X.env.cells.lookup x=some c->c≠b)/\∀ p∈X.pn++pins,p.1≠b)
  (keep:∀ b o,b≠X.env.locals->b∉X.fs->b∉ch->s.heap.get? b=some o->H b=none->h'.get? b=some o)
  (slot:∀ b o,b≠X.env.locals->b∈X.fs->b∉ch->s.heap.get? b=some o->H b=none->∃ sl,h'.get? b=some { o with slots:=sl }) (free:∀ b o,b∉ch->s.heap.get? b=some o->H b=none->H' b=none)
  (there:∀ b o,b∉ch->s.heap.get? b=some o->∃ o',h'.get? b=some o')
  (tups:∀ b xs,H b=some (.tup xs)->H' b=some (.tup xs)) (frzs:∀ b o u,H b=some (.frz o u)->H' b=some (.frz o u)) (tbls:∀ b ps,H b=some (.tbl ps)->∃ more,H' b=some (.tbl (ps++more)))
  (ns:∀ m,s.heap.Ns X.env.locals m->h'.Ns X.env.locals m) (hok:HOk X.prog X.w H' h') (hg:AllBare g') :
  Inv X pins σ H' { s with heap:=h',gens:=g',drawn:=d',toks:=t' }:=by
 have neL:∀ b o,X.s₀.heap.get? b=some o->b≠X.env.locals:=fun b o e=>Nat.ne_of_lt (Nat.lt_of_lt_of_le (Heap.lt_size e) I.ok.above)
 have neC:∀ b o,X.s₀.heap.get? b=some o->b∉X.ex->b∉ch:=fun b o e hx hb=>by
  rcases (hch b hb).1 with z | z
  ·exact hx z
  ·exact absurd (Nat.lt_of_lt_of_le (Heap.lt_size e) z) (Nat.lt_irrefl _)
 have cellK:∀ x c,X.env.cells.lookup x=some c->∀ v,s.heap.IsCell c v->h'.IsCell c v:=fun x c e v ⟨o,ho,hd⟩=>by
  have nch:c∉ch:=fun z=>(hch c z).2.2.1 x c e rfl
  by_cases hc:c∈X.fs
  ·obtain ⟨sl,q⟩:=slot c o (I.cne x c e) hc nch ho (I.freeC x c e)
   exact ⟨_,q,hd⟩
  ·exact ⟨o,keep c o (I.cne x c e) hc nch ho (I.freeC x c e),hd⟩
 refine ⟨I.ok,I.os,hg,⟨fun b o e n hb hx => ?_,fun b o e n hb hx => ?_,fun b o e n hx => ?_,fun b o e hx => ?_,fun b xs e=>tups b xs (I.base.tups b xs e),fun b o xs e=>frzs b o xs (I.base.frzs b o xs e),fun b ps e => ?_⟩,?_,fun x c e => ?_,?_,fun x c e => ?_,fun p hp => ?_,hok,I.len⟩
 ·exact keep b o (neL b o e) hb (neC b o e hx) (I.base.keep b o e n hb hx) (I.base.free b o e n hx)
 ·obtain ⟨sl,e1⟩:=I.base.slot b o e n hb hx
  obtain ⟨sl',e2⟩:=slot b _ (neL b o e) hb (neC b o e hx) e1 (I.base.free b o e n hx)
  exact ⟨sl',e2⟩
 ·obtain ⟨o',e1⟩:=I.base.there b o e hx
  exact free b o' (neC b o e hx) e1 (I.base.free b o e n hx)
 ·obtain ⟨o',e1⟩:=I.base.there b o e hx
  exact there b o' (neC b o e hx) e1
 ·obtain ⟨m1,e1⟩:=I.base.tbls b ps e
  obtain ⟨m2,e2⟩:=tbls b _ e1
  exact ⟨m1++m2,by rw [e2,Array.append_assoc]⟩
 ·obtain ⟨m,hn,hl⟩:=I.loc
  refine ⟨m,ns m hn,fun i x v e1 e2 e3 => ?_⟩
  obtain ⟨u,r,l⟩:=hl i x v e1 e2 e3
  refine ⟨u,r,?_⟩
  rcases l with l | ⟨k,c,e,z⟩
  ·exact .inl l
  ·exact .inr ⟨k,c,e,cellK x c e _ z⟩
 ·obtain ⟨v,z⟩:=I.cell x c e
  exact ⟨v,cellK x c e v z⟩
 ·obtain ⟨m,⟨o,_,_,ho,_⟩,_⟩:=I.loc
  exact free _ o (fun z=>(hch _ z).2.1 rfl) ho I.free
 ·obtain ⟨v,o,ho,hd⟩:=I.cell x c e
  exact free c o (fun z=>(hch c z).2.2.1 x c e rfl) ho (I.freeC x c e)
 ·obtain ⟨e,n,ne,nf,d⟩:=I.pin p hp
  have nch:p.1∉ch:=fun z=>(hch p.1 z).2.2.2 p hp rfl
  exact ⟨keep p.1 p.2 ne nf nch e n,free p.1 p.2 nch e n,ne,nf,d⟩
theorem Inv.un {t':Nat} (I:Inv X pins σ H s) (u:Un X.fs [] H H' s.heap h') (hok:HOk X.prog X.w H' h'):Inv X pins σ H' { s with heap:=h',toks:=t' }:=by
 obtain ⟨m,⟨o,es,ep,ho,r⟩,_⟩:=id I.loc
 obtain ⟨sl,hL⟩:=u.any ho I.free ↥19
 exact I.step (g':=s.gens) (d':=s.drawn) (ch:=[]) (fun _ z=>nomatch z) (fun b o _ hb _ e n=>u.keep b o e n hb ↥19) (fun b o _ hb _ e n=>u.slot b o e n hb ↥19) (fun b o _ e n=>u.free b o e n ↥19) (fun b o _ e=>u.there b o e ↥19) u.tups u.frzs u.tbls (fun m' hm=>by
  obtain ⟨o',es',ep',ho',r'⟩:=hm
  rw [ho] at ho';cases ho'
  exact ⟨_,es',ep',hL,r'⟩) hok I.bare
theorem Inv.call {g':Array GenState} {t':Nat} {d':Drawn} {ch:List Addr} (I:Inv X pins σ H s) (u:Un (frs X.stack) ch H H' s.heap h') (hok:HOk X.prog X.w H' h') (hg:AllBare g')
  (hch:∀ b∈ch,(b∈X.ex\/X.s₀.heap.objs.size<=b)/\b≠X.env.locals/\(∀ x c,X.env.cells.lookup x=some c->c≠b)/\∀ p∈X.pn++pins,p.1≠b) :
  Inv X pins σ H' { s with heap:=h',gens:=g',drawn:=d',toks:=t' }:=by
 obtain ⟨m,⟨o,es,ep,ho,r⟩,_⟩:=id I.loc
 obtain ⟨sl,hL⟩:=u.any ho I.free fun z=>(hch _ z).2.1 rfl
 exact I.step (ch:=ch) hch (fun b o hL hb hc e n=>u.keep b o e n (fun z=>(List.mem_cons.mp (I.stkSub b z)).elim hL hb) hc) (fun b o _ _ hc e n=>u.any e n hc) (fun b o hc e n=>u.free b o e n hc) (fun b o hc e=>u.there b o e hc) u.tups u.frzs u.tbls (fun m' hm=>by
  obtain ⟨o',es',ep',ho',r'⟩:=hm
  rw [ho] at ho';cases ho'
  exact ⟨_,es',ep',hL,r'⟩) hok hg
theorem Inv.turned {t':Nat} {it:Addr} (I:Inv X pins σ H s) (k:∀ b o,b≠it->s.heap.get? b=some o->h'.get? b=some o) (hn:H it=none) (hL:it≠X.env.locals)
  (h1:it∈X.ex\/X.s₀.heap.objs.size<=it) (h2:∀ x c,X.env.cells.lookup x=some c->c≠it) (h3:∀ p∈X.pn++pins,p.1≠it):Inv X pins σ H { s with heap:=h',toks:=t' }:=by
 have nit:∀ b u,H b=some u->b≠it:=fun b u e z=>by rw [z,hn] at e;cases e
 refine I.step (g':=s.gens) (d':=s.drawn) (ch:=[it]) (fun b hb => ?_) (fun b o _ _ hc e _=>k b o (fun z=>hc (by simp [z])) e) (fun b o _ _ hc e _=>⟨o.slots,k b o (fun z=>hc (by simp [z])) e⟩) (fun _ _ _ _ n=>n)
  (fun b o hc e=>⟨o,k b o (fun z=>hc (by simp [z])) e⟩) (fun _ _ e=>e) (fun _ _ _ e=>e) (fun b ps e=>⟨#[],by rw [e];simp⟩) (fun m hm => ?_) (fun b u e => ?_) I.bare
 ·have e:b=it:=by simpa using hb
  subst e
  exact ⟨h1,hL,h2,h3⟩
 ·obtain ⟨o,es,ep,ho,r⟩:=hm
  exact ⟨o,es,ep,k _ o (Ne.symm hL) ho,r⟩
 ·refine (I.hok b u e).stay (fun c v hc q=>k c v ?_ q) (fun _ q=>q) fun _ _ q=>q
  rcases hc with z | z
  ·rw [z];exact nit b u e
  ·exact nit c _ z
theorem Inv.tok (I:Inv X pins σ H s) (t:Nat):Inv X pins σ H { s with toks:=t }:=I.un (h':=s.heap) (t':=t) Un.refl I.hok
theorem Inv.kept {t':Nat} (I:Inv X pins σ H s) (k:∀ b u,s.heap.get? b=some u->h'.get? b=some u):Inv X pins σ H { s with heap:=h',toks:=t' }:=I.un (Un.kept k) (I.hok.kept k)
theorem Inv.laid {a:Addr} {o:HO} {t':Nat} (I:Inv X pins σ H s) (k:∀ b u,s.heap.get? b=some u->h'.get? b=some u) (hp:s.heap.objs.size<=a) (new:fY X.prog X.w (upd H a o) h' a o) :
  Inv X pins σ (upd H a o) { s with heap:=h',toks:=t' }:=I.un (Un.laid k hp (I.hok.fresh hp)) (I.hok.laid k hp new)
theorem Inv.write {x e:Addr} {o:HO} {t':Nat} (I:Inv X pins σ H s) (mu:Mut (H x)) (he:e=x\/H e=some (.own x)) (k:∀ b u,b≠e->s.heap.get? b=some u->h'.get? b=some u) (heo:∃ u,h'.get? e=some u)
  (new:fY X.prog X.w (upd H x o) h' x o):Inv X pins σ (upd H x o) { s with heap:=h',toks:=t' }:=I.un (Un.write mu he k heo) (I.hok.write mu he k heo new)
theorem Inv.pins_of {pins':List ↥7} (I:Inv X pins σ H s) (h:∀ p∈pins',s.heap.get? p.1=some p.2/\H p.1=none/\p.1≠X.env.locals/\p.1∉X.fs/\∀ v,p.2.data ≠ .cell v):Inv X pins' σ H s :=
 ⟨I.ok,I.os,I.bare,I.base,I.loc,I.cell,I.free,I.freeC,fun p hp=>(List.mem_append.mp hp).elim (fun z=>I.pin p (List.mem_append_left _ z)) (h p),I.hok,I.len⟩
theorem j9 {N:List Str} (hN:N.Nodup) {i j:Nat} {x:Str} (a:N[i]? = some x) (b:N[j]? = some x):i=j:=by
 obtain ⟨h1,e1⟩:=List.getElem?_eq_some_iff.mp a
 obtain ⟨h2,e2⟩:=List.getElem?_eq_some_iff.mp b
 exact (List.getElem_inj hN).mp (e1.trans e2.symm)
theorem p5 {M:Model} {A:Around} {E:Value->Shared->Prop} {i:Nat} {x:Str} {v:V} {u:Value} {Q:Unit->Shared->Prop} (I:Inv X pins σ H s) (hN:X.N.Nodup) (hi:X.N[i]? = some x) (hx:Loc X.env.scope x) (r:RelV v u)
  (h:∀ s',Inv X pins (σ.set i (some v)) H s'->(∃ a,Heap.SameBut a s.heap s'.heap/\(a=X.env.locals\/X.env.cells.lookup x=some a))->Q () s') (hf:X.fn x=true\/X.env.scope.names.lookup x=some .local:=by first | exact .inl rfl | exact .inr rfl | assumption):wpAny M A (storeName X.env x u) Q E s:=by
 obtain ⟨m,hn,hl⟩:=id I.loc
 have hcls:(X.env.scope.kind == .class||(X.env.scope.kind == .module&&X.env.locals != X.env.globals))=false:=by rw [I.ok.kind];rfl
 have hiσ:i<σ.length:=by rw [I.len];exact (List.getElem?_eq_some_iff.mp hi).1
 have cne:=I.cne
 have tracked:∀ {a:Addr} {h':Heap},(∃ o,s.heap.get? a=some o/\H a=none)->Heap.SameBut a s.heap h'->HOk X.prog X.w H h':=fun {a h'} ha hs b ob e=>by
  obtain ⟨_,_,hfree⟩:=ha
  refine (I.hok b ob e).stay (fun c w' hc q=>(hs.2 c ?_).trans q) (fun _ q=>q) fun _ _ q=>q
  rintro rfl
  rcases hc with rfl | hc
  ·rw [hfree] at e;cases e
  ·rw [hfree] at hc;cases hc
 rcases hx with hk | hk
 ·refine wpAny_storeName_local hk hn (fun h' hn' hs => ?_) hcls
  obtain ⟨oL,_,_,hoL,_⟩:=id hn
  refine h _ ⟨I.ok,I.os,I.bare,⟨fun b o e n hb hx => ?_,fun b o e n hb hx => ?_,I.base.free,fun b o e hx => ?_,I.base.tups,I.base.frzs,I.base.tbls⟩,⟨_,hn',fun j y v' e1 e2 e3 => ?_⟩,fun y c e => ?_,I.free,I.freeC,fun p hp => ?_,tracked ⟨oL,hoL,I.free⟩ hs,by simpa using I.len⟩ ⟨_,hs,.inl rfl⟩
  ·exact (hs.2 b (Nat.ne_of_lt (Nat.lt_of_lt_of_le (Heap.lt_size e) I.ok.above))).trans (I.base.keep b o e n hb hx)
  ·obtain ⟨sl,e1⟩:=I.base.slot b o e n hb hx
   exact ⟨sl,(hs.2 b (Nat.ne_of_lt (Nat.lt_of_lt_of_le (Heap.lt_size e) I.ok.above))).trans e1⟩
  ·obtain ⟨o',e1⟩:=I.base.there b o e hx
   exact ⟨o',(hs.2 b (Nat.ne_of_lt (Nat.lt_of_lt_of_le (Heap.lt_size e) I.ok.above))).trans e1⟩
  ·by_cases hj:j=i
   ·subst hj
    rw [hi] at e1;cases e1
    rw [List.getElem?_set_self hiσ] at e2
    cases e2
    exact ⟨u,r,.inl ⟨hk,by simp⟩⟩
   ·rw [List.getElem?_set_ne (Ne.symm hj)] at e2
    obtain ⟨u',r',q⟩:=hl j y v' e1 e2 e3
    refine ⟨u',r',?_⟩
    rcases q with ⟨k,e⟩ | ⟨k,c,e,z⟩
    ·refine .inl ⟨k,?_⟩
     have:y≠x:=fun e=>hj (j9 hN e1 (e▸hi))
     simp [this,e]
    ·exact .inr ⟨k,c,e,z.sameBut hs (cne y c e)⟩
  ·obtain ⟨w',z⟩:=I.cell y c e
   exact ⟨w',z.sameBut hs (cne y c e)⟩
  ·obtain ⟨e,n,ne,nf,d⟩:=I.pin p hp
   exact ⟨(hs.2 p.1 ne).trans e,n,ne,nf,d⟩
 ·have hfn:X.fn x=true:=by
   rcases hf with z | z
   ·exact z
   ·rw [z] at hk;cases hk
  obtain ⟨c,hc⟩:=I.ok.has x (.inl hk)
  obtain ⟨w',z⟩:=I.cell x c hc
  refine wpAny_storeName_cell I.ok.kind hk hc z (fun h' hc' hs => ?_)
  obtain ⟨oc,hoc,hocd⟩:=id z
  refine h { s with heap:=h' } ⟨I.ok,I.os,I.bare,⟨fun b o e n hb hx => ?_,fun b o e n hb hx => ?_,I.base.free,fun b o e hx => ?_,I.base.tups,I.base.frzs,I.base.tbls⟩,⟨m,hn.sameBut hs (Ne.symm (cne x c hc)),fun j y v' e1 e2 e3 => ?_⟩,fun y c' e => ?_,I.free,I.freeC,fun p hp => ?_,tracked ⟨oc,hoc,I.freeC x c hc⟩ hs,by simpa using I.len⟩ ⟨c,hs,.inr hc⟩
  ·exact (hs.2 b (Nat.ne_of_lt (Nat.lt_of_lt_of_le (Heap.lt_size e) (I.ok.cab x c hfn hc)))).trans (I.base.keep b o e n hb hx)
  ·obtain ⟨sl,e1⟩:=I.base.slot b o e n hb hx
   exact ⟨sl,(hs.2 b (Nat.ne_of_lt (Nat.lt_of_lt_of_le (Heap.lt_size e) (I.ok.cab x c hfn hc)))).trans e1⟩
  ·obtain ⟨o',e1⟩:=I.base.there b o e hx
   exact ⟨o',(hs.2 b (Nat.ne_of_lt (Nat.lt_of_lt_of_le (Heap.lt_size e) (I.ok.cab x c hfn hc)))).trans e1⟩
  ·by_cases hj:j=i
   ·subst hj
    rw [hi] at e1;cases e1
    rw [List.getElem?_set_self hiσ] at e2
    cases e2
    exact ⟨u,r,.inr ⟨.inl hk,c,hc,hc'⟩⟩
   ·rw [List.getElem?_set_ne (Ne.symm hj)] at e2
    obtain ⟨u',r',q⟩:=hl j y v' e1 e2 e3
    refine ⟨u',r',?_⟩
    rcases q with q | ⟨k,c',e,z'⟩
    ·exact .inl q
    ·refine .inr ⟨k,c',e,z'.sameBut hs ?_⟩
     rintro rfl
     exact hj (j9 hN e1 (I.ok.inj _ _ _ e hc▸hi))
  ·by_cases hcc:c'=c
   ·subst hcc;exact ⟨_,hc'⟩
   ·obtain ⟨w2,z2⟩:=I.cell y c' e
    exact ⟨w2,z2.sameBut hs hcc⟩
  ·obtain ⟨e,n,ne,nf,d⟩:=I.pin p hp
   refine ⟨(hs.2 p.1 ?_).trans e,n,ne,nf,d⟩
   intro q
   rw [q,hoc] at e
   have q':oc=p.2:=Option.some.inj e
   exact d w' (by rw [<- q'];exact hocd)
theorem gL {M:Model} {A:Around} {E:Value->Shared->Prop} {i:Nat} {x:Str} {v:V} {u:Value} {Q:Unit->Shared->Prop} (I:Inv X pins σ H s) (hN:X.N.Nodup) (hi:X.N[i]? = some x) (hx:Loc X.env.scope x) (r:RelV v u)
  (h:∀ s',Inv X pins (σ.set i (some v)) H s'->Q () s') (hf:X.fn x=true\/X.env.scope.names.lookup x=some .local:=by first | exact .inl rfl | exact .inr rfl | assumption):wpAny M A (storeName X.env x u) Q E s :=
 p5 I hN hi hx r (fun s' I' _=>h s' I') hf
theorem Inv.call' {s':Shared} {ch:List Addr} (I:Inv X pins σ H s) (ho:s'.os=s.os) (u:Un (frs X.stack) ch H H' s.heap s'.heap) (hok:HOk X.prog X.w H' s'.heap) (hg:AllBare s'.gens)
  (hch:∀ b∈ch,(b∈X.ex\/X.s₀.heap.objs.size<=b)/\b≠X.env.locals/\(∀ x c,X.env.cells.lookup x=some c->c≠b)/\∀ p∈X.pn++pins,p.1≠b):Inv X pins σ H' s':=by
 obtain ⟨h',g',d',t',o'⟩:=s'
 have e:o'=s.os:=ho
 subst e
 exact I.call (g':=g') (t':=t') (d':=d') u hok hg hch
end
abbrev XK:=Value->Option Addr->Hp->Prop
abbrev St:=List (Option V)
abbrev VK:=V->Hp->Prop
abbrev TE:=St->Hp->VK->Prop
abbrev TT:=St->Hp->(Bool->Hp->Prop)->Prop
abbrev TA:=St->Hp->(List V->Hp->Prop)->Prop
structure Ends where
 nx:St->Hp->Prop
 rt:VK
 bk:St->Hp->Prop:=fun _ _=>False
 ct:St->Hp->Prop:=fun _ _=>False
abbrev TS:=Ends->St->Hp->Prop
def EP (X:Cx) (pins:List ↥7) (σ:St) (Q:VK) (u:Value) (s':Shared):Prop:=∃ v H',Inv X pins σ H' s'/\RelV v u/\Q v H'
def TP (X:Cx) (pins:List ↥7) (σ:St) (Q:Bool->Hp->Prop) (b:Bool) (s':Shared):Prop:=∃ H',Inv X pins σ H' s'/\Q b H'
def AP (X:Cx) (pins:List ↥7) (σ:St) (Q:List V->Hp->Prop) (us:List Value) (s':Shared):Prop:=∃ vs H',Inv X pins σ H' s'/\Vals vs us/\Q vs H'
def SP (X:Cx) (pins:List ↥7) (D:Ends) (f:Flow) (s':Shared):Prop :=
 match f with
 | .next=>∃ σ' H',Inv X pins σ' H' s'/\D.nx σ' H'
 | .brk=>∃ σ' H',Inv X pins σ' H' s'/\D.bk σ' H'
 | .cont=>∃ σ' H',Inv X pins σ' H' s'/\D.ct σ' H'
 | .ret u=>∃ v σ' H',Inv X pins σ' H' s'/\RelV v u/\D.rt v H'
def PE (X:Cx) (e:Expr) (t:TE):Prop :=
 ∀ (pins:List ↥7) (s:Shared) (σ:St) (H:Hp) (Q:VK),Inv X pins σ H s->t σ H Q->wpAny ↥4 X.A (eval e X.env) (EP X pins σ Q) X.xe s
def PT (X:Cx) (e:Expr) (t:TT):Prop :=
 ∀ (pins:List ↥7) (s:Shared) (σ:St) (H:Hp) (Q:Bool->Hp->Prop),Inv X pins σ H s->t σ H Q->wpAny ↥4 X.A (isTrue e X.env (eval e X.env)) (TP X pins σ Q) X.xe s
def PW (X:Cx) (e:Expr) (t:TT):Prop :=
 ∀ (whole:Sem Value) (pins:List ↥7) (s:Shared) (σ:St) (H:Hp) (Q:Bool->Hp->Prop),Inv X pins σ H s->t σ H Q->wpAny ↥4 X.A (isTrue e X.env whole) (TP X pins σ Q) X.xe s
theorem PW.pt {X:Cx} {e:Expr} {t:TT} (h:PW X e t):PT X e t:=h _
def PA (X:Cx) (es:List Expr) (t:TA):Prop :=
 ∀ (pos:Pos) (pins:List ↥7) (s:Shared) (σ:St) (H:Hp) (Q:List V->Hp->Prop),Inv X pins σ H s->t σ H Q->wpAny ↥4 X.A (spliced (backTo pos (starEach es X.env))) (AP X pins σ Q) X.xe s
def PS (X:Cx) (st:Stmt) (t:TS):Prop :=
 ∀ (pins:List ↥7) (s:Shared) (σ:St) (H:Hp) (D:Ends),Inv X pins σ H s->t D σ H->wpAny ↥4 X.A (exec st X.env) (SP X pins D) X.xe s
def PSs (X:Cx) (st:List Stmt) (t:TS):Prop :=
 ∀ (pins:List ↥7) (s:Shared) (σ:St) (H:Hp) (D:Ends),Inv X pins σ H s->t D σ H->wpAny ↥4 X.A (execs st X.env) (SP X pins D) X.xe s
theorem thn {α:Type} {t:Sem α} {Q Q':α->Shared->Prop} {M:Model} {A:Around} {E:Value->Shared->Prop} {s:Shared} (h:wpAny M A t Q E s) (hQ:∀ a s,Q a s->Q' a s):wpAny M A t Q' E s:=wpAny_mono h hQ fun _ _ x=>x
end L2
namespace L2
open PySem PySem.Spec PyProof.Rows
section
variable {X:Cx}
theorem bin {a b:Expr} {ta tb:TE} (ha:PE X a ta) (hb:PE X b tb) {pins:List ↥7} {s:Shared} {σ:St} {H:Hp} {R:V->V->Hp->Prop} (I:Inv X pins σ H s) (h:ta σ H fun x H1=>tb σ H1 fun y H2=>R x y H2)
  {α:Type} {Q:α->Shared->Prop} {f:Value->Value->Sem α}
  (hf:∀ v u s2 x y H2,Inv X pins σ H2 s2->RelV x v->RelV y u->R x y H2->wpAny ↥4 X.A (f v u) Q X.xe s2) :
  wpAny ↥4 X.A (eval a X.env) (fun v s₁=>wpAny ↥4 X.A (eval b X.env) (fun u s₂=>wpAny ↥4 X.A (f v u) Q X.xe s₂) X.xe s₁) X.xe s:=by
 refine thn (ha pins s σ H _ I h) fun v s1 ⟨x,H1,I1,r1,q1⟩ => ?_
 refine thn (hb pins s1 σ H1 _ I1 q1) fun u s2 ⟨y,H2,I2,r2,q2⟩ => ?_
 exact hf v u s2 x y H2 I2 r1 r2 q2
def Ft (i:Nat):TE:=fun σ H Q=>∃ v,σ[i]? = some (some v)/\Q v H
def tC (v:V):TE:=fun _ H Q=>Q v H
theorem lb {i:Nat} {x:Str} {pos:Pos} (hN:X.N[i]? = some x) (hv:Vis X.env.scope x) (hd:(x == ("__debug__":Str))=false:=by decide) (hcd:(x == ("__classdict__":Str))=false:=by decide):PE X (.Name x pos) (Ft i):=by
 intro pins s σ H Q I h
 obtain ⟨v,e,h⟩:=h
 obtain ⟨m,hn,hl⟩:=I.loc
 obtain ⟨u,r,l⟩:=hl i x v hN e hv
 have fin:EP X pins σ Q u s:=⟨v,H,I,r,h⟩
 rcases l with ⟨hk,hm⟩ | ⟨hk,c,hc,hcell⟩
 ·exact wpAny_Name (wpAny_loadName_local I.ok.kind hk hn hm fin) hd
 ·rcases hk with hk | hk
  ·exact wpAny_Name (wpAny_loadName_cell I.ok.kind hk hc hcell fin) hd
  ·exact wpAny_Name (wpAny_loadName_free I.ok.kind hk hc hcell fin hcd) hd
theorem BW {i j pos}:PE X (.Constant (.int i) j pos) (tC (.int i)):=fun _ _ _ H _ I h=>wpAny_Constant_int ⟨.int i,H,I.tok _,⟨_,rfl⟩,h⟩
theorem EH {b j pos}:PE X (.Constant (.bool b) j pos) (tC (.bl b)):=fun _ _ _ H _ I h=>Constant_bool ⟨.bl b,H,I,rfl,h⟩
theorem BV {j pos}:PE X (.Constant .none j pos) (tC .non):=fun _ _ _ H _ I h=>Constant_none ⟨.non,H,I,rfl,h⟩
theorem vP {x j pos}:PE X (.Constant (.str x) j pos) (tC (.str x)):=fun _ _ _ H _ I h=>Calls.Constant_str ⟨.str x,H,I.tok _,⟨_,rfl⟩,h⟩
def Gl (X:Cx) (x:Str):Prop:=X.env.kindOf x=some .globalImplicit
theorem dz {E:Value->Shared->Prop} {pins:List ↥7} {s:Shared} {σ:St} {H:Hp} {x:Str} {u:Value} {pos:Pos} {Q:Value->Shared->Prop} (I:Inv X pins σ H s) (hg:Gl X x) (hm:X.mg x=some u) (h:Q u s)
  (hd:(x == ("__debug__":Str))=false:=by decide):wpAny ↥4 X.A (eval (.Name x pos) X.env) Q E s :=
 Calls.Name_function_global I.ok.kind hg (Calls.loadGlobal_global (by rw [I.ok.glob];exact I.mod.glob.keeps I.bk) hm h) hd
theorem jB {E:Value->Shared->Prop} {pins:List ↥7} {s:Shared} {σ:St} {H:Hp} {x:Str} {u:Value} {pos:Pos} {Q:Value->Shared->Prop} (I:Inv X pins σ H s) (hg:Gl X x) (hm:X.mg x=none) (hv:bootBuiltins x=some u) (h:Q u s)
  (hn:x≠"__name__":=by decide) (hd:(x == ("__debug__":Str))=false:=by decide):wpAny ↥4 X.A (eval (.Name x pos) X.env) Q E s:=by
 obtain ⟨mb,h1,h2⟩:=I.mod.blt
 exact Calls.Name_function_global I.ok.kind hg (Calls.loadGlobal_builtin (by rw [I.ok.glob];exact I.mod.glob.keeps I.bk) hm (by rw [I.ok.blt];exact h1.keeps I.bk) ((h2 x hn).trans hv) h) hd
theorem mx {x:Str} {v:V} {u:Value} {pos:Pos} (hg:Gl X x) (hm:X.mg x=some u) (r:RelV v u) (hd:(x == ("__debug__":Str))=false:=by decide):PE X (.Name x pos) (tC v) :=
 fun _ _ _ H _ I h=>dz I hg hm ⟨v,H,I,r,h⟩ hd
theorem yM {x:Str} {v:V} {u:Value} {pos:Pos} (hg:Gl X x) (hm:X.mg x=none) (hv:bootBuiltins x=some u) (r:RelV v u) (hn:x≠"__name__":=by decide) (hd:(x == ("__debug__":Str))=false:=by decide):PE X (.Name x pos) (tC v) :=
 fun _ _ _ H _ I h=>jB I hg hm hv ⟨v,H,I,r,h⟩ hn hd
variable {a b:Expr} {ta tb:TE} {pos:Pos}
def PC (X:Cx) (op:CmpOp) (a b:Expr) (t:TE):Prop :=
 ∀ (pins:List ↥7) (s:Shared) (σ:St) (H:Hp) (Q:VK),Inv X pins σ H s->t σ H Q ->
  wpAny ↥4 X.A (eval a X.env) (fun v s₁=>wpAny ↥4 X.A (eval b X.env) (fun u s₂=>wpAny ↥4 X.A (compareOp op v u) (EP X pins σ Q) X.xe s₂) X.xe s₁) X.xe s
theorem uI (b:Expr) {op:CmpOp} (h:op ≠ .In) (h2:op ≠ .NotIn):behindInMarks op b=false:=by
 have e1:(op == CmpOp.In)=false:=by cases op<;>first | rfl | exact absurd rfl h
 have e2:(op == CmpOp.NotIn)=false:=by cases op<;>first | rfl | exact absurd rfl h2
 cases b<;>simp [behindInMarks,e1,e2]
def tB (t:TE):TT:=fun σ H Q=>t σ H fun x H1=>∃ c,x=.bl c/\Q c H1
theorem vL {op:CmpOp} {t:TE} (h:PC X op a b t) (h1:behindInMarks op b=false:=by first | exact uI _ ↥0 ↥0 | rfl):PT X (.Compare a [op] [b] pos) (tB t):=by
 intro pins s σ H Q I hw
 refine wpAny_isTrue_Compare1 (thn (h pins s σ H _ I hw) fun v s1 h1=>thn h1 fun u s2 h2=>thn h2 fun c s3 ⟨x,H1,I1,r1,q1⟩ => ?_) h1
 obtain ⟨d,rfl,q⟩:=q1
 cases r1
 exact wpAny_truthy_bool ⟨H1,I1,q⟩
theorem BN {e:Expr} {t:TE} (h:PE X e t) (he:∀ whole,isTrue e X.env whole=(do let v<-whole;standAt e.pos;holding [v] (truthy v)):=by intro _;rfl):PT X e (tB t):=by
 intro pins s σ H Q I hw
 refine isTrue_plain (thn (h pins s σ H _ I hw) fun v s1 ⟨x,H1,I1,r1,q1⟩ => ?_) (he _)
 obtain ⟨d,rfl,q⟩:=q1
 cases r1
 exact wpAny_truthy_bool ⟨H1,I1,q⟩
variable {tA tB':TT} {rest:List Expr}
def Ie (t u:TT):TT:=fun σ H Q=>t σ H fun c H1=>if c=true then u σ H1 Q else Q false H1
def tOr (t u:TT):TT:=fun σ H Q=>t σ H fun c H1=>if c=true then Q true H1 else u σ H1 Q
def HX (t:TT):TT:=fun σ H Q=>t σ H fun c H1=>Q (!c) H1
theorem yB (ha:PT X a tA):PW X (.BoolOp .And [a] pos) tA:=by
 intro wh pins s σ H Q I h
 refine isTrue_and (thn (ha pins s σ H Q I h) fun c s1 e => ?_)
 cases c with
 | true=>exact isTrue_and_nil e
 | false=>exact e
theorem BL (ha:PT X a tA):PW X (.BoolOp .Or [a] pos) tA:=by
 intro wh pins s σ H Q I h
 refine isTrue_or (thn (ha pins s σ H Q I h) fun c s1 e => ?_)
 cases c with
 | false=>exact isTrue_or_nil e
 | true=>exact e
theorem BM (ha:PT X a tA) (hb:PW X (.BoolOp .And (b::rest) pos) tB'):PW X (.BoolOp .And (a::b::rest) pos) (Ie tA tB'):=by
 intro wh pins s σ H Q I h
 refine isTrue_and (thn (ha pins s σ H _ I h) fun c s1 ⟨H1,I1,q1⟩ => ?_)
 cases c with
 | true=>exact hb wh pins s1 σ H1 Q I1 q1
 | false=>exact ⟨H1,I1,q1⟩
theorem EC (ha:PT X a tA) (hb:PW X (.BoolOp .Or (b::rest) pos) tB'):PW X (.BoolOp .Or (a::b::rest) pos) (tOr tA tB'):=by
 intro wh pins s σ H Q I h
 refine isTrue_or (thn (ha pins s σ H _ I h) fun c s1 ⟨H1,I1,q1⟩ => ?_)
 cases c with
 | true=>exact ⟨H1,I1,q1⟩
 | false=>exact hb wh pins s1 σ H1 Q I1 q1
theorem BO (ha:PT X a tA):PT X (.UnaryOp .Not a pos) (HX tA):=by
 intro pins s σ H Q I h
 exact isTrue_not (ha pins s σ H (fun c H1=>Q (!c) H1) I h)
def Eo (ta tb:TE):TE:=fun σ H Q=>ta σ H fun x H1=>∃ c,x=.bl c/\if c=true then tb σ H1 Q else Q ↥14 H1
def Ek (ta:TE):TE:=fun σ H Q=>ta σ H fun x H1=>∃ c,x=.bl c/\Q (.bl (!c)) H1
theorem BS {op} {t:TE} (h:PE X a t):PE X (.BoolOp op [a] pos) t:=fun pins s σ H Q I hw=>BoolOp_one (h pins s σ H Q I hw)
theorem BX (ha:PE X a ta) (hb:PE X (.BoolOp .And (b::rest) pos) tb):PE X (.BoolOp .And (a::b::rest) pos) (Eo ta tb):=by
 intro pins s σ H Q I h
 refine BoolOp_and (thn (ha pins s σ H _ I h) fun v s1 ⟨x,H1,I1,r1,q1⟩ => ?_)
 obtain ⟨c,rfl,q1⟩:=q1
 cases r1
 refine wpAny_truthy_bool ?_
 cases c with
 | true=>exact hb pins s1 σ H1 Q I1 q1
 | false=>exact ⟨.bl false,H1,I1,rfl,q1⟩
theorem BU (ha:PE X a ta):PE X (.UnaryOp .Not a pos) (Ek ta):=by
 intro pins s σ H Q I h
 refine UnaryOp_ (thn (ha pins s σ H _ I h) fun v s1 ⟨x,H1,I1,r1,q1⟩ => ?_)
 obtain ⟨c,rfl,q1⟩:=q1
 cases r1
 exact not_of (wpAny_truthy_bool ⟨.bl (!c),H1,I1,rfl,q1⟩)
end
end L2
namespace L2
open PySem PySem.Spec PyProof.Rows
def SqL (K:PySem.W.Frag) (H:Hp) (a:Addr) (xs:List V):Prop :=
 Rd H a (.lst xs) \/
  ∃ (o:Obj) (its:Array Value) (n:Nat),K.lookup a=some o/\o.cls=.type "list"/\o.dict=none/\o.data=.seq its n/\its.size<=sizeLine/\Vals xs its.toList
def SqT (K:PySem.W.Frag) (H:Hp) (a:Addr) (xs:List V):Prop :=
 Rd H a (.tup xs) \/
  ∃ (o:Obj) (its:Array Value) (n:Nat),K.lookup a=some o/\o.cls=.type "tuple"/\o.data=.seq its n/\its.size<=sizeLine/\Vals xs its.toList
def J5:Value->Option V
 | .none=>some .non
 | .bool b=>some (.bl b)
 | .int i _=>some (.int i)
 | .str x _=>some (.str x)
 | .bytes b _=>some (.byt b)
 | .float b _=>some (.flt b)
 | .ref a=>some (.ref a)
 | .type n=>some (.ty n)
 | _=>none
theorem RelV.abs {x:V} {u:Value} (r:RelV x u):J5 u=some x:=by
 cases x with
 | non=>cases r;rfl
 | bl _=>cases r;rfl
 | int _=>obtain ⟨t,rfl⟩:=r;rfl
 | str _=>obtain ⟨t,rfl⟩:=r;rfl
 | byt _=>obtain ⟨t,rfl⟩:=r;rfl
 | flt _=>obtain ⟨t,rfl⟩:=r;rfl
 | ref _=>cases r;rfl
 | ty _=>cases r;rfl
theorem RelV.inj {x y:V} {u:Value} (r:RelV x u) (q:RelV y u):x=y:=Option.some.inj (r.abs.symm.trans q.abs)
theorem Vals.inj:∀ {xs ys:List V} {us:List Value},Vals xs us->Vals ys us->xs=ys
 | _,_,_,.nil,.nil=>rfl
 | _,_,_,.cons r t,.cons r' t'=>by rw [r.inj r',Vals.inj t t']
section
variable {X:Cx} {pins:List ↥7} {σ:St} {H:Hp} {s:Shared} {a:Addr} {xs ys:List V}
theorem SqL.of {K:PySem.W.Frag} (h:H a=some (.lst xs)):SqL K H a xs:=.inl (.inl h)
theorem SqT.of {K:PySem.W.Frag} (h:H a=some (.tup xs)):SqT K H a xs:=.inl (.inl h)
theorem Inv.list (I:Inv X pins σ H s) (h:SqL X.K H a xs):∃ its:List Value,Vals xs its/\PlainL s.heap a its.toArray/\xs.length<=sizeLine:=by
 rcases h with h | ⟨o,its,n,hk,hc,hd,hs,hz,r⟩
 ·obtain ⟨z,its,n,r,e⟩:=h.ok I.hok
  exact ⟨its,r,⟨_,n,e,rfl,rfl,rfl⟩,z⟩
 ·refine ⟨its.toList,r,⟨o,n,I.kIn a o hk,hc,hd,by simpa using hs⟩,?_⟩
  have e:=r.length
  simp only [Array.length_toList] at e
  omega
theorem Inv.tuple (I:Inv X pins σ H s) (h:SqT X.K H a xs):∃ its:List Value,Vals xs its/\IsTup s.heap a its.toArray/\xs.length<=sizeLine:=by
 rcases h with h | ⟨o,its,n,hk,hc,hs,hz,r⟩
 ·obtain ⟨z,its,r,p⟩:=h.ok I.hok
  exact ⟨its,r,p,z⟩
 ·refine ⟨its.toList,r,⟨o,I.kIn a o hk,hc,n,by simpa using hs⟩,?_⟩
  have e:=r.length
  simp only [Array.length_toList] at e
  omega
theorem Inv.list_inj (I:Inv X pins σ H s) (h:SqL X.K H a xs) (h':SqL X.K H a ys):xs=ys:=by
 obtain ⟨its,r,⟨o,n,e,_,_,d⟩,_⟩:=I.list h
 obtain ⟨its',r',⟨o',n',e',_,_,d'⟩,_⟩:=I.list h'
 rw [e] at e';cases e'
 rw [d] at d'
 injection d' with d1 _
 have:its=its':=by simpa using congrArg Array.toList d1
 subst this
 exact r.inj r'
theorem Inv.tuple_inj (I:Inv X pins σ H s) (h:SqT X.K H a xs) (h':SqT X.K H a ys):xs=ys:=by
 obtain ⟨its,r,⟨o,e,_,n,d⟩,_⟩:=I.tuple h
 obtain ⟨its',r',⟨o',e',_,n',d'⟩,_⟩:=I.tuple h'
 rw [e] at e';cases e'
 rw [d] at d'
 injection d' with d1 _
 have:its=its':=by simpa using congrArg Array.toList d1
 subst this
 exact r.inj r'
end
section
variable {X:Cx} {pins:List ↥7} {σ:St} {H:Hp} {s:Shared} {E:Value->Shared->Prop}
end
section
variable {X:Cx} {st:Stmt} {rest:List Stmt} {t u:TS} {e:Expr} {te:TE} {pos:Pos}
def El:TS:=fun D σ H=>D.nx σ H
def HV (t u:TS):TS:=fun D σ H=>t { D with nx:=u D } σ H
theorem qi:PSs X [] El:=fun _ _ σ H _ I h=>wpAny_execs_nil ⟨σ,H,I,h⟩
theorem nE (h1:PS X st t) (h2:PSs X rest u):PSs X (st::rest) (HV t u):=by
 intro pins s σ H D I h
 refine wpAny_execs_cons (thn (h1 pins s σ H { D with nx:=u D } I h) fun f s1 q => ?_)
 cases f with
 | next =>
  obtain ⟨σ',H',I',q⟩:=q
  exact h2 pins s1 σ' H' D I' q
 | ret v=>exact q
 | brk=>exact q
 | cont=>exact q
theorem mr (h1:PS X st t):PSs X [st] t:=by
 intro pins s σ H D I h
 refine wpAny_execs_cons (thn (h1 pins s σ H D I h) fun f s1 q => ?_)
 cases f with
 | next=>exact wpAny_execs_nil q
 | ret v=>exact q
 | brk=>exact q
 | cont=>exact q
theorem Inv.quiet {pins:List ↥7} {σ:St} {H:Hp} {s:Shared} (I:Inv X pins σ H s):interactive X.env=false:=by simp [interactive,I.ok.kind]
def Em (te:TE):TS:=fun D σ H=>te σ H fun _ H1=>D.nx σ H1
theorem mv (he:PE X e te) (hs:swapsWith e none pos.line X.env=pure false:=by rfl):PS X (.Expr e pos) (Em te):=by
 intro pins s σ H D I h
 exact wpAny_Expr_any (thn (he pins s σ H _ I h) fun v s1 ⟨x,H1,I1,r1,q1⟩=>⟨σ,H1,I1,q1⟩) I.quiet hs
def HW (te:TE):TS:=fun D σ H=>te σ H D.rt
theorem qk (he:PE X e te):PS X (.Return (some e) pos) (HW te):=by
 intro pins s σ H D I h
 exact wpAny_Return_some (thn (he pins s σ H _ I h) fun v s1 ⟨x,H1,I1,r1,q1⟩=>⟨x,σ,H1,I1,r1,q1⟩)
def H0 (c:TT) (t u:TS):TS:=fun D σ H=>c σ H fun b H1=>if b=true then t D σ H1 else u D σ H1
theorem yF {c:Expr} {a b:List Stmt} {tc:TT} (hc:PT X c tc) (ha:PSs X a t) (hb:PSs X b u):PS X (.If c a b pos) (H0 tc t u):=by
 intro pins s σ H D I h
 refine wpAny_If (thn (hc pins s σ H _ I h) fun d s1 ⟨H1,I1,q1⟩ => ?_)
 cases d with
 | true=>exact ha pins s1 σ H1 D I1 q1
 | false=>exact hb pins s1 σ H1 D I1 q1
end
abbrev TG:=V->St->Hp->(St->Hp->Prop)->Prop
abbrev TGs:=List V->St->Hp->(St->Hp->Prop)->Prop
def PG (X:Cx) (target:Expr) (t:TG):Prop :=
 ∀ (pins:List ↥7) (s:Shared) (σ:St) (H:Hp) (v:V) (u:Value) (Q:St->Hp->Prop),Inv X pins σ H s->RelV v u->t v σ H Q ->
  wpAny ↥4 X.A (assign target X.env u) (fun _ s'=>∃ σ' H',Inv X pins σ' H' s'/\Q σ' H') X.xe s
def PGs (X:Cx) (ts:List Expr) (t:TGs):Prop :=
 ∀ (pins:List ↥7) (s:Shared) (σ:St) (H:Hp) (vs:List V) (us:List Value) (Q:St->Hp->Prop),Inv X pins σ H s->Vals vs us->t vs σ H Q ->
  wpAny ↥4 X.A (assignInOrder ((assignEach ts X.env).map (·.2)) us) (fun _ s'=>∃ σ' H',Inv X pins σ' H' s'/\Q σ' H') X.xe s
section
variable {X:Cx} {pos:Pos}
def lG (i:Nat):TG:=fun v σ H Q=>Q (σ.set i (some v)) H
theorem j4 {i:Nat} {x:Str} (hN:X.N.Nodup) (hi:X.N[i]? = some x) (hx:Loc X.env.scope x) (hf:X.fn x=true\/X.env.scope.names.lookup x=some .local:=by first | exact .inl rfl | exact .inr rfl | assumption):PG X (.Name x pos) (lG i):=by
 intro pins s σ H v u Q I r h
 exact wpAny_assign_Name (gL I hN hi hx r (fun s' I'=>⟨_,H,I',h⟩) hf)
def Hy:TGs:=fun vs σ H Q=>vs=[]/\Q σ H
def CY (t:TG) (u:TGs):TGs:=fun vs σ H Q=>∃ v r,vs=v::r/\t v σ H fun σ' H'=>u r σ' H' Q
theorem yJ:PGs X [] Hy:=by
 intro pins s σ H vs us Q I r h
 obtain ⟨e,h⟩:=h
 subst e
 cases r
 exact assignInOrder_nil ⟨σ,H,I,h⟩
theorem ue {e:Expr} {es:List Expr} {t:TG} {u:TGs} (h1:PG X e t) (h2:PGs X es u)
  (hs:(assignEach (e::es) X.env).map (·.2)=assign e X.env::(assignEach es X.env).map (·.2):=by rfl):PGs X (e::es) (CY t u):=by
 intro pins s σ H vs us Q I r h
 obtain ⟨v,vr,e1,h⟩:=h
 subst e1
 cases r with
 | cons r rr =>
  rw [hs]
  refine assignInOrder_cons (thn (h1 pins s σ H _ _ _ I r h) fun _ s1 ⟨σ1,H1,I1,q1⟩ => ?_)
  exact h2 pins s1 σ1 H1 _ _ Q I1 rr q1
def Hw (K:PySem.W.Frag) (n:Nat) (t:TGs):TG:=fun v σ H Q=>∃ a xs,v=.ref a/\SqT K H a xs/\xs.length=n/\t xs σ H Q
theorem vO {es:List Expr} {k:Nat} {t:TGs} {n:Nat} (hc:X.calm=true) (h:PGs X es t)
  (hn:(assignEach es X.env).length=n:=by rfl) (hst:(assignEach es X.env).findIdx? (·.1)=none:=by rfl):PG X (.Tuple es k pos) (Hw X.K n t):=by
 intro pins s σ H v u Q I r hw
 obtain ⟨a,xs,e1,hq,hl,hw⟩:=hw
 subst e1
 cases r
 obtain ⟨its,rv,ht,hz⟩:=I.tuple hq
 refine assign_Tuple_tuple (I.ok.hd hc) ht (by simp [hn,<-hl,rv.length]) hst fun h' hx => ?_
 have I1:Inv X pins σ H { s with heap:=h' }:=I.kept (t':=s.toks) fun b o e=>hx b o (Nat.ne_of_lt (Heap.lt_size e)) e
 exact h pins _ σ H xs _ Q I1 (by simpa using rv) hw
def Ib (te:TE) (g:TG):TS:=fun D σ H=>te σ H fun x H1=>g x σ H1 D.nx
theorem qj {i:Nat} {x:Str} {e:Expr} {te:TE} {pos':Pos} (hN:X.N.Nodup) (hi:X.N[i]? = some x) (hx:Loc X.env.scope x) (he:PE X e te) (hs:swapsWith e (some (.Name x pos')) pos.line X.env=pure false:=by rfl) (hf:X.fn x=true\/X.env.scope.names.lookup x=some .local:=by first | exact .inl rfl | exact .inr rfl | assumption) :
  PS X (.Assign [.Name x pos'] e pos) (Ib te (lG i)):=by
 intro pins s σ H D I h
 refine wpAny_Assign_Name (thn (he pins s σ H _ I h) fun v s1 ⟨y,H1,I1,r1,q1⟩ => ?_) hs
 exact gL I1 hN hi hx r1 (fun s2 I2=>⟨_,H1,I2,q1⟩) hf
end
section
variable {X:Cx} {pos:Pos}
end
structure It where
 go:Nat->Hp->Prop
 yld:Nat->Hp->V->Hp->Prop
 stop:Nat->Hp->Prop
def oo (X:Cx) (pins:List ↥7) (H:Hp) (b:Addr):Prop :=
 H b=none/\b≠X.env.locals/\b∉X.fs/\(b∈X.ex\/X.s₀.heap.objs.size<=b)/\(∀ x c,X.env.cells.lookup x=some c->c≠b)/\∀ p∈X.pn++pins,p.1≠b
theorem Inv.fpOk {X:Cx} {pins:List ↥7} {σ:St} {H H':Hp} {s:Shared} {b:Addr} (I:Inv X pins σ H s) (hb:s.heap.objs.size<=b) (hn:H' b=none):oo X pins H' b:=by
 refine ⟨hn,Nat.ne_of_gt (Nat.lt_of_lt_of_le I.lt hb),I.nofs hb,.inr (Nat.le_trans I.sz hb),fun x c e z => ?_,fun p hp z => ?_⟩
 ·obtain ⟨v,q⟩:=I.cell x c e
  exact absurd (Nat.lt_of_lt_of_le q.lt (by rw [z];exact hb)) (Nat.lt_irrefl _)
 ·exact absurd (Nat.lt_of_lt_of_le (Heap.lt_size (I.pin p hp).1) (by rw [z];exact hb)) (Nat.lt_irrefl _)
structure Turn (P:Program) (w:World) (K:PySem.W.Frag) (tg:Expr) (J:It) (fp:List Addr) (it:Addr) (tn:Nat->Heap->Prop):Prop where
 mem:it∈fp
 obj:∀ i h,tn i h->∀ b∈fp,∃ o,h.get? b=some o/\∀ v,o.data ≠ .cell v
 keep:∀ i h h',tn i h->(∀ b∈fp,∀ o,h.get? b=some o->h'.get? b=some o)->tn i h'
 item:∀ (X:Cx),X.prog=P->X.w=w->X.K=K->X.calm=true->∀ (i:Nat) (pins:List ↥7) (s:Shared) (σ:St) (H:Hp) (E:Value->Shared->Prop),Inv X pins σ H s->(∀ b∈fp,oo X pins H b)->tn i s.heap->J.go i H ->
  wpAny (model P w) X.A (pyNext (.ref it)) (fun r s1=>∃ u,r=some u /\
   wpAny (model P w) X.A (letOwnedTupleGo tg (.ref it) u) (fun _ s2=>∃ x H',Inv X pins σ H' s2/\RelV x u/\J.yld i H x H'/\tn (i+1) s2.heap/\∀ b∈fp,H' b=none) E s1) E s
 done:∀ (X:Cx),X.prog=P->X.w=w->X.K=K->X.calm=true->∀ (i:Nat) (pins:List ↥7) (s:Shared) (σ:St) (H:Hp) (E:Value->Shared->Prop),Inv X pins σ H s->(∀ b∈fp,oo X pins H b)->tn i s.heap->J.stop i H ->
  wpAny (model P w) X.A (pyNext (.ref it)) (fun r s1=>r=none/\Inv X pins σ H s1) E s
 self:∀ (A:Around) (i:Nat) (s:Shared) (Q:Value->Shared->Prop) (E:Value->Shared->Prop),tn i s.heap->Q (.ref it) s->wpAny (model P w) A (pyIter (.ref it)) Q E s
abbrev TI:=St->Hp->(It->Hp->Prop)->Prop
def PIE (X:Cx) (pins:List ↥7) (σ:St) (tg:Expr) (R:It->Hp->Prop) (itv:Value) (s2:Shared):Prop :=
 ∃ (it:Addr) (fp:List Addr) (tn:Nat->Heap->Prop) (J:It) (H':Hp),itv=.ref it/\Inv X pins σ H' s2/\Turn X.prog X.w X.K tg J fp it tn/\tn 0 s2.heap/\(∀ b∈fp,oo X pins H' b)/\R J H'
def PI (X:Cx) (tg iter:Expr) (wi:TI):Prop :=
 ∀ (pins:List ↥7) (s:Shared) (σ:St) (H:Hp) (R:It->Hp->Prop),Inv X pins σ H s->wi σ H R ->
  wpAny ↥4 X.A (eval iter X.env) (fun v s1=>wpAny ↥4 X.A (pyIter v) (PIE X pins σ tg R) X.xe s1) X.xe s
theorem rn {M:Model} {A:Around} {E:Value->Shared->Prop} {s:Shared} {tg:Expr} {it:Addr} {u:Value} {o:Obj} {n:String} {vs:Array Value} {Q:Unit->Shared->Prop} (ho:s.heap.get? it=some o) (hc:o.cls=.type n) (hd:o.data=.fields vs)
  (hn:["enumerate","zip","dict_itemiterator","dict_reverseitemiterator","odict_iterator","itertools.zip_longest","itertools.pairwise"].contains n=false) (hQ:Q () s):wpAny M A (letOwnedTupleGo tg (.ref it) u) Q E s:=by
 unfold letOwnedTupleGo
 cases tg<;>first
  | exact wpAny_pure hQ
  | (cases u<;>first
    | exact wpAny_pure hQ
    | (refine wpAny_bind (wpAny_load ho ?_)
       rw [hc,hd]
       show wpAny M A (if (["enumerate","zip","dict_itemiterator","dict_reverseitemiterator","odict_iterator","itertools.zip_longest","itertools.pairwise"].contains n&&vs[0]? == some (rawInt _))=true then _ else _) Q E s
       rw [if_neg (by intro h;rw [hn,Bool.false_and] at h;cases h)]
       exact wpAny_pure hQ))
def Itl (K:PySem.W.Frag) (a:Addr):It :=
 ⟨fun i H=>∃ xs x,SqL K H a xs/\xs[i]? = some x,fun i H x H'=>H'=H/\∀ xs,SqL K H a xs->xs[i]? = some x,fun i H=>∃ xs,SqL K H a xs/\xs.length<=i⟩
def Itt (K:PySem.W.Frag) (a:Addr):It :=
 ⟨fun i H=>∃ xs x,SqT K H a xs/\xs[i]? = some x,fun i H x H'=>H'=H/\∀ xs,SqT K H a xs->xs[i]? = some x,fun i H=>∃ xs,SqT K H a xs/\xs.length<=i⟩
def Itr (lo:Int) (n:Nat):It:=⟨fun i _=>i<n,fun i H x H'=>H'=H/\x=.int (lo+i),fun i _=>n<=i⟩
theorem pY {P:Program} {w:World} {K:PySem.W.Frag} {tg:Expr} (a it:Addr):Turn P w K tg (Itl K a) [it] it (fun i h=>h.IsListIter it a i) where
 mem:=by simp
 obj:=fun i h st b hb=>by
  have e:b=it:=by simpa using hb
  subst e
  obtain ⟨o,e,c,d⟩:=st
  exact ⟨o,e,fun v z=>by rw [d] at z;cases z⟩
 keep:=fun i h h' st k=>st.at fun o e=>k it ↥19 o e
 item:=by
  intro X hP hw hK hc i pins s σ H E I hf st hg
  subst hP hw hK
  obtain ⟨xs,x,hq,hx⟩:=hg
  obtain ⟨its,rv,p,hz⟩:=I.list hq
  obtain ⟨u,hu,ru⟩:=rv.get hx
  obtain ⟨f0,f1,f2,f3,f4,f5⟩:=hf it ↥19
  refine wpAny_pyNext_list_item st p.isList (x:=u) (by simpa using hu) fun h' st' sb => ?_
  have I1:Inv X pins σ H { s with heap:=h' }:=I.turned (t':=s.toks) (fun b o hb e=>(sb.2 b hb).trans e) f0 f1 f3 f4 f5
  obtain ⟨o,e,c,d⟩:=id st'
  exact ⟨u,rfl,rn (s:={ s with heap:=h' }) e c d ↥0 ⟨x,H,I1,ru,⟨rfl,fun ys hy=>by rw [I.list_inj hy hq];exact hx⟩,st',fun b hb=>(hf b hb).1⟩⟩
 done:=by
  intro X hP hw hK hc i pins s σ H E I hf st hg
  subst hP hw hK
  obtain ⟨xs,hq,hx⟩:=hg
  obtain ⟨its,rv,p,hz⟩:=I.list hq
  obtain ⟨f0,f1,f2,f3,f4,f5⟩:=hf it ↥19
  have hl:=rv.length
  exact wpAny_pyNext_list_end (I.ok.hd hc) st p.isList (by simp;omega) fun h' eb=>⟨rfl,I.turned (t':=s.toks) (fun b o hb e=>eb b o hb e) f0 f1 f3 f4 f5⟩
 self:=fun _ _ _ _ _ st h=>wpAny_pyIter_listiter st h
theorem oA {P:Program} {w:World} {K:PySem.W.Frag} {tg:Expr} (a it:Addr):Turn P w K tg (Itt K a) [it] it (fun i h=>h.IsTupleIter it a i) where
 mem:=by simp
 obj:=fun i h st b hb=>by
  have e:b=it:=by simpa using hb
  subst e
  obtain ⟨o,e,c,d⟩:=st
  exact ⟨o,e,fun v z=>by rw [d] at z;cases z⟩
 keep:=fun i h h' st k=>st.at fun o e=>k it ↥19 o e
 item:=by
  intro X hP hw hK hc i pins s σ H E I hf st hg
  subst hP hw hK
  obtain ⟨xs,x,hq,hx⟩:=hg
  obtain ⟨its,rv,p,hz⟩:=I.tuple hq
  obtain ⟨u,hu,ru⟩:=rv.get hx
  obtain ⟨f0,f1,f2,f3,f4,f5⟩:=hf it ↥19
  refine wpAny_pyNext_tuple_item st (show s.heap.IsTuple a its.toArray from p) (x:=u) (by simpa using hu) fun h' st' sb => ?_
  have I1:Inv X pins σ H { s with heap:=h' }:=I.turned (t':=s.toks) (fun b o hb e=>(sb.2 b hb).trans e) f0 f1 f3 f4 f5
  obtain ⟨o,e,c,d⟩:=id st'
  exact ⟨u,rfl,rn (s:={ s with heap:=h' }) e c d ↥0 ⟨x,H,I1,ru,⟨rfl,fun ys hy=>by rw [I.tuple_inj hy hq];exact hx⟩,st',fun b hb=>(hf b hb).1⟩⟩
 done:=by
  intro X hP hw hK hc i pins s σ H E I hf st hg
  subst hP hw hK
  obtain ⟨xs,hq,hx⟩:=hg
  obtain ⟨its,rv,p,hz⟩:=I.tuple hq
  obtain ⟨f0,f1,f2,f3,f4,f5⟩:=hf it ↥19
  have hl:=rv.length
  exact wpAny_pyNext_tuple_end (I.ok.hd hc) st (show s.heap.IsTuple a its.toArray from p) (by simp;omega) fun h' eb=>⟨rfl,I.turned (t':=s.toks) (fun b o hb e=>eb b o hb e) f0 f1 f3 f4 f5⟩
 self:=fun _ _ _ _ _ st h=>wpAny_pyIter_tupleiter st h
theorem oB {P:Program} {w:World} {K:PySem.W.Frag} {tg:Expr} (it:Addr) (lo:Int) (n:Nat):Turn P w K tg (Itr lo n) [it] it (fun i h=>IsRangeIter h it (lo+(i:Nat)*1) ((n:Int) - (i:Nat)) 1) where
 mem:=by simp
 obj:=fun i h st b hb=>by
  have e:b=it:=by simpa using hb
  subst e
  exact ⟨_,st,fun v z=>by
   have z':Data.fields _=Data.cell v:=z
   cases z'⟩
 keep:=fun i h h' st k=>k it ↥19 _ st
 item:=by
  intro X hP hw hK hc i pins s σ H E I hf st hg
  subst hP hw hK
  obtain ⟨f0,f1,f2,f3,f4,f5⟩:=hf it ↥19
  have W:=Walks.range (prog:=X.prog) (w:=X.w) (I.ok.hd hc) it lo 1 n
  refine W.item i s _ _ hg st fun v h' tk hv st' kk => ?_
  obtain ⟨t,rfl⟩:=hv
  have I1:Inv X pins σ H { s with heap:=h',toks:=tk }:=I.turned (fun b o hb e=>kk b o (by simpa using hb) e) f0 f1 f3 f4 f5
  refine ⟨_,rfl,rn (s:={ s with heap:=h',toks:=tk }) (n:="range_iterator") st' rfl rfl ↥0 ⟨.int (lo+i),H,I1,⟨t,?_⟩,⟨rfl,rfl⟩,st',fun b hb=>(hf b hb).1⟩⟩
  rw [Int.mul_one]
 done:=by
  intro X hP hw hK hc i pins s σ H E I hf st hg
  subst hP hw hK
  obtain ⟨f0,f1,f2,f3,f4,f5⟩:=hf it ↥19
  exact wpAny_pyNext_range_end (I.ok.hd hc) st (by have:n<=i:=hg;omega) fun h' eb=>⟨rfl,I.turned (t':=s.toks) (fun b o hb e=>eb b o hb e) f0 f1 f3 f4 f5⟩
 self:=fun _ _ _ _ _ st h=>wpAny_pyIter_rangeiter st h
end L2
namespace L2
open PySem PySem.Spec PyProof.Rows
section
variable {X:Cx} {tg:Expr}
def E6 (K:PySem.W.Frag) (tl:TE):TI:=fun σ H R=>tl σ H fun x H1=>∃ a,x=.ref a/\(∃ xs,SqL K H1 a xs)/\R (Itl K a) H1
def JR (K:PySem.W.Frag) (tl:TE):TI:=fun σ H R=>tl σ H fun x H1=>∃ a,x=.ref a/\(∃ xs,SqT K H1 a xs)/\R (Itt K a) H1
theorem yI {l:Expr} {tl:TE} (hl:PE X l tl):PI X tg l (E6 X.K tl):=by
 intro pins s σ H R I h
 refine thn (hl pins s σ H _ I h) fun v s1 ⟨x,H1,I1,r1,q1⟩ => ?_
 obtain ⟨a,e,⟨xs,hq⟩,q⟩:=q1
 subst e
 cases r1
 obtain ⟨its,rv,p,hz⟩:=I1.list hq
 refine wpAny_pyIter_list p.isList ?_
 refine ⟨s1.heap.objs.size,[s1.heap.objs.size],_,_,H1,rfl,I1.kept (t':=s1.toks) fun b o e=>Heap.get?_push_of_some _ e,pY a _,⟨_,Heap.get?_push_size _ rfl,rfl,rfl⟩,fun b hb => ?_,q⟩
 have e:b=s1.heap.objs.size:=by simpa using hb
 subst e
 exact I1.fpOk ↥30 (I1.hok.fresh ↥30)
theorem BP {l:Expr} {tl:TE} (hl:PE X l tl):PI X tg l (JR X.K tl):=by
 intro pins s σ H R I h
 refine thn (hl pins s σ H _ I h) fun v s1 ⟨x,H1,I1,r1,q1⟩ => ?_
 obtain ⟨a,e,⟨xs,hq⟩,q⟩:=q1
 subst e
 cases r1
 obtain ⟨its,rv,p,hz⟩:=I1.tuple hq
 refine wpAny_pyIter_tuple (show s1.heap.IsTuple a its.toArray from p) ?_
 refine ⟨s1.heap.objs.size,[s1.heap.objs.size],_,_,H1,rfl,I1.kept (t':=s1.toks) fun b o e=>Heap.get?_push_of_some _ e,oA a _,⟨_,Heap.get?_push_size _ rfl,rfl,rfl⟩,fun b hb => ?_,q⟩
 have e:b=s1.heap.objs.size:=by simpa using hb
 subst e
 exact I1.fpOk ↥30 (I1.hok.fresh ↥30)
theorem nD {pins:List ↥7} {σ:St} {H:Hp} {s:Shared} {R:It->Hp->Prop} {E:Value->Shared->Prop} {lo hi:Int} {t u v:Tok} {tk:Nat} (I:Inv X pins σ H s) (h1 : -(2^62)<=lo) (h2:lo<2^62) (h3 : -(2^62)<=hi) (h4:hi<2^62)
  (q:R (Itr lo (hi - lo).toNat) H):wpAny ↥4 X.A (pyIter (.ref s.heap.objs.size)) (PIE X pins σ tg R) E { s with heap:=s.heap.push { cls:=.type "range",data:=.fields #[.int lo t,.int hi u,.int 1 v] },toks:=tk }:=by
 refine wpAny_pyIter_range (IsRange.new ..) (small_one h1 h2 h3 h4) ?_
 have I1:Inv X pins σ H { s with heap:=s.heap.push { cls:=.type "range",data:=.fields #[.int lo t,.int hi u,.int 1 v] },toks:=tk }:=I.kept fun b o e=>Heap.get?_push_of_some _ e
 refine ⟨(s.heap.push { cls:=.type "range",data:=.fields #[.int lo t,.int hi u,.int 1 v] }).objs.size,[(s.heap.push { cls:=.type "range",data:=.fields #[.int lo t,.int hi u,.int 1 v] }).objs.size],_,_,H,rfl,
  I1.kept (t':=tk) fun b o e=>Heap.get?_push_of_some _ e,oB _ lo (hi - lo).toNat,?_,fun b hb => ?_,q⟩
 ·have e1:lo+((0:Nat):Int)*1=lo:=by simp
  have e2:(((hi - lo).toNat:Nat):Int) - ((0:Nat):Int)=Builtin.Range.rangeSize lo hi 1:=by rw [rangeSize_one];split<;>omega
  show IsRangeIter _ _ (lo+((0:Nat):Int)*1) ((((hi - lo).toNat:Nat):Int) - ((0:Nat):Int)) 1
  rw [e1,e2]
  exact Heap.get?_push_size _ rfl
 ·have e:b=(s.heap.push { cls:=.type "range",data:=.fields #[.int lo t,.int hi u,.int 1 v] }).objs.size:=by simpa using hb
  subst e
  exact I1.fpOk ↥30 (I1.hok.fresh ↥30)
def E5 (ta:TA):TI:=fun σ H R=>ta σ H fun vs H1=>∃ j:Int,vs=[.int j] /\ -(2^62)<=j/\j<2^62/\R (Itr 0 j.toNat) H1
def E3 (ta:TA):TI:=fun σ H R=>ta σ H fun vs H1=>∃ i j:Int,vs=[.int i,.int j]/\(-(2^62)<=i/\i<2^62 /\ -(2^62)<=j/\j<2^62)/\R (Itr i (j - i).toNat) H1
theorem qp {a:Expr} {ta:TA} {p pos:Pos} (hg:Gl X "range") (hm:X.mg "range"=none) (ha:PA X [a] ta) (hs:starEach [a] X.env=[(false,eval a X.env)]:=by rfl):PI X tg (.Call (.Name "range" p) [a] [] pos) (E5 ta):=by
 intro pins s σ H R I h
 refine Call_ (jB I hg hm boot_range (PyProof.Rows.callWith_type1 (thn (ha pos pins s σ H _ I h) fun us s1 ⟨vs,H1,I1,r1,q1⟩ => ?_) hs rfl))
 obtain ⟨j,e,q1,q2,q⟩:=q1
 subst e
 cases r1 with
 | cons r rr =>
  cases rr
  obtain ⟨t,rfl⟩:=r
  exact call_range_1 (nD I1 ⋯ ⋯ q1 q2 (by simpa using q))
theorem qo {a b:Expr} {ta:TA} {p pos:Pos} (hg:Gl X "range") (hm:X.mg "range"=none) (ha:PA X [a,b] ta) (hs:starEach [a,b] X.env=[(false,eval a X.env),(false,eval b X.env)]:=by rfl) (hs2:starEach [b] X.env=[(false,eval b X.env)]:=by rfl) :
  PI X tg (.Call (.Name "range" p) [a,b] [] pos) (E3 ta):=by
 intro pins s σ H R I h
 refine Call_ (jB I hg hm boot_range (PyProof.Rows.callWith_type1 (thn (ha pos pins s σ H _ I h) fun us s1 ⟨vs,H1,I1,r1,q1⟩ => ?_) (by rw [hs,hs2]) (by rw [hs2];rfl)))
 obtain ⟨i,j,e,⟨q1,q2,q3,q4⟩,q⟩:=q1
 subst e
 cases r1 with
 | cons r rr =>
  cases rr with
  | cons r' rr =>
   cases rr
   obtain ⟨t,rfl⟩:=r
   obtain ⟨t',rfl⟩:=r'
   exact call_range_2 (nD I1 q1 q2 q3 q4 q)
def H4 (wi:TI) (g:TG) (tb:TS):TS:=fun D σ H=>wi σ H fun J H1=>∃ W:Nat->Nat->St->Hp->Prop,(∃ m,W 0 m σ H1)/\∀ i m σ H,W i m σ H ->
 (J.stop i H/\D.nx σ H)\/(J.go i H/\∃ N:St->Hp->Prop,(∀ σ' H',N σ' H'->∃ m',m'<m/\W (i+1) m' σ' H')/\∀ x H',J.yld i H x H'->g x σ H' fun σ2 H2=>tb { D with nx:=N,ct:=N,bk:=D.nx } σ2 H2)
def jy (fp:List Addr) (h:Heap):List ↥7:=fp.filterMap fun b=>(h.get? b).map fun o=>(b,o)
theorem cS {fp:List Addr} {h:Heap} {b:Addr} {o:Obj} (hb:b∈fp) (e:h.get? b=some o):(b,o)∈jy fp h:=List.mem_filterMap.mpr ⟨b,hb,by rw [e];rfl⟩
theorem lp {fp:List Addr} {h:Heap} {p:Addr×Obj} (hp:p∈jy fp h):p.1∈fp/\h.get? p.1=some p.2:=by
 obtain ⟨b,hb,e⟩:=List.mem_filterMap.mp hp
 cases q:h.get? b with
 | none=>rw [q] at e;cases e
 | some o =>
  rw [q] at e
  have e':(b,o)=p:=Option.some.inj e
  subst e'
  exact ⟨hb,q⟩
theorem Inv.pinned {pins:List ↥7} {σ:St} {H:Hp} {s:Shared} {fp:List Addr} (I:Inv X pins σ H s) (hf:∀ b∈fp,oo X pins H b) (ho:∀ b∈fp,∃ o,s.heap.get? b=some o/\∀ v,o.data ≠ .cell v):Inv X (pins++jy fp s.heap) σ H s :=
 I.pins_of fun p hp=>(List.mem_append.mp hp).elim (fun z=>I.pin p (List.mem_append_right _ z)) fun z=>by
  obtain ⟨hb,e⟩:=lp z
  obtain ⟨f0,f1,f2,_⟩:=hf p.1 hb
  obtain ⟨o,e',d⟩:=ho p.1 hb
  rw [e] at e';cases e'
  exact ⟨e,f0,f1,f2,d⟩
theorem Inv.unpinned {pins pl:List ↥7} {σ:St} {H:Hp} {s:Shared} (I:Inv X (pins++pl) σ H s):Inv X pins σ H s:=I.pins_of fun p hp=>I.pin p (List.mem_append_right _ (List.mem_append_left _ hp))
theorem vM {iter:Expr} {body:List Stmt} {wi:TI} {g:TG} {tb:TS} {pos:Pos} (hp:PassesOwn ↥4 X.A X.env X.xe) (hc:X.calm=true) (hi:PI X tg iter wi) (hg:PG X tg g) (hb:PSs X body tb)
  (hs:∀ x,foldedSetIterable iter X.env x=pure x:=by intro _;rfl):PS X (.For tg iter body [] pos) (H4 wi g tb):=by
 intro pins s σ H D I h
 refine wpAny_For (thn (hi pins s σ H _ I h) fun v s1 h1=>thn h1 fun itv s2 h2 => ?_) hs
 obtain ⟨it,fp,tn,J,H2,e,I2,T,st2,f2,W,⟨m0,w0⟩,turn⟩:=h2
 subst e
 have stat:∀ {H':Hp},(∀ b∈fp,H' b=none)->∀ b∈fp,oo X pins H' b:=fun hn b hb=>⟨hn b hb,(f2 b hb).2⟩
 refine codeAny_forLoop_any (fun n s'=>∃ i σ' H',Inv X pins σ' H' s'/\tn i s'.heap/\(∀ b∈fp,H' b=none)/\W i n σ' H') ?_ m0 ⟨0,σ,H2,I2,st2,fun b hb=>(f2 b hb).1,w0⟩
 rintro n s3 ⟨i,σ3,H3,I3,st3,fr3,w3⟩
 rcases turn i n σ3 H3 w3 with ⟨stop,qn⟩ | ⟨go,N,hN,step⟩
 ·refine wpAny_passesOwn hp (thn (T.done X rfl rfl rfl hc i pins s3 σ3 H3 X.xe I3 (stat fr3) st3 stop) fun r s4 ⟨hr,I4⟩ => ?_)
  subst hr
  exact wpAny_execs_nil ⟨σ3,H3,I4,qn⟩
 ·refine wpAny_passesOwn hp (thn (T.item X rfl rfl rfl hc i pins s3 σ3 H3 X.xe I3 (stat fr3) st3 go) fun r s4 ⟨u,hr,h4⟩ => ?_)
  subst hr
  refine wpAny_passesOwn hp (thn h4 fun _ s5 ⟨x,H5,I5,r5,y5,st5,fr5⟩ => ?_)
  have I5':=I5.pinned (stat fr5) (T.obj _ _ st5)
  refine wpAny_passesOwn hp (thn (hg _ s5 σ3 H5 x u _ I5' r5 (step x H5 y5)) fun _ s6 ⟨σ6,H6,I6,q6⟩ => ?_)
  refine wpAny_passesOwn hp (thn (hb _ s6 σ6 H6 _ I6 q6) fun f s7 q7 => ?_)
  have again:∀ {σ7:St} {H7:Hp},Inv X (pins++jy fp s5.heap) σ7 H7 s7->N σ7 H7->∃ m,m<n/\∃ i σ' H',Inv X pins σ' H' s7/\tn i s7.heap/\(∀ b∈fp,H' b=none)/\W i m σ' H':=fun {σ7 H7} I7 n7=>by
   obtain ⟨m',hm,w7⟩:=hN σ7 H7 n7
   refine ⟨m',hm,i+1,σ7,H7,I7.unpinned,T.keep _ _ _ st5 fun b hb o e=>(I7.pin (b,o) (List.mem_append_right _ (List.mem_append_right _ (cS hb e)))).1,fun b hb => ?_,w7⟩
   obtain ⟨o,e,d⟩:=T.obj _ _ st5 b hb
   exact (I7.pin (b,o) (List.mem_append_right _ (List.mem_append_right _ (cS hb e)))).2.1
  cases f with
  | next=>obtain ⟨σ7,H7,I7,n7⟩:=q7;exact again I7 n7
  | cont=>obtain ⟨σ7,H7,I7,n7⟩:=q7;exact again I7 n7
  | brk=>obtain ⟨σ7,H7,I7,q7⟩:=q7;exact ⟨σ7,H7,I7.unpinned,q7⟩
  | ret v=>obtain ⟨x7,σ7,H7,I7,r7,q7⟩:=q7;exact ⟨x7,σ7,H7,I7.unpinned,r7,q7⟩
end
end L2
namespace L2
open PySem PySem.Spec PyProof.Rows
abbrev R2:=V->V->Hp->VK->Prop
def OpR (X:Cx) (f:Value->Value->Sem Value) (r:R2):Prop :=
 ∀ (pins:List ↥7) (s:Shared) (σ:St) (H:Hp) (x y:V) (v u:Value) (Q:VK),Inv X pins σ H s->RelV x v->RelV y u->r x y H Q ->
  wpAny ↥4 X.A (f v u) (EP X pins σ Q) X.xe s
def UnR (X:Cx) (f:Value->Sem Value) (r:V->Hp->VK->Prop):Prop :=
 ∀ (pins:List ↥7) (s:Shared) (σ:St) (H:Hp) (x:V) (v:Value) (Q:VK),Inv X pins σ H s->RelV x v->r x H Q ->
  wpAny ↥4 X.A (f v) (EP X pins σ Q) X.xe s
def fJ (X:Cx) (f:Value) (r:List V->Hp->VK->Prop):Prop :=
 ∀ (pins:List ↥7) (s:Shared) (σ:St) (H:Hp) (xs:List V) (us:List Value) (Q:VK),Inv X pins σ H s->Vals xs us->r xs H Q ->
  wpAny ↥4 X.A (call f us) (EP X pins σ Q) X.xe s
def tOp (r:R2) (ta tb:TE):TE:=fun σ H Q=>ta σ H fun x H1=>tb σ H1 fun y H2=>r x y H2 Q
def tUn (r:V->Hp->VK->Prop) (ta:TE):TE:=fun σ H Q=>ta σ H fun x H1=>r x H1 Q
def rI (C:Int->Int->Prop) (g:Int->Int->V):R2:=fun x y H Q=>∃ i j,x=.int i/\y=.int j/\C i j/\Q (g i j) H
def rI0 (g:Int->Int->V):R2:=fun x y H Q=>∃ i j,x=.int i/\y=.int j/\Q (g i j) H
def rU (g:Int->V):V->Hp->VK->Prop:=fun x H Q=>∃ i,x=.int i/\Q (g i) H
section
variable {X:Cx} {a b c:Expr} {ta tb tc:TE} {pos:Pos}
theorem Fl (ha:PE X a ta) (hb:PE X b tb) {pins:List ↥7} {s:Shared} {σ:St} {H:Hp} {R:V->V->Hp->Prop} (I:Inv X pins σ H s)
  (h:ta σ H fun x H1=>tb σ H1 fun y H2=>R x y H2) {Q:Value->Shared->Prop} {f:Value->Value->Sem Value}
  (hf:∀ v u s2 x y H2,Inv X pins σ H2 s2->RelV x v->RelV y u->R x y H2->wpAny ↥4 X.A (f v u) Q X.xe s2) :
  wpAny ↥4 X.A (eval a X.env) (fun v s₁=>wpAny ↥4 X.A (eval b X.env) (fun u s₂=>wpAny ↥4 X.A (f v u) Q X.xe s₂) X.xe s₁) X.xe s:=by
 refine thn (ha pins s σ H _ I h) fun v s1 ⟨x,H1,I1,r1,q1⟩ => ?_
 refine thn (hb pins s1 σ H1 _ I1 q1) fun u s2 ⟨y,H2,I2,r2,q2⟩ => ?_
 exact hf v u s2 x y H2 I2 r1 r2 q2
theorem EF {op:Operator} {r:R2} (ho:OpR X (binaryOp op) r) (ha:PE X a ta) (hb:PE X b tb):PE X (.BinOp a op b pos) (tOp r ta tb):=by
 intro pins s σ H Q I h
 exact wpAny_BinOp (Fl ha hb I h fun v u s2 x y H2 I2 rx ry q=>ho pins s2 σ H2 x y v u Q I2 rx ry q)
theorem EE {op:UnaryOp} {r:V->Hp->VK->Prop} (ho:UnR X (unaryOp op) r) (ha:PE X a ta):PE X (.UnaryOp op a pos) (tUn r ta):=by
 intro pins s σ H Q I h
 exact UnaryOp_ (thn (ha pins s σ H _ I h) fun v s1 ⟨x,H1,I1,r1,q1⟩=>ho pins s1 σ H1 x v Q I1 r1 q1)
theorem opI {f:Value->Value->Sem Value} {C:Int->Int->Prop} {g:Int->Int->Int}
  (rule:∀ (i j:Int) (t u:Tok) (s:Shared) (Q:Value->Shared->Prop) (E:Value->Shared->Prop),C i j->Q (.int (g i j) s.toks) { s with toks:=s.toks+1 }->wpAny ↥4 X.A (f (.int i t) (.int j u)) Q E s) :
  OpR X f (rI C fun i j=>.int (g i j)):=by
 intro pins s σ H x y v u Q I rx ry h
 obtain ⟨i,j,rfl,rfl,hc,q⟩:=h
 obtain ⟨t,rfl⟩:=rx
 obtain ⟨t',rfl⟩:=ry
 exact rule i j t t' s _ _ hc ⟨.int (g i j),H,I.tok _,⟨_,rfl⟩,q⟩
theorem Fw {f:Value->Value->Sem Value} {g:Int->Int->Int}
  (rule:∀ (i j:Int) (t u:Tok) (s:Shared) (Q:Value->Shared->Prop) (E:Value->Shared->Prop),Q (.int (g i j) s.toks) { s with toks:=s.toks+1 }->wpAny ↥4 X.A (f (.int i t) (.int j u)) Q E s) :
  OpR X f (rI0 fun i j=>.int (g i j)):=by
 intro pins s σ H x y v u Q I rx ry h
 obtain ⟨i,j,rfl,rfl,q⟩:=h
 obtain ⟨t,rfl⟩:=rx
 obtain ⟨t',rfl⟩:=ry
 exact rule i j t t' s _ _ ⟨.int (g i j),H,I.tok _,⟨_,rfl⟩,q⟩
theorem EN {f:Value->Value->Sem Value} {g:Int->Int->Bool}
  (rule:∀ (i j:Int) (t u:Tok) (s:Shared) (Q:Value->Shared->Prop) (E:Value->Shared->Prop),Q (.bool (g i j)) s->wpAny ↥4 X.A (f (.int i t) (.int j u)) Q E s) :
  OpR X f (rI0 fun i j=>.bl (g i j)):=by
 intro pins s σ H x y v u Q I rx ry h
 obtain ⟨i,j,rfl,rfl,q⟩:=h
 obtain ⟨t,rfl⟩:=rx
 obtain ⟨t',rfl⟩:=ry
 exact rule i j t t' s _ _ ⟨.bl (g i j),H,I,rfl,q⟩
theorem Cc:OpR X (binaryOp .Add) (rI0 fun i j=>.int (i+j)):=Fw fun _ _ _ _ _ _ _ q=>add_int q
theorem B5:OpR X (binaryOp .Sub) (rI0 fun i j=>.int (i - j)):=Fw fun _ _ _ _ _ _ _ q=>sub_int q
theorem B6:OpR X (binaryOp .Mod) (rI (fun _ j=>0<j) fun i j=>.int (i%j)):=opI fun i j _ _ _ _ _ hc q=>by
 have h1:(0:Int)<j:=hc
 exact mod_int' ⋯ (by rw [Int.fmod_eq_emod_of_nonneg i ⋯];exact q)
theorem unI {f:Value->Sem Value} {g:Int->Int}
  (rule:∀ (i:Int) (t:Tok) (s:Shared) (Q:Value->Shared->Prop) (E:Value->Shared->Prop),Q (.int (g i) s.toks) { s with toks:=s.toks+1 }->wpAny ↥4 X.A (f (.int i t)) Q E s) :
  UnR X f (rU fun i=>.int (g i)):=by
 intro pins s σ H x v Q I rx h
 obtain ⟨i,rfl,q⟩:=h
 obtain ⟨t,rfl⟩:=rx
 exact rule i t s _ _ ⟨.int (g i),H,I.tok _,⟨_,rfl⟩,q⟩
theorem AW:UnR X (unaryOp .USub) (rU fun i=>.int (-i)):=unI fun _ _ _ _ _ q=>neg_int q
end
def DD:V->V->Bool
 | .non,.non=>true | .non,.int _=>true | .int _,.non=>true | .non,.bl _=>true | .bl _,.non=>true | .non,.str _=>true | .str _,.non=>true
 | .int _,.int _=>true | .bl _,.bl _=>true | .str _,.str _=>true | .byt _,.byt _=>true
 | .int _,.str _=>true | .str _,.int _=>true | .bl _,.str _=>true | .str _,.bl _=>true
 | _,_=>false
def rEq:R2:=fun x y H Q=>DD x y=true/\Q (.bl (decide (x=y))) H
def rNe:R2:=fun x y H Q=>DD x y=true/\Q (.bl (!decide (x=y))) H
theorem mV {i j:Int}:decide (V.int i=V.int j)=(i == j):=by
 rw [Bool.eq_iff_iff]
 simp
theorem rP {i j:Bool}:decide (V.bl i=V.bl j)=(i == j):=by
 rw [Bool.eq_iff_iff]
 simp
theorem mU {i j:Str}:decide (V.str i=V.str j)=(i == j):=by
 rw [Bool.eq_iff_iff]
 simp
theorem rO {i j:Array UInt8}:decide (V.byt i=V.byt j)=(i.toList == j.toList):=by
 rw [Bool.eq_iff_iff]
 cases i
 cases j
 simp
section
variable {X:Cx} {a b c:Expr} {ta tb tc:TE} {pos:Pos}
theorem dk {pins:List ↥7} {σ:St} {H:Hp} {s:Shared} {Q:VK} {k k':Bool} (I:Inv X pins σ H s) (q:Q (.bl k) H) (e:k=k'):EP X pins σ Q (.bool k') s:=by
 subst e
 exact ⟨.bl k,H,I,rfl,q⟩
theorem EM:OpR X (compareOp .Eq) rEq:=by
 intro pins s σ H x y v u Q I rx ry h
 obtain ⟨hs,q⟩:=h
 cases x with
 | non =>
  cases rx
  cases y with
  | non=>cases ry;exact PySem.EqNone.eq_none_none ↥35
  | bl j=>cases ry;exact PySem.EqNone.eq_none_bool ↥35
  | int j=>obtain ⟨t',rfl⟩:=ry;exact PySem.EqNone.eq_none_int ↥35
  | str j=>obtain ⟨t',rfl⟩:=ry;exact PySem.EqNone.eq_none_str ↥35
  | _=>exact absurd (show false=true from hs) Bool.false_ne_true
 | bl i =>
  cases rx
  cases y with
  | non=>cases ry;exact PySem.EqNone.eq_bool_none ↥35
  | bl j=>cases ry;exact eq_bool (dk I q rP)
  | str j=>obtain ⟨t',rfl⟩:=ry;exact PySem.EqMixed.eq_bool_str ↥35
  | _=>exact absurd (show false=true from hs) Bool.false_ne_true
 | int i =>
  obtain ⟨t,rfl⟩:=rx
  cases y with
  | non=>cases ry;exact PySem.EqNone.eq_int_none ↥35
  | int j=>obtain ⟨t',rfl⟩:=ry;exact eq_int (dk I q mV)
  | str j=>obtain ⟨t',rfl⟩:=ry;exact PySem.EqMixed.eq_int_str ↥35
  | _=>exact absurd (show false=true from hs) Bool.false_ne_true
 | str i =>
  obtain ⟨t,rfl⟩:=rx
  cases y with
  | non=>cases ry;exact PySem.EqNone.eq_str_none ↥35
  | bl j=>cases ry;exact PySem.EqMixed.eq_str_bool ↥35
  | int j=>obtain ⟨t',rfl⟩:=ry;exact PySem.EqMixed.eq_str_int ↥35
  | str j=>obtain ⟨t',rfl⟩:=ry;exact eq_str (dk I q mU)
  | _=>exact absurd (show false=true from hs) Bool.false_ne_true
 | byt i =>
  obtain ⟨t,rfl⟩:=rx
  cases y with
  | byt j=>obtain ⟨t',rfl⟩:=ry;exact PySem.W.eq_bytes (dk I q rO)
  | _=>exact absurd (show false=true from hs) Bool.false_ne_true
 | _=>cases y<;>exact absurd (show false=true from hs) Bool.false_ne_true
theorem EI:OpR X (compareOp .NotEq) rNe:=by
 intro pins s σ H x y v u Q I rx ry h
 obtain ⟨hs,q⟩:=h
 cases x with
 | non =>
  cases rx
  cases y with
  | non=>cases ry;exact PySem.EqNone.ne_none_none ↥35
  | bl j=>cases ry;exact PySem.EqNone.ne_none_bool ↥35
  | int j=>obtain ⟨t',rfl⟩:=ry;exact PySem.EqNone.ne_none_int ↥35
  | str j=>obtain ⟨t',rfl⟩:=ry;exact PySem.EqNone.ne_none_str ↥35
  | _=>exact absurd (show false=true from hs) Bool.false_ne_true
 | bl i =>
  cases rx
  cases y with
  | non=>cases ry;exact PySem.EqNone.ne_bool_none ↥35
  | bl j=>cases ry;exact ne_bool (dk I q (congrArg not rP))
  | str j=>obtain ⟨t',rfl⟩:=ry;exact PySem.EqMixed.ne_bool_str ↥35
  | _=>exact absurd (show false=true from hs) Bool.false_ne_true
 | int i =>
  obtain ⟨t,rfl⟩:=rx
  cases y with
  | non=>cases ry;exact PySem.EqNone.ne_int_none ↥35
  | int j=>obtain ⟨t',rfl⟩:=ry;exact ne_int (dk I q (congrArg not mV))
  | str j=>obtain ⟨t',rfl⟩:=ry;exact PySem.EqMixed.ne_int_str ↥35
  | _=>exact absurd (show false=true from hs) Bool.false_ne_true
 | str i =>
  obtain ⟨t,rfl⟩:=rx
  cases y with
  | non=>cases ry;exact PySem.EqNone.ne_str_none ↥35
  | bl j=>cases ry;exact PySem.EqMixed.ne_str_bool ↥35
  | int j=>obtain ⟨t',rfl⟩:=ry;exact PySem.EqMixed.ne_str_int ↥35
  | str j=>obtain ⟨t',rfl⟩:=ry;exact ne_str (dk I q (congrArg not mU))
  | _=>exact absurd (show false=true from hs) Bool.false_ne_true
 | byt i =>
  obtain ⟨t,rfl⟩:=rx
  cases y with
  | byt j=>obtain ⟨t',rfl⟩:=ry;exact PySem.W.ne_bytes (dk I q (congrArg not rO))
  | _=>exact absurd (show false=true from hs) Bool.false_ne_true
 | _=>cases y<;>exact absurd (show false=true from hs) Bool.false_ne_true
theorem EJ:OpR X (compareOp .Lt) (rI0 fun i j=>.bl (decide (i<j))):=EN fun _ _ _ _ _ _ _ q=>lt_int q
theorem EK:OpR X (compareOp .LtE) (rI0 fun i j=>.bl (decide (i<=j))):=EN fun _ _ _ _ _ _ _ q=>le_int q
theorem EL:OpR X (compareOp .Gt) (rI0 fun i j=>.bl (decide (j<i))):=EN fun _ _ _ _ _ _ _ q=>gt_int q
theorem qv:OpR X (compareOp .In) (fun x y H Q=>∃ i j,x=.str i/\y=.str j/\Q (.bl (!(Builtin.Str.occurrences j i 0 j.length 1).isEmpty)) H):=by
 intro pins s σ H x y v u Q I rx ry h
 obtain ⟨i,j,rfl,rfl,q⟩:=h
 obtain ⟨t,rfl⟩:=rx
 obtain ⟨t',rfl⟩:=ry
 exact in_str (dk I q rfl)
def isObj:HO->Bool
 | .lst _=>true
 | .ins _ _ _=>true
 | _=>false
theorem iy {pins:List ↥7} {s:Shared} {σ:St} {H:Hp} {a:Addr} {o:HO} (I:Inv X pins σ H s) (h:H a=some o) (p:isObj o=true):∃ ob,s.heap.get? a=some ob/\ob.cls ≠ .type "tuple":=by
 cases o with
 | lst xs =>
  obtain ⟨_,its,n,_,e⟩:xs.length<=sizeLine/\∃ (its:List Value) (n:Nat),Vals xs its/\s.heap.get? a=some { cls:=.type "list",data:=.seq its.toArray n }:=I.hok a _ h
  exact ⟨_,e,(by show Value.type "list" ≠ .type "tuple";decide +kernel)⟩
 | ins C dx fs =>
  have x:=I.hok a _ h
  obtain ⟨_,_,_,e,_⟩:=x
  exact ⟨_,e,(by show Value.ref C ≠ .type "tuple";exact fun z=>by cases z)⟩
 | _=>exact absurd (show false=true from p) Bool.false_ne_true
theorem iB (b:Expr) {op:CmpOp} (h:op ≠ .In:=by decide) (h2:op ≠ .NotIn:=by decide):behindInMarks op b=false:=by
 have e1:(op == CmpOp.In)=false:=by cases op<;>first | rfl | exact absurd rfl h
 have e2:(op == CmpOp.NotIn)=false:=by cases op<;>first | rfl | exact absurd rfl h2
 cases b<;>simp [behindInMarks,e1,e2]
theorem yK {op:CmpOp} {r:R2} (ho:OpR X (compareOp op) r) (ha:PE X a ta) (hb:PE X b tb) (hm:behindInMarks op b=false):PE X (.Compare a [op] [b] pos) (tOp r ta tb):=by
 intro pins s σ H Q I h
 exact wpAny_Compare1 (Fl ha hb I h fun v u s2 x y H2 I2 rx ry q=>ho pins s2 σ H2 x y v u Q I2 rx ry q) hm
def Ei (t:TE):TT:=fun σ H Q=>t σ H fun x H'=>∃ k,x=.bl k/\Q k H'
theorem yE {op:CmpOp} {r:R2} (ho:OpR X (compareOp op) r) (ha:PE X a ta) (hb:PE X b tb) (hm:behindInMarks op b=false):PT X (.Compare a [op] [b] pos) (Ei (tOp r ta tb)):=by
 intro pins s σ H Q I h
 refine wpAny_isTrue_Compare1 (thn (ha pins s σ H _ I h) fun v s1 ⟨x,H1,I1,r1,q1⟩=>thn (hb pins s1 σ H1 _ I1 q1) fun u s2 ⟨y,H2,I2,r2,q2⟩ =>
  thn (ho pins s2 σ H2 x y v u _ I2 r1 r2 q2) fun c s3 ⟨z,H3,I3,r3,k,e,q3⟩ => ?_) hm
 subst e
 cases r3
 exact wpAny_truthy_bool ⟨H3,I3,q3⟩
theorem lB:(sizeLine:Nat)<2^63:=by rw [sizeLine_eq];decide
theorem oN:OpR X (binaryOp .Add) (fun x y H Q=>∃ i j,x=.str i/\y=.str j/\i.length+j.length<=sizeLine/\Q (.str (i++j)) H):=by
 intro pins s σ H x y v u Q I rx ry h
 obtain ⟨i,j,rfl,rfl,hz,q⟩:=h
 obtain ⟨t,rfl⟩:=rx
 obtain ⟨t',rfl⟩:=ry
 exact add_str (fun t' tk=>⟨.str (i++j),H,I.tok _,⟨_,rfl⟩,q⟩) hz
theorem vals1 {x:V} {us:List Value} (r:Vals [x] us):∃ u,us=[u]/\RelV x u:=by
 cases r with
 | cons r1 r2=>cases r2;exact ⟨_,rfl,r1⟩
theorem vals2 {x y:V} {us:List Value} (r:Vals [x,y] us):∃ u w',us=[u,w']/\RelV x u/\RelV y w':=by
 cases r with
 | cons r1 r2 =>
  cases r2 with
  | cons r3 r4=>cases r4;exact ⟨_,_,rfl,r1,r3⟩
theorem lT:fJ X (.type "int") (fun xs H Q=>(∃ i,xs=[.int i]/\Q (.int i) H)\/∃ k,xs=[.bl k]/\Q (.int (if k then 1 else 0)) H):=by
 intro pins s σ H xs us Q I r h
 rcases h with ⟨i,rfl,q⟩ | ⟨k,rfl,q⟩
 ·obtain ⟨u,rfl,t,rfl⟩:=vals1 r
  exact call_int_int ⟨.int i,H,I,⟨_,rfl⟩,q⟩
 ·obtain ⟨u,rfl,r1⟩:=vals1 r
  cases r1
  exact call_int_bool ⟨.int (if k then 1 else 0),H,I.tok _,⟨_,rfl⟩,q⟩
theorem lR:fJ X (.type "str") (fun xs H Q=>∃ i,xs=[.int i]/\i.natAbs.log2<1920/\Q (.str (toString i)) H):=by
 intro pins s σ H xs us Q I r h
 obtain ⟨i,rfl,hz,q⟩:=h
 obtain ⟨u,rfl,t,rfl⟩:=vals1 r
 exact PySem.P.str_of_int hz ⟨.str _,H,I.tok _,⟨_,rfl⟩,q⟩
end
end L2
namespace L2
open PySem PySem.Spec PyProof.Rows
structure ObjM (h:Heap) (x dx C:Addr) (mA:Str->Option Value):Prop where
 obj:h.get? x=some (PySem.W.instObj C dx)
 ns:h.Ns1 dx mA
 ne:dx≠x
section
variable {prog:Program} {w:World} {A:Around} {E:Value->Shared->Prop} {s:Shared} {K:PySem.W.Frag} {x dx C f:Addr} {mA:Str->Option Value} {name:Str} {v:Value}
end
section
variable {P:Program} {w:World} {H H':Hp} {h h':Heap} {a C dx:Addr} {fs fs':List (Str×V)}
end
structure Cls (K:PySem.W.Frag) (C:Addr):Prop where
 pg:PySem.W.plainGet K C Str.empty=true
 hd:PySem.W.hasDictIn K C=true
 po:PySem.W.plainOver K C=true
 sa:PySem.W.findIn K (.ref C) "__setattr__"=some (some (.builtin "object.__setattr__"))
def sC (K:PySem.W.Frag) (C:Addr) (f:Str):Prop:=PySem.W.findIn K (.ref C) f=some none
structure Con (K:PySem.W.Frag) (C:Addr) (f:Str) (v:V) (u:Value):Prop where
 at_:PySem.W.findIn K (.ref C) f=some (some u)
 rel:RelV v u
 get:PySem.W.specialIn K u "__get__"=some none
 cp:PySem.W.copiedNames.contains f=false
structure Meth (K:PySem.W.Frag) (C:Addr) (m:Str) (f:Addr):Prop where
 at_:PySem.W.findIn K (.ref C) m=some (some (.ref f))
 fn:PySem.W.isFn K (.ref f)=true
 kp:PySem.W.keepIn K (.ref f)=true
section
variable {X:Cx} {pins:List ↥7} {σ:St} {H:Hp} {s:Shared} {a C dx:Addr} {fs:List (Str×V)} {f:Str} {v:V} {A:Around} {E:Value->Shared->Prop}
end
section
variable {X:Cx} {o e value:Expr} {f:Str} {pos pos' tpos:Pos} {ta tv:TE}
end
section
variable {X:Cx} {pins:List ↥7} {σ:St} {H:Hp} {s:Shared} {A:Around} {E:Value->Shared->Prop} {Q:Value->Shared->Prop} {c:Value} {b:Bool}
inductive TyOf (K:PySem.W.Frag) (H:Hp):V->Value->Prop where
 | non:TyOf K H .non (.type "NoneType")
 | bl (x:Bool):TyOf K H (.bl x) (.type "bool")
 | int (i:Int):TyOf K H (.int i) (.type "int")
 | str (x:Str):TyOf K H (.str x) (.type "str")
 | flt (x:UInt64):TyOf K H (.flt x) (.type "float")
 | lst {a:Addr} {xs:List V} (e:H a=some (.lst xs)):TyOf K H (.ref a) (.type "list")
 | frz {a:Addr} {o:Obj} {xs:List V} (e:H a=some (.frz o (.lst xs))):TyOf K H (.ref a) (.type "list")
 | tup {a:Addr} {xs:List V} (e:H a=some (.tup xs)):TyOf K H (.ref a) ↥11
 | dK {a:Addr} {kvs:List (Key×V)} (e:H a=some (.dK kvs)):TyOf K H (.ref a) ↥21
 | dT {a:Addr} {kvs:List (List Key×V)} (e:H a=some (.dT kvs)):TyOf K H (.ref a) ↥21
 | ins {a C dx:Addr} {fs:List (Str×V)} (e:H a=some (.ins C dx fs)) (cl:Cls K C) (ha:PySem.W.findIn K (.ref C) "__class__"=some (some (.builtin "object.__class__")))
   (hn:PySem.W.specialIn K (.builtin "object.__class__") "__get__"=some (some (.builtin "getset_descriptor.__get__"))) (htk:PySem.W.takesIn K (.builtin "object.__class__")=some true)
   (hm:PySem.W.mroIn K C ↥39=some true):TyOf K H (.ref a) (.ref C)
end
end L2
namespace L2
open PySem PySem.Spec PyProof.Rows
structure Room (k:Nat) (A:Around):Prop where
 hd:A.handled=none
 dp:A.depth+3*k+5<recursionLimit
 un:A.units+16*k+200<cLine
theorem Room.mono {j k:Nat} {A:Around} (r:Room k A) (h:j<=k):Room j A:=⟨r.hd,by have:=r.dp;omega,by have:=r.un;omega⟩
theorem Room.deeper {k:Nat} {A:Around} (r:Room (k+1) A) (env:Env):Room k (A.deeper env) :=
 ⟨r.hd,by have:=r.dp;show A.depth+1+3*k+5<_;omega,by have:=r.un;show A.units+3+16*k+200<_;omega⟩
theorem Room.depth {k:Nat} {A:Around} (r:Room k A):A.depth<recursionLimit:=by have:=r.dp;omega
theorem Room.units {k:Nat} {A:Around} (r:Room k A):A.units+64<cLine:=by have:=r.un;omega
def HY:TA:=fun _ H Q=>Q [] H
def En (ta:TE) (tr:TA):TA:=fun σ H Q=>ta σ H fun x H1=>tr σ H1 fun xs H2=>Q (x::xs) H2
section
variable {X:Cx} {e:Expr} {es:List Expr} {te:TE} {t:TA} {pos:Pos}
theorem iu:PA X [] HY:=fun _ _ _ _ H Q I h=>Calls.spliced_nil ⟨[],H,I,.nil,h⟩
theorem fO (ha:PE X e te) (hr:PA X es t) (hs:starEach (e::es) X.env=(false,eval e X.env)::starEach es X.env:=by rfl):PA X (e::es) (En te t):=by
 intro pos pins s σ H Q I h
 rw [hs]
 show wpAny _ _ (spliced ((false,eval e X.env)::backTo pos (starEach es X.env))) _ _ s
 refine Calls.spliced_cons (thn (ha pins s σ H _ I h) fun u s1 ⟨x,H1,I1,r1,q1⟩ => ?_)
 exact thn (hr pos pins s1 σ H1 _ I1 q1) fun us s2 ⟨xs,H2,I2,r2,q2⟩=>⟨x::xs,H2,I2,.cons r1 r2,q2⟩
def HU (t:TA):TE:=fun σ H Q=>t σ H fun xs H1=>xs.length<=sizeLine/\∀ p,H1 p=none->Q (.ref p) (upd H1 p (.tup xs))
def HZ (t:TA):TE:=fun σ H Q=>t σ H fun xs H1=>xs.length<=sizeLine/\∀ p,H1 p=none->Q (.ref p) (upd H1 p (.lst xs))
theorem BR {x1} (h:PA X es t):PE X (.Tuple es x1 pos) (HU t):=by
 intro pins s σ H Q I hq
 refine wpAny_Tuple_spliced (thn (h pos pins s σ H _ I hq) fun us s1 ⟨xs,H1,I1,r,z,q⟩=>⟨by rw [<- r.length];exact z,?_⟩)
 have hf:H1 s1.heap.objs.size=none:=I1.hok.fresh ↥30
 refine ⟨.ref s1.heap.objs.size,upd H1 s1.heap.objs.size (.tup xs),I1.laid (t':=s1.toks) (fun b u e=>Heap.get?_push_of_some _ e) ↥30 ?_,rfl,q _ hf⟩
 exact ⟨z,us,r,⟨_,Heap.get?_push_size _ rfl,rfl,_,rfl⟩⟩
theorem vQ (h:PA X es t):PE X (.List es pos) (HZ t):=by
 intro pins s σ H Q I hq
 refine wpAny_List_spliced (thn (h pos pins s σ H _ I hq) fun us s1 ⟨xs,H1,I1,r,z,q⟩=>⟨by rw [<- r.length];exact z,?_⟩)
 have hf:H1 s1.heap.objs.size=none:=I1.hok.fresh ↥30
 refine ⟨.ref s1.heap.objs.size,upd H1 s1.heap.objs.size (.lst xs),I1.laid (t':=s1.toks) (fun b u e=>Heap.get?_push_of_some _ e) ↥30 ?_,rfl,q _ hf⟩
 exact ⟨z,us,0,r,Heap.get?_push_size _ rfl⟩
end
abbrev Sp:=List V->Hp->VK->XK->Prop
abbrev CXT:=List Env->Hp->Shared->XK->Value->Shared->Prop
structure Env0 (P:Program) (w:World) (K:PySem.W.Frag) (mg:Str->Option Value) (base:Heap) (A:Around) (outer:List Env) (s:Shared) (H:Hp):Prop where
 frames:A.frames=some outer
 mod:Mod K mg base
 bs:∀ b o,base.get? b=some o->s.heap.get? b=some o/\H b=none
 bsz:base.objs.size<=s.heap.objs.size
 funs:s.heap.FunFrames base outer
 frf:∀ b∈frs outer,H b=none
 hok:HOk P w H s.heap
 bare:AllBare s.gens
def CE (outer:List Env) (P:Program) (w:World) (H:Hp) (s:Shared) (Q:VK) (u:Value) (s':Shared):Prop :=
 ∃ v H',s'.os=s.os/\AllBare s'.gens/\Un (frs outer) [] H H' s.heap s'.heap/\HOk P w H' s'.heap/\RelV v u/\Q v H'
def CR (CX:CXT) (outer:List Env) (P:Program) (w:World) (H:Hp) (s:Shared) (Q:VK) (E:XK) (r:Result) (s':Shared):Prop :=
 match r with
 | .ok (.ret u)=>CE outer P w H s Q u s'
 | .ok _=>False
 | .error e=>CX outer H s E e s'
structure FnOk (P:Program) (w:World) (K:PySem.W.Frag) (mg:Str->Option Value) (base:Heap) (CX:CXT) (k:Nat) (f:Addr) (fd:FuncData) (ps:List Str) (sp:Sp):Prop where
 len:∀ vs H Q E,sp vs H Q E->vs.length=ps.length
 run:∀ (A:Around) (outer:List Env) (s:Shared) (H:Hp) (args:Args) (us:List Value) (vs:List V) (Q:VK) (E:XK),Room k A->Env0 P w K mg base A outer s H->BindsTo s fd args (ps.zip us)->Vals vs us->sp vs H Q E ->
  codeAny (model P w) A (.call (.ref f) args) (CR CX outer P w H s Q E) s
section
variable {X:Cx} {pins:List ↥7} {σ:St} {H:Hp} {s s':Shared}
theorem Inv.env0 (I:Inv X pins σ H s):Env0 X.prog X.w X.K X.mg X.base X.A X.stack s H :=
 ⟨I.ok.frames,I.ok.mod,I.bs,Nat.le_trans I.ok.bsz I.sz,I.stack,I.stkFree,I.hok,I.bare⟩
theorem Inv.after {Q:VK} {u:Value} (I:Inv X pins σ H s) (h:CE X.stack X.prog X.w H s Q u s'):EP X pins σ Q u s':=by
 obtain ⟨v,H',os,bare,un,hok,r,q⟩:=h
 obtain ⟨hh,g,d,t,os'⟩:=s'
 obtain rfl:os'=s.os:=os
 exact ⟨v,H',I.call (h':=hh) (g':=g) (d':=d) (t':=t) (ch:=[]) un hok bare (fun b z=>absurd z ↥19),r,q⟩
end
def Binds (K:PySem.W.Frag) (fd:FuncData) (ps:List Str) (ds:List Value):Prop :=
 ∀ (s:Shared) (us:List Value),K.In s.heap->(us++ds).length=ps.length->BindsTo s fd ⟨us,[]⟩ (ps.zip (us++ds))
theorem Binds.all {K:PySem.W.Frag} {fd:FuncData} {ps:List Str} (h:∀ us:List Value,us.length=ps.length->bindArgs fd ⟨us,[]⟩=pure (ps.zip us)):Binds K fd ps []:=fun s us _ hl=>by
 rw [List.append_nil] at hl ⊢
 exact .of_eq (h us hl)
section
variable {X:Cx} {CX:CXT} {k:Nat} {f C:Addr} {fd:FuncData} {ps:List Str} {sp:Sp} {dvs:List V} {ds:List Value} {E:XK} {x m:Str} {p pos apos:Pos} {e o:Expr} {es:List Expr} {ta:TE} {t:TA}
structure Mk (K:PySem.W.Frag) (C f:Addr):Prop where
 makes:PySem.W.makesIn K C=true
 init:PySem.W.findIn K (.ref C) "__init__"=some (some (.ref f))
 fn:PySem.W.isFn K (.ref f)=true
 kp:PySem.W.keepIn K (.ref C)=true
end
section
variable {X:Cx} {CX:CXT} {k:Nat} {f C:Addr} {fd:FuncData} {ps ks:List Str} {sp:Sp} {E:XK} {x m:Str} {p pos apos kpos:Pos} {e o:Expr} {es:List Expr} {kws:List Keyword} {te ta:TE} {t tk:TA} {nm:Option Str}
structure KBinds (K:PySem.W.Frag) (fd:FuncData) (ps ks:List Str) (g:List Value->List Value->List Value) (gV:List V->List V->List V):Prop where
 to:∀ (s:Shared) (us ws:List Value),K.In s.heap->(g us ws).length=ps.length->BindsTo s fd ⟨us,ks.zip ws⟩ (ps.zip (g us ws))
 rel:∀ {vs:List V} {us:List Value} {zs:List V} {ws:List Value},Vals vs us->Vals zs ws->Vals (gV vs zs) (g us ws)
variable {g:List Value->List Value->List Value} {gV:List V->List V->List V}
end
structure FnScope (N P:List Str) (sc:Scope):Prop where
 kind:sc.kind=.function
 co:sc.isCoroutine=false
 gen:sc.isGenerator=false
 nd:N.Nodup
 pre:N.take P.length=P
 par:∀ x∈P,sc.names.lookup x=some .local\/sc.names.lookup x=some .cell
 nofree:∀ y∈sc.names,y.2 ≠ .free
theorem lV {kindOf:Str->Option NameKind} {x:Str}:∀ {binds:List (Str×Value)} {m:Str->Option Value},(∀ v,(x,v)∉binds)->bindL kindOf binds m x=m x
 | [],_,_=>rfl
 | (n,v)::r,m,h=>by
  unfold bindL
  rw [lV fun w hw=>h w (List.mem_cons_of_mem _ hw)]
  split
  ·have:x≠n:=by rintro rfl;exact h v List.mem_cons_self
   simp [this]
  ·rfl
theorem lX {kindOf:Str->Option NameKind} {x:Str}:∀ {binds:List (Str×Value)} {m:Str->Option Value},(∀ v,(x,v)∉binds)->bindC kindOf binds m x=m x
 | [],_,_=>rfl
 | (n,v)::r,m,h=>by
  unfold bindC
  rw [lX fun w hw=>h w (List.mem_cons_of_mem _ hw)]
  split
  ·rfl
  ·have:x≠n:=by rintro rfl;exact h v List.mem_cons_self
   simp [this]
theorem lW {kindOf:Str->Option NameKind} {x:Str} {v:Value}:∀ {P:List Str} {vs:List Value} {i:Nat} {m:Str->Option Value},P.Nodup->P[i]? = some x->vs[i]? = some v->kindOf x=some .local ->
  bindL kindOf (P.zip vs) m x=some v
 | [],_,_,_,_,h,_,_=>by simp at h
 | _::_,[],_,_,_,_,h,_=>by simp at h
 | p::P,w::vs,0,m,nd,h1,h2,hk=>by
  simp at h1 h2;subst h1;subst h2
  show bindL kindOf ((p,w)::P.zip vs) m p=_
  unfold bindL
  rw [lV fun v hv=>(List.nodup_cons.mp nd).1 (List.of_mem_zip hv).1,if_pos hk]
  simp
 | p::P,w::vs,i+1,m,nd,h1,h2,hk=>by
  show bindL kindOf ((p,w)::P.zip vs) m x=_
  unfold bindL
  exact lW (i:=i) (List.nodup_cons.mp nd).2 (by simpa using h1) (by simpa using h2) hk
theorem lY {kindOf:Str->Option NameKind} {x:Str} {v:Value}:∀ {P:List Str} {vs:List Value} {i:Nat} {m:Str->Option Value},P.Nodup->P[i]? = some x->vs[i]? = some v->kindOf x≠some .local ->
  bindC kindOf (P.zip vs) m x=some v
 | [],_,_,_,_,h,_,_=>by simp at h
 | _::_,[],_,_,_,_,h,_=>by simp at h
 | p::P,w::vs,0,m,nd,h1,h2,hk=>by
  simp at h1 h2;subst h1;subst h2
  show bindC kindOf ((p,w)::P.zip vs) m p=_
  unfold bindC
  rw [lX fun v hv=>(List.nodup_cons.mp nd).1 (List.of_mem_zip hv).1,if_neg hk]
  simp
 | p::P,w::vs,i+1,m,nd,h1,h2,hk=>by
  show bindC kindOf ((p,w)::P.zip vs) m x=_
  unfold bindC
  exact lY (i:=i) (List.nodup_cons.mp nd).2 (by simpa using h1) (by simpa using h2) hk
def start (N:List Str) (vs:List V):St:=vs.map some++List.replicate (N.length - vs.length) none
def rQ (CX:CXT) (P:Program) (w:World) (K:PySem.W.Frag) (mg:Str->Option Value) (base:Heap) (N:List Str) (qual:Str) (scope:Scope) (f:Addr) (cd:Value) (A:Around) (outer:List Env) (s:Shared) (H:Hp) (E:XK):Cx where
 prog:=P
 w:=w
 K:=K
 mg:=mg
 base:=base
 A:=A.deeper (envOfC qual scope s.heap.objs.size f cd)
 N:=N
 s₀:=s
 H₀:=H
 env:=envOfC qual scope s.heap.objs.size f cd
 outer:=outer
 stack:=envOfC qual scope s.heap.objs.size f cd::outer
 ex:=[]
 calm:=true
 fn:=fun _=>true
 pn:=[]
 xe:=fun e s'=>wpAny (model P w) (A.deeper (envOfC qual scope s.heap.objs.size f cd)) (leaving (envOfC qual scope s.heap.objs.size f cd) e) (fun _ s''=>CX outer H s E e s'') (fun e' s''=>CX outer H s E e' s'') s'
theorem og {sc:Scope} {n:Nat} {x:Str} (h:sc.names.lookup x=some .cell):∃ c,(cellsFrom n sc.names []).lookup x=some c:=by
 have q:=PySem.W.cellsFrom_some sc.names n [] (.inl h)
 exact Option.isSome_iff_exists.mp q
theorem ri {CX:CXT} {P:Program} {w:World} {K:PySem.W.Frag} {mg:Str->Option Value} {base:Heap} {N ps:List Str} {qual:Str} {scope:Scope} {f:Addr} {cd:Value} {A:Around} {outer:List Env} {s s1:Shared} {H:Hp} {E:XK} {us:List Value} {vs:List V}
  (S:FnScope N ps scope) (hd:A.handled=none) (e0:Env0 P w K mg base A outer s H) (hl:vs.length=ps.length) (r:Vals vs us)
  (x:InCallC s s.heap.objs.size (bindL (envOfC qual scope s.heap.objs.size f cd).kindOf (ps.zip us) fun _=>none) (cellsFrom (s.heap.objs.size+1) scope.names []) (bindC (envOfC qual scope s.heap.objs.size f cd).kindOf (ps.zip us) fun _=>none) s1) :
  Inv (rQ CX P w K mg base N qual scope f cd A outer s H E) [] (start N vs) H s1:=by
 have hpl:ps.length<=N.length:=by have:=congrArg List.length S.pre;rw [List.length_take] at this;omega
 obtain ⟨h1,tk,rfl,hk⟩:=x.done
 have noA:∀ b:Addr,b∉(rQ CX P w K mg base N qual scope f cd A outer s H E).ex:=fun b z=>absurd (show b∈([]:List Addr) from z) ↥19
 refine ⟨⟨e0.mod,S.kind,rfl,rfl,Nat.le_refl _,fun y z c h1 h2 => ?_,fun y hy => ?_,fun y c _ h => ?_,fun _=>hd,Around.frames_deeper e0.frames,.inr ⟨rfl,rfl⟩,fun b z=>absurd z (noA b),e0.bs,e0.bsz,fun b _ _=>noA b,fun b z=>absurd z (noA b),e0.funs,e0.frf⟩,
  rfl,e0.bare,Un.kept hk,⟨_,x.toInCall.ns,fun i y v h1 h2 h3 => ?_⟩,fun y c h=>⟨_,x.cell y c h⟩,e0.hok.fresh ↥30,fun y c h => ?_,fun p hp=>absurd (show p∈([]:List ↥7) from hp) ↥19,e0.hok.kept hk,?_⟩
 ·exact name_of_addr x.apart (PySem.mem_of_lookup h1) (PySem.mem_of_lookup h2)
 ·have hy:scope.names.lookup y=some .cell\/scope.names.lookup y=some .free:=hy
  rcases hy with hy | hy
  ·exact og hy
  ·exact absurd rfl (S.nofree _ (PySem.mem_of_lookup hy))
 ·exact Nat.le_of_lt (x.above y c (PySem.mem_of_lookup h))
 ·have hi:i<vs.length:=by
   unfold start at h2
   by_cases hi:i<vs.length
   ·exact hi
   ·rw [List.getElem?_append_right (by simpa using hi)] at h2
    rw [List.getElem?_replicate] at h2
    split at h2<;>cases h2
  have ha:vs[i]? = some v:=by
   unfold start at h2
   rw [List.getElem?_append_left (by simpa using hi),List.getElem?_map] at h2
   cases e:vs[i]? with
   | none=>rw [e] at h2;cases h2
   | some a=>rw [e] at h2;cases h2;rfl
  obtain ⟨u,hu,rv⟩:=r.get ha
  have hp:ps[i]? = some y:=by
   rw [<- S.pre,List.getElem?_take_of_lt ⋯];exact h1
  have ndP:ps.Nodup:=by rw [<- S.pre];exact S.nd.sublist (List.take_sublist _ _)
  refine ⟨u,rv,?_⟩
  rcases S.par y (List.mem_of_getElem? hp) with k | k
  ·exact .inl ⟨k,lW ndP hp hu k⟩
  ·obtain ⟨c,e⟩:=og (n:=s.heap.objs.size+1) k
   refine .inr ⟨.inl k,c,e,?_⟩
   have q:=x.cell y c e
   rw [lY ndP hp hu (by show scope.names.lookup y≠_;rw [k];decide)] at q
   exact q
 ·exact e0.hok.fresh (Nat.le_of_lt (x.above y c (PySem.mem_of_lookup h)))
 ·unfold start
  show _=N.length
  rw [List.length_append,List.length_map,List.length_replicate]
  omega
theorem C2 {CX:CXT} {P:Program} {w:World} {K:PySem.W.Frag} {mg:Str->Option Value} {base:Heap} {k:Nat} {f:Addr} {name qual:Str} {params:Arguments} {body:List Stmt} {scope:Scope} {dV kV doc pm cdv ct oc:Value} {an od:Option Addr}
  {osl:Array ↥37} {N ps:List Str} {sp:Sp} (lk:K.lookup f=some ⟨oc,od,.func (PySem.W.fnOf name qual params body scope dV kV doc pm an cdv ct),osl⟩) (hcd:PySem.W.codeIn K cdv qual=true) (S:FnScope N ps scope)
  (len:∀ vs H Q E,sp vs H Q E->vs.length=ps.length)
  (hbody:∀ (A:Around) (outer:List Env) (s:Shared) (H:Hp) (vs:List V) (Q:VK) (E:XK),Room k (A.deeper (envOfC qual scope s.heap.objs.size f cdv))->sp vs H Q E ->
   ∃ t,PSs (rQ CX P w K mg base N qual scope f cdv A outer s H E) body t/\t { nx:=fun _ H'=>Q .non H',rt:=Q } (start N vs) H) :
  FnOk P w K mg base CX (k+1) f (PySem.W.fnOf name qual params body scope dV kV doc pm an cdv ct) ps sp:=by
 refine ⟨len,fun A outer s H args us vs Q E hr e0 hb r hsp => ?_⟩
 have hl:=len _ _ _ _ hsp
 have KX:K.In s.heap:=e0.mod.kin.keeps fun b o e=>(e0.bs b o e).1
 have lim:s.heap.NoLimit:=e0.mod.nolimit.keeps fun b o e=>(e0.bs b o e).1
 have hkind:∀ y∈ps.zip us,scope.names.lookup y.1=some .local\/(scope.names.lookup y.1=some .cell/\((cellsFrom (s.heap.objs.size+1) scope.names []).lookup y.1).isSome=true):=fun ⟨n,v⟩ hy=>by
  rcases S.par n (List.of_mem_zip hy).1 with q | q
  ·exact .inl q
  ·exact .inr ⟨q,PySem.W.cellsFrom_some _ _ _ (.inl q)⟩
 refine codeAny_call_function hr.depth (KX _ _ lk) rfl S.co S.gen rfl (PySem.W.codeRec_of KX hcd) (hb _ _ _ _ ?_)
 refine wpAny_newFunctionEnv_cells S.kind hkind fun env he s1 x => ?_
 subst he
 refine ⟨lim.keeps x.toInCall.keep,codeAny_func ?_⟩
 obtain ⟨t,ht,hq⟩:=hbody A outer s H vs Q E (hr.deeper _) hsp
 have I:Inv (rQ CX P w K mg base N qual scope f cdv A outer s H E) [] (start N vs) H s1:=ri S hr.hd e0 hl r x
 refine wpAny_mono (ht [] s1 (start N vs) H _ I hq) (fun fl s' hs => ?_) fun e s' hs=>hs
 have fin:∀ {σ':St} {H':Hp} {v:V} {u:Value},Inv (rQ CX P w K mg base N qual scope f cdv A outer s H E) [] σ' H' s'->RelV v u->Q v H'->CE outer P w H s Q u s' :=
  fun {σ' H' v u} J rv q=>⟨v,H',J.os,J.bare,J.base,J.hok,rv,q⟩
 cases fl with
 | ret u =>
  obtain ⟨v,σ',H',J,rv,q⟩:=hs
  exact fin J rv q
 | next =>
  obtain ⟨σ',H',J,q⟩:=hs
  exact fin (v:=V.non) (u:=Value.none) J rfl q
 | brk =>
  obtain ⟨_,_,_,q⟩:=hs
  exact False.elim q
 | cont =>
  obtain ⟨_,_,_,q⟩:=hs
  exact False.elim q
end L2
namespace L2
open PySem PySem.Spec PyProof.Rows
section
variable {X:Cx} {x:Str} {p pos:Pos} {e:Expr} {es:List Expr} {t:TA} {id T:String} {r:List V->Hp->VK->Prop}
def tCB (r:List V->Hp->VK->Prop) (t:TA):TE:=fun σ H Q=>t σ H fun vs H1=>r vs H1 Q
theorem j5 (hc:fJ X (.builtin id) r) (hg:Gl X x) (hm:X.mg x=none) (hv:bootBuiltins x=some (.builtin id)) (ha:PA X (e::es) t) (hn:x≠"__name__":=by decide) (hdb:(x == ("__debug__":Str))=false:=by decide)
  (he:starEach (e::es) X.env=(false,eval e X.env)::starEach es X.env:=by rfl) (hpl:(backTo pos (starEach es X.env)).any (·.1)=false:=by rfl):PE X (.Call (.Name x p) (e::es) [] pos) (tCB r t):=by
 intro pins s σ H Q I h
 refine wpAny_Call_Name_kw (jB I hg hm hv ?_ hn hdb)
 exact PyProof.Rows.callWith_builtin1 (thn (ha pos pins s σ H _ I h) fun us s1 ⟨vs,H1,I1,r1,q1⟩=>hc pins s1 σ H1 vs us Q I1 r1 q1) he hpl
theorem qq (hc:fJ X (.type T) r) (hg:Gl X x) (hm:X.mg x=none) (hv:bootBuiltins x=some (.type T)) (ha:PA X (e::es) t) (hn:x≠"__name__":=by decide) (hdb:(x == ("__debug__":Str))=false:=by decide)
  (he:starEach (e::es) X.env=(false,eval e X.env)::starEach es X.env:=by rfl) (hpl:(backTo pos (starEach es X.env)).any (·.1)=false:=by rfl):PE X (.Call (.Name x p) (e::es) [] pos) (tCB r t):=by
 intro pins s σ H Q I h
 refine wpAny_Call_Name_kw (jB I hg hm hv ?_ hn hdb)
 exact PyProof.Rows.callWith_type1 (thn (ha pos pins s σ H _ I h) fun us s1 ⟨vs,H1,I1,r1,q1⟩=>hc pins s1 σ H1 vs us Q I1 r1 q1) he hpl
end
end L2
namespace HT
open PySem PyProof.Rows
section
open PySem.SeqAt
open PySem.AutoSeq1 (wpAny_loadPart')
open PySem.MeetsSeq PySem.MeetsSeq2 PySem.MeetsSeq3
end
section
variable {prog:Program} {w:World} {A:Around} {E:Value->Shared->Prop} {s:Shared}
theorem zZ {t b:Addr} {vs ws:List Value} {Q:Value->Shared->Prop} (ht:IsTup s.heap t vs.toArray) (hb:IsTup s.heap b ws.toArray) (hv:vs≠[])
  (h1:ws=[]->Q (.ref t) s) (h2:ws≠[]->Q (.ref s.heap.objs.size) { s with heap:=s.heap.push { cls:=.type "tuple",data:=.seq (vs++ws).toArray } })
  (hsz:vs.length+ws.length<=sizeLine):wpAny ↥32 A (binaryOp .Add (.ref t) (.ref b)) Q E s:=by
 obtain ⟨⟨cls,dd,data,sl⟩,ho,hc,n,hd⟩:=id ht
 obtain ⟨⟨cls2,dd2,data2,sl2⟩,ho2,hc2,n2,hd2⟩:=id hb
 simp only at hc hd hc2 hd2
 subst hc hd hc2 hd2
 have e:vs.toArray++ws.toArray=(vs++ws).toArray:=by simp
 by_cases hw:ws=[]
 ·exact concat_meets ⟨_,ho,rfl⟩ ⟨_,ho2,rfl⟩ noFill_tuple_add seq_tuple_add PySem.F.slot_tuple_add PySem.F.entry_tuple_add (PySem.F.args_tuple_add_2 _ _)
   (tuple_addW1 t b vs.toArray ws.toArray n n2 dd dd2 sl sl2 (by simpa using hv) (by simp [hw])) ⟨ho,ho2,h1 hw⟩
 ·refine concat_meets ⟨_,ho,rfl⟩ ⟨_,ho2,rfl⟩ noFill_tuple_add seq_tuple_add PySem.F.slot_tuple_add PySem.F.entry_tuple_add (PySem.F.args_tuple_add_2 _ _)
   (tuple_addW2 t b vs.toArray ws.toArray n n2 dd dd2 sl sl2 (by simpa using hv) (by simpa using hw) (by rw [List.size_toArray,List.size_toArray];exact hsz)) ⟨ho,ho2,?_⟩
  rw [e]
  exact h2 hw
def sIx (n d:Nat):Option Int->Nat
 | none=>d
 | some v=>if v<0 then (v+(n:Int)).toNat else min v.toNat n
theorem BA (n d:Nat) (hd:d<=n) (o:Option Int):sIx n d o<=n:=by
 cases o with
 | none=>exact hd
 | some v =>
  show (if v<0 then (v+(n:Int)).toNat else min v.toNat n)<=n
  by_cases hv:v<0
  ·rw [if_pos hv];omega
  ·rw [if_neg hv];exact Nat.min_le_right _ _
theorem rV (v:Int) (n d:Nat):(if v<0 then max (v+(n:Int)) 0 else min v (n:Int))=((sIx n d (some v):Nat):Int):=by
 show (if v<0 then max (v+(n:Int)) 0 else min v (n:Int))=(((if v<0 then (v+(n:Int)).toNat else min v.toNat n):Nat):Int)
 by_cases hv:v<0
 ·simp only [if_pos hv];omega
 ·simp only [if_neg hv];omega
theorem pE (lo hi:Option Int) (n:Nat):Builtin.Slice.sliceAdjust lo hi 1 (n:Int)=(((sIx n 0 lo:Nat):Int),((sIx n n hi:Nat):Int)):=by
 have h1:¬ ((1:Int)<0):=⋯
 unfold Builtin.Slice.sliceAdjust
 simp only [h1,if_false]
 refine Prod.ext ?_ ?_
 ·cases lo with
  | none=>rfl
  | some v=>exact rV v n 0
 ·cases hi with
  | none=>rfl
  | some v=>exact rV v n n
theorem oM (i j:Nat):Builtin.Slice.slicePlaces (i:Int) (j:Int) 1=j - i:=by
 unfold Builtin.Slice.slicePlaces
 have h1:(1:Int)>0:=⋯
 simp only [h1,if_true,Int.ediv_one]
 split<;>omega
theorem jw {v:Value} {o:Option Int} {Q:Option Int->Shared->Prop} (p:IsPart v o) (h:Q o s):wpAny ↥32 A (Builtin.Slice.slicePartIndex v) Q E s:=by
 cases p with
 | none=>exact slicePart_none h
 | int i t=>exact slicePart_int h
theorem gB {sl:Addr} {vl vu:Value} {lo hi:Option Int} {n:Nat} {Q:Int×Int×Nat->Shared->Prop} (hs:s.heap.IsSliceOf sl vl vu .none) (pl:IsPart vl lo) (pu:IsPart vu hi)
  (h:Q (((sIx n 0 lo:Nat):Int),1,sIx n n hi - sIx n 0 lo) s):wpAny ↥32 A (Builtin.Slice.sliceApplied (.ref sl) (pure (n:Int))) Q E s:=by
 obtain ⟨os,hos,hcs,hds⟩:=id hs
 unfold Builtin.Slice.sliceApplied Builtin.Slice.sliceFields
 refine wpAny_bind (wpAny_bind (wpAny_field hos hds (x:=vl) rfl (wpAny_bind (wpAny_field hos hds (x:=vu) rfl (wpAny_bind (wpAny_field hos hds (x:=.none) rfl (wpAny_pure ?_)))))))
 refine wpAny_bind (slicePart_none ?_)
 show wpAny _ _ (if ((1:Int) == 0)=true then _ else _) _ _ s
 rw [if_neg ↥0]
 refine wpAny_bind (jw pl (wpAny_bind (jw pu (wpAny_bind (wpAny_pure ?_)))))
 show wpAny _ _ (match Builtin.Slice.sliceAdjust lo hi 1 (n:Int) with | (lo,hi)=>pure (lo,(1:Int),Builtin.Slice.slicePlaces lo hi 1)) _ _ s
 rw [pE lo hi n]
 show wpAny _ _ (pure (((sIx n 0 lo:Nat):Int),(1:Int),Builtin.Slice.slicePlaces ((sIx n 0 lo:Nat):Int) ((sIx n n hi:Nat):Int) 1)) _ _ s
 rw [oM]
 exact wpAny_pure h
theorem ud (xs:Array Value) (i k:Nat):((List.range k).filterMap fun (m:Nat)=>xs[((i:Int)+(m:Int)*1).toNat]?).toArray=((xs.toList.drop i).take k).toArray:=by
 have e:(fun (m:Nat)=>xs[((i:Int)+(m:Int)*1).toNat]?)=fun m=>xs[i+m]? := by
  funext m
  have:((i:Int)+(m:Int)*1).toNat=i+m:=⋯
  rw [this]
 rw [e]
 have:=pick_run xs i k
 rw [List.filterMap_map] at this
 have e2:((fun x=>xs[x]?) ∘ fun x=>i+x)=fun m=>xs[i+m]? := rfl
 rw [e2] at this
 rw [this]
theorem fR {t sl:Addr} {items:Array Value} {vl vu:Value} {lo hi:Option Int} {Q:Value->Shared->Prop} (ht:IsTup s.heap t items) (hs:s.heap.IsSliceOf sl vl vu .none) (pl:IsPart vl lo) (pu:IsPart vu hi)
  (hw:¬ (sIx items.size 0 lo=0/\sIx items.size items.size hi=items.size))
  (h:Q (.ref s.heap.objs.size) { s with heap:=s.heap.push { cls:=.type "tuple",data:=.seq ((items.toList.drop (sIx items.size 0 lo)).take (sIx items.size items.size hi - sIx items.size 0 lo)).toArray } })
  (hsz:items.size<=sizeLine):wpAny ↥32 A (getItem (.ref t) (.ref sl)) Q E s:=by
 have htake:sizeOk (.seq ((items.toList.drop (sIx items.size 0 lo)).take (sIx items.size items.size hi - sIx items.size 0 lo)).toArray):=by
  show ((items.toList.drop (sIx items.size 0 lo)).take (sIx items.size items.size hi - sIx items.size 0 lo)).toArray.size<=sizeLine
  rw [List.size_toArray,List.length_take,List.length_drop,Array.length_toList]
  omega
 have hj:sIx items.size items.size hi<=items.size:=BA _ _ ↥30 hi
 obtain ⟨os,hos,hcs,hds⟩:=id hs
 have hTs:s.TypeIs (.ref sl) "slice":=⟨os,hos,hcs⟩
 unfold getItem
 try with_reducible refine wpAny_holding ?_
 first | refine wpAny_bind (wpAny_pure ?_) | skip
 refine wpAny_bind (wpAny_sequenceKey ht.typeIs ↥0 ?_)
 refine wpAny_bind (wpAny_callSpecial?_slot (name:=Str.ofString "__getitem__") ht.typeIs PyProof.Rows.slot_tuple_getitem
  (wpAny_call_entry PyProof.Rows.slot_tuple_getitem ht.typeIs entry_tuple_getitem ?_ (args_tuple_getitem _ _)))
 show wpAny _ _ (Builtin.Tuple.tupleItemsOf (.ref t) >>= _) _ _ s
 refine wpAny_bind (tupleItemsOf_ ht ?_)
 refine wpAny_bind (wpAny_typeOf hTs ?_)
 rw [if_pos ↥0]
 refine wpAny_bind (gB hs pl pu ?_)
 have hno:¬ ((((sIx items.size 0 lo:Nat):Int) == 0&&(1:Int) == 1&&(sIx items.size items.size hi - sIx items.size 0 lo) == items.size)=true):=by
  intro q
  rw [Bool.and_eq_true,Bool.and_eq_true] at q
  have q1:((sIx items.size 0 lo:Nat):Int)=0:=eq_of_beq q.1.1
  have q2:sIx items.size items.size hi - sIx items.size 0 lo=items.size:=eq_of_beq q.2
  exact hw ⟨⋯,⋯⟩
 show wpAny _ _ (if (((sIx items.size 0 lo:Nat):Int) == 0&&(1:Int) == 1&&(sIx items.size items.size hi - sIx items.size 0 lo) == items.size)=true then _ else _) _ _ s
 rw [if_neg hno,ud]
 first
  | exact wpAny_bind (m:=Builtin.Tuple.tupleExact _) (wpAny_newObj_type (wpAny_pure ⟨_,rfl,wpAny_pure h⟩) htake)
  | exact wpAny_bind (m:=Builtin.Tuple.tupleExact _) (wpAny_newObj_type (wpAny_bind (wpAny_pure (wpAny_pure ⟨_,rfl,wpAny_pure h⟩))) htake)
  | exact wpAny_bind (wpAny_bind (m:=Builtin.Tuple.tupleExact _) (wpAny_newObj_type (wpAny_pure (wpAny_pure ⟨_,rfl,wpAny_pure h⟩)) htake))
  | exact wpAny_bind (wpAny_bind (m:=Builtin.Tuple.tupleExact _) (wpAny_newObj_type (wpAny_pure ⟨_,rfl,wpAny_pure h⟩) htake))
end
end HT
namespace L2
open PySem PySem.Spec PyProof.Rows
abbrev TO:=St->Hp->(Option Int->Hp->Prop)->Prop
def PO (X:Cx) (e:Option Expr) (t:TO):Prop :=
 ∀ (pins:List ↥7) (s:Shared) (σ:St) (H:Hp) (Q:Option Int->Hp->Prop),Inv X pins σ H s->t σ H Q ->
  wpAny ↥4 X.A (evalPart e X.env) (fun u s'=>∃ o H',Inv X pins σ H' s'/\IsPart u o/\Q o H') X.xe s
def yd:TO:=fun _ H Q=>Q none H
def Ej (t:TE):TO:=fun σ H Q=>t σ H fun x H1=>∃ i,x=.int i/\Q (some i) H1
section
variable {X:Cx} {e:Expr} {te:TE} {lo hi:Option Expr} {tl th:TO} {pos p2:Pos}
theorem yH:PO X none yd:=by
 intro pins s σ H Q I h
 rw [evalPart_none]
 exact wpAny_pure ⟨none,H,I,.none,h⟩
theorem yG (h:PE X e te):PO X (some e) (Ej te):=by
 intro pins s σ H Q I hw
 rw [evalPart_some]
 refine thn (h pins s σ H _ I hw) fun u s1 ⟨x,H1,I1,r1,q1⟩ => ?_
 obtain ⟨i,rfl,q⟩:=q1
 obtain ⟨t,rfl⟩:=r1
 exact ⟨some i,H1,I1,.int i t,q⟩
def SlR (X:Cx) (r:V->Option Int->Option Int->Hp->VK->Prop):Prop :=
 ∀ (pins:List ↥7) (s:Shared) (σ:St) (H:Hp) (x:V) (v vl vu:Value) (lo hi:Option Int) (sl:Addr) (Q:VK),Inv X pins σ H s->RelV x v->s.heap.IsSliceOf sl vl vu .none->IsPart vl lo->IsPart vu hi->r x lo hi H Q ->
  ∃ T id,typeLookup (.type T) "__getitem__"=pure (some (.builtin id))/\s.TypeIs v T/\wpAny ↥4 X.A (getItem v (.ref sl)) (EP X pins σ Q) X.xe s
def tSl (r:V->Option Int->Option Int->Hp->VK->Prop) (te:TE) (tl th:TO):TE:=fun σ H Q=>te σ H fun x H1=>tl σ H1 fun l H2=>th σ H2 fun u H3=>r x l u H3 Q
theorem nF {r:V->Option Int->Option Int->Hp->VK->Prop} (hr:SlR X r) (he:PE X e te) (hl:PO X lo tl) (hu:PO X hi th):PE X (.Subscript e (.Slice lo hi none p2) pos) (tSl r te tl th):=by
 intro pins s σ H Q I h
 refine Subscript_ (thn (he pins s σ H _ I h) fun v s1 ⟨x,H1,I1,r1,q1⟩ => ?_)
 refine wpAny_Slice (thn (hl pins s1 σ H1 _ I1 q1) fun vl s2 ⟨l,H2,I2,pl,q2⟩=>thn (hu pins s2 σ H2 _ I2 q2) fun vu s3 ⟨u,H3,I3,pu,q3⟩ => ?_)
 rw [evalPart_none]
 refine wpAny_pure ?_
 have I4:Inv X pins σ H3 { s3 with heap:=s3.heap.push { cls:=.type "slice",data:=.fields #[vl,vu,.none] } }:=I3.kept (t':=s3.toks) fun b ob q=>Heap.get?_push_of_some _ q
 obtain ⟨T,id,hT,ht,hg⟩:=hr pins { s3 with heap:=s3.heap.push { cls:=.type "slice",data:=.fields #[vl,vu,.none] } } σ H3 x v vl vu l u s3.heap.objs.size Q I4 r1 (Heap.IsSliceOf.new ..) pl pu q3
 show wpAny ↥4 X.A (subscriptTail e (.Slice lo hi none p2) v (.ref s3.heap.objs.size)) (EP X pins σ Q) X.xe { s3 with heap:=s3.heap.push { cls:=.type "slice",data:=.fields #[vl,vu,.none] } }
 exact tail_any (ops:=[.ref s3.heap.objs.size,v]) ht hT hg (by with_unfolding_all rfl)
def wF (xs:List V) (lo hi:Option Int):List V:=(xs.drop (HT.sIx xs.length 0 lo)).take (HT.sIx xs.length xs.length hi - HT.sIx xs.length 0 lo)
theorem iQ (xs:List V) (lo hi:Option Int):(wF xs lo hi).length<=xs.length:=by
 unfold wF
 rw [List.length_take,List.length_drop]
 omega
def Ik (K:PySem.W.Frag):V->Option Int->Option Int->Hp->VK->Prop:=fun x lo hi H Q=>∃ a xs,x=.ref a/\SqT K H a xs /\
 ¬ (HT.sIx xs.length 0 lo=0/\HT.sIx xs.length xs.length hi=xs.length)/\∀ p,H p=none->Q (.ref p) (upd H p (.tup (wF xs lo hi)))
theorem Bu:SlR X (Ik X.K):=by
 intro pins s σ H x v vl vu lo hi sl Q I rx hs pl pu h
 obtain ⟨a,xs,rfl,hx,hw,q⟩:=h
 cases rx
 obtain ⟨its,r,ht,hz⟩:=I.tuple hx
 have hlen:its.toArray.size=xs.length:=by rw [List.size_toArray];exact r.length.symm
 refine ⟨"tuple",_,PyProof.Rows.slot_tuple_getitem.lookup,ht.typeIs,?_⟩
 refine HT.fR ht hs pl pu (by rw [hlen];exact hw) ?_ (by rw [hlen];exact hz)
 rw [hlen]
 refine ⟨.ref s.heap.objs.size,_,I.laid (t':=s.toks) (o:=.tup (wF xs lo hi)) (fun b ob q=>Heap.get?_push_of_some _ q) ↥30 ?_,rfl,q _ (I.hok.fresh ↥30)⟩
 exact ⟨Nat.le_trans (iQ xs lo hi) hz,_,(r.drop (HT.sIx xs.length 0 lo)).take (HT.sIx xs.length xs.length hi - HT.sIx xs.length 0 lo),IsTup.new _ _⟩
def EA (K:PySem.W.Frag):R2:=fun x y H Q=>∃ a b xs ys,x=.ref a/\y=.ref b/\SqT K H a xs/\SqT K H b ys/\xs≠[]/\xs.length+ys.length<=sizeLine /\
 (ys=[]->Q (.ref a) H)/\(ys≠[]->∀ p,H p=none->Q (.ref p) (upd H p (.tup (xs++ys))))
theorem Vals.nil_iff {xs:List V} {us:List Value} (r:Vals xs us):us=[]↔xs=[]:=by
 cases r with
 | nil=>simp
 | cons _ _=>simp
theorem yZ:OpR X (binaryOp .Add) (EA X.K):=by
 intro pins s σ H x y v u Q I rx ry h
 obtain ⟨a,b,xs,ys,rfl,rfl,ha,hb,hx,hz,q1,q2⟩:=h
 cases rx
 cases ry
 obtain ⟨its,r1,p1,_⟩:=I.tuple ha
 obtain ⟨its2,r2,p2,_⟩:=I.tuple hb
 refine HT.zZ p1 p2 (fun z=>hx (r1.nil_iff.mp z)) (fun z=>⟨.ref a,H,I,rfl,q1 (r2.nil_iff.mp z)⟩) (fun z => ?_) (by rw [<- r1.length,<-r2.length];exact hz)
 refine ⟨.ref s.heap.objs.size,_,I.laid (t':=s.toks) (o:=.tup (xs++ys)) (fun b ob q=>Heap.get?_push_of_some _ q) ↥30 ?_,rfl,q2 (fun w=>z (r2.nil_iff.mpr w)) _ (I.hok.fresh ↥30)⟩
 exact ⟨by rw [List.length_append];exact hz,_,r1.append r2,IsTup.new _ _⟩
end
end L2
namespace L2
open PySem PySem.Spec PyProof.Rows
def ixN (n:Nat) (i:Int):Option Nat:=if 0<=i then (if i<n then some i.toNat else none) else if -(n:Int)<=i then some (i+n).toNat else none
def atI {α:Type} (xs:List α) (i:Int):Option α:=(ixN xs.length i).bind fun j=>xs[j]?
theorem zG {n:Nat} {i:Int} {j:Nat} (h:ixN n i=some j):seqIndex? i n=some j/\j<n /\ -(n:Int)<=i/\i<n:=by
 unfold ixN at h
 by_cases h0:0<=i
 ·rw [if_pos h0] at h
  by_cases h1:i<n
  ·rw [if_pos h1] at h
   have e:i.toNat=j:=Option.some.inj h
   exact ⟨by rw [seqIndex_of h0 h1,e],⋯,⋯,h1⟩
  ·rw [if_neg h1] at h;cases h
 ·rw [if_neg h0] at h
  by_cases h1 : -(n:Int)<=i
  ·rw [if_pos h1] at h
   have e:(i+n).toNat=j:=Option.some.inj h
   exact ⟨by rw [seqIndex_neg ⋯ h1,e],⋯,h1,⋯⟩
  ·rw [if_neg h1] at h;cases h
theorem m4 {α:Type} {xs:List α} {i:Int} {v:α} (h:atI xs i=some v):∃ j,seqIndex? i xs.length=some j/\xs[j]? = some v/\j<xs.length /\ -(xs.length:Int)<=i/\i<xs.length:=by
 unfold atI at h
 cases e:ixN xs.length i with
 | none=>rw [e] at h;cases h
 | some j =>
  rw [e] at h
  obtain ⟨h1,h2,h3,h4⟩:=zG e
  exact ⟨j,h1,h,h2,h3,h4⟩
def m5 (b:Expr):Prop:=∀ o i,subscripted b false o i=operate [o,i] (getItem o i)
def IxR (X:Cx) (r:R2):Prop :=
 ∀ (value slice:Expr) (pins:List ↥7) (s:Shared) (σ:St) (H:Hp) (x y:V) (v u:Value) (Q:VK),Inv X pins σ H s->RelV x v->RelV y u->r x y H Q ->
  subscripted slice false v u=operate [v,u] (getItem v u)->wpAny ↥4 X.A (subscriptTail value slice v u) (EP X pins σ Q) X.xe s
def MtR (X:Cx) (id:String) (r:V->List V->Hp->VK->Prop):Prop :=
 ∀ (pins:List ↥7) (s:Shared) (σ:St) (H:Hp) (x:V) (xs:List V) (v:Value) (us:List Value) (Q:VK),Inv X pins σ H s->RelV x v->Vals xs us->r x xs H Q ->
  wpAny ↥4 X.A (call (.builtin id) (v::us)) (EP X pins σ Q) X.xe s
section
variable {X:Cx} {a b:Expr} {ta tb:TE} {pos:Pos}
theorem EG {r:R2} (hr:IxR X r) (ha:PE X a ta) (hb:PE X b tb) (hs:m5 b):PE X (.Subscript a b pos) (tOp r ta tb):=by
 intro pins s σ H Q I h
 exact Subscript_ (Fl ha hb I h fun v u s2 x y H2 I2 rx ry q=>hr a b pins s2 σ H2 x y v u Q I2 rx ry q (hs _ _))
def Ip (K:PySem.W.Frag):R2:=fun x y H Q=>∃ p xs i v,x=.ref p/\y=.int i/\SqL K H p xs/\atI xs i=some v/\Q v H
def Im (K:PySem.W.Frag):R2:=fun x y H Q=>∃ p xs i v,x=.ref p/\y=.int i/\SqT K H p xs/\atI xs i=some v/\Q v H
def Io:R2:=fun x y H Q=>∃ z i c,x=.str z/\y=.int i/\z.length<=sizeLine/\atI z.cps.toList i=some c/\Q (.str ⟨#[c]⟩) H
theorem zF:IxR X (Ip X.K):=by
 intro value slice pins s σ H x y v u Q I rx ry h hs
 obtain ⟨p,xs,i,z,rfl,rfl,hq,he,q⟩:=h
 cases rx
 obtain ⟨t,rfl⟩:=ry
 obtain ⟨its,r,pl,hz⟩:=I.list hq
 obtain ⟨j,h1,h2,h3,h4,h5⟩:=m4 he
 obtain ⟨w,ew,rw'⟩:=r.get h2
 have hl:=r.length
 have hn:=lB
 have fin:EP X pins σ Q w s:=⟨z,H,I,rw',q⟩
 by_cases h0:0<=i
 ·have hj:i.toNat=j:=by
   rw [seqIndex_of h0 h5] at h1
   exact Option.some.inj h1
  exact item_listR pl.isList h0 ⋯ (by rw [hj];simpa using ew) fin hs
 ·have hj:(i+(its.toArray.size:Int)).toNat=j:=by
   rw [seqIndex_neg ⋯ h4] at h1
   rw [List.size_toArray,<-hl]
   exact Option.some.inj h1
  exact subscriptTail_builtinR (x:=w) pl.isList.typeIs slot_list_getitem.lookup
   (wpAny_getItem_list_neg (Q:=fun r s'=>r=w/\EP X pins σ Q r s') pl.isList ⋯ (by rw [List.size_toArray]<;>omega) ⋯ (by rw [hj];simpa using ew) ⟨rfl,fin⟩) hs
theorem jD:IxR X (Im X.K):=by
 intro value slice pins s σ H x y v u Q I rx ry h hs
 obtain ⟨p,xs,i,z,rfl,rfl,hq,he,q⟩:=h
 cases rx
 obtain ⟨t,rfl⟩:=ry
 obtain ⟨its,r,pl,hz⟩:=I.tuple hq
 obtain ⟨j,h1,h2,h3,h4,h5⟩:=m4 he
 obtain ⟨w,ew,rw'⟩:=r.get h2
 have hl:=r.length
 have hn:=lB
 have fin:EP X pins σ Q w s:=⟨z,H,I,rw',q⟩
 exact subscriptTail_builtinR (x:=w) pl.typeIs slot_tuple_getitem.lookup
  (getItem_tuple (j:=j) (Q:=fun r s'=>r=w/\EP X pins σ Q r s') pl ⋯ ⋯ (by rw [List.size_toArray,<-hl];exact h1) (by simpa using ew) ⟨rfl,fin⟩) hs
theorem wc:IxR X Io:=by
 intro value slice pins s σ H x y v u Q I rx ry h hs
 obtain ⟨z,i,c,rfl,rfl,hz,he,q⟩:=h
 obtain ⟨t,rfl⟩:=rx
 obtain ⟨t',rfl⟩:=ry
 obtain ⟨j,h1,h2,h3,h4,h5⟩:=m4 he
 have hl:z.cps.toList.length=z.length:=by simp [Str.length]
 rw [hl] at h1 h4 h5
 have hn:=lB
 exact tail_any (typeIs_str s z t) slot_str_getitem.lookup (getItem_str (c:=c) (by
  have e1:decide (i < -(2^63:Int))=false:=decide_eq_false ⋯
  have e2:decide (i>=2^63)=false:=decide_eq_false ⋯
  rw [e1,e2,Bool.or_false]) (by rw [h1];simpa using h2) ⟨.str ⟨#[c]⟩,H,I.tok _,⟨_,rfl⟩,q⟩) hs
theorem kW (lo hi:Option Int) (n:Nat):(sliceBounds lo hi none n).1=((HT.sIx n 0 lo:Nat):Int)/\(sliceBounds lo hi none n).2.1=((HT.sIx n n hi:Nat):Int)/\(sliceBounds lo hi none n).2.2=1:=by
 refine ⟨?_,?_,rfl⟩
 ·cases lo with
  | none=>simp [sliceBounds,HT.sIx]
  | some i =>
   simp only [sliceBounds,HT.sIx,Option.getD_none,show (1:Int)>0 by decide,if_true]
   by_cases h:i<0
   ·simp only [h,if_true]<;>omega
   ·simp only [h,if_false]<;>omega
 ·cases hi with
  | none=>simp [sliceBounds,HT.sIx]
  | some i =>
   simp only [sliceBounds,HT.sIx,Option.getD_none,show (1:Int)>0 by decide,if_true]
   by_cases h:i<0
   ·simp only [h,if_true]<;>omega
   ·simp only [h,if_false]<;>omega
theorem jV (its:List Value) (lo hi:Option Int):slicePick its.toArray lo hi none=((its.drop (HT.sIx its.length 0 lo)).take (HT.sIx its.length its.length hi - HT.sIx its.length 0 lo)).toArray:=by
 obtain ⟨h1,h2,h3⟩:=kW lo hi its.toArray.size
 unfold slicePick
 rw [h1,h2,h3]
 simp only [sliceRange_one,pick_run,List.size_toArray]<;>rfl
def Il (K:PySem.W.Frag):V->Option Int->Option Int->Hp->VK->Prop:=fun x lo hi H Q=>∃ a xs,x=.ref a/\SqL K H a xs/\∀ p,H p=none->Q (.ref p) (upd H p (.lst (wF xs lo hi)))
theorem yo:SlR X (Il X.K):=by
 intro pins s σ H x v vl vu lo hi sl Q I rx hs pl pu h
 obtain ⟨a,xs,rfl,hx,q⟩:=h
 cases rx
 obtain ⟨its,r,ht,hz⟩:=I.list hx
 have hlen:=r.length
 refine ⟨"list",_,slot_list_getitem.lookup,ht.isList.typeIs,?_⟩
 refine wpAny_getItem_list_slice ht.isList hs pl pu .none ↥19 ?_ (by rw [List.size_toArray]<;>omega)
 rw [jV,<-hlen]
 refine ⟨.ref s.heap.objs.size,_,I.laid (t':=s.toks) (o:=.lst (wF xs lo hi)) (fun b ob q=>Heap.get?_push_of_some _ q) ↥30 ?_,rfl,q _ (I.hok.fresh ↥30)⟩
 exact ⟨Nat.le_trans (iQ xs lo hi) hz,_,0,(r.drop (HT.sIx xs.length 0 lo)).take (HT.sIx xs.length xs.length hi - HT.sIx xs.length 0 lo),Heap.get?_push_size _ rfl⟩
def jj:V->Bool
 | .non=>true
 | .bl _=>true
 | .int _=>true
 | .str _=>true
 | _=>false
def eqV:V->V->Bool
 | .non,.non=>true
 | .bl a,.bl b=>a == b
 | .bl a,.int b=>(if a then 1 else 0) == b
 | .int a,.bl b=>a == (if b then 1 else 0)
 | .int a,.int b=>a == b
 | .str a,.str b=>a == b
 | _,_=>false
theorem C6 {A:Around} {s:Shared} {y x:V} {u v:Value} (ry:RelV y u) (rx:RelV x v) (fy:jj y=true) (fx:jj x=true):SeqAt.EqAt A s u v (eqV y x):=by
 cases y with
 | non =>
  cases ry
  cases x with
  | non=>cases rx;exact SeqAt.EqAt.same _
  | bl b=>cases rx;exact SeqAt.EqAt.none_bool b
  | int b=>obtain ⟨t,rfl⟩:=rx;exact SeqAt.EqAt.none_int b t
  | str b=>obtain ⟨t,rfl⟩:=rx;exact SeqAt.EqAt.none_str b t
  | _=>exact absurd (show false=true from fx) Bool.false_ne_true
 | bl a =>
  cases ry
  cases x with
  | non=>cases rx;exact SeqAt.EqAt.bool_none a
  | bl b=>cases rx;exact SeqAt.EqAt.bool_bool a b
  | int b=>obtain ⟨t,rfl⟩:=rx;exact SeqAt.EqAt.bool_int a b t
  | str b=>obtain ⟨t,rfl⟩:=rx;exact SeqAt.EqAt.bool_str a b t
  | _=>exact absurd (show false=true from fx) Bool.false_ne_true
 | int a =>
  obtain ⟨t',rfl⟩:=ry
  cases x with
  | non=>cases rx;exact SeqAt.EqAt.int_none a t'
  | bl b=>cases rx;exact SeqAt.EqAt.int_bool a t' b
  | int b=>obtain ⟨t,rfl⟩:=rx;exact SeqAt.EqAt.int_int a t' b t
  | str b=>obtain ⟨t,rfl⟩:=rx;exact SeqAt.EqAt.int_str a t' b t
  | _=>exact absurd (show false=true from fx) Bool.false_ne_true
 | str a =>
  obtain ⟨t',rfl⟩:=ry
  cases x with
  | non=>cases rx;exact SeqAt.EqAt.str_none a t'
  | bl b=>cases rx;exact SeqAt.EqAt.str_bool a t' b
  | int b=>obtain ⟨t,rfl⟩:=rx;exact SeqAt.EqAt.str_int a t' b t
  | str b=>obtain ⟨t,rfl⟩:=rx;exact SeqAt.EqAt.str_str a t' b t
  | _=>exact absurd (show false=true from fx) Bool.false_ne_true
 | _=>exact absurd (show false=true from fy) Bool.false_ne_true
def eqU (x:V) (u:Value):Bool:=match u with
 | .none=>eqV .non x
 | .bool b=>eqV (.bl b) x
 | .int i _=>eqV (.int i) x
 | .str z _=>eqV (.str z) x
 | _=>false
theorem wx {x y:V} {u:Value} (r:RelV y u) (f:jj y=true):eqU x u=eqV y x:=by
 cases y with
 | non=>cases r;rfl
 | bl b=>cases r;rfl
 | int i=>obtain ⟨t,rfl⟩:=r;rfl
 | str z=>obtain ⟨t,rfl⟩:=r;rfl
 | _=>exact absurd (show false=true from f) Bool.false_ne_true
theorem iX {x:V}:∀ {xs:List V} {us:List Value},Vals xs us->xs.all jj=true->us.any (eqU x)=xs.any fun y=>eqV y x
 | _,_,.nil,_=>rfl
 | y::xs,u::us,.cons r t,f=>by
  rw [List.all_cons,Bool.and_eq_true] at f
  rw [List.any_cons,List.any_cons,wx r f.1,iX t f.2]
theorem eZ {A:Around} {s:Shared} {x:V} {v:Value} (rx:RelV x v) (fx:jj x=true):∀ {xs:List V} {us:List Value},Vals xs us->xs.all jj=true->∀ u∈us,SeqAt.EqAt A s u v (eqU x u)
 | _,_,.nil,_=>fun u hu=>by cases hu
 | y::xs,u::us,.cons r t,f=>fun u' hu=>by
  rw [List.all_cons,Bool.and_eq_true] at f
  rcases List.mem_cons.mp hu with rfl | hu
  ·rw [wx r f.1];exact C6 r rx f.1 fx
  ·exact eZ rx fx t f.2 u' hu
def inV (x:V) (xs:List V):Bool:=xs.any fun y=>eqV y x
def rIn (K:PySem.W.Frag) (neg:Bool):R2:=fun x y H Q=>∃ p xs,y=.ref p/\(SqL K H p xs\/SqT K H p xs)/\jj x=true/\xs.all jj=true/\Q (.bl (if neg then !inV x xs else inV x xs)) H
theorem qw:OpR X (compareOp .In) (rIn X.K false):=by
 intro pins s σ H x y v u Q I rx ry h
 obtain ⟨p,xs,rfl,hq,fx,fs,q⟩:=h
 cases ry
 rcases hq with hq | hq
 ·obtain ⟨its,r,pl,hz⟩:=I.list hq
  refine SeqAt.in_listAt (eqU x) pl.isList (fun w hw=>eZ rx fx r fs w (by simpa using hw)) ⟨.bl _,H,I,rfl,?_⟩
  rw [show its.toArray.any (eqU x)=its.any (eqU x) by simp,iX r fs]
  exact q
 ·obtain ⟨its,r,pl,hz⟩:=I.tuple hq
  refine SeqAt.in_tupleAt (eqU x) pl (fun w hw=>eZ rx fx r fs w (by simpa using hw)) ⟨.bl _,H,I,rfl,?_⟩
  rw [show its.toArray.any (eqU x)=its.any (eqU x) by simp,iX r fs]
  exact q
theorem lh:OpR X (compareOp .NotIn) (rIn X.K true):=by
 intro pins s σ H x y v u Q I rx ry h
 obtain ⟨p,xs,rfl,hq,fx,fs,q⟩:=h
 cases ry
 rcases hq with hq | hq
 ·obtain ⟨its,r,pl,hz⟩:=I.list hq
  refine SeqAt.notIn_listAt (eqU x) pl.isList (fun w hw=>eZ rx fx r fs w (by simpa using hw)) ⟨.bl _,H,I,rfl,?_⟩
  rw [show its.toArray.any (eqU x)=its.any (eqU x) by simp,iX r fs]
  exact q
 ·obtain ⟨its,r,pl,hz⟩:=I.tuple hq
  refine SeqAt.notIn_tupleAt (eqU x) pl (fun w hw=>eZ rx fx r fs w (by simpa using hw)) ⟨.bl _,H,I,rfl,?_⟩
  rw [show its.toArray.any (eqU x)=its.any (eqU x) by simp,iX r fs]
  exact q
theorem lg:OpR X (compareOp .NotIn) (fun x y H Q=>∃ i j,x=.str i/\y=.str j/\Q (.bl (!(!(Builtin.Str.occurrences j i 0 j.length 1).isEmpty))) H):=by
 intro pins s σ H x y v u Q I rx ry h
 obtain ⟨i,j,rfl,rfl,q⟩:=h
 obtain ⟨t,rfl⟩:=rx
 obtain ⟨t',rfl⟩:=ry
 exact notIn_str ⟨.bl _,H,I,rfl,q⟩
theorem gp:fJ X (.builtin "len") (fun xs H Q=>∃ p ys,xs=[.ref p]/\(SqL X.K H p ys\/SqT X.K H p ys)/\Q (.int ys.length) H):=by
 intro pins s σ H xs us Q I r h
 obtain ⟨p,ys,rfl,hq,q⟩:=h
 obtain ⟨u,rfl,rx⟩:=vals1 r
 cases rx
 have hn:=lB
 rcases hq with hq | hq
 ·obtain ⟨its,r',pl,hz⟩:=I.list hq
  have hlen:=r'.length
  exact Calls.call_len_list pl.isList (by simp only [List.size_toArray]<;>omega) ⟨.int ys.length,H,I.tok _,⟨s.toks+1,by rw [List.size_toArray,hlen]⟩,q⟩
 ·obtain ⟨its,r',pl,hz⟩:=I.tuple hq
  have hlen:=r'.length
  exact len_tuple pl (by simp only [List.size_toArray]<;>omega) ⟨.int ys.length,H,I.tok _,⟨s.toks+1,by rw [List.size_toArray,hlen]⟩,q⟩
theorem lS:fJ X (.builtin "len") (fun xs H Q=>∃ z,xs=[.str z]/\z.length<=sizeLine/\Q (.int z.length) H):=by
 intro pins s σ H xs us Q I r h
 obtain ⟨z,rfl,hz,q⟩:=h
 obtain ⟨u,rfl,t,rfl⟩:=vals1 r
 have hn:=lB
 exact len_str ⋯ ⟨.int z.length,H,I.tok _,⟨_,rfl⟩,q⟩
def tyV (K:PySem.W.Frag) (T:String) (x:V) (H:Hp):Prop:=match x with
 | .str _=>T="str"
 | .int _=>T="int"
 | .ref p=>(T="list"/\∃ xs,SqL K H p xs)\/(T="tuple"/\∃ o,K.lookup p=some o/\o.cls=.type "tuple"/\o.dict=none) \/
   (T="dict"/\((∃ kvs,H p=some (.dK kvs))\/∃ kvs,H p=some (.dT kvs)))\/(T="set"/\∃ S n,H p=some (.set S n))
 | _=>False
theorem vF {pins:List ↥7} {σ:St} {H:Hp} {s:Shared} {T:String} {x:V} {v:Value} (I:Inv X pins σ H s) (r:RelV x v) (ty:tyV X.K T x H) :
  s.TypeIs v T/\∀ a,v=.ref a->∃ ob,s.heap.get? a=some ob/\ob.dict=none:=by
 cases x with
 | str z =>
  obtain ⟨t,rfl⟩:=r
  cases (show T="str" from ty)
  exact ⟨typeIs_str s z t,fun _ e=>nomatch e⟩
 | int i =>
  obtain ⟨t,rfl⟩:=r
  cases (show T="int" from ty)
  exact ⟨typeIs_int s i t,fun _ e=>nomatch e⟩
 | ref p =>
  cases r
  rcases ty with ⟨rfl,xs,hq⟩ | ⟨rfl,o,hk,hc,hd⟩ | ⟨rfl,hk⟩ | ⟨rfl,S,n,hk⟩
  ·obtain ⟨its,_,pl,_⟩:=I.list hq
   refine ⟨pl.isList.typeIs,fun a e => ?_⟩
   cases e
   obtain ⟨o,n,e,c,hd,_⟩:=pl
   exact ⟨o,e,hd⟩
  ·refine ⟨⟨o,I.kIn p o hk,hc⟩,fun a e => ?_⟩
   cases e
   exact ⟨o,I.kIn _ o hk,hd⟩
  ·have z:∃ o,s.heap.get? p=some o/\o.ExactDict:=by
    rcases hk with ⟨kvs,hk⟩ | ⟨kvs,hk⟩
    ·obtain ⟨_,_,_,_,o,_,_,e,ex,_⟩:=I.hok p _ hk
     exact ⟨o,e,ex⟩
    ·obtain ⟨_,_,_,_,o,_,_,e,ex,_⟩:=I.hok p _ hk
     exact ⟨o,e,ex⟩
   obtain ⟨o,e,ex⟩:=z
   refine ⟨⟨o,e,ex.1⟩,fun a e2 => ?_⟩
   cases e2
   exact ⟨o,e,ex.2.1⟩
  ·obtain ⟨o,_,_,_,e,ex,_⟩:=I.hok p _ hk
   refine ⟨⟨o,e,ex.1⟩,fun a e2 => ?_⟩
   cases e2
   exact ⟨o,e,ex.2.1⟩
 | _=>exact False.elim ty
def Ia (K:PySem.W.Frag) (T:String) (r:V->List V->Hp->VK->Prop) (to:TE):TE:=fun σ H Q=>to σ H fun x H1=>tyV K T x H1/\r x [] H1 Q
def tBM (K:PySem.W.Frag) (T:String) (r:V->List V->Hp->VK->Prop) (to:TE) (t:TA):TE:=fun σ H Q=>to σ H fun x H1=>tyV K T x H1/\t σ H1 fun xs H2=>r x xs H2 Q
variable {o e:Expr} {es:List Expr} {to:TE} {t:TA} {name:Str} {apos cpos:Pos} {T id:String} {r:V->List V->Hp->VK->Prop}
theorem vR (pa:PlainAttrs T) (slot:Slot T name id) (hty:typeOf (.builtin id)=pure (.type "method_descriptor")) (hm:MtR X id r) (ho:PE X o to)
  (hbase:attributeBase o name X.env (eval o X.env)=eval o X.env:=by rfl) (hline:(apos.endLine == cpos.line)=true:=by rfl):PE X (.Call (.Attribute o name apos) [] [] cpos) (Ia X.K T r to):=by
 intro pins s σ H Q I h
 refine wpAny_Call_method0_late hbase hline (thn (ho pins s σ H _ I h) fun v s1 ⟨x,H1,I1,r1,ty,q1⟩ => ?_)
 obtain ⟨h1,h2⟩:=vF I1 r1 ty
 exact ⟨T,id,pa,slot,hty,h1,h2,Calls.callWith_builtin rfl (PySem.evalArgs_none (hm pins s1 σ H1 x [] v [] Q I1 r1 .nil q1))⟩
theorem yL (pa:PlainAttrs T) (slot:Slot T name id) (hty:typeOf (.builtin id)=pure (.type "method_descriptor")) (hm:MtR X id r) (ho:PE X o to) (ha:PA X (e::es) t)
  (hbase:attributeBase o name X.env (eval o X.env)=eval o X.env:=by rfl)
  (hfew:((backTo cpos (starEach (e::es) X.env)).all (fun x => !x.1)&&(backToKw cpos (keywordEach [] X.env)).all (fun x=>x.1.isSome)
   && decide ((e::es).length+([]:List Keyword).length+(if ([]:List Keyword).isEmpty then 0 else 1)<30))=true:=by rfl)
  (hline:(apos.endLine == cpos.line)=true:=by rfl) (hs:starEach (e::es) X.env=(false,eval e X.env)::starEach es X.env:=by rfl) (hplain:(backTo cpos (starEach es X.env)).any (·.1)=false:=by rfl) :
  PE X (.Call (.Attribute o name apos) (e::es) [] cpos) (tBM X.K T r to t):=by
 intro pins s σ H Q I h
 refine wpAny_Call_method_late hbase hfew hline rfl (thn (ho pins s σ H _ I h) fun v s1 ⟨x,H1,I1,r1,ty,q1⟩ => ?_)
 obtain ⟨h1,h2⟩:=vF I1 r1 ty
 refine ⟨T,id,pa,slot,hty,h1,h2,?_⟩
 have hA:=ha cpos pins s1 σ H1 _ I1 q1
 rw [hs] at hA ⊢
 refine Calls.callWith_builtin (by show (false||(backTo cpos (starEach es X.env)).any (·.1))=false;rw [hplain]<;>rfl) (Calls.evalArgs_plain ?_)
 exact thn hA fun us s2 ⟨vs,H2,I2,r2,q2⟩=>hm pins s2 σ H2 x vs v us Q I2 r1 r2 q2
/- xs.append(e),list.index on a module's tuple .. are MtR facts of 06m -/
end
end L2
namespace L2
open PySem PySem.Spec PyProof.Rows
def MtM (X:Cx) (id:String) (r:V->List V->Hp->VK->Prop):Prop :=
 ∀ (pins:List ↥7) (s:Shared) (σ:St) (H:Hp) (x:V) (xs:List V) (v:Value) (us:List Value) (Q:VK),Inv X pins σ H s->RelV x v->Vals xs us->r x xs H Q ->
  wpAny ↥4 X.A (call (.builtin id) (v::us)) (EP X pins σ Q) X.xe s
theorem Vals.one:∀ {x:V} {us:List Value},Vals [x] us->∃ u,us=[u]/\RelV x u
 | _,_,.cons r .nil=>⟨_,rfl,r⟩
theorem Vals.zero:∀ {us:List Value},Vals [] us->us=[]
 | _,.nil=>rfl
theorem Vals.rep {xs:List V} {us:List Value} (h:Vals xs us):∀ k:Nat,Vals (List.replicate k xs).flatten (List.replicate k us).flatten
 | 0=>.nil
 | k+1=>by
  rw [List.replicate_succ,List.replicate_succ,List.flatten_cons,List.flatten_cons]
  exact Vals.append h (Vals.rep h k)
theorem foldl_rep (its:List Value):∀ (k:Nat) (acc:List Value),
  List.foldl (fun x1 x2=>x1++x2) acc.toArray (List.replicate k its.toArray)=(acc++(List.replicate k its).flatten).toArray
 | 0,acc=>by simp
 | k+1,acc=>by
  have e:acc.toArray++its.toArray=(acc++its).toArray:=by simp
  have e2:(acc++its)++(List.replicate k its).flatten=acc++(List.replicate (k+1) its).flatten:=by
   rw [List.replicate_succ,List.flatten_cons,List.append_assoc]
  rw [<- e2,<-foldl_rep its k (acc++its),<-e,List.replicate_succ,List.foldl_cons]
section
variable {X:Cx} {pins:List ↥7} {σ:St} {H:Hp} {s:Shared} {l b:Addr} {xs ys zs:List V}
theorem Inv.lset {its its':List Value} {n:Nat} {f:Array Value->Array Value} {t':Nat} (I:Inv X pins σ H s) (hH:H l=some (.lst xs))
  (e:s.heap.get? l=some { cls:=.type "list",data:=.seq its.toArray n }) (hf:f its.toArray=its'.toArray) (hv:Vals ys its') (hz:ys.length<=sizeLine) :
  Inv X pins σ (upd H l (.lst ys)) { s with heap:=s.heap.update l (Obj.mapSeq f),toks:=t' }:=by
 have q:=PySem.IsL.update e f
 rw [hf] at q
 refine I.write (x:=l) (e:=l) (by rw [hH];exact trivial) (.inl rfl) (fun b' u hb hu=>(Heap.get?_update_other s.heap (Obj.mapSeq f) (Ne.symm hb)).trans hu) ⟨_,q⟩ ?_
 exact ⟨hz,its',_,hv,q⟩
theorem Inv.lnew {its:List Value} {t':Nat} (I:Inv X pins σ H s) (hv:Vals ys its) (hz:ys.length<=sizeLine) :
  Inv X pins σ (upd H s.heap.objs.size (.lst ys)) { s with heap:=s.heap.push { cls:=.type "list",data:=.seq its.toArray },toks:=t' } :=
 I.laid (fun _ _ q=>Heap.get?_push_of_some _ q) ↥30 ⟨hz,its,0,hv,Heap.get?_push_size _ rfl⟩
theorem Inv.fresh (I:Inv X pins σ H s):H s.heap.objs.size=none:=I.hok.fresh ↥30
theorem Inv.lstM (I:Inv X pins σ H s) (hH:H l=some (.lst xs)):xs.length<=sizeLine/\∃ (its:List Value) (n:Nat),Vals xs its/\xs.length=its.length/\s.heap.get? l=some { cls:=.type "list",data:=.seq its.toArray n }:=by
 obtain ⟨z,its,n,r,e⟩:=I.hok l _ hH
 exact ⟨z,its,n,r,r.length,e⟩
theorem uH {n:Nat} (h:n<=sizeLine):Builtin.List.listTooLong n=false:=by
 unfold Builtin.List.listTooLong
 exact decide_eq_false ⋯
end
section
variable {X:Cx}
def yA:V->List V->Hp->VK->Prop:=fun x vs H Q=>∃ l xs y,x=.ref l/\vs=[y]/\H l=some (.lst xs)/\xs.length<sizeLine/\Q .non (upd H l (.lst (xs++[y])))
theorem ly:MtM X "list.append" yA:=by
 intro pins s σ H x vs v us Q I rx rv h
 obtain ⟨l,xs,y,rfl,rfl,hH,hz,q⟩:=h
 cases rx
 obtain ⟨u,rfl,ru⟩:=rv.one
 obtain ⟨z,its,n,r,hl,e⟩:=I.lstM hH
 refine call_meets F.slot_list_append ⟨_,e,rfl⟩ F.entry_list_append (F.args_list_append_2 _ _) (PySem.list_append l its.toArray n u (by rw [List.size_toArray];omega)) ⟨e,?_⟩
 refine ⟨.non,_,I.lset (its':=its++[u]) hH e ↥19 (r.append (.cons ru .nil)) ?_,rfl,q⟩
 rw [List.length_append,List.length_singleton]
 omega
def BJ:V->List V->Hp->VK->Prop:=fun x vs H Q=>∃ l xs,x=.ref l/\vs=[]/\H l=some (.lst xs)/\Q .non (upd H l (.lst []))
theorem uR:MtM X "list.clear" BJ:=by
 intro pins s σ H x vs v us Q I rx rv h
 obtain ⟨l,xs,rfl,rfl,hH,q⟩:=h
 cases rx
 have hus:=rv.zero
 subst hus
 obtain ⟨z,its,n,r,hl,e⟩:=I.lstM hH
 refine call_meets F.slot_list_clear ⟨_,e,rfl⟩ F.entry_list_clear (F.args_list_clear_1 _) (AutoSeq1.list_clear_list_0 l its.toArray n (by rw [List.size_toArray];omega)) ⟨e,?_⟩
 exact ⟨.non,_,I.lset (its':=[]) (ys:=[]) hH e rfl .nil (Nat.zero_le _),rfl,q⟩
theorem len_rep {α:Type} (xs:List α) (k:Nat):(List.replicate k xs).flatten.length=k*xs.length:=by
 induction k with
 | zero=>simp
 | succ k ih=>rw [List.replicate_succ,List.flatten_cons,List.length_append,ih,Nat.succ_mul,Nat.add_comm]
end
section
variable {prog:Program} {w:World} {A:Around} {E:Value->Shared->Prop} {s:Shared}
end
section
variable {X:Cx}
end
end L2
namespace Att
open PySem PySem.W PySem.Calls PyProof.Rows
theorem iI {P:Params} {h:Heap}:∀ (ns:List Int) (vs:List Value),WellAll P h vs (ns.map WData.int)->IntsAre vs ns:=by
 intro ns
 induction ns with
 | nil =>
  intro vs w
  rw [List.map_nil] at w
  cases w
  exact .nil
 | cons n ns ih =>
  intro vs w
  rw [List.map_cons] at w
  cases w with
  | cons a b =>
   cases a
   exact .cons _ _ (ih _ b)
theorem qb {l:OpenLaw} {n:Nat} (hn:l.most=some n) {P:Params} {h:Heap} {args:List WData} {vals:List Value}
  (hpre:l.row.toRowW.claim.pre args=true) (hwl:WellAll P h vals args) :
  ∃ a vs ns,vals=[Value.ref a]/\args=[WData.list (ns.map WData.int)]/\h.get? a=some { cls:=.type "list",data:=.seq vs.toArray }/\IntsAre vs ns/\ns.length<=n:=by
 have hsh:WShape.hasAll [] args [.list .int]=true:=(pre_splitW hpre).1
 have hc:l.pre.holds [] { args:=args }=true:=(pre_splitW hpre).2
 obtain ⟨d,r,rfl,h1,h2⟩:=hasAllW_cons hsh
 obtain rfl:=hasAllW_nil h2
 obtain ⟨xs,rfl,h3⟩:=hasW_list h1
 obtain ⟨ns,rfl⟩:=items_int h3
 have hlen:ns.length<=n:=by
  unfold OpenLaw.pre at hc
  have h4:(WTm.not (.lt (.lit (.int (n:Int))) (.len (.arg 0)))).holds [] { args:=[.list (ns.map .int)] }=true:=by
   have h4:=(holds_andW hc).1
   rw [hn] at h4
   exact h4
  have h5:=condW_of h4 (w_not (w_lt w_lit (w_len_list (w_arg rfl))))
  rw [List.length_map] at h5
  refine Nat.le_of_not_lt fun q => ?_
  have q':(n:Int)<((ns.length:Nat):Int):=⋯
  first
   | (rw [decide_eq_true q'] at h5;exact absurd h5 ↥0)
   | (simp at h5;omega)
 cases hwl with
 | cons w1 w2 =>
  cases w2
  cases w1 with
  | list ho hall=>exact ⟨_,_,ns,rfl,rfl,ho,iI ns _ hall,hlen⟩
theorem ql (l:OpenLaw) (args:List WData):l.row.toRowW.claim.post args (.bool true) args=true :=
 postW_of (r:=l.row.toRowW) (X:=(true == true))
  (show WShape.has [] (.bool true) .bool=true by first | rfl | decide | simp [WShape.has,WShape.arms,WShape.armsAll])
  (show (WTm.eq .res (.lit (.bool true))).value [] { args:=args,res:=some (.bool true),after:=args }=some (.bool (true == true)) from w_eq_bool (w_res rfl) w_lit) rfl
section
variable {prog:Program} {w:World} {A:Around} {E:Value->Shared->Prop} {s:Shared} {K:Frag}
def ledger (h:Heap) (L d:Addr):List ↥7:=(List.range h.objs.size).filterMap fun a=>if a=L\/a=d then none else (h.get? a).map fun o=>(a,o)
end
end Att
namespace L2
open PySem PySem.Spec PyProof.Rows
theorem kQ:∀ {vs:List Value} {ns:List Int},IntsAre vs ns->Vals (ns.map V.int) vs
 | _,_,.nil=>.nil
 | _,_,.cons n t h=>.cons ⟨t,rfl⟩ (kQ h)
def HF (H:Hp):Prop:=∀ b,H b=none\/∃ o xs,H b=some (.frz o (.lst xs))
theorem uV {P:Program} {w:World} {K:PySem.W.Frag} {mg mb:Str->Option Value} {CX:CXT} {k:Nat} {fa a:Addr} {fd:FuncData} {x:Str} {sp:Sp} {s₁:Shared} {vs:List Value} {ns:List Int}
  (KX:K.In s₁.heap) (hns:s₁.heap.Ns mainGlobals mg) (hb:s₁.heap.Ns builtinsNs mb) (hbb:∀ x:Str,x≠"__name__"->mb x=bootBuiltins x) (hlim:s₁.heap.NoLimit) (hg:s₁.gens = #[])
  (ha:s₁.heap.get? a=some { cls:=.type "list",data:=.seq vs.toArray }) (hi:IntsAre vs ns) (hl:ns.length<=sizeLine) (hr:Room k callerA)
  (F:∀ base:Heap,K.In base->base.Ns mainGlobals mg->FnOk P w K mg base CX k fa fd [x] sp) (hbind:∀ (s:Shared) (u:Value),BindsTo s fd ⟨[u],[]⟩ [(x,u)])
  (hsp:∀ H:Hp,HF H->SqL K H a (ns.map V.int)->sp [.ref a] H (fun v _=>v=.bl true) fun _ _ _=>False)
  (hCX:∀ H e s',CX [] H s₁ (fun _ _ _=>False) e s'->False) :
  codeAny (model P w) callerA (.call (.ref fa) ⟨[.ref a],[]⟩) (fun r s'=>r=.ok (.ret (.bool true))/\OldK s₁.heap s'.heap/\s'.os=s₁.os/\AllBare s'.gens) s₁:=by
 have rv:=kQ hi
 have lenV:=hi.length
 have core:∀ H:Hp,HF H->SqL K H a (ns.map V.int)->HOk P w H s₁.heap->(∀ b,H b≠none->b=a)->(H a≠none->K.lookup a=none) ->
   codeAny (model P w) callerA (.call (.ref fa) ⟨[.ref a],[]⟩) (fun r s'=>r=.ok (.ret (.bool true))/\OldK s₁.heap s'.heap/\s'.os=s₁.os/\AllBare s'.gens) s₁:=by
  intro H hO hS hok hA hK
  have base_of:∀ {b:Addr} {o:Obj},s₁.heap.get? b=some o->H b=none->(u0 s₁.heap H).get? b=some o:=fun e n=>uZ e n
  have noA:∀ {b:Addr} {o:Obj} {es:Array DictEntry} {ep:Nat},s₁.heap.get? b=some o->o.data=.dict es ep->H b=none:=fun {b o es ep} e d=>by
   cases q:H b with
   | none=>rfl
   | some u =>
    have e':b=a:=hA b (by rw [q];simp)
    subst e'
    rw [ha] at e;cases e
    have d':Data.seq vs.toArray _=Data.dict es ep:=d
    cases d'
  have nsK:∀ {b:Addr} {m:Str->Option Value},s₁.heap.Ns b m->(u0 s₁.heap H).Ns b m:=fun {b m} ⟨o,es,ep,e,d,r⟩=>⟨o,es,ep,base_of e (noA e d),d,r⟩
  have hKb:K.In (u0 s₁.heap H):=fun b o e=>base_of (KX b o e) (by
   cases q:H b with
   | none=>rfl
   | some u =>
    have e':b=a:=hA b (by rw [q];simp)
    subst e'
    rw [hK (by rw [q];simp)] at e;cases e)
  have hM:Mod K mg (u0 s₁.heap H):=⟨hKb,nsK hns,⟨mb,nsK hb,hbb⟩,let ⟨mc,h1,h2⟩:=hlim;⟨mc,nsK h1,h2⟩⟩
  have e0:Env0 P w K mg (u0 s₁.heap H) callerA [] s₁ H:=⟨rfl,hM,fun b o e=>zg e,Nat.le_of_eq (rl _ _),trivial,fun b hb=>absurd (show b∈([]:List Addr) from hb) ↥19,hok,.of_eq hg⟩
  refine codeAny_mono ((F _ hKb (nsK hns)).run callerA [] s₁ H ⟨[.ref a],[]⟩ [.ref a] [.ref a] _ _ hr e0 (hbind s₁ (.ref a)) (.cons rfl .nil) (hsp H hO hS)) fun r s' h => ?_
  cases r with
  | error e=>exact (hCX H e s' h).elim
  | ok fl =>
   cases fl with
   | next=>exact False.elim h
   | brk=>exact False.elim h
   | cont=>exact False.elim h
   | ret u =>
    obtain ⟨v,H',os,bare,un,hok',r',q⟩:=h
    have q':v=.bl true:=q
    subst q'
    obtain rfl:u=Value.bool true:=r'
    refine ⟨rfl,OldK.of_keep fun b o e => ?_,os,bare⟩
    cases q:H b with
    | none=>exact un.keep b o e q (by intro z;exact absurd (show b∈([]:List Addr) from z) ↥19) ↥19
    | some u =>
     rcases hO b with z | ⟨ob,xs,z⟩
     ·rw [q] at z;cases z
     ·have z2:=un.frzs b ob _ z
      obtain ⟨e1,_⟩:=hok b _ z
      obtain ⟨e2,_⟩:=hok' b _ z2
      rw [e] at e1;cases e1
      exact e2
 cases hk:K.lookup a with
 | some o =>
  have e:=KX a o hk
  rw [ha] at e
  cases e
  refine core (fun _=>none) (fun _=>.inl rfl) (.inr ⟨_,vs.toArray,_,hk,rfl,rfl,rfl,by rw [List.size_toArray,lenV];exact hl,by simpa using rv⟩) (fun b u z=>by have z':(none:Option HO)=some u:=z;cases z') (fun b z=>absurd rfl z) fun z=>absurd rfl z
 | none =>
  refine core (fun b=>if b=a then some (.frz { cls:=.type "list",data:=.seq vs.toArray } (.lst (ns.map V.int))) else none) (fun b => ?_) (.inl (.inr ⟨{ cls:=.type "list",data:=.seq vs.toArray },if_pos rfl⟩)) (fun b u z => ?_) (fun b z => ?_) fun _=>hk
  ·by_cases hb:b=a
   ·exact .inr ⟨_,_,if_pos hb⟩
   ·exact .inl (if_neg hb)
  ·by_cases hb:b=a
   ·have z':=(if_pos hb).symm.trans z
    cases z'
    subst hb
    exact ⟨ha,by rw [List.length_map];exact hl,vs,_,rv,ha⟩
   ·have z':=(if_neg hb).symm.trans z
    cases z'
  ·by_cases hb:b=a
   ·exact hb
   ·exact absurd (if_neg hb) z
end L2
namespace L2
open PySem PySem.Spec PyProof.Rows
abbrev KOf {K:PySem.W.Frag} {h:Heap} (_:K.In h):PySem.W.Frag:=K
end L2
/- THE LAST THEOREM (shape;LID,My.* are yours):
   My.Adr: a structure of the addresses that your layer names (classes,functions);My.Txt K t: a structure (Prop) of the equations over K;
   My.txt_mk:{K} {implicit addresses ..} (e1:nsIn K mainGlobals "law"=some (some (.ref f))) (e2:K.lookup f=some ⟨oc,od,.func (fnOf "law" "law" params body scope dV kV doc pm an cdv ct),sl⟩) (e3:codeIn K cdv "law"=true) .. : ∃ t,My.Txt K t
set_option maxHeartbeats 0 in
theorem PySem.Challenge.cw_LID_holds : PySem.Challenge.rw_LID.Holds := by
 w_on;o_law;k_head;(case hw=>w_witness2)
 k_fill
 refine L2.walk_of (l:=PySem.Challenge.rw_LID) (n:=63) (k:=40) (x:="script") (CX:=fun w=>..) (sp:=fun _=>My.sp_law) rfl ↥0 rfl ⟨rfl,by decide,by decide⟩ (fun w h Y=>PySem.W.kIn_of Y) ?F ?S ?C
 case F =>
  intro w mg fa h KX G hmg
  have T:∃ t,My.Txt (L2.KOf KX) t:=by
   dsimp only [L2.KOf]                          -- K must stand as «<heap const> w.params» for k_is
   refine' My.txt_mk ?e1 ?e2 ?e3 ..
   (case e1=>PySem.W.k_is)                    -- in the order: a name->its address->its object->its parts
   (case e2=>PySem.W.k_is)
   ..
  obtain ⟨t,T⟩:=T
  have e0:=hmg.symm.trans (PySem.W.mg_of KX G T.law)
  cases e0                                       -- fa is the law's own address
  exact ⟨_,fun s u=>.of_eq rfl,fun base kb nb=>My.law_fn T kb nb⟩     -- if «.of_eq rfl» comes too early: refine' ⟨_,?b,fun base kb nb=>My.law_fn T kb nb⟩;exact fun s u=>.of_eq rfl
 case S=>exact fun w H a ns hl hO hS=>..
 case C=>exact ..
(the tactic k_is has no namespace: write k_is) -/
namespace L2
open PySem PySem.Spec PyProof.Rows
def eJ (s:Stmt):Arguments:=match s with
 | .FunctionDef _ a _ _ _ _ _ _ _ _=>a
 | _=>{ posonlyargs:=[],args:=[],vararg:=none,kwonlyargs:=[],kw_defaults:=[],kwarg:=none,defaults:=[] }
def aC (s:Stmt):List Stmt:=match s with
 | .FunctionDef _ _ b _ _ _ _ _ _ _=>b
 | _=>[]
def ae (s:Stmt):Scope:=match s with
 | .FunctionDef _ _ _ _ _ _ sc _ _ _=>sc
 | _=>{ kind:=.function,names:=[],isGenerator:=false,isCoroutine:=false }
abbrev CX0:CXT:=fun _ _ _ _ _ _=>False
structure Fun (K:PySem.W.Frag) (x qual:Str) (st:Stmt) (f:Addr) (fd:FuncData):Prop where
 ex:∃ (oc:Value) (od:Option Addr) (kV doc pm:Value) (an:Option Addr) (cdv ct:Value) (osl:Array ↥37),
  fd=PySem.W.fnOf x qual (eJ st) (aC st) (ae st) .none kV doc pm an cdv ct/\K.lookup f=some ⟨oc,od,.func fd,osl⟩/\PySem.W.codeIn K cdv qual=true
 kp:PySem.W.keepIn K (.ref f)=true
section
variable {P:Program} {w:World} {K:PySem.W.Frag} {mg:Str->Option Value} {base:Heap}
theorem Fun.binds {x qual:Str} {st:Stmt} {f:Addr} {fd:FuncData} {ps:List Str} (F:Fun K x qual st f fd)
  (h:∀ (kV doc pm:Value) (an:Option Addr) (cdv ct:Value) (us:List Value),us.length=ps.length->bindArgs ↥3 ⟨us,[]⟩=pure (ps.zip us)):Binds K fd ps []:=by
 obtain ⟨oc,od,kV,doc,pm,an,cdv,ct,osl,rfl,lk,hcd⟩:=F.ex
 exact .all (h kV doc pm an cdv ct)
theorem ro {x qual:Str} {st:Stmt} {f:Addr} {oc:Value} {od an:Option Addr} {osl:Array ↥37} {kV doc pm cdv ct:Value} (l:K.lookup f=some ⟨oc,od,.func ↥3,osl⟩)
  (c:PySem.W.codeIn K cdv qual=true) (k:PySem.W.keepIn K (.ref f)=true):Fun K x qual st f ↥3:=⟨⟨oc,od,kV,doc,pm,an,cdv,ct,osl,rfl,l,c⟩,k⟩
end
theorem ig {n:Nat} (h:n<=1000):n<sizeLine:=Nat.lt_of_le_of_lt h ↥0
section
variable {X:Cx}
theorem pv (i:Nat) {x:Str} {pos:Pos} (hN:X.N[i]? = some x:=by rfl) (hv:Vis X.env.scope x:=by first | exact Or.inl rfl | exact Or.inr (Or.inl rfl) | exact Or.inr (Or.inr rfl)) (hd:(x == ("__debug__":Str))=false:=by decide)
  (hcd:(x == ("__classdict__":Str))=false:=by decide):PE X (.Name x pos) (Ft i):=lb hN hv hd hcd
end
theorem Aw {A B:Prop} (h:B):if false=true then A else B:=by
 rw [if_neg Bool.false_ne_true]
 exact h
theorem Av {A B:Prop} (h:A):if true=true then A else B:=by
 rw [if_pos rfl]
 exact h
def ay (H H':Hp):Prop:=∀ b o,H b=some o->H' b=some o
theorem ay.refl (H:Hp):ay H H:=fun _ _ h=>h
theorem ay.trans {H H1 H2:Hp} (a:ay H H1) (b:ay H1 H2):ay H H2:=fun c o h=>b c o (a c o h)
theorem ay.seq {K:PySem.W.Frag} {H H':Hp} {a:Addr} {xs:List V} (e:ay H H') (h:SqL K H a xs):SqL K H' a xs:=by
 rcases h with (h | ⟨o,h⟩) | h
 ·exact .inl (.inl (e _ _ h))
 ·exact .inl (.inr ⟨o,e _ _ h⟩)
 ·exact .inr h
end L2
namespace EV
open PySem (Str)
inductive D where
 | non | bl (b:Bool) | int (i:Int) | str (x:Str) | tup (ds:List D) | lst (ds:List D) | own (ds:List D)
 | ty (n:String) | cls (n:String) | exc (n:String) | ins (n:String) (fs:List (String×D))
noncomputable instance:Inhabited D:=⟨.non⟩
inductive R (α:Type) where
 | ok (a:α) | ex (C:String) | bad
namespace R
def bind {α β:Type}:R α->(α->R β)->R β
 | .ok a,f=>f a
 | .ex C,_=>.ex C
 | .bad,_=>.bad
end R
abbrev Dt:=List (Option D)
abbrev E:=Dt->R D
inductive O where
 | nx (δ:Dt) | rt (d:D) | bk (δ:Dt) | ct (δ:Dt) | ex (C:String) (δ:Dt) | mk (C:String) (δ:Dt) | hx (C:String) (δ:Dt) | bad
abbrev S:=Dt->O
def pw (k:Int):Int:=2^k.toNat
def nb (i:Int):Nat:=if i=0 then 0 else i.natAbs.log2+1
def MulOk (i j:Int):Prop:=nb i+nb j<=134217728
def l6 (i j:Int):Prop:=0<j/\(nb j<=9000\/nb i<=nb j+4000)
noncomputable instance {i j:Int}:Decidable (MulOk i j):=inferInstanceAs (Decidable (_<=_))
noncomputable instance {i j:Int}:Decidable (l6 i j):=inferInstanceAs (Decidable (_/\_))
def aR:D->D->R D
 | .int i,.int j=>.ok (.int (i+j))
 | .str x,.str y=>if x.cps.size+y.cps.size<=1000000 then .ok (.str ⟨x.cps++y.cps⟩) else .bad
 | .lst xs,.lst ys=>if xs.length+ys.length<=100000 then .ok (.lst (xs++ys)) else .bad
 | .tup xs,.tup ys=>if xs≠[]/\xs.length+ys.length<=100000 then .ok (.tup (xs++ys)) else .bad
 | _,_=>.bad
def my:D->D->R D
 | .int i,.int j=>.ok (.int (i - j))
 | _,_=>.bad
def gm:D->D->R D
 | .int i,.int j=>if MulOk i j then .ok (.int (i*j)) else .bad
 | _,_=>.bad
def oDiv:D->D->R D
 | .int i,.int j=>if l6 i j then .ok (.int (i / j)) else .bad
 | _,_=>.bad
def oMod:D->D->R D
 | .int i,.int j=>if 0<j then .ok (.int (i%j)) else .bad
 | _,_=>.bad
def Fy:D->D->R D
 | .int i,.int j=>if 0<=j then .ok (.int (i / pw j)) else .bad
 | _,_=>.bad
def uo:D->D->R D
 | .int i,.int j=>if 0<=j/\(nb i:Int)*j<=134217728 then .ok (.int (i^j.toNat)) else .bad
 | _,_=>.bad
def Ce:D->R D
 | .int i=>.ok (.int (-i))
 | _=>.bad
def oLt:D->D->R D
 | .int i,.int j=>.ok (.bl (decide (i<j)))
 | _,_=>.bad
def oLe:D->D->R D
 | .int i,.int j=>.ok (.bl (decide (i<=j)))
 | _,_=>.bad
def oGt:D->D->R D
 | .int i,.int j=>.ok (.bl (decide (j<i)))
 | _,_=>.bad
def oGe:D->D->R D
 | .int i,.int j=>.ok (.bl (decide (j<=i)))
 | _,_=>.bad
mutual
def D.beq:D->D->Bool
 | .non,.non=>true
 | .bl a,.bl b=>a == b
 | .bl a,.int b=>(if a then 1 else 0) == b
 | .int a,.bl b=>a == (if b then 1 else 0)
 | .int a,.int b=>a == b
 | .str a,.str b=>a == b
 | .tup a,.tup b=>D.beqs a b
 | .lst a,.lst b=>D.beqs a b
 | _,_=>false
def D.beqs:List D->List D->Bool
 | [],[]=>true
 | a::as,b::bs=>D.beq a b&&D.beqs as bs
 | _,_=>false
end
def D.sc:D->Bool
 | .non=>true | .bl _=>true | .int _=>true | .str _=>true
 | _=>false
def D.pl:Nat->D->Bool
 | _,.non=>true
 | _,.bl _=>true
 | _,.int _=>true
 | _,.str x=>x.cps.all (· < 0x110000)
 | n+1,.tup ds=>ds.all (D.pl n)
 | n+1,.lst ds=>ds.all (D.pl n)
 | _,_=>false
def D.cmp (a b:D):Bool:=(a.sc&&b.sc)||(D.pl 8 a&&D.pl 8 b)
def oEq (a b:D):R D:=if D.cmp a b then .ok (.bl (D.beq a b)) else .bad
def oNe (a b:D):R D:=if D.cmp a b then .ok (.bl (!D.beq a b)) else .bad
def Au:D->R D
 | .non=>.ok ↥34
 | _=>.ok ↥14
def oO:D->R D
 | .non=>.ok ↥14
 | _=>.ok ↥34
def isIn (x:D) (ys:List D):Option Bool:=if x.sc&&ys.all D.sc then some (ys.any fun y=>D.beq y x) else none
def oIn (a b:D):R D:=match a,b with
 | .str x,.str y=>match x.cps.toList with | [c]=>.ok (.bl (decide (c∈y.cps.toList))) | _=>.bad
 | a,.tup ds=>match isIn a ds with | some k=>.ok (.bl k) | none=>.bad
 | a,.lst ds=>match isIn a ds with | some k=>.ok (.bl k) | none=>.bad
 | _,_=>.bad
def ixN (n:Nat) (i:Int):Option Nat:=if 0<=i then (if i<n then some i.toNat else none) else if -(n:Int)<=i then some (i+n).toNat else none
def oIx:D->D->R D
 | .tup ds,.int i=>match (ixN ds.length i).bind fun j=>ds[j]? with | some d=>.ok d | none=>.bad
 | .lst ds,.int i=>match (ixN ds.length i).bind fun j=>ds[j]? with | some d=>.ok d | none=>.bad
 | .str x,.int i=>if x.cps.size<=1000000 then (match (ixN x.cps.toList.length i).bind fun j=>x.cps.toList[j]? with | some c=>.ok (.str ⟨#[c]⟩) | none=>.bad) else .bad
 | _,_=>.bad
def sIx (n d:Nat):Option Int->Nat
 | none=>d
 | some i=>if i<0 then (i+n).toNat else min i.toNat n
def cut {α:Type} (xs:List α) (lo hi:Option Int):List α:=(xs.drop (sIx xs.length 0 lo)).take (sIx xs.length xs.length hi - sIx xs.length 0 lo)
def oSl:D->Option Int->Option Int->R D
 | .tup ds,lo,hi=>if sIx ds.length 0 lo=0/\sIx ds.length ds.length hi=ds.length then .bad else .ok (.tup (cut ds lo hi))
 | .lst ds,lo,hi=>.ok (.lst (cut ds lo hi))
 | _,_,_=>.bad
def var (i:Nat):E:=fun δ=>match δ[i]? with
 | some (some (.own _))=>.bad
 | some (some d)=>.ok d
 | _=>.bad
def con (d:D):E:=fun _=>.ok d
def un (f:D->R D) (a:E):E:=fun δ=>(a δ).bind f
def bin (f:D->D->R D) (a b:E):E:=fun δ=>(a δ).bind fun x=>(b δ).bind fun y=>f x y
def truth {β:Type} (d:D) (t f:R β):R β:=match d with
 | .bl true=>t
 | .bl false=>f
 | _=>.bad
def pH (a b:E):E:=fun δ=>(a δ).bind fun d=>truth d (b δ) (.ok ↥14)
def or_ (a b:E):E:=fun δ=>(a δ).bind fun d=>truth d (.ok ↥34) (b δ)
def gR (a:E):E:=fun δ=>(a δ).bind fun d=>truth d (.ok ↥14) (.ok ↥34)
def ife (c a b:E):E:=fun δ=>(c δ).bind fun d=>truth d (a δ) (b δ)
def chain (f g:D->D->R D) (a b c:E):E:=fun δ=>(a δ).bind fun x=>(b δ).bind fun y=>(f x y).bind fun d=>truth d ((c δ).bind fun z=>g y z) (.ok ↥14)
def evs:List E->Dt->R (List D)
 | [],_=>.ok []
 | e::es,δ=>(e δ).bind fun d=>(evs es δ).bind fun ds=>.ok (d::ds)
def kF (es:List E):E:=fun δ=>(evs es δ).bind fun ds=>.ok (.tup ds)
def iD (es:List E):E:=fun δ=>(evs es δ).bind fun ds=>.ok (.lst ds)
def call (f:List D->R D) (es:List E):E:=fun δ=>(evs es δ).bind f
def part:Option E->Dt->R (Option Int)
 | none,_=>.ok none
 | some e,δ=>(e δ).bind fun d=>match d with | .int i=>.ok (some i) | _=>.bad
def slc (a:E) (lo hi:Option E):E:=fun δ=>(a δ).bind fun d=>(part lo δ).bind fun l=>(part hi δ).bind fun h=>oSl d l h
/- data without a list -/
mutual
def D.flat:D->Bool
 | .lst _=>false
 | .own _=>false
 | .tup ds=>D.flats ds
 | .ins _ fs=>D.flatf fs
 | _=>true
def D.flats:List D->Bool
 | []=>true
 | d::r=>D.flat d&&D.flats r
def D.flatf:List (String×D)->Bool
 | []=>true
 | (_,d)::r=>D.flat d&&D.flatf r
end
abbrev IT:=Dt->R (List D)
def d9 (lo hi:Int):List D:=(List.range (hi - lo).toNat).map fun (k:Nat)=>D.int (lo+k)
def asL:D->R (List D)
 | .lst ds=>.ok ds
 | _=>.bad
def asT:D->R (List D)
 | .tup ds=>.ok ds
 | _=>.bad
def asA:D->R (List D)
 | .lst ds=>.ok ds
 | .tup ds=>.ok ds
 | _=>.bad
def Aj:D->R (List D)
 | .int hi=>if -(2^62)<=hi/\hi<2^62 then .ok (d9 0 hi) else .bad
 | _=>.bad
def Az:List D->R (List D)
 | [.int lo,.int hi]=>if -(2^62)<=lo/\lo<2^62 /\ -(2^62)<=hi/\hi<2^62 then .ok (d9 lo hi) else .bad
 | _=>.bad
def Fu (lo hi c:Int):List D:=(List.range (if lo<hi then (hi - lo - 1) / c+1 else 0).toNat).map fun (k:Nat)=>D.int (lo+k*c)
def DJ:List D->R (List D)
 | [.int lo,.int hi,.int c]=>if (-(2^40)<=lo/\lo<2^40 /\ -(2^40)<=hi/\hi<2^40)/\0<c/\c<2^20 then .ok (Fu lo hi c) else .bad
 | _=>.bad
def itL (g:E):IT:=fun δ=>(g δ).bind asL
def itT (g:E):IT:=fun δ=>(g δ).bind asT
def itA (g:E):IT:=fun δ=>(g δ).bind asA
def pF (g:E):IT:=fun δ=>(g δ).bind Aj
def Ay (a b:E):IT:=fun δ=>(evs [a,b] δ).bind Az
def JO (a b c:E):IT:=fun δ=>(evs [a,b,c] δ).bind DJ
def sD {α:Type} (r:R α):R α:=match r with
 | .ex _=>.bad
 | r=>r
def inC (ks:List Nat) (δ:Dt) (x:D):Dt:=some x::ks.map fun k=>δ.getD k none
def gH (rs:List D):R D:=if D.flats rs then .ok (.lst rs) else .bad
def runC (st:D->R (Option D)):List D->R (List D)
 | []=>.ok []
 | d::ds=>(st d).bind fun o=>(runC st ds).bind fun rs=>.ok (match o with | some r=>r::rs | none=>rs)
def stC (c elt:E) (ks:List Nat) (δ:Dt) (x:D):R (Option D):=(sD (c (inC ks δ x))).bind fun d=>truth d ((sD (elt (inC ks δ x))).bind fun r=>.ok (some r)) (.ok none)
def dF (it:IT) (ks:List Nat) (c elt:E):E:=fun δ=>(it δ).bind fun ds=>if ds.length<=100000 then (runC (stC c elt ks δ) ds).bind gH else .bad
def comp (it:IT) (ks:List Nat) (elt:E):E:=dF it ks (con ↥34) elt
def DH (cn f:String):D->R D
 | .ins n fs=>if n == cn then (match fs.lookup f with | some d=>.ok d | none=>.bad) else .bad
 | _=>.bad
def jG (cn m:String):D->Bool
 | .ins n fs=>n == cn&&(fs.lookup m).isNone
 | _=>false
def Jz (cn m:String) (F:List D->R D) (o:E) (es:List E):E:=fun δ=>(o δ).bind fun d=>if jG cn m d then (evs es δ).bind fun ds=>F (d::ds) else .bad
def mk1 (cn f:String):List D->R D
 | [d]=>.ok (.ins cn [(f,d)])
 | _=>.bad
def b5:List D->R D
 | [.lst ds]=>.ok (.int ds.length)
 | [.tup ds]=>.ok (.int ds.length)
 | [.str x]=>if x.cps.size<=1000000 then .ok (.int x.cps.size) else .bad
 | _=>.bad
def J4:List D->R D
 | [.int i]=>.ok (.int (if i<0 then -i else i))
 | _=>.bad
def HD:List D->R D
 | [.int i,.int j]=>.ok (.int (if j>i then j else i))
 | _=>.bad
def HC:List D->R D
 | [.int i,.int j]=>.ok (.int (if j<i then j else i))
 | _=>.bad
def sG:List D->R D
 | [.int i]=>.ok (.int i)
 | [.bl k]=>.ok (.int (if k then 1 else 0))
 | _=>.bad
def Ds:List D->R D
 | [.lst ds]=>.ok (.lst ds)
 | [.tup ds]=>.ok (.lst ds)
 | _=>.bad
def Ag:List D->R D
 | [.int i]=>.ok (.int (nb i))
 | _=>.bad
def af:List String:=["MillError","NoSize","NoBits","NoParts","NoRank","NotFinite","NoWay","NoFlags","NoFraction","Unlike","Empty","NoLeft","NoText","NoRow","NoName","Stopped"]
def ko (C B:String):Bool:=af.contains C&&(C == B||B == "MillError")
def tyR (n:String) (b:Bool):R D:=if ["int","bool","str","tuple","list","ValueError"].contains n then .ok (.bl b) else .bad
def JQ (B:String):D->R D
 | .exc C=>if af.contains C&&af.contains B then .ok (.bl (C == B||B == "MillError")) else .bad
 | .non=>if af.contains B then .ok ↥14 else .bad
 | _=>.bad
def JP (n:String):D->R D
 | .exc C=>if af.contains C&&n == "ValueError" then .ok ↥34 else .bad
 | .non=>tyR n false
 | .bl _=>tyR n (n == "int"||n == "bool")
 | .int _=>tyR n (n == "int")
 | .str _=>tyR n (n == "str")
 | .tup _=>tyR n (n == "tuple")
 | .lst _=>tyR n (n == "list")
 | _=>.bad
def gJ:List D->R D
 | [d,.cls B]=>JQ B d
 | [d,.ty n]=>JP n d
 | _=>.bad
theorem bY (h:(if c=true then R.ok (D.bl x) else .bad)=.ok (.bl k)):c=true/\x=k:=by
 cases c with
 | true=>cases h;exact ⟨rfl,rfl⟩
 | false=>cases h
theorem CQ (e:r=if b=true then R.ok (D.bl x) else .bad):(∃ d' c' k,[d,c]=[d',c']/\r=.ok (.bl k))\/r=.bad:=by
 subst e
 cases b with
 | true=>exact .inl ⟨_,_,_,rfl,rfl⟩
 | false=>exact .inr rfl
def cE (d:D):List D->R D
 | []=>.ok ↥14
 | c::r=>(gJ [d,c]).bind fun x=>truth x (.ok ↥34) (cE d r)
def vw:List D->R D
 | [d,.tup cs]=>cE d cs
 | _=>.bad
def noOwn (δ:Dt):Dt:=δ.map fun c=>match c with | some (.own _)=>none | c=>c
def view (δ:Dt):Dt:=δ.map fun c=>match c with | some (.own ds)=>some (.lst ds) | c=>c
def aK:S:=.nx
def asg (i:Nat) (δ:Dt) (r:R D):O:=match r with
 | .ok d=>.nx (δ.set i (some d))
 | .ex C=>.ex C (noOwn δ)
 | .bad=>.bad
def xpr (δ:Dt) (r:R D):O:=match r with
 | .ok _=>.nx δ
 | .ex C=>.ex C (noOwn δ)
 | .bad=>.bad
def rtn (δ:Dt) (r:R D):O:=match r with
 | .ok d=>.rt d
 | .ex C=>.ex C (noOwn δ)
 | .bad=>.bad
def ifO (δ:Dt) (r:R D) (a b:O):O:=match r with
 | .ok ↥34=>a
 | .ok ↥14=>b
 | .ex C=>.ex C (noOwn δ)
 | _=>.bad
def assign (i:Nat) (g:E):S:=fun δ=>asg i δ (g δ)
def expr (g:E):S:=fun δ=>xpr δ (g δ)
def ret (g:E):S:=fun δ=>rtn δ (g δ)
def Ij:S:=fun _=>.rt .non
def DF (g:E):S:=fun δ=>rtn δ (g (view δ))
def qs (i:Nat):S:=fun δ=>.nx (δ.set i (some (.own [])))
def eB (i:Nat) (δ:Dt) (f:List D->O):O:=match δ[i]? with
 | some (some (.own ds))=>f ds
 | _=>.bad
def wM (i:Nat) (δ:Dt) (ds:List D) (r:R D):O:=match r with
 | .ok d=>if D.flat d=true/\ds.length<100000 then .nx (δ.set i (some (.own (ds++[d])))) else .bad
 | .ex C=>.ex C (noOwn δ)
 | .bad=>.bad
def iw (i:Nat) (g:E):S:=fun δ=>eB i δ fun ds=>wM i δ ds (g (view δ))
def B1 (i:Nat):S:=fun δ=>eB i δ fun ds=>.nx (δ.set i (some (.own ds.reverse)))
def wL (i:Nat) (δ:Dt) (r:R D):O:=match r with
 | .ok d=>if D.flat d=true then .nx (δ.set i (some d)) else .bad
 | .ex C=>.ex C (noOwn δ)
 | .bad=>.bad
def fW (i:Nat) (g:E):S:=fun δ=>wL i δ (g (view δ))
def mL (c:E) (a b:S):S:=fun δ=>ifO δ (c (view δ)) (a δ) (b δ)
def yb (i:Nat) (δ:Dt) (r:R D):O:=match r with
 | .ok (.lst rs)=>.nx (δ.set i (some (.own rs)))
 | .ex C=>.ex C (noOwn δ)
 | _=>.bad
def yO (i:Nat) (g:E):S:=fun δ=>yb i δ (g (view δ))
def eA (i:Nat) (g:E):S:=fun δ=>yb i δ (g δ)
def DC (i:Nat) (δ:Dt) (ds:List D) (v k:R D):O:=match v,k with
 | .ok d,.ok (.int k)=>if D.flat d=true/\0<=k/\k<ds.length then .nx (δ.set i (some (.own (ds.set k.toNat d)))) else .bad
 | _,_=>.bad
def B0 (i:Nat) (gk gv:E):S:=fun δ=>eB i δ fun ds=>DC i δ ds (gv (view δ)) (gk (view δ))
def pub (i:Nat) (δ:Dt):Dt:=match δ[i]? with
 | some (some (.own ds))=>δ.set i (some (.lst ds))
 | _=>δ
def ED (i:Nat) (s:S):S:=fun δ=>s (pub i δ)
def ifs (c:E) (a b:S):S:=fun δ=>ifO δ (c δ) (a δ) (b δ)
def O.then (o:O) (s:S):O:=match o with
 | .nx δ=>s δ
 | o=>o
def seq (a b:S):S:=fun δ=>(a δ).then b
def brk:S:=.bk
def cont:S:=.ct
def raise (C:String):S:=.mk C
def trn (o:O) (k:S):O:=match o with
 | .nx δ1=>k δ1
 | .ct δ1=>k δ1
 | .bk δ1=>.nx δ1
 | o=>o
def forL (i:Nat) (body:S):List D->S
 | [],δ=>.nx δ
 | d::ds,δ=>trn (body (δ.set i (some d))) (forL i body ds)
def ovL (δ:Dt) (r:R D) (k:List D->O):O:=match r with
 | .ok (.lst ds)=>k ds
 | .ex C=>.ex C (noOwn δ)
 | _=>.bad
def ovT (δ:Dt) (r:R D) (k:List D->O):O:=match r with
 | .ok (.tup ds)=>k ds
 | .ex C=>.ex C (noOwn δ)
 | _=>.bad
def E8 (i:Nat) (g:E) (body:S):S:=fun δ=>ovL δ (g δ) fun ds=>forL i body ds δ
def E7 (i:Nat) (g:E) (body:S):S:=fun δ=>ovT δ (g δ) fun ds=>forL i body ds δ
def ovI (δ:Dt) (r:R (List D)) (k:List D->O):O:=match r with
 | .ok ds=>k ds
 | .ex C=>.ex C (noOwn δ)
 | .bad=>.bad
def u9 (i:Nat) (it:IT) (body:S):S:=fun δ=>ovI δ (it δ) fun ds=>forL i body ds δ
def ovR (δ:Dt) (r:R D) (k:List D->O):O:=match r with
 | .ok (.int hi)=>if -(2^62)<=hi/\hi<2^62 then k (d9 0 hi) else .bad
 | .ex C=>.ex C (noOwn δ)
 | _=>.bad
def E9 (i:Nat) (b:E) (body:S):S:=fun δ=>ovR δ (b δ) fun ds=>forL i body ds δ
def forget (i:Nat) (o:O):O:=match o with
 | .nx δ=>.nx (δ.set i none)
 | _=>.bad
def vG (o:O) (B:String) (i:Nat) (suite:S):O:=match o with
 | .nx δ1=>.nx δ1
 | .ex C δ1=>if ko C B then forget i (suite ((noOwn δ1).set i (some (.exc C)))) else .bad
 | _=>.bad
def DB (body:S) (B:String) (i:Nat) (suite:S):S:=fun δ=>vG (body δ) B i suite
def O.res:O->R D
 | .rt d=>.ok d
 | .nx _=>.ok .non
 | .ex C _=>.ex C
 | .mk C _=>.ex C
 | .hx C _=>.ex C
 | _=>.bad
def start (n m:Nat) (ds:List D):Dt:=ds.map some++List.replicate (m - n) none
def Good (f:List D->R D):Prop:=∀ ns:List Int,ns.length<=63->(∀ m∈ns,nb m<=2^20)->f [.lst (ns.map .int)]=.ok ↥34
def fn (n m:Nat) (body:S):List D->R D:=fun ds=>if ds.length=n then (body (start n m ds)).res else .bad
end EV
namespace ES
open PySem PySem.Spec PyProof.Rows L2 EV
def zS (a C:Addr):HO:=.ext fun h=>∃ o vs,h.get? a=some o/\o.cls=.ref C/\o.data=.fields vs
mutual
inductive Rep (K:PySem.W.Frag) (mg:Str->Option Value) (H:Hp):V->D->Prop
 | non:Rep K mg H .non .non
 | bl (b:Bool):Rep K mg H (.bl b) (.bl b)
 | int (i:Int):Rep K mg H (.int i) (.int i)
 | str (x:Str):Rep K mg H (.str x) (.str x)
 | tup {a:Addr} {xs:List V} {ds:List D}:SqT K H a xs->Reps K mg H xs ds->Rep K mg H (.ref a) (.tup ds)
 | lst {a:Addr} {xs:List V} {ds:List D}:SqL K H a xs->Reps K mg H xs ds->Rep K mg H (.ref a) (.lst ds)
 | ty (n:String):Rep K mg H (.ty n) (.ty n)
 | cls {a:Addr} {n:String}:mg n=some (.ref a)->Rep K mg H (.ref a) (.cls n)
 | exc {a C:Addr} {n:String}:mg n=some (.ref C)->H a=some (zS a C)->Rep K mg H (.ref a) (.exc n)
 | ins {a C dx:Addr} {n:String} {fs:List (Str×V)} {ds:List (String×D)}:mg n=some (.ref C)->H a=some (.ins C dx fs)->Repf K mg H fs ds->Rep K mg H (.ref a) (.ins n ds)
inductive Reps (K:PySem.W.Frag) (mg:Str->Option Value) (H:Hp):List V->List D->Prop
 | nil:Reps K mg H [] []
 | cons {v:V} {d:D} {vs:List V} {ds:List D}:Rep K mg H v d->Reps K mg H vs ds->Reps K mg H (v::vs) (d::ds)
inductive Repf (K:PySem.W.Frag) (mg:Str->Option Value) (H:Hp):List (Str×V)->List (String×D)->Prop
 | nil:Repf K mg H [] []
 | cons {x:String} {v:V} {d:D} {vs:List (Str×V)} {ds:List (String×D)}:Rep K mg H v d->Repf K mg H vs ds->Repf K mg H (((x:Str),v)::vs) ((x,d)::ds)
end
theorem bT {K:PySem.W.Frag} {H H':Hp} {a:Addr} {xs:List V} (e:ay H H') (h:SqT K H a xs):SqT K H' a xs:=by
 rcases h with (h | ⟨o,h⟩) | h
 ·exact .inl (.inl (e _ _ h))
 ·exact .inl (.inr ⟨o,e _ _ h⟩)
 ·exact .inr h
section
variable {K:PySem.W.Frag} {mg:Str->Option Value} {H H':Hp}
mutual
theorem Rep.mono (s:ay H H'):∀ {v:V} {d:D},Rep K mg H v d->Rep K mg H' v d
 | _,_,.non=>.non
 | _,_,.bl b=>.bl b
 | _,_,.int i=>.int i
 | _,_,.str x=>.str x
 | _,_,.tup h r=>.tup (bT s h) (Reps.mono s r)
 | _,_,.lst h r=>.lst (s.seq h) (Reps.mono s r)
 | _,_,.ty n=>.ty n
 | _,_,.cls h=>.cls h
 | _,_,.exc h e=>.exc h (s _ _ e)
 | _,_,.ins h e r=>.ins h (s _ _ e) (Repf.mono s r)
theorem Reps.mono (s:ay H H'):∀ {vs:List V} {ds:List D},Reps K mg H vs ds->Reps K mg H' vs ds
 | _,_,.nil=>.nil
 | _,_,.cons r t=>.cons (Rep.mono s r) (Reps.mono s t)
theorem Repf.mono (s:ay H H'):∀ {vs:List (Str×V)} {ds:List (String×D)},Repf K mg H vs ds->Repf K mg H' vs ds
 | _,_,.nil=>.nil
 | _,_,.cons r t=>.cons (Rep.mono s r) (Repf.mono s t)
end
theorem Reps.length:∀ {vs:List V} {ds:List D},Reps K mg H vs ds->vs.length=ds.length
 | _,_,.nil=>rfl
 | _,_,.cons _ t=>congrArg (· + 1) (Reps.length t)
theorem Reps.get:∀ {vs:List V} {ds:List D} {i:Nat} {d:D},Reps K mg H vs ds->ds[i]? = some d->∃ v,vs[i]? = some v/\Rep K mg H v d
 | _,_,_,_,.nil,e=>by simp at e
 | _,_,0,_,.cons r _,e=>by simp at e;subst e;exact ⟨_,rfl,r⟩
 | _,_,i+1,d,.cons _ t,e=>by
  obtain ⟨v,h1,h2⟩:=Reps.get (i:=i) (d:=d) t (by simpa using e)
  exact ⟨v,by simpa using h1,h2⟩
theorem Reps.append:∀ {vs ws:List V} {ds es:List D},Reps K mg H vs ds->Reps K mg H ws es->Reps K mg H (vs++ws) (ds++es)
 | _,_,_,_,.nil,s=>s
 | _,_,_,_,.cons r t,s=>.cons r (Reps.append t s)
theorem Reps.take:∀ {vs:List V} {ds:List D} (n:Nat),Reps K mg H vs ds->Reps K mg H (vs.take n) (ds.take n)
 | _,_,0,_=>.nil
 | _,_,_+1,.nil=>.nil
 | _,_,n+1,.cons r t=>.cons r (Reps.take n t)
theorem Reps.drop:∀ {vs:List V} {ds:List D} (n:Nat),Reps K mg H vs ds->Reps K mg H (vs.drop n) (ds.drop n)
 | _,_,0,r=>r
 | _,_,_+1,.nil=>.nil
 | _,_,n+1,.cons _ t=>Reps.drop n t
theorem Reps.ints (ns:List Int):Reps K mg H (ns.map V.int) (ns.map D.int):=by
 induction ns with
 | nil=>exact .nil
 | cons n r ih=>exact .cons (.int n) ih
theorem lq {x y:String} (h:(Str.ofString x)=Str.ofString y):x=y:=by
 rw [Str.ofString_eq_toList,Str.ofString_eq_toList] at h
 have h1:(x.toList.map Char.toNat).toArray=(y.toList.map Char.toNat).toArray:=congrArg Str.cps h
 have h2:x.toList.map Char.toNat=y.toList.map Char.toNat:=by simpa using h1
 have h3:∀ (l m:List Char),l.map Char.toNat=m.map Char.toNat->l=m:=by
  intro l
  induction l with
  | nil=>intro m e;cases m with | nil=>rfl | cons _ _=>cases e
  | cons c r ih =>
   intro m e
   cases m with
   | nil=>cases e
   | cons c' r' =>
    rw [List.map_cons,List.map_cons,List.cons.injEq] at e
    rw [Char.ext (UInt32.toNat_inj.mp e.1),ih r' e.2]
 exact String.toList_inj.mp (h3 _ _ h2)
end
def Stt (K:PySem.W.Frag) (mg:Str->Option Value) (H:Hp) (σ:L2.St) (δ:Dt):Prop :=
 σ.length=δ.length/\∀ (i:Nat) (d:D),δ[i]? = some (some d)->(∀ ds,d ≠ .own ds)->∃ v,σ[i]? = some (some v)/\Rep K mg H v d
theorem Stt.mono {K:PySem.W.Frag} {mg:Str->Option Value} {H H':Hp} {σ:L2.St} {δ:Dt} (h:Stt K mg H σ δ) (s:ay H H'):Stt K mg H' σ δ :=
 ⟨h.1,fun i d e n=>let ⟨v,a,b⟩:=h.2 i d e n;⟨v,a,b.mono s⟩⟩
theorem Stt.set {K:PySem.W.Frag} {mg:Str->Option Value} {H:Hp} {σ:L2.St} {δ:Dt} {i:Nat} {v:V} {d:D} (h:Stt K mg H σ δ) (r:Rep K mg H v d):Stt K mg H (σ.set i (some v)) (δ.set i (some d)):=by
 refine ⟨by rw [List.length_set,List.length_set];exact h.1,fun j d' e n => ?_⟩
 by_cases hj:j=i
 ·subst hj
  by_cases hl:j<δ.length
  ·rw [List.getElem?_set_self hl] at e
   cases e
   exact ⟨v,by rw [List.getElem?_set_self (by rw [h.1];exact hl)],r⟩
  ·rw [List.getElem?_eq_none (by simp;omega)] at e
   cases e
 ·rw [List.getElem?_set_ne (Ne.symm hj)] at e
  obtain ⟨u,a,b⟩:=h.2 j d' e n
  exact ⟨u,by rw [List.getElem?_set_ne (Ne.symm hj)];exact a,b⟩
structure FlyX (P:Program) (w:World) (outer:List Env) (H:Hp) (s:Shared) (C:Addr) (H':Hp) (ea:Addr) (s':Shared):Prop where
 os:s'.os=s.os
 bare:AllBare s'.gens
 un:Un (frs outer) [] H H' s.heap s'.heap
 hok:HOk P w H' s'.heap
 same:ay H H'
 new:s.heap.get? ea=none
 fly:∃ a0 B,Heap.FlyingW B outer ea (.ref C) a0 s'.heap/\(∀ b o,s.heap.get? b=some o->H b=none->b∉frs outer->B.get? b=some o)/\(∀ b u o,H' b=some u->s'.heap.get? b=some o->B.get? b=some o)
def ew (X:Cx) (C:Addr) (σ:L2.St) (H':Hp):Prop:=∀ pins H s ea s',Inv X pins σ H s->FlyX X.prog X.w X.stack H s C H' ea s'->X.xe (.ref ea) s'
def em (X:Cx) (C:Addr) (σ:L2.St) (H':Hp):Prop:=∀ pins s h' ea vs,Inv X pins σ H' s->Heap.MadeExcOf s.heap h' ea (.ref C) vs->X.xe (.ref ea) { s with heap:=h' }
structure HeldX (X:Cx) (pins:List ↥7) (σ:L2.St) (C:Addr) (H':Hp) (ea:Addr) (s':Shared):Prop where
 inv:Inv X pins σ H' s'
 new:X.s₀.heap.get? ea=none
 fly:∃ a0 B,Heap.HeldW B X.stack ea (.ref C) a0 X.env.locals s'.heap/\(∀ b o,X.s₀.heap.get? b=some o->X.H₀ b=none->b∉X.fs->B.get? b=some o)/\(∀ b u o,H' b=some u->s'.heap.get? b=some o->B.get? b=some o)
def ehx (X:Cx) (C:Addr) (σ:L2.St) (H':Hp):Prop:=∀ pins ea s',HeldX X pins σ C H' ea s'->X.xe (.ref ea) s'
def RQ (X:Cx) (σ:L2.St) (H:Hp) (r:R D) (Q:VK):Prop:=match r with
 | .ok d=>∀ v H',ay H H'->Rep X.K X.mg H' v d->Q v H'
 | .ex C=>∀ Ca,X.mg C=some (.ref Ca)->∀ H',ay H H'->ew X Ca σ H'
 | .bad=>False
def tE (X:Cx) (g:E):TE:=fun σ H Q=>∃ δ,Stt X.K X.mg H σ δ/\RQ X σ H (g δ) Q
@[irreducible] def SE (X:Cx) (e:Expr) (g:E):Prop:=PE X e (tE X g)
def RT (X:Cx) (σ:L2.St) (H:Hp) (r:R D) (Q:Bool->Hp->Prop):Prop:=match r with
 | .ok (.bl b)=>∀ H',ay H H'->Q b H'
 | .ex C=>∀ Ca,X.mg C=some (.ref Ca)->∀ H',ay H H'->ew X Ca σ H'
 | _=>False
def tT (X:Cx) (g:E):TT:=fun σ H Q=>∃ δ,Stt X.K X.mg H σ δ/\RT X σ H (g δ) Q
@[irreducible] def ST (X:Cx) (e:Expr) (g:E):Prop:=PT X e (tT X g)
@[irreducible] def SW (X:Cx) (e:Expr) (g:E):Prop:=PW X e (tT X g)
def RA (X:Cx) (σ:L2.St) (H:Hp) (r:R (List D)) (Q:List V->Hp->Prop):Prop:=match r with
 | .ok ds=>∀ vs H',ay H H'->Reps X.K X.mg H' vs ds->Q vs H'
 | .ex C=>∀ Ca,X.mg C=some (.ref Ca)->∀ H',ay H H'->ew X Ca σ H'
 | .bad=>False
def tAs (X:Cx) (gs:List E):TA:=fun σ H Q=>∃ δ,Stt X.K X.mg H σ δ/\RA X σ H (evs gs δ) Q
@[irreducible] def SA (X:Cx) (es:List Expr) (gs:List E):Prop:=PA X es (tAs X gs)
unseal SE ST SW SA
section
variable {X:Cx} {σ:L2.St} {H H1:Hp}
theorem PE.weak (h:PE X e t) (w:∀ σ H Q,t' σ H Q->t σ H Q):PE X e t':=fun pins s σ H Q I q=>h pins s σ H Q I (w σ H Q q)
theorem PT.weak (h:PT X e t) (w:∀ σ H Q,t' σ H Q->t σ H Q):PT X e t':=fun pins s σ H Q I q=>h pins s σ H Q I (w σ H Q q)
theorem PW.weak (h:PW X e t) (w:∀ σ H Q,t' σ H Q->t σ H Q):PW X e t':=fun wh pins s σ H Q I q=>h wh pins s σ H Q I (w σ H Q q)
theorem PA.weak (h:PA X es t) (w:∀ σ H Q,t' σ H Q->t σ H Q):PA X es t':=fun pos pins s σ H Q I q=>h pos pins s σ H Q I (w σ H Q q)
theorem PS.weak {st:Stmt} {t t':TS} (h:PS X st t) (w:∀ D σ H,t' D σ H->t D σ H):PS X st t':=fun pins s σ H D I q=>h pins s σ H D I (w D σ H q)
theorem PSs.weak {st:List Stmt} {t t':TS} (h:PSs X st t) (w:∀ D σ H,t' D σ H->t D σ H):PSs X st t':=fun pins s σ H D I q=>h pins s σ H D I (w D σ H q)
theorem RQ.to (h:RQ X σ H r Q) (g:∀ v H',ay H H'->Q v H'->Q' v H'):RQ X σ H r Q':=by
 cases r with
 | ok d=>exact fun v H' s r=>g v H' s (h v H' s r)
 | ex C=>exact h
 | bad=>exact h
theorem RQ.mono (s:ay H H1) (h:RQ X σ H r Q):RQ X σ H1 r Q:=by
 cases r with
 | ok d=>exact fun v H' s' r=>h v H' (s.trans s') r
 | ex C=>exact fun Ca hc H' s'=>h Ca hc H' (s.trans s')
 | bad=>exact h
theorem RT.mono (s:ay H H1) (h:RT X σ H r Q):RT X σ H1 r Q:=by
 cases r with
 | ok d =>
  cases d with
  | bl b=>exact fun H' s'=>h H' (s.trans s')
  | _=>exact False.elim h
 | ex C=>exact fun Ca hc H' s'=>h Ca hc H' (s.trans s')
 | bad=>exact h
theorem RQ.bind (h:RQ X σ H (r.bind f) Q):RQ X σ H r (fun v H'=>ay H H'/\∃ d,Rep X.K X.mg H' v d/\RQ X σ H' (f d) Q):=by
 cases r with
 | ok d=>exact fun v H' s r=>⟨s,d,r,h.mono s⟩
 | ex C=>exact h
 | bad=>exact h
theorem RA.bind (h:RQ X σ H (r.bind f) Q):RA X σ H r (fun vs H'=>ay H H'/\∃ ds,Reps X.K X.mg H' vs ds/\RQ X σ H' (f ds) Q):=by
 cases r with
 | ok d=>exact fun v H' s r=>⟨s,d,r,h.mono s⟩
 | ex C=>exact h
 | bad=>exact h
theorem RT.bind (h:RT X σ H (r.bind f) Q):RQ X σ H r (fun v H'=>ay H H'/\∃ d,Rep X.K X.mg H' v d/\RT X σ H' (f d) Q):=by
 cases r with
 | ok d=>exact fun v H' s r=>⟨s,d,r,h.mono s⟩
 | ex C=>exact h
 | bad=>exact False.elim h
end
structure Sc (X:Cx) (N:List Str):Prop where
 n:X.N=N
 nd:N.Nodup
 vis:∀ x∈N,Vis X.env.scope x
 dbg:∀ x∈N,(x == ("__debug__":Str))=false/\(x == ("__classdict__":Str))=false
def Sto (X:Cx) (x:Str):Prop:=Loc X.env.scope x/\(X.fn x=true\/X.env.scope.names.lookup x=some .local)
structure Gb (X:Cx) (x:Str):Prop where
 g:X.env.scope.names.lookup x=some .globalImplicit
 d:(x == ("__debug__":Str))=false
 n:x≠"__name__"
section
variable {X:Cx} {N:List Str} {pos:Pos} {a b c e:Expr} {ga gb gc g:E}
theorem fh (S:Sc X N) (i:Nat) (hN:N[i]? = some x):SE X (.Name x pos) (var i):=by
 have hm:x∈N:=List.mem_of_getElem? hN
 refine PE.weak (lb (i:=i) (by rw [S.n];exact hN) (S.vis x hm) (S.dbg x hm).1 (S.dbg x hm).2) fun σ H Q ⟨δ,hσ,h⟩ => ?_
 unfold var at h
 split at h
 ·exact False.elim h
 ·rename_i d _ hd
  obtain ⟨v,e,r⟩:=hσ.2 i d hd (by intro ds z;subst z;rename_i q;exact q ds rfl)
  exact ⟨v,e,h v H (ay.refl H) r⟩
 ·exact False.elim h
theorem lN (h:PE X e (tC v)) (r:∀ H,Rep X.K X.mg H v d):SE X e (con d):=PE.weak h fun σ H Q ⟨δ,hσ,q⟩=>q _ H (ay.refl H) (r H)
theorem ag {i j}:SE X (.Constant (.int i) j pos) (con (.int i)):=lN BW fun _=>.int i
theorem pj {b j}:SE X (.Constant (.bool b) j pos) (con (.bl b)):=lN EH fun _=>.bl b
theorem Ff {j}:SE X (.Constant .none j pos) (con .non):=lN BV fun _=>.non
theorem ao {x j}:SE X (.Constant (.str x) j pos) (con (.str x)):=lN vP fun _=>.str x
theorem nV (G:Gb X x) (h:∃ t,X.mg x=some (.int i t)):SE X (.Name x pos) (con (.int i)):=by
 obtain ⟨t,h⟩:=h
 exact lN (mx (v:=.int i) G.g h ⟨t,rfl⟩ G.d) fun _=>.int i
theorem wC (G:Gb X x) (h:∃ t,X.mg x=some (.str i t)):SE X (.Name x pos) (con (.str i)):=by
 obtain ⟨t,h⟩:=h
 exact lN (mx (v:=.str i) G.g h ⟨t,rfl⟩ G.d) fun _=>.str i
theorem eI {x:String} {C:Addr} (G:Gb X x) (h:X.mg x=some (.ref C)):SE X (.Name x pos) (con (.cls x)):=lN (mx (v:=.ref C) G.g h rfl G.d) fun _=>.cls h
theorem Fc (G:Gb X x) (h:X.mg x=none) (hv:bootBuiltins x=some (.type n)):SE X (.Name x pos) (con (.ty n)) :=
 lN (yM (v:=.ty n) G.g h hv rfl G.n G.d) fun _=>.ty n
def rD (X:Cx) (f:D->D->R D):R2:=fun x y H Q=>∃ dx dy d,Rep X.K X.mg H x dx/\Rep X.K X.mg H y dy/\f dx dy=.ok d/\∀ v H',ay H H'->Rep X.K X.mg H' v d->Q v H'
def i8 (f:D->D->R D):Prop:=∀ x y C,f x y ≠ .ex C
theorem RQ.op (nx:i8 f) (r1:Rep X.K X.mg H x dx) (r2:Rep X.K X.mg H y dy) (h:RQ X σ H (f dx dy) Q):rD X f x y H Q:=by
 cases e:f dx dy with
 | ok d=>rw [e] at h;exact ⟨dx,dy,d,r1,r2,e,h⟩
 | ex C=>exact absurd e (nx dx dy C)
 | bad=>rw [e] at h;exact False.elim h
theorem sd (h:tE X (EV.bin f ga gb) σ H Q):tE X ga σ H fun x H1=>tE X gb σ H1 fun y H2=>∃ dx dy,Rep X.K X.mg H2 x dx/\Rep X.K X.mg H2 y dy/\RQ X σ H2 (f dx dy) Q:=by
 obtain ⟨δ,hσ,h⟩:=h
 refine ⟨δ,hσ,(RQ.bind h).to fun x H1 s1 ⟨_,dx,r1,h1⟩ => ?_⟩
 refine ⟨δ,hσ.mono s1,(RQ.bind h1).to fun y H2 s2 ⟨_,dy,r2,h2⟩ => ?_⟩
 exact ⟨dx,dy,r1.mono s2,r2,h2⟩
theorem jk (nx:i8 f) (ho:OpR X (binaryOp op) (rD X f)) (ha:SE X a ga) (hb:SE X b gb):SE X (.BinOp a op b pos) (EV.bin f ga gb) :=
 PE.weak (EF ho ha hb) fun σ H Q h=>by
  obtain ⟨δ,hσ,q⟩:=sd h
  refine ⟨δ,hσ,q.to fun x H1 s1 ⟨δ1,hσ1,q1⟩=>⟨δ1,hσ1,q1.to fun y H2 s2 ⟨dx,dy,r1,r2,q2⟩=>RQ.op nx r1 r2 q2⟩⟩
theorem vi (nx:i8 f) (ho:OpR X (compareOp op) (rD X f)) (ha:SE X a ga) (hb:SE X b gb) (hm:behindInMarks op b=false):SE X (.Compare a [op] [b] pos) (EV.bin f ga gb) :=
 PE.weak (yK ho ha hb hm) fun σ H Q h=>by
  obtain ⟨δ,hσ,q⟩:=sd h
  refine ⟨δ,hσ,q.to fun x H1 s1 ⟨δ1,hσ1,q1⟩=>⟨δ1,hσ1,q1.to fun y H2 s2 ⟨dx,dy,r1,r2,q2⟩=>RQ.op nx r1 r2 q2⟩⟩
theorem Ad (h:tT X (EV.bin f ga gb) σ H Q):tE X ga σ H fun x H1=>tE X gb σ H1 fun y H2=>∃ dx dy,Rep X.K X.mg H2 x dx/\Rep X.K X.mg H2 y dy/\RT X σ H2 (f dx dy) Q:=by
 obtain ⟨δ,hσ,h⟩:=h
 refine ⟨δ,hσ,(RT.bind h).to fun x H1 s1 ⟨_,dx,r1,h1⟩ => ?_⟩
 refine ⟨δ,hσ.mono s1,(RT.bind h1).to fun y H2 s2 ⟨_,dy,r2,h2⟩ => ?_⟩
 exact ⟨dx,dy,r1.mono s2,r2,h2⟩
theorem RT.op (nx:i8 f) (r1:Rep X.K X.mg H x dx) (r2:Rep X.K X.mg H y dy) (h:RT X σ H (f dx dy) Q):rD X f x y H fun v H'=>∃ k,v=.bl k/\Q k H':=by
 cases e:f dx dy with
 | ok d =>
  rw [e] at h
  cases d with
  | bl k=>exact ⟨dx,dy,_,r1,r2,e,fun v H' s r=>by cases r;exact ⟨k,rfl,h H' s⟩⟩
  | _=>exact False.elim h
 | ex C=>exact absurd e (nx dx dy C)
 | bad=>rw [e] at h;exact False.elim h
theorem p4 (nx:i8 f) (ho:OpR X (compareOp op) (rD X f)) (ha:SE X a ga) (hb:SE X b gb) (hm:behindInMarks op b=false):ST X (.Compare a [op] [b] pos) (EV.bin f ga gb) :=
 PT.weak (yE ho ha hb hm) fun σ H Q h=>by
  obtain ⟨δ,hσ,q⟩:=Ad h
  refine ⟨δ,hσ,q.to fun x H1 s1 ⟨δ1,hσ1,q1⟩=>⟨δ1,hσ1,q1.to fun y H2 s2 ⟨dx,dy,r1,r2,q2⟩=>RT.op nx r1 r2 q2⟩⟩
theorem nI {F:Value->Value->Sem Value} {f:D->D->R D} {C:Int->Int->Prop} {g:Int->Int->Int} (ho:OpR X F (rI C fun i j=>.int (g i j)))
  (hf:∀ dx dy d,f dx dy=.ok d->∃ i j,dx=.int i/\dy=.int j/\C i j/\d=.int (g i j)):OpR X F (rD X f):=by
 intro pins s σ H x y v u Q I rx ry ⟨dx,dy,d,r1,r2,e,q⟩
 obtain ⟨i,j,rfl,rfl,hc,rfl⟩:=hf dx dy d e
 cases r1
 cases r2
 exact ho pins s σ H _ _ v u Q I rx ry ⟨i,j,rfl,rfl,hc,q _ _ ↥20 (.int _)⟩
theorem yV {F:Value->Value->Sem Value} {f:D->D->R D} {g:Int->Int->Int} (ho:OpR X F (rI0 fun i j=>.int (g i j)))
  (hf:∀ dx dy d,f dx dy=.ok d->∃ i j,dx=.int i/\dy=.int j/\d=.int (g i j)):OpR X F (rD X f):=by
 intro pins s σ H x y v u Q I rx ry ⟨dx,dy,d,r1,r2,e,q⟩
 obtain ⟨i,j,rfl,rfl,rfl⟩:=hf dx dy d e
 cases r1
 cases r2
 exact ho pins s σ H _ _ v u Q I rx ry ⟨i,j,rfl,rfl,q _ _ ↥20 (.int _)⟩
theorem qu {F:Value->Value->Sem Value} {f:D->D->R D} {g:Int->Int->Bool} (ho:OpR X F (rI0 fun i j=>.bl (g i j)))
  (hf:∀ dx dy d,f dx dy=.ok d->∃ i j,dx=.int i/\dy=.int j/\d=.bl (g i j)):OpR X F (rD X f):=by
 intro pins s σ H x y v u Q I rx ry ⟨dx,dy,d,r1,r2,e,q⟩
 obtain ⟨i,j,rfl,rfl,rfl⟩:=hf dx dy d e
 cases r1
 cases r2
 exact ho pins s σ H _ _ v u Q I rx ry ⟨i,j,rfl,rfl,q _ _ ↥20 (.bl _)⟩
end
theorem uM (i:Int):nb i=Builtin.Int.intBits i:=by
 unfold nb Builtin.Int.intBits
 by_cases h:i=0
 ·rw [if_pos h,if_pos (by rw [h];rfl)]
 ·rw [if_neg h,if_neg (by simpa using h)]
theorem uP {i j:Int} (h:MulOk i j):IntMulOk i j:=IntMulOk.of_le (m:=nb i) (n:=nb j) (Nat.le_of_eq (uM i).symm) (Nat.le_of_eq (uM j).symm) h
def EB (K:PySem.W.Frag):R2:=fun x y H Q=>∃ a b xs ys,x=.ref a/\y=.ref b/\SqL K H a xs/\SqL K H b ys/\xs.length+ys.length<=sizeLine/\∀ p,H p=none->Q (.ref p) (upd H p (.lst (xs++ys)))
section
variable {X:Cx}
theorem aQ (h:H p=none) (o:HO):ay H (upd H p o):=fun b u q=>by rw [aM (cx q h)];exact q
theorem qZ (l b:Addr) (xs ys:Array Value) (n m:Nat) (d1 d2:Option Addr) (s1 s2:Array ↥37) (hz:xs.size+ys.size<=sizeLine) :
  Meets (Builtin.«list.__add__» ⟨[.ref l,.ref b],[]⟩) (fun _ R s=>s.heap.get? l=some { cls:=.type "list",dict:=d1,data:=.seq xs n,slots:=s1 }/\s.heap.get? b=some { cls:=.type "list",dict:=d2,data:=.seq ys m,slots:=s2 } /\
   R (.ok (.ret (Value.ref s.heap.objs.size))) { s with heap:=s.heap.push { cls:=.type "list",data:=.seq (xs++ys) } }) :=
 .of_wp fun prog w A R s h=>by
  obtain ⟨hp,g,dd,tk,os⟩:=s
  obtain ⟨ha,hb,h⟩:=h
  have f3:=AutoSeq1.sub_list_list
  wp_walk using AutoSeq1.wpAny_loadPart' ha,AutoSeq1.wpAny_loadPart' hb
  exact ⟨_,rfl,h⟩
theorem za:OpR X (binaryOp .Add) (EB X.K):=by
 intro pins s σ H x y v u Q I rx ry h
 obtain ⟨l,b,xs,zs,rfl,rfl,hH,hB,hz,q⟩:=h
 cases rx
 cases ry
 obtain ⟨its,r,⟨⟨c1,d1,t1,s1⟩,n,e,g1,g2,g3⟩,_⟩:=I.list hH
 obtain ⟨its2,r2,⟨⟨c2,d2,t2,s2⟩,n2,e2,k1,k2,k3⟩,_⟩:=I.list hB
 simp only at g1 g2 g3 k1 k2 k3
 subst g1 g2 g3 k1 k2 k3
 have hl:=r.length
 have hl2:=r2.length
 refine concat_meets ⟨_,e,rfl⟩ ⟨_,e2,rfl⟩ noFill_list_add seq_list_add F.slot_list_add F.entry_list_add (F.args_list_add_2 _ _) (qZ l b its.toArray its2.toArray n n2 _ _ _ _ (by rw [List.size_toArray,List.size_toArray];omega)) ⟨e,e2,?_⟩
 have ea:its.toArray++its2.toArray=(its++its2).toArray:=by simp
 rw [ea]
 exact ⟨.ref _,_,I.lnew (t':=s.toks) (r.append r2) (by rw [List.length_append];omega),rfl,q _ I.fresh⟩
theorem b0 [Decidable c]:(if c then R.ok d else R.bad)≠R.ex C:=by split<;>exact fun z=>nomatch z
theorem EZ:i8 aR:=fun x y C z=>by unfold aR at z;split at z<;>first | cases z | exact b0 z
theorem zb:OpR X (binaryOp .Add) (rD X aR):=by
 intro pins s σ H x y v u Q I rx ry ⟨dx,dy,d,r1,r2,e,q⟩
 unfold aR at e
 split at e
 ·cases e;cases r1;cases r2
  exact Cc pins s σ H _ _ v u Q I rx ry ⟨_,_,rfl,rfl,q _ _ ↥20 (.int _)⟩
 ·split at e
  ·rename_i hz
   cases e;cases r1;cases r2
   exact oN pins s σ H _ _ v u Q I rx ry ⟨_,_,rfl,rfl,Nat.le_trans hz (by rw [sizeLine_eq];decide),q _ _ ↥20 (.str _)⟩
  ·cases e
 ·split at e
  ·rename_i hz
   cases e;cases r1;cases r2
   rename_i a xs h1 r1 b ys h2 r2
   exact za pins s σ H _ _ v u Q I rx ry ⟨a,b,xs,ys,rfl,rfl,h1,h2,by rw [r1.length,r2.length];exact Nat.le_trans hz (by rw [sizeLine_eq];decide),fun p hp=>q _ _ (aQ hp _) (.lst (SqL.of aS) ((r1.append r2).mono (aQ hp _)))⟩
  ·cases e
 ·split at e
  ·rename_i hz
   cases e;cases r1;cases r2
   rename_i a xs h1 r1 b ys h2 r2
   refine yZ pins s σ H _ _ v u Q I rx ry ⟨a,b,xs,ys,rfl,rfl,h1,h2,fun z=>hz.1 ?_,by rw [r1.length,r2.length];exact Nat.le_trans hz.2 (by rw [sizeLine_eq];decide),fun z=>q _ _ ↥20 ?_,fun _ p hp=>q _ _ (aQ hp _) (.tup (SqT.of aS) ((r1.append r2).mono (aQ hp _)))⟩
   ·subst z
    cases r1;rfl
   ·subst z
    cases r2
    rw [List.append_nil]
    exact .tup h1 r1
  ·cases e
 ·cases e
theorem EO:i8 my:=fun x y C z=>by unfold my at z;split at z<;>cases z
theorem yP:OpR X (binaryOp .Sub) (rD X my):=yV B5 fun dx dy d e=>by
 unfold my at e;split at e
 ·cases e;exact ⟨_,_,rfl,rfl,rfl⟩
 ·cases e
theorem EW:i8 gm:=fun x y C z=>by unfold gm at z;split at z<;>first | cases z | exact b0 z
theorem yW:OpR X (binaryOp .Mult) (rD X gm):=nI (C:=IntMulOk) (opI fun _ _ _ _ _ _ _ hc q=>mul_int q hc) fun dx dy d e=>by
 unfold gm at e;split at e
 ·split at e
  ·rename_i h;cases e;exact ⟨_,_,rfl,rfl,uP h,rfl⟩
  ·cases e
 ·cases e
theorem EY:i8 oDiv:=fun x y C z=>by unfold oDiv at z;split at z<;>first | cases z | exact b0 z
theorem Jx (h:l6 i j):Builtin.divisionGoesByPylong i j=false:=by
 obtain ⟨h0,h⟩:=h
 show (decide ((if j == 0 then 0 else j.natAbs.log2 / 30+1)>300)&&decide ((if i == 0 then 0 else i.natAbs.log2 / 30+1)>(if j == 0 then 0 else j.natAbs.log2 / 30+1)+150))=false
 have ej:(j == 0)=false:=by simp;omega
 unfold nb at h
 rw [if_neg (by omega:¬ j=0)] at h
 rw [ej]
 simp only [Bool.false_eq_true,if_false]
 rw [Bool.and_eq_false_iff,decide_eq_false_iff_not,decide_eq_false_iff_not]
 by_cases hi:i=0
 ·rw [if_pos (by simp [hi])];omega
 ·rw [if_neg (by simp [hi])]
  rw [if_neg hi] at h
  omega
theorem yY:OpR X (binaryOp .FloorDiv) (rD X oDiv):=nI (C:=l6) (g:=fun i j=>i / j) (opI fun i j _ _ _ _ _ hc q=>by
  have h1:(0:Int)<j:=hc.1
  exact floordiv_int ⋯ (by rw [Int.fdiv_eq_ediv_of_nonneg i ⋯];exact q) (.inl (Jx hc))) fun dx dy d e=>by
 unfold oDiv at e;split at e
 ·split at e
  ·rename_i h;cases e;exact ⟨_,_,rfl,rfl,h,rfl⟩
  ·cases e
 ·cases e
theorem EX:i8 oMod:=fun x y C z=>by unfold oMod at z;split at z<;>first | cases z | exact b0 z
theorem yX:OpR X (binaryOp .Mod) (rD X oMod):=nI (C:=fun _ j=>0<j) (g:=fun i j=>i%j) B6 fun dx dy d e=>by
 unfold oMod at e;split at e
 ·split at e
  ·rename_i h;cases e;exact ⟨_,_,rfl,rfl,h,rfl⟩
  ·cases e
 ·cases e
theorem EU:i8 uo:=fun x y C z=>by unfold uo at z;split at z<;>first | cases z | exact b0 z
theorem yU:OpR X (binaryOp .Pow) (rD X uo):=nI (C:=fun i j=>0<=j/\(nb i:Int)*j<=134217728) (g:=fun i j=>i^j.toNat) (opI fun _ _ _ _ _ _ _ hc q=>pow_int hc.1 (by rw [<- uM];exact hc.2) q) fun dx dy d e=>by
 unfold uo at e;split at e
 ·split at e
  ·rename_i h;cases e;exact ⟨_,_,rfl,rfl,h,rfl⟩
  ·cases e
 ·cases e
theorem Jt:i8 oLt:=fun x y C z=>by unfold oLt at z;split at z<;>cases z
theorem Ju:i8 oLe:=fun x y C z=>by unfold oLe at z;split at z<;>cases z
theorem Jw:i8 oGt:=fun x y C z=>by unfold oGt at z;split at z<;>cases z
theorem B7:OpR X (compareOp .Lt) (rD X oLt):=qu EJ fun dx dy d e=>by
 unfold oLt at e;split at e
 ·cases e;exact ⟨_,_,rfl,rfl,rfl⟩
 ·cases e
theorem B8:OpR X (compareOp .LtE) (rD X oLe):=qu EK fun dx dy d e=>by
 unfold oLe at e;split at e
 ·cases e;exact ⟨_,_,rfl,rfl,rfl⟩
 ·cases e
theorem Cb:OpR X (compareOp .Gt) (rD X oGt):=qu EL fun dx dy d e=>by
 unfold oGt at e;split at e
 ·cases e;exact ⟨_,_,rfl,rfl,rfl⟩
 ·cases e
end
section
variable {X:Cx} {pos:Pos} {a b c e:Expr} {ga gb gc g:E}
theorem aE (ha:SE X a ga) (hb:SE X b gb):SE X (.BinOp a .Add b pos) (EV.bin aR ga gb):=jk EZ zb ha hb
theorem iO (ha:SE X a ga) (hb:SE X b gb):SE X (.BinOp a .Sub b pos) (EV.bin my ga gb):=jk EO yP ha hb
theorem mT (ha:SE X a ga) (hb:SE X b gb):SE X (.BinOp a .Mult b pos) (EV.bin gm ga gb):=jk EW yW ha hb
theorem dU (ha:SE X a ga) (hb:SE X b gb):SE X (.BinOp a .FloorDiv b pos) (EV.bin oDiv ga gb):=jk EY yY ha hb
theorem bu (ha:SE X a ga) (hb:SE X b gb):SE X (.BinOp a .Mod b pos) (EV.bin oMod ga gb):=jk EX yX ha hb
theorem Fd (ha:SE X a ga) (hb:SE X b gb):SE X (.BinOp a .Pow b pos) (EV.bin uo ga gb):=jk EU yU ha hb
theorem J3 (ha:SE X a ga) (hb:SE X b gb):SE X (.Compare a [.LtE] [b] pos) (EV.bin oLe ga gb):=vi Ju B8 ha hb (iB _)
theorem Fq (ha:SE X a ga) (hb:SE X b gb):ST X (.Compare a [.Lt] [b] pos) (EV.bin oLt ga gb):=p4 Jt B7 ha hb (iB _)
theorem Bo (ha:SE X a ga) (hb:SE X b gb):ST X (.Compare a [.Gt] [b] pos) (EV.bin oGt ga gb):=p4 Jw Cb ha hb (iB _)
theorem Dd (ha:SE X a ga):SE X (.UnaryOp .USub a pos) (un Ce ga) :=
 PE.weak (EE AW ha) fun σ H Q ⟨δ,hσ,h⟩=>⟨δ,hσ,(RQ.bind h).to fun v H1 s1 ⟨_,d,r,q⟩=>by
  unfold Ce at q
  split at q
  ·cases r;exact ⟨_,rfl,q _ _ ↥20 (.int _)⟩
  ·exact False.elim q⟩
end
end ES
namespace ES
open PySem PySem.Spec PyProof.Rows L2 EV
unseal SE ST SW SA
mutual
def py:D->PyData
 | .non=>.none
 | .bl b=>.bool b
 | .int i=>.int i
 | .str x=>.str x
 | .tup ds=>.tuple (pys ds)
 | .lst ds=>.list (pys ds)
 | _=>.dict []
def pys:List D->List PyData
 | []=>[]
 | d::r=>py d::pys r
end
section
variable {X:Cx} {pins:List ↥7} {σ:L2.St} {H:Hp} {s:Shared}
mutual
theorem jZ (I:Inv X pins σ H s):∀ {v:V} {d:D} {u:Value},(py d).canLay0=true->Rep X.K X.mg H v d->RelV v u->∃ as,Reads s.heap u (py d) as
 | _,_,u,_,.non,r=>by cases r;exact ⟨_,.none⟩
 | _,_,u,_,.bl b,r=>by cases r;exact ⟨_,.bool b⟩
 | _,_,u,_,.int i,r=>by obtain ⟨t,rfl⟩:=r;exact ⟨_,.int i t⟩
 | _,_,u,_,.str x,r=>by obtain ⟨t,rfl⟩:=r;exact ⟨_,.str x t⟩
 | _,.tup ds,u,hc,.tup hq rs,r=>by
  cases r
  obtain ⟨its,rv,⟨o,h1,h2,n,h3⟩,_⟩:=I.tuple hq
  obtain ⟨as,ra⟩:=ee I (by simpa [py,PyData.canLay0] using hc) rs rv
  exact ⟨_,.tuple h1 h2 h3 (by simpa using ra)⟩
 | _,.lst ds,u,hc,.lst hq rs,r=>by
  cases r
  obtain ⟨its,rv,⟨o,n,h1,h2,_,h3⟩,_⟩:=I.list hq
  obtain ⟨as,ra⟩:=ee I (by simpa [py,PyData.canLay0] using hc) rs rv
  exact ⟨_,.list h1 h2 h3 (by simpa using ra)⟩
 | _,.ty n,u,hc,_,_=>by simp [py,PyData.canLay0] at hc
 | _,.cls a,u,hc,_,_=>by simp [py,PyData.canLay0] at hc
 | _,.exc a,u,hc,_,_=>by simp [py,PyData.canLay0] at hc
 | _,.ins a b,u,hc,_,_=>by simp [py,PyData.canLay0] at hc
theorem ee (I:Inv X pins σ H s):∀ {vs:List V} {ds:List D} {us:List Value},PyData.canLayAll0 (pys ds)=true->Reps X.K X.mg H vs ds->Vals vs us->∃ as,ReadsAll s.heap us (pys ds) as
 | _,_,_,_,.nil,r=>by cases r;exact ⟨_,.nil⟩
 | _,dd::dr,_,hc,.cons r t,q=>by
  cases q with
  | cons q1 q2 =>
   have hc':PyData.canLay0 (py dd)=true/\PyData.canLayAll0 (pys dr)=true:=by simpa [pys,PyData.canLayAll0] using hc
   obtain ⟨a1,r1⟩:=jZ I hc'.1 r q1
   obtain ⟨a2,r2⟩:=ee I hc'.2 t q2
   exact ⟨_,.cons r1 r2⟩
end
end
mutual
theorem qm:∀ (n:Nat) (d:D),D.pl n d=true->(py d).canLay0=true/\(py d).depth<=n
 | _,.non,_=>⟨rfl,Nat.zero_le _⟩
 | _,.bl _,_=>⟨rfl,Nat.zero_le _⟩
 | _,.int _,_=>⟨rfl,Nat.zero_le _⟩
 | _,.str x,h=>⟨by simpa [py,PyData.canLay0,PyData.strOk,D.pl] using h,Nat.zero_le _⟩
 | 0,.tup _,h=>by simp [D.pl] at h
 | 0,.lst _,h=>by simp [D.pl] at h
 | n+1,.tup ds,h=>by
  have z:=mw n ds (by simpa [D.pl] using h)
  exact ⟨by simpa [py,PyData.canLay0] using z.1,by simp only [py,PyData.depth];omega⟩
 | n+1,.lst ds,h=>by
  have z:=mw n ds (by simpa [D.pl] using h)
  exact ⟨by simpa [py,PyData.canLay0] using z.1,by simp only [py,PyData.depth];omega⟩
 | n,.own _,h=>by cases n<;>simp [D.pl] at h
 | n,.ty _,h=>by cases n<;>simp [D.pl] at h
 | n,.cls _,h=>by cases n<;>simp [D.pl] at h
 | n,.exc _,h=>by cases n<;>simp [D.pl] at h
 | n,.ins _ _,h=>by cases n<;>simp [D.pl] at h
theorem mw:∀ (n:Nat) (ds:List D),(∀ d∈ds,D.pl n d=true)->PyData.canLayAll0 (pys ds)=true/\PyData.depthAll (pys ds)<=n
 | _,[],_=>⟨rfl,Nat.zero_le _⟩
 | n,d::r,h=>by
  have z1:=qm n d (h d (.head _))
  have z2:=mw n r (fun x hx=>h x (.tail _ hx))
  exact ⟨by simp [pys,PyData.canLayAll0,z1.1,z2.1],by simp only [pys,PyData.depthAll];omega⟩
end
mutual
theorem se:∀ (n:Nat) (a b:D),D.pl n a=true->D.pl n b=true->D.beq a b=PyData.eqv (py a) (py b)
 | n,a,b,ha,hb=>by
  cases a<;>cases b<;>first
   | rfl
   | (cases n<;>simp [D.pl] at ha;done)
   | (cases n<;>simp [D.pl] at hb;done)
   | skip
  all_goals cases n with
   | zero=>simp [D.pl] at ha
   | succ n =>
    simp only [D.beq,py,PyData.eqv]
    exact oh n _ _ (by simpa [D.pl] using ha) (by simpa [D.pl] using hb)
theorem oh:∀ (n:Nat) (as bs:List D),(∀ d∈as,D.pl n d=true)->(∀ d∈bs,D.pl n d=true)->D.beqs as bs=PyData.eqvAll (pys as) (pys bs)
 | _,[],[],_,_=>rfl
 | _,[],_::_,_,_=>rfl
 | _,_::_,[],_,_=>rfl
 | n,a::as,b::bs,ha,hb=>by
  simp only [D.beqs,pys,PyData.eqvAll]
  rw [se n a b (ha a (.head _)) (hb b (.head _)),oh n as bs (fun x hx=>ha x (.tail _ hx)) (fun x hx=>hb x (.tail _ hx))]
end
section
variable {X:Cx}
theorem Hv:i8 oEq:=fun x y C z=>by unfold oEq at z;exact b0 z
theorem Ht:i8 oNe:=fun x y C z=>by unfold oNe at z;exact b0 z
theorem Fm (r1:Rep X.K X.mg H x dx) (r2:Rep X.K X.mg H y dy) (sx:dx.sc=true) (sy:dy.sc=true) (n:DD x y=true):decide (x=y)=D.beq dx dy:=by
 cases r1<;>cases sx<;>cases r2<;>cases sy<;>first
  | exact absurd (show false=true from n) Bool.false_ne_true
  | exact mV
  | exact rP
  | exact mU
  | (simp [D.beq];done)
theorem rH (n:Bool) (hu:X.A.units+64<cLine) (I:Inv X pins σ H s) (rx:RelV x v) (ry:RelV y u) (r1:Rep X.K X.mg H x dx) (r2:Rep X.K X.mg H y dy)
  (hc:D.cmp dx dy=true) (q:Q (.bl (xor n (D.beq dx dy))) H):wpAny ↥4 X.A (compareOp (if n then .NotEq else .Eq) v u) (EP X pins σ Q) X.xe s:=by
 unfold D.cmp at hc
 by_cases hp:(D.pl 8 dx&&D.pl 8 dy)=true
 ·rw [Bool.and_eq_true] at hp
  obtain ⟨l1,d1⟩:=qm 8 dx hp.1
  obtain ⟨l2,d2⟩:=qm 8 dy hp.2
  obtain ⟨as,ra⟩:=jZ I l1 r1 rx
  obtain ⟨bs,rb⟩:=jZ I l2 r2 ry
  have e:=se 8 dx dy hp.1 hp.2
  cases n with
  | false =>
   refine (SeqAt.rcAt_reads ra rb l1 l2 ⋯ X.prog X.w X.xe _ ?_:wpAny ↥4 X.A (compareOp .Eq v u) _ _ _)
   exact dk I q (by rw [Bool.false_xor,e])
  | true =>
   refine (SeqAt.rcNeAt_reads ra rb l1 l2 ⋯ X.prog X.w X.xe _ ?_:wpAny ↥4 X.A (compareOp .NotEq v u) _ _ _)
   exact dk I q (by rw [Bool.true_xor,e])
 ·have hs:(dx.sc&&dy.sc)=true:=by
   rw [Bool.or_eq_true] at hc
   exact hc.resolve_right hp
  rw [Bool.and_eq_true] at hs
  have hsc:DD x y=true:=by
   cases r1<;>cases (hs.1)<;>cases r2<;>cases (hs.2)<;>first | rfl | exact absurd rfl hp
  have e:=Fm r1 r2 hs.1 hs.2 hsc
  cases n with
  | false=>exact EM pins s σ H x y v u Q I rx ry ⟨hsc,by rw [e];rw [Bool.false_xor] at q;exact q⟩
  | true=>exact EI pins s σ H x y v u Q I rx ry ⟨hsc,by rw [e];rw [Bool.true_xor] at q;exact q⟩
theorem vV (hu:X.A.units+64<cLine):OpR X (compareOp .Eq) (rD X oEq):=by
 intro pins s σ H x y v u Q I rx ry ⟨dx,dy,d,r1,r2,e,q⟩
 unfold oEq at e
 split at e
 ·rename_i hc
  cases e
  exact rH false hu I rx ry r1 r2 hc (by rw [Bool.false_xor];exact q _ _ ↥20 (.bl _))
 ·cases e
theorem vT (hu:X.A.units+64<cLine):OpR X (compareOp .NotEq) (rD X oNe):=by
 intro pins s σ H x y v u Q I rx ry ⟨dx,dy,d,r1,r2,e,q⟩
 unfold oNe at e
 split at e
 ·rename_i hc
  cases e
  exact rH true hu I rx ry r1 r2 hc (by rw [Bool.true_xor];exact q _ _ ↥20 (.bl _))
 ·cases e
theorem jX (r:Rep X.K X.mg H x d) (h:d.sc=true):jj x=true:=by cases r<;>first | rfl | cases h
theorem ij:∀ {xs:List V} {ds:List D},Reps X.K X.mg H xs ds->ds.all D.sc=true->xs.all jj=true
 | _,_,.nil,_=>rfl
 | _,_,.cons r t,h=>by
  rw [List.all_cons,Bool.and_eq_true] at h
  rw [List.all_cons,jX r h.1,ij t h.2];rfl
theorem zU (r1:Rep X.K X.mg H x dx) (r2:Rep X.K X.mg H y dy) (sx:dx.sc=true) (sy:dy.sc=true):eqV x y=D.beq dx dy:=by
 cases r1<;>cases sx<;>cases r2<;>cases sy<;>rfl
theorem rj (r:Rep X.K X.mg H x dx) (sx:dx.sc=true):∀ {xs:List V} {ds:List D},Reps X.K X.mg H xs ds->ds.all D.sc=true->inV x xs=ds.any fun y=>D.beq y dx
 | _,_,.nil,_=>rfl
 | _,_,.cons r' t,h=>by
  rw [List.all_cons,Bool.and_eq_true] at h
  unfold inV
  rw [List.any_cons,List.any_cons,zU r' r h.1 sx]
  exact congrArg _ (rj r sx t h.2)
theorem zJ (neg:Bool) (I:Inv X pins σ H s) (rx:RelV x v) (ry:RelV y u) (r1:Rep X.K X.mg H x dx) (r2:Rep X.K X.mg H y dy)
  (hc:oIn dx dy=.ok (.bl k)) (q:Q (.bl (xor neg k)) H):wpAny ↥4 X.A (compareOp (if neg then .NotIn else .In) v u) (EP X pins σ Q) X.xe s:=by
 have seq:∀ {p:Addr} {xs:List V} {ds:List D},y=.ref p->(SqL X.K H p xs\/SqT X.K H p xs)->Reps X.K X.mg H xs ds->isIn dx ds=some k->wpAny ↥4 X.A (compareOp (if neg then .NotIn else .In) v u) (EP X pins σ Q) X.xe s:=fun {p xs ds} ey hq rs hi=>by
  subst ey
  unfold isIn at hi
  split at hi
  ·rename_i hs
   rw [Bool.and_eq_true] at hs
   cases hi
   have e:=rj r1 hs.1 rs hs.2
   cases neg with
   | false=>exact qw pins s σ H _ _ v u Q I rx ry ⟨p,xs,rfl,hq,jX r1 hs.1,ij rs hs.2,by rw [if_neg ↥0,e];rw [Bool.false_xor] at q;exact q⟩
   | true=>exact lh pins s σ H _ _ v u Q I rx ry ⟨p,xs,rfl,hq,jX r1 hs.1,ij rs hs.2,by rw [if_pos rfl,e];rw [Bool.true_xor] at q;exact q⟩
  ·cases hi
 have hseq:∀ {ds:List D},(match isIn dx ds with | some k=>R.ok (D.bl k) | none=>R.bad)=.ok (.bl k)->isIn dx ds=some k:=fun {ds} h=>by
  cases e:isIn dx ds with
  | none=>rw [e] at h;cases h
  | some k'=>rw [e] at h;cases h;rfl
 cases r2 with
 | tup hq rs=>exact seq rfl (.inr hq) rs (hseq (by cases dx<;>exact hc))
 | lst hq rs=>exact seq rfl (.inl hq) rs (hseq (by cases dx<;>exact hc))
 | str b =>
  cases r1 with
  | str a =>
   obtain ⟨⟨l⟩⟩:=a
   cases l with
   | nil=>cases hc
   | cons c t =>
    cases t with
    | cons _ _=>cases hc
    | nil =>
     cases hc
     have e:=empty_one b c
     cases neg with
     | false=>exact qv pins s σ H _ _ v u Q I rx ry ⟨_,_,rfl,rfl,by rw [e,Bool.not_not];rw [Bool.false_xor] at q;exact q⟩
     | true=>exact lg pins s σ H _ _ v u Q I rx ry ⟨_,_,rfl,rfl,by rw [e,Bool.not_not];rw [Bool.true_xor] at q;exact q⟩
  | _=>cases hc
 | _=>cases dx<;>cases hc
theorem vW:(∃ k,oIn a b=.ok (.bl k))\/oIn a b=.bad:=by
 unfold oIn
 split<;>first
  | exact .inr rfl
  | (split<;>first | exact .inl ⟨_,rfl⟩ | exact .inr rfl)
theorem Hu:i8 oIn:=fun x y C z=>by rcases vW (a:=x) (b:=y) with ⟨k,e⟩ | e<;>rw [e] at z<;>cases z
theorem vU:OpR X (compareOp .In) (rD X oIn):=by
 intro pins s σ H x y v u Q I rx ry ⟨dx,dy,d,r1,r2,e,q⟩
 rcases vW (a:=dx) (b:=dy) with ⟨k,e'⟩ | e'<;>rw [e'] at e<;>cases e
 exact zJ false I rx ry r1 r2 e' (by rw [Bool.false_xor];exact q _ _ ↥20 (.bl _))
end
section
variable {X:Cx} {pos:Pos} {a b c e:Expr} {ga gb gc g:E} {k:Nat}
theorem HA (hu:Room k X.A) (ha:SE X a ga) (hb:SE X b gb):SE X (.Compare a [.Eq] [b] pos) (EV.bin oEq ga gb):=vi Hv (vV hu.units) ha hb (iB _)
theorem Hz (hu:Room k X.A) (ha:SE X a ga) (hb:SE X b gb):SE X (.Compare a [.NotEq] [b] pos) (EV.bin oNe ga gb):=vi Ht (vT hu.units) ha hb (iB _)
theorem fK (hu:Room k X.A) (ha:SE X a ga) (hb:SE X b gb):ST X (.Compare a [.Eq] [b] pos) (EV.bin oEq ga gb):=p4 Hv (vV hu.units) ha hb (iB _)
theorem Bm (hu:Room k X.A) (ha:SE X a ga) (hb:SE X b gb):ST X (.Compare a [.NotEq] [b] pos) (EV.bin oNe ga gb):=p4 Ht (vT hu.units) ha hb (iB _)
theorem Fg (ha:SE X a ga) (hb:SE X b gb) (hm:behindInMarks .In b=false:=by rfl):SE X (.Compare a [.In] [b] pos) (EV.bin oIn ga gb):=vi Hu vU ha hb hm
theorem tX (ha:SE X a ga) (hb:SE X b gb) (hm:behindInMarks .In b=false:=by rfl):ST X (.Compare a [.In] [b] pos) (EV.bin oIn ga gb):=p4 Hu vU ha hb hm
theorem tY (h:tT X g σ H Q):tE X g σ H fun v H'=>∃ k,v=.bl k/\Q k H':=by
 obtain ⟨δ,hσ,h⟩:=h
 refine ⟨δ,hσ,?_⟩
 cases q:g δ with
 | ok d =>
  rw [q] at h
  cases d with
  | bl k=>exact fun v H' s r=>by cases r;exact ⟨k,rfl,h H' s⟩
  | _=>exact False.elim h
 | ex C=>rw [q] at h;exact h
 | bad=>rw [q] at h;exact False.elim h
theorem gA (h:SE X e g) (he:∀ whole,isTrue e X.env whole=(do let v<-whole;standAt e.pos;holding [v] (truthy v)):=by intro _;rfl):ST X e g:=PT.weak (BN h he) fun σ H Q q=>tY q
theorem RT.truth (h:RT X σ H (r.bind fun d=>truth d t f) Q):RT X σ H r fun k H'=>ay H H'/\if k=true then RT X σ H' t Q else RT X σ H' f Q:=by
 cases r with
 | ok d =>
  cases d with
  | bl k =>
   cases k with
   | true=>exact fun H' s=>⟨s,Av (RT.mono s h)⟩
   | false=>exact fun H' s=>⟨s,Aw (RT.mono s h)⟩
  | _=>exact False.elim h
 | ex C=>exact h
 | bad=>exact False.elim h
theorem RT.to (h:RT X σ H r Q) (g:∀ k H',ay H H'->Q k H'->Q' k H'):RT X σ H r Q':=by
 cases r with
 | ok d =>
  cases d with
  | bl k=>exact fun H' s=>g k H' s (h H' s)
  | _=>exact False.elim h
 | ex C=>exact h
 | bad=>exact False.elim h
theorem RQ.truth (h:RQ X σ H (r.bind fun d=>truth d t f) Q):RQ X σ H r fun v H'=>∃ k,v=.bl k/\if k=true then RQ X σ H' t Q else RQ X σ H' f Q:=by
 cases r with
 | ok d =>
  cases d with
  | bl k =>
   cases k with
   | true=>exact fun v H' s r=>by cases r;exact ⟨true,rfl,Av (RQ.mono s h)⟩
   | false=>exact fun v H' s r=>by cases r;exact ⟨false,rfl,Aw (RQ.mono s h)⟩
  | _=>exact False.elim h
 | ex C=>exact h
 | bad=>exact False.elim h
theorem rf {k:Bool} {A B A' B':Prop} (h:if k=true then A else B) (f:A->A') (g:B->B'):if k=true then A' else B':=by
 cases k with
 | true=>exact Av (f (by simpa using h))
 | false=>exact Aw (g (by simpa using h))
theorem ia (h:ST X a ga):ST X (.UnaryOp .Not a pos) (gR ga):=PT.weak (BO h) fun σ H Q ⟨δ,hσ,q⟩=>⟨δ,hσ,(RT.truth q).to fun k H' s ⟨_,z⟩=>by
 cases k with
 | true=>exact (show RT X σ H' (.ok ↥14) Q by simpa using z) H' ↥20
 | false=>exact (show RT X σ H' (.ok ↥34) Q by simpa using z) H' ↥20⟩
theorem t_w (h:SW X e g):ST X e g:=PW.pt h
theorem js (h:ST X a ga):SW X (.BoolOp .And [a] pos) ga:=yB h
theorem sN (h:ST X a ga):SW X (.BoolOp .Or [a] pos) ga:=BL h
theorem w_and {rest:List Expr} (h:ST X a ga) (hb:SW X (.BoolOp .And (b::rest) pos) gb):SW X (.BoolOp .And (a::b::rest) pos) (pH ga gb) :=
 PW.weak (BM h hb) fun σ H Q ⟨δ,hσ,q⟩=>⟨δ,hσ,(RT.truth q).to fun k H' s ⟨_,z⟩=>rf z (fun z=>⟨δ,hσ.mono s,z⟩) (fun z=>z H' ↥20)⟩
theorem w_or {rest:List Expr} (h:ST X a ga) (hb:SW X (.BoolOp .Or (b::rest) pos) gb):SW X (.BoolOp .Or (a::b::rest) pos) (or_ ga gb) :=
 PW.weak (EC h hb) fun σ H Q ⟨δ,hσ,q⟩=>⟨δ,hσ,(RT.truth q).to fun k H' s ⟨_,z⟩=>rf z (fun z=>z H' ↥20) (fun z=>⟨δ,hσ.mono s,z⟩)⟩
theorem Dc {op} (h:SE X a g):SE X (.BoolOp op [a] pos) g:=BS h
theorem De {rest:List Expr} (h:SE X a ga) (hb:SE X (.BoolOp .And (b::rest) pos) gb):SE X (.BoolOp .And (a::b::rest) pos) (pH ga gb) :=
 PE.weak (BX h hb) fun σ H Q ⟨δ,hσ,q⟩=>⟨δ,hσ,(RQ.truth q).to fun v H' s ⟨k,e,z⟩=>⟨k,e,rf z (fun z=>⟨δ,hσ.mono s,z⟩) (fun z=>z _ H' ↥20 (.bl _))⟩⟩
theorem Fe (h:SE X a ga):SE X (.UnaryOp .Not a pos) (gR ga):=PE.weak (BU h) fun σ H Q ⟨δ,hσ,q⟩=>⟨δ,hσ,(RQ.truth q).to fun v H' s ⟨k,e,z⟩=>⟨k,e,by
 cases k with
 | true=>exact (show RQ X σ H' (.ok ↥14) Q by simpa using z) _ H' ↥20 (.bl _)
 | false=>exact (show RQ X σ H' (.ok ↥34) Q by simpa using z) _ H' ↥20 (.bl _)⟩⟩
theorem dH:SA X [] []:=PA.weak iu fun σ H Q ⟨δ,hσ,h⟩=>h [] H (ay.refl H) .nil
theorem RA.cons (h:RA X σ H (evs (g::gs) δ) Q):RQ X σ H (g δ) fun v H1=>RA X σ H1 (evs gs δ) fun vs H2=>ay H1 H2->∀ d,Rep X.K X.mg H1 v d->Q (v::vs) H2:=by
 unfold evs at h
 cases q:g δ with
 | ok d =>
  rw [q] at h
  refine fun v H1 s1 r1 => ?_
  simp only [R.bind] at h
  cases q2:evs gs δ with
  | ok ds =>
   rw [q2] at h
   exact fun vs H2 s2 rs s2' d' r'=>h (v::vs) H2 (s1.trans s2) (.cons (r1.mono s2) rs)
  | ex C=>rw [q2] at h;exact fun Ca hc H' s'=>h Ca hc H' (s1.trans s')
  | bad=>rw [q2] at h;exact h
 | ex C=>rw [q] at h;exact h
 | bad=>rw [q] at h;exact h
theorem RA.to (h:RA X σ H r Q) (g:∀ v H',ay H H'->Q v H'->Q' v H'):RA X σ H r Q':=by
 cases r with
 | ok d=>exact fun v H' s r=>g v H' s (h v H' s r)
 | ex C=>exact h
 | bad=>exact h
theorem aj (ha:SE X e g) (hr:SA X es gs) (hs:starEach (e::es) X.env=(false,eval e X.env)::starEach es X.env:=by rfl):SA X (e::es) (g::gs) :=
 PA.weak (fO ha hr hs) fun σ H Q ⟨δ,hσ,h⟩=>by
  refine ⟨δ,hσ,?_⟩
  cases q:g δ with
  | ok d =>
   have h':=RA.cons h
   rw [q] at h'
   exact fun v H1 s1 r1=>⟨δ,hσ.mono s1,(h' v H1 s1 r1).to fun vs H2 s2 z=>z s2 d r1⟩
  | ex C =>
   have h':=RA.cons h
   rw [q] at h'
   exact h'
  | bad =>
   have h':=RA.cons h
   rw [q] at h'
   exact h'
theorem eG {x1} (h:SA X es gs) (hl:es.length<=1000) (hg:gs.length=es.length:=by rfl):SE X (.Tuple es x1 pos) (kF gs) :=
 PE.weak (BR h) fun σ H Q ⟨δ,hσ,q⟩=>⟨δ,hσ,by
  have q':=RA.bind q
  cases e:evs gs δ with
  | ok ds =>
   have hd:ds.length=gs.length:=evs_len e
   rw [e] at q'
   refine fun vs H1 s1 rs => ?_
   obtain ⟨_,ds',rs',q2⟩:=q' vs H1 s1 rs
   refine ⟨by rw [rs.length,hd,hg];exact Nat.le_of_lt (ig hl),fun p hp=>q2 _ _ (aQ hp _) (.tup (SqT.of aS) (rs'.mono (aQ hp _)))⟩
  | ex C=>rw [e] at q';exact q'
  | bad=>rw [e] at q';exact q'⟩
where
 evs_len {δ:Dt}:∀ {gs:List E} {ds:List D},evs gs δ=.ok ds->ds.length=gs.length
  | [],ds,e=>by cases e;rfl
  | g::gs,ds,e=>by
   unfold evs at e
   cases q:g δ with
   | ok d =>
    rw [q] at e
    simp only [R.bind] at e
    cases q2:evs gs δ with
    | ok ds'=>rw [q2] at e;cases e;simp [evs_len q2]
    | ex C=>rw [q2] at e;cases e
    | bad=>rw [q2] at e;cases e
   | ex C=>rw [q] at e;cases e
   | bad=>rw [q] at e;cases e
theorem dj (h:SA X es gs) (hl:es.length<=1000) (hg:gs.length=es.length:=by rfl):SE X (.List es pos) (iD gs) :=
 PE.weak (vQ h) fun σ H Q ⟨δ,hσ,q⟩=>⟨δ,hσ,by
  have q':=RA.bind q
  cases e:evs gs δ with
  | ok ds =>
   have hd:ds.length=gs.length:=eG.evs_len e
   rw [e] at q'
   refine fun vs H1 s1 rs => ?_
   obtain ⟨_,ds',rs',q2⟩:=q' vs H1 s1 rs
   refine ⟨by rw [rs.length,hd,hg];exact Nat.le_of_lt (ig hl),fun p hp=>q2 _ _ (aQ hp _) (.lst (SqL.of aS) (rs'.mono (aQ hp _)))⟩
  | ex C=>rw [e] at q';exact q'
  | bad=>rw [e] at q';exact q'⟩
theorem Jv:i8 oIx:=fun x y C z=>by
 unfold oIx at z
 split at z
 ·split at z<;>cases z
 ·split at z<;>cases z
 ·split at z
  ·split at z<;>cases z
  ·cases z
 ·cases z
theorem oi (rs:Reps X.K X.mg H xs ds) (h:((EV.ixN ds.length i).bind fun j=>ds[j]?)=some d):∃ v,atI xs i=some v/\Rep X.K X.mg H v d:=by
 have el:=rs.length
 cases q:EV.ixN ds.length i with
 | none=>rw [q] at h;cases h
 | some j =>
  rw [q] at h
  obtain ⟨v,h1,h2⟩:=rs.get h
  refine ⟨v,?_,h2⟩
  unfold atI
  rw [el,show L2.ixN ds.length i=some j from q]
  exact h1
theorem JN:IxR X (rD X oIx):=by
 intro value slice pins s σ H x y v u Q I rx ry ⟨dx,dy,d,r1,r2,e,q⟩ hs
 unfold oIx at e
 split at e
 ·split at e
  ·rename_i h
   cases e;cases r1;cases r2
   rename_i a xs hq rs
   obtain ⟨w,h1,h2⟩:=oi rs h
   exact jD value slice pins s σ H _ _ v u Q I rx ry ⟨a,xs,_,w,rfl,rfl,hq,h1,q _ _ ↥20 h2⟩ hs
  ·cases e
 ·split at e
  ·rename_i h
   cases e;cases r1;cases r2
   rename_i a xs hq rs
   obtain ⟨w,h1,h2⟩:=oi rs h
   exact zF value slice pins s σ H _ _ v u Q I rx ry ⟨a,xs,_,w,rfl,rfl,hq,h1,q _ _ ↥20 h2⟩ hs
  ·cases e
 ·split at e
  ·rename_i hz
   split at e
   ·rename_i c h
    cases e;cases r1;cases r2
    refine wc value slice pins s σ H _ _ v u Q I rx ry ⟨_,_,c,rfl,rfl,Nat.le_trans hz (by rw [sizeLine_eq];decide),?_,q _ _ ↥20 (.str _)⟩ hs
    exact h
   ·cases e
  ·cases e
 ·cases e
theorem nU (ha:SE X a ga) (hb:SE X b gb) (hs:m5 b:=by intro _ _;rfl):SE X (.Subscript a b pos) (EV.bin oIx ga gb) :=
 PE.weak (EG JN ha hb hs) fun σ H Q h=>by
  obtain ⟨δ,hσ,q⟩:=sd h
  refine ⟨δ,hσ,q.to fun x H1 s1 ⟨δ1,hσ1,q1⟩=>⟨δ1,hσ1,q1.to fun y H2 s2 ⟨dx,dy,r1,r2,q2⟩=>RQ.op Jv r1 r2 q2⟩⟩
end
end ES
namespace ES
open PySem PySem.Spec PyProof.Rows L2 EV
unseal SE ST SW SA
abbrev Os:=List (Nat×Addr)
def fX (os:Os):List Addr:=os.map (·.2)
def hide (H:Hp) (os:Os):Hp:=fun a=>if a∈fX os then none else H a
theorem gZ (H:Hp):hide H []=H:=by
 funext a
 unfold hide fX
 simp
theorem fQ {H:Hp} {os:Os} {a:Addr} (h:a∈fX os):hide H os a=none:=if_pos h
theorem br {H:Hp} {os:Os} {a:Addr} (h:a∉fX os):hide H os a=H a:=if_neg h
theorem aD (H:Hp) (os:Os):ay ↥26 H:=fun b o e=>by
 unfold hide at e
 split at e
 ·cases e
 ·exact e
theorem bc (os:Os) (s:ay H H'):ay ↥26 (hide H' os):=fun b o e=>by
 unfold hide at e ⊢
 split at e
 ·cases e
 ·rename_i h
  rw [if_neg h]
  exact s b o e
structure StO (X:Cx) (H:Hp) (σ:L2.St) (δ:Dt) (os:Os):Prop where
 st:Stt X.K X.mg ↥26 σ δ
 lst:∀ p∈os,∃ xs ds,H p.2=some (.lst xs)/\σ[p.1]? = some (some (.ref p.2))/\δ[p.1]? = some (some (.own ds))/\Reps X.K X.mg ↥26 xs ds
 own:∀ i ds,δ[i]? = some (some (.own ds))->∃ a,(i,a)∈os
 inj:∀ i j a,(i,a)∈os->(j,a)∈os->i=j
theorem dR {os:Os} {a:Addr} (h:a∈fX os):∃ p∈os,p.2=a:=by
 obtain ⟨p,hp,e⟩:=List.mem_map.mp h
 exact ⟨p,hp,e⟩
theorem cL {os:Os} {p:Nat×Addr} (h:p∈os):p.2∈fX os:=List.mem_map.mpr ⟨p,h,rfl⟩
def vN (h:Heap) (os:Os):List ↥7:=jy (fX os) h
section
variable {X:Cx} {pins:List ↥7} {σ:L2.St} {H H':Hp} {s s':Shared} {os:Os}
def Dy (H:Hp) (os:Os):Prop:=∀ a∈fX os,∃ xs,H a=some (.lst xs)
theorem gY (I:Inv X pins σ H s) (hl:Dy H os):Inv X (pins++vN s.heap os) σ ↥26 s:=by
 have ne:∀ {b:Addr} {o:HO},H b=some o->(∀ xs,o ≠ .lst xs)->hide H os b=some o:=fun {b o} e n=>by
  rw [br fun z => ?_];exact e
  obtain ⟨xs,q⟩:=hl b z
  rw [e] at q
  exact n xs (Option.some.inj q)
 refine ⟨I.ok,I.os,I.bare,⟨I.base.keep,I.base.slot,fun b o e n hx => ?_,I.base.there,fun b xs e => ?_,fun b o u e => ?_,fun b ps e => ?_⟩,I.loc,I.cell,?_,fun x c e => ?_,fun p hp => ?_,fun a o e => ?_,I.len⟩
 ·unfold hide;split
  ·rfl
  ·exact I.base.free b o e n hx
 ·exact ne (I.base.tups b xs e) fun _ z=>nomatch z
 ·exact ne (I.base.frzs b o u e) fun _ z=>nomatch z
 ·obtain ⟨more,q⟩:=I.base.tbls b ps e
  exact ⟨more,ne q fun _ z=>nomatch z⟩
 ·unfold hide;split
  ·rfl
  ·exact I.free
 ·unfold hide;split
  ·rfl
  ·exact I.freeC x c e
 ·rw [<- List.append_assoc] at hp
  rcases List.mem_append.mp hp with z | z
  ·obtain ⟨e,n,r⟩:=I.pin p z
   refine ⟨e,?_,r⟩
   unfold hide;split
   ·rfl
   ·exact n
  ·obtain ⟨hb,e⟩:=lp z
   obtain ⟨xs,q⟩:=hl p.1 hb
   obtain ⟨_,its,n,_,e'⟩:=I.hok p.1 _ q
   rw [e] at e'
   have e2:p.2={ cls:=.type "list",data:=.seq its.toArray n }:=Option.some.inj e'
   refine ⟨e,fQ hb,fun z => ?_,fun z => ?_,fun v z => ?_⟩
   ·rw [z,I.free] at q;cases q
   ·have hx:p.1∉X.ex:=fun w=>I.ok.exfs p.1 w z
    obtain ⟨_,o0,ho0,_⟩:=I.ok.funs.mem z
    rw [I.base.free p.1 o0 ho0 (I.ok.frf p.1 z) hx] at q;cases q
   ·rw [e2] at z;cases z
 ·have hna:a∉fX os:=fun z=>by rw [fQ z] at e;cases e
  rw [br hna] at e
  exact (I.hok a o e).stay (fun _ _ _ q=>q) (fun b q=>ne q fun _ z=>nomatch z) fun b xs q=>ne q fun _ z=>nomatch z
def cY (H H':Hp) (os:Os):Hp:=fun a=>if a∈fX os then H a else H' a
theorem fc (h:∀ a∈fX os,H' a=none):hide (cY H H' os) os=H':=by
 funext a
 unfold hide cY
 by_cases z:a∈fX os
 ·rw [if_pos z,h a z]
 ·rw [if_neg z,if_neg z]
theorem gX (hx:X.ex=[]) (I0:Inv X pins σ H s) (hl:Dy H os) (I:Inv X (pins++vN s.heap os) σ H' s'):Inv X pins σ (cY H H' os) s'/\∀ a∈fX os,H' a=none:=by
 have pin:∀ a∈fX os,∃ o,s.heap.get? a=some o/\s'.heap.get? a=some o/\H' a=none/\a≠X.env.locals/\a∉X.fs:=fun a ha=>by
  obtain ⟨xs,q⟩:=hl a ha
  obtain ⟨o,e⟩:∃ o,s.heap.get? a=some o:=by
   obtain ⟨_,its,n,_,e⟩:=I0.hok a _ q
   exact ⟨_,e⟩
  obtain ⟨e1,e2,e3,e4,_⟩:=I.pin (a,o) (List.mem_append_right _ (List.mem_append_right _ (cS ha e)))
  exact ⟨o,e,e1,e2,e3,e4⟩
 have hn:∀ a∈fX os,H' a=none:=fun a ha=>(pin a ha).choose_spec.2.2.1
 have vis:∀ {b:Addr} {o:HO},H' b=some o->cY H H' os b=some o:=fun {b o} e=>by
  unfold cY;rw [if_neg fun z => ?_];exact e
  rw [hn b z] at e;cases e
 refine ⟨⟨I.ok,I.os,I.bare,⟨I.base.keep,I.base.slot,fun b o e n hx' => ?_,I.base.there,fun b xs e=>vis (I.base.tups b xs e),fun b o u e=>vis (I.base.frzs b o u e),fun b ps e => ?_⟩,I.loc,I.cell,?_,fun x c e => ?_,fun p hp => ?_,fun a o e => ?_,I.len⟩,hn⟩
 ·unfold cY;split
  ·exact I0.base.free b o e n hx'
  ·exact I.base.free b o e n hx'
 ·obtain ⟨more,q⟩:=I.base.tbls b ps e
  exact ⟨more,vis q⟩
 ·unfold cY;split
  ·exact I0.free
  ·exact I.free
 ·unfold cY;split
  ·exact I0.freeC x c e
  ·exact I.freeC x c e
 ·obtain ⟨e,n,r⟩:=I.pin p (by rw [<- List.append_assoc];exact List.mem_append_left _ hp)
  refine ⟨e,?_,r⟩
  unfold cY;split
  ·exact (I0.pin p hp).2.1
  ·exact n
 ·by_cases z:a∈fX os
  ·obtain ⟨ob,e0,e1,_⟩:=pin a z
   unfold cY at e
   rw [if_pos z] at e
   obtain ⟨xs,q⟩:=hl a z
   rw [e] at q
   have q':o=.lst xs:=Option.some.inj q
   subst q'
   obtain ⟨hz,its,n,r,e2⟩:=I0.hok a _ e
   rw [e0] at e2
   have e3:ob=_:=Option.some.inj e2
   subst e3
   exact ⟨hz,its,n,r,e1⟩
  ·unfold cY at e
   rw [if_neg z] at e
   exact (I.hok a o e).stay (fun _ _ _ q=>q) (fun b q=>vis q) fun b xs q=>vis q
end
section
variable {K:PySem.W.Frag} {mg:Str->Option Value} {H H':Hp}
def NoL (H H':Hp):Prop:=∀ b o,H b=some o->(∀ xs,o ≠ .lst xs)->(∀ ob xs,o ≠ .frz ob (.lst xs))->H' b=some o
theorem t4 (k:NoL H H') (h:SqT K H a xs):SqT K H' a xs:=by
 rcases h with (h | ⟨o,h⟩) | h
 ·exact .inl (.inl (k _ _ h (fun _ z=>nomatch z) fun _ _ z=>nomatch z))
 ·exact .inl (.inr ⟨o,k _ _ h (fun _ z=>nomatch z) fun _ _ z=>by cases z⟩)
 ·exact .inr h
mutual
theorem ir (k:NoL H H'):∀ {v:V} {d:D},d.flat=true->Rep K mg H v d->Rep K mg H' v d
 | _,_,_,.non=>.non
 | _,_,_,.bl b=>.bl b
 | _,_,_,.int i=>.int i
 | _,_,_,.str x=>.str x
 | _,.tup ds,f,.tup h r=>.tup (t4 k h) (gO k (by simpa [D.flat] using f) r)
 | _,.lst ds,f,_=>by simp [D.flat] at f
 | _,_,_,.ty n=>.ty n
 | _,_,_,.cls h=>.cls h
 | _,_,_,.exc h e=>.exc h (k _ _ e (fun _ z=>nomatch z) fun _ _ z=>nomatch z)
 | _,.ins n ds,f,.ins h e r=>.ins h (k _ _ e (fun _ z=>nomatch z) fun _ _ z=>nomatch z) (nC k (by simpa [D.flat] using f) r)
theorem gO (k:NoL H H'):∀ {vs:List V} {ds:List D},D.flats ds=true->Reps K mg H vs ds->Reps K mg H' vs ds
 | _,_,_,.nil=>.nil
 | _,d::r,f,.cons h t=>by
  have f':d.flat=true/\D.flats r=true:=by simpa [D.flats] using f
  exact .cons (ir k f'.1 h) (gO k f'.2 t)
theorem nC (k:NoL H H'):∀ {vs:List (Str×V)} {ds:List (String×D)},D.flatf ds=true->Repf K mg H vs ds->Repf K mg H' vs ds
 | _,_,_,.nil=>.nil
 | _,(_,d)::r,f,.cons h t=>by
  have f':d.flat=true/\D.flatf r=true:=by simpa [D.flatf] using f
  exact .cons (ir k f'.1 h) (nC k f'.2 t)
end
theorem j8 {os:Os} (hl:Dy H os):NoL H ↥26:=fun b o e n _=>by
 rw [br fun z => ?_];exact e
 obtain ⟨xs,q⟩:=hl b z
 rw [e] at q
 exact n xs (Option.some.inj q)
end
section
variable {X:Cx} {σ:L2.St} {δ:Dt} {H H':Hp} {os:Os}
theorem StO.lsts (S:StO X H σ δ os):Dy H os:=fun a ha=>by
 obtain ⟨p,hp,rfl⟩:=dR ha
 obtain ⟨xs,_,h,_⟩:=S.lst p hp
 exact ⟨xs,h⟩
theorem StO.nil (h:Stt X.K X.mg H σ δ) (hn:∀ (i:Nat) (ds:List D),δ[i]? ≠ some (some (.own ds))):StO X H σ δ []:=⟨by rw [gZ];exact h,fun p hp=>(nomatch hp),fun i ds e=>absurd e (hn i ds),fun _ _ _ z=>(nomatch z)⟩
theorem StO.mono (S:StO X H σ δ os) (s:ay H H'):StO X H' σ δ os :=
 ⟨S.st.mono (bc os s),fun p hp=>let ⟨xs,ds,a,b,c,d⟩:=S.lst p hp;⟨xs,ds,s _ _ a,b,c,d.mono (bc os s)⟩,S.own,S.inj⟩
theorem StO.shown (S:StO X H σ δ os) (s:ay ↥26 H') (hn:∀ a∈fX os,H' a=none):StO X (cY H H' os) σ δ os:=by
 have e:=fc (H:=H) hn
 refine ⟨by rw [e];exact S.st.mono s,fun p hp => ?_,S.own,S.inj⟩
 obtain ⟨xs,ds,a,b,c,d⟩:=S.lst p hp
 exact ⟨xs,ds,by unfold cY;rw [if_pos (cL hp)];exact a,b,c,by rw [e];exact d.mono s⟩
theorem StO.view (S:StO X H σ δ os):Stt X.K X.mg H σ (view δ):=by
 refine ⟨by unfold EV.view;rw [List.length_map];exact S.st.1,fun i d e n => ?_⟩
 unfold EV.view at e
 rw [List.getElem?_map] at e
 cases q:δ[i]? with
 | none=>rw [q] at e;cases e
 | some c =>
  rw [q] at e
  cases c with
  | none=>cases e
  | some d0 =>
   by_cases ho:∃ ds,d0=.own ds
   ·obtain ⟨ds,rfl⟩:=ho
    have e':D.lst ds=d:=Option.some.inj (Option.some.inj e)
    subst e'
    obtain ⟨a,ha⟩:=S.own i ds q
    obtain ⟨xs,ds',h1,h2,h3,h4⟩:=S.lst _ ha
    rw [q] at h3
    cases h3
    exact ⟨.ref a,h2,.lst (SqL.of h1) (h4.mono (aD H os))⟩
   ·have e':d0=d:=by
     cases d0<;>first | exact absurd ⟨_,rfl⟩ ho | exact Option.some.inj (Option.some.inj e)
    subst e'
    obtain ⟨v,h1,h2⟩:=S.st.2 i d0 q n
    exact ⟨v,h1,h2.mono (aD H os)⟩
theorem StO.noOwn (S:StO X H σ δ os) (s:ay ↥26 H'):Stt X.K X.mg H' σ (noOwn δ):=by
 refine ⟨by unfold EV.noOwn;rw [List.length_map];exact S.st.1,fun i d e n => ?_⟩
 unfold EV.noOwn at e
 rw [List.getElem?_map] at e
 cases q:δ[i]? with
 | none=>rw [q] at e;cases e
 | some c =>
  rw [q] at e
  cases c with
  | none=>cases e
  | some d0 =>
   by_cases ho:∃ ds,d0=.own ds
   ·obtain ⟨ds,rfl⟩:=ho
    cases e
   ·have e':d0=d:=by
     cases d0<;>first | exact absurd ⟨_,rfl⟩ ho | exact Option.some.inj (Option.some.inj e)
    subst e'
    obtain ⟨v,h1,h2⟩:=S.st.2 i d0 q n
    exact ⟨v,h1,h2.mono s⟩
end
def FQ (X:Cx) (σ:L2.St) (H:Hp) (os:Os) (δ:Dt) (r:R D) (Q:VK):Prop:=match r with
 | .ok d=>∀ v H',StO X H' σ δ os->ay ↥26 (hide H' os)->Rep X.K X.mg (hide H' os) v d->Q v H'
 | .ex C=>∀ Ca,X.mg C=some (.ref Ca)->∀ H',ay ↥26 H'->Stt X.K X.mg H' σ (noOwn δ)->ew X Ca σ H'
 | .bad=>False
def tF (X:Cx) (g:E):TE:=fun σ H Q=>∃ δ os,StO X H σ δ os/\FQ X σ H os δ (g δ) Q
def FT (X:Cx) (σ:L2.St) (H:Hp) (os:Os) (δ:Dt) (r:R D) (Q:Bool->Hp->Prop):Prop:=match r with
 | .ok (.bl b)=>∀ H',StO X H' σ δ os->ay ↥26 (hide H' os)->Q b H'
 | .ex C=>∀ Ca,X.mg C=some (.ref Ca)->∀ H',ay ↥26 H'->Stt X.K X.mg H' σ (noOwn δ)->ew X Ca σ H'
 | _=>False
def tFT (X:Cx) (g:E):TT:=fun σ H Q=>∃ δ os,StO X H σ δ os/\FT X σ H os δ (g δ) Q
section
variable {X:Cx} {e:Expr} {g:E}
theorem rz (hx:X.ex=[]) (h:SE X e g):PE X e (tF X g):=by
 intro pins s σ H Q I ⟨δ,os,S,q⟩
 have hl:=S.lsts
 have hw:RQ X σ ↥26 (g δ) (fun v H1=>ay ↥26 H1/\∃ d,g δ=.ok d/\Rep X.K X.mg H1 v d):=by
  cases r:g δ with
  | ok d=>exact fun v H' s r=>⟨s,d,rfl,r⟩
  | ex C =>
   rw [r] at q
   exact fun Ca hc H' s'=>q Ca hc H' s' (S.noOwn s')
  | bad=>rw [r] at q;exact q
 refine thn (h _ s σ _ _ (gY I hl) ⟨δ,S.st,hw⟩) fun u s' ⟨v,H1,I1,rv,sm,d,e,rd⟩ => ?_
 obtain ⟨I2,hn⟩:=gX hx I hl I1
 rw [e] at q
 have eh:=fc (H:=H) hn
 exact ⟨v,_,I2,rv,q v _ (S.shown sm hn) (by rw [eh];exact sm) (by rw [eh];exact rd)⟩
theorem CZ (hx:X.ex=[]) (h:ST X e g):PT X e (tFT X g):=by
 intro pins s σ H Q I ⟨δ,os,S,q⟩
 have hl:=S.lsts
 have hw:RT X σ ↥26 (g δ) (fun b H1=>ay ↥26 H1/\g δ=.ok (.bl b)):=by
  cases r:g δ with
  | ok d =>
   rw [r] at q
   cases d with
   | bl b=>exact fun H' s=>⟨s,rfl⟩
   | _=>exact False.elim q
  | ex C =>
   rw [r] at q
   exact fun Ca hc H' s'=>q Ca hc H' s' (S.noOwn s')
  | bad=>rw [r] at q;exact False.elim q
 refine thn (h _ s σ _ _ (gY I hl) ⟨δ,S.st,hw⟩) fun b s' ⟨H1,I1,sm,e⟩ => ?_
 obtain ⟨I2,hn⟩:=gX hx I hl I1
 rw [e] at q
 have eh:=fc (H:=H) hn
 exact ⟨_,I2,q _ (S.shown sm hn) (by rw [eh];exact sm)⟩
def tB (X:Cx) (g:E):TE:=fun σ H Q=>∃ δ os,StO X H σ δ os/\(∀ d,g (view δ)=.ok d->d.flat=true)/\FQ X σ H os δ (g (view δ)) Q
def tBT (X:Cx) (g:E):TT:=fun σ H Q=>∃ δ os,StO X H σ δ os/\FT X σ H os δ (g (view δ)) Q
theorem rY (h:SE X e g):PE X e (tB X g):=by
 intro pins s σ H Q I ⟨δ,os,S,hf,q⟩
 refine h pins s σ H Q I ⟨_,S.view,?_⟩
 cases r:g (view δ) with
 | ok d =>
  rw [r] at q
  refine fun v H' s r'=>q v H' (S.mono s) (bc os s) (ir (j8 ((S.mono s).lsts)) (hf d r) r')
 | ex C =>
  rw [r] at q
  exact fun Ca hc H' s'=>q Ca hc H' ((aD H os).trans s') (S.noOwn ((aD H os).trans s'))
 | bad=>rw [r] at q;exact q
theorem Aa (h:ST X e g):PT X e (tBT X g):=by
 intro pins s σ H Q I ⟨δ,os,S,q⟩
 refine h pins s σ H Q I ⟨_,S.view,?_⟩
 cases r:g (view δ) with
 | ok d =>
  rw [r] at q
  cases d with
  | bl b=>exact fun H' s=>q H' (S.mono s) (bc os s)
  | _=>exact False.elim q
 | ex C =>
  rw [r] at q
  exact fun Ca hc H' s'=>q Ca hc H' ((aD H os).trans s') (S.noOwn ((aD H os).trans s'))
 | bad=>rw [r] at q;exact False.elim q
end
def OQ (X:Cx) (D:Ends) (F:Hp):O->Prop
 | .nx δ=>∀ σ H os,StO X H σ δ os->ay F ↥26->D.nx σ H
 | .bk δ=>∀ σ H os,StO X H σ δ os->ay F ↥26->D.bk σ H
 | .ct δ=>∀ σ H os,StO X H σ δ os->ay F ↥26->D.ct σ H
 | .rt d=>∀ v H,ay F H->Rep X.K X.mg H v d->D.rt v H
 | .ex C δ=>∀ σ H,ay F H->Stt X.K X.mg H σ δ->∀ Ca,X.mg C=some (.ref Ca)->ew X Ca σ H
 | .mk C δ=>∀ σ H,ay F H->∀ Ca,X.mg C=some (.ref Ca)->em X Ca σ H
 | .hx C δ=>∀ σ H,ay F H->Stt X.K X.mg H σ δ->∀ Ca,X.mg C=some (.ref Ca)->ehx X Ca σ H
 | .bad=>False
def tS (X:Cx) (g:S):TS:=fun D σ H=>∃ δ os,StO X H σ δ os/\OQ X D ↥26 (g δ)
@[irreducible] def SS (X:Cx) (st:Stmt) (g:S):Prop:=PS X st (tS X g)
@[irreducible] def SSs (X:Cx) (st:List Stmt) (g:S):Prop:=PSs X st (tS X g)
unseal SS SSs
theorem OQ.mono {X:Cx} {D:Ends} {F F':Hp} {o:O} (s:ay F F') (h:OQ X D F o):OQ X D F' o:=by
 cases o with
 | nx δ=>exact fun σ H os S s'=>h σ H os S (s.trans s')
 | bk δ=>exact fun σ H os S s'=>h σ H os S (s.trans s')
 | ct δ=>exact fun σ H os S s'=>h σ H os S (s.trans s')
 | rt d=>exact fun v H s' r=>h v H (s.trans s') r
 | ex C δ=>exact fun σ H s' S=>h σ H (s.trans s') S
 | mk C δ=>exact fun σ H s'=>h σ H (s.trans s')
 | hx C δ=>exact fun σ H s' S=>h σ H (s.trans s') S
 | bad=>exact h
theorem OQ.lv {X:Cx} {D:Ends} {F:Hp} {o:O} {n:L2.St->Hp->Prop} (hn:∀ δ,o ≠ .nx δ) (h:OQ X D F o):OQ X { D with nx:=n } F o:=by
 cases o with
 | nx δ=>exact absurd rfl (hn δ)
 | _=>exact h
section
variable {X:Cx} {N:List Str} {H:Hp} {σ:L2.St} {δ:Dt} {os:Os}
theorem aO (os:Os) (i:Nat):∀ p∈os.filter (fun p=>p.1 != i),p∈os/\p.1≠i:=fun p hp=>by
 have:=List.mem_filter.mp hp
 exact ⟨this.1,by simpa using this.2⟩
theorem iJ (h:∀ p∈os',p∈os):ay ↥26 (hide H os'):=fun b o e=>by
 have hb:b∉fX os:=fun z=>by rw [fQ z] at e;cases e
 rw [br hb] at e
 rw [br fun z => ?_];exact e
 obtain ⟨p,hp,rfl⟩:=dR z
 exact hb (cL (h p hp))
theorem StO.set (S:StO X H σ δ os) (r:Rep X.K X.mg ↥26 v d):StO X H (σ.set i (some v)) (δ.set i (some d)) (os.filter fun p=>p.1 != i)/\ay ↥26 (hide H (os.filter fun p=>p.1 != i)):=by
 have sm:ay ↥26 (hide H (os.filter fun p=>p.1 != i)):=iJ fun p hp=>(aO os i p hp).1
 refine ⟨⟨(S.st.mono sm).set (r.mono sm),fun p hp => ?_,fun j ds e => ?_,fun a b c h1 h2=>S.inj a b c (aO os i _ h1).1 (aO os i _ h2).1⟩,sm⟩
 ·obtain ⟨hp',ne⟩:=aO os i p hp
  obtain ⟨xs,ds,h1,h2,h3,h4⟩:=S.lst p hp'
  exact ⟨xs,ds,h1,by rw [List.getElem?_set_ne (Ne.symm ne)];exact h2,by rw [List.getElem?_set_ne (Ne.symm ne)];exact h3,h4.mono sm⟩
 ·by_cases hj:j=i
  ·subst hj
   by_cases hl:j<δ.length
   ·rw [List.getElem?_set_self hl] at e
    have e':d=.own ds:=Option.some.inj (Option.some.inj e)
    subst e'
    cases r
   ·rw [List.getElem?_eq_none (by simp;omega)] at e
    cases e
  ·rw [List.getElem?_set_ne (Ne.symm hj)] at e
   obtain ⟨a,ha⟩:=S.own j ds e
   exact ⟨a,List.mem_filter.mpr ⟨ha,by simpa using hj⟩⟩
structure Sx (X:Cx) (N:List Str):Prop where
 sc:Sc X N
 ex:X.ex=[]
variable {e c:Expr} {g gc:E} {pos:Pos} {st:Stmt} {rest body els:List Stmt} {gs gr gb ge:S}
theorem FQ.then {r:R EV.D} {Q:VK} {D:Ends} {f:EV.D->O} (h:OQ X D ↥26 (match r with | .ok d=>f d | .ex C=>.ex C (noOwn δ) | .bad=>.bad))
  (hq:∀ d v H',r=.ok d->StO X H' σ δ os->ay ↥26 (hide H' os)->Rep X.K X.mg (hide H' os) v d->OQ X D (hide H' os) (f d)->Q v H'):FQ X σ H os δ r Q:=by
 cases r with
 | ok d=>exact fun v H' S s r=>hq d v H' rfl S s r (OQ.mono s h)
 | ex C=>exact fun Ca hc H' s' st=>h σ H' s' st Ca hc
 | bad=>exact h
theorem aT:SSs X [] aK:=PSs.weak qi fun D σ H ⟨δ,os,S,h⟩=>h σ H os S ↥20
theorem aA (h:SS X st gs):SSs X [st] gs:=mr h
theorem ak (h:SS X st gs) (hr:SSs X rest gr):SSs X (st::rest) (seq gs gr):=PSs.weak (nE h hr) fun D σ H ⟨δ,os,S,h⟩=>⟨δ,os,S,by
 unfold seq at h
 cases q:gs δ with
 | nx δ' =>
  rw [q] at h
  exact fun σ' H' os' S' s'=>⟨δ',os',S',OQ.mono s' h⟩
 | _=>rw [q] at h;exact OQ.lv (fun _ z=>nomatch z) h⟩
theorem Bw (C:Sx X N) (i:Nat) (hN:N[i]? = some x) (hx:Sto X x) (h:SE X e g) (hsw:swapsWith e (some (.Name x pos')) pos.line X.env=pure false:=by rfl):SS X (.Assign [.Name x pos'] e pos) (assign i g) :=
 PS.weak (qj (i:=i) (by rw [C.sc.n];exact C.sc.nd) (by rw [C.sc.n];exact hN) hx.1 (rz C.ex h) hsw hx.2) fun D σ H ⟨δ,os,S,q⟩=>⟨δ,os,S,FQ.then q fun d v H' e S' s r q'=>by
  obtain ⟨S2,s2⟩:=S'.set (i:=i) r
  exact q' _ _ _ S2 s2⟩
theorem Bz (C:Sx X N) (h:SE X e g) (hs:swapsWith e none pos.line X.env=pure false:=by rfl):SS X (.Expr e pos) (expr g) :=
 PS.weak (mv (rz C.ex h) hs) fun D σ H ⟨δ,os,S,q⟩=>⟨δ,os,S,FQ.then q fun d v H' e S' s r q'=>q' _ _ _ S' ↥20⟩
theorem Es (C:Sx X N) (h:SE X e g):SS X (.Return (some e) pos) (ret g) :=
 PS.weak (qk (rz C.ex h)) fun D σ H ⟨δ,os,S,q⟩=>⟨δ,os,S,FQ.then q fun d v H' e S' s r q'=>q' v H' (aD _ _) (r.mono (aD _ _))⟩
theorem Bx (h:SE X e g):SS X (.Return (some e) pos) (DF g) :=
 PS.weak (qk h) fun D σ H ⟨δ,os,S,q⟩=>⟨view δ,S.view,by
  unfold DF rtn at q
  cases r:g (view δ) with
  | ok d=>rw [r] at q;exact fun v H' s rr=>q v H' ((aD H os).trans s) rr
  | ex C=>rw [r] at q;exact fun Ca hc H' s'=>q σ H' ((aD H os).trans s') (S.noOwn ((aD H os).trans s')) Ca hc
  | bad=>rw [r] at q;exact q⟩
theorem FT.then {r:R EV.D} {Q:Bool->Hp->Prop} {D:Ends} {ta fa:O} (h:OQ X D ↥26 (match r with | .ok ↥34=>ta | .ok ↥14=>fa | .ex C=>.ex C (noOwn δ) | _=>.bad))
  (hq:∀ b H',StO X H' σ δ os->ay ↥26 (hide H' os)->OQ X D (hide H' os) (if b=true then ta else fa)->Q b H'):FT X σ H os δ r Q:=by
 cases r with
 | ok d =>
  cases d with
  | bl b =>
   cases b with
   | true=>exact fun H' S s=>hq true H' S s (by rw [if_pos rfl];exact OQ.mono s h)
   | false=>exact fun H' S s=>hq false H' S s (by rw [if_neg ↥0];exact OQ.mono s h)
  | _=>exact h
 | ex C=>exact fun Ca hc H' s' st=>h σ H' s' st Ca hc
 | bad=>exact h
theorem Ii (C:Sx X N) (hc:ST X c gc) (ha:SSs X body gb) (hb:SSs X els ge):SS X (.If c body els pos) (ifs gc gb ge) :=
 PS.weak (yF (CZ C.ex hc) ha hb) fun D σ H ⟨δ,os,S,q⟩=>⟨δ,os,S,FT.then q fun b H' S' s q'=>by
  cases b with
  | true=>exact Av ⟨δ,os,S',by simpa using q'⟩
  | false=>exact Aw ⟨δ,os,S',by simpa using q'⟩⟩
theorem dE {α:Type} {xs:List α} {n:Nat} {x:α} (h:xs[n]? = some x):xs.drop n=x::xs.drop (n+1):=by
 obtain ⟨h1,h2⟩:=List.getElem?_eq_some_iff.mp h
 rw [List.drop_eq_getElem_cons h1,h2]
def Pv (X:Cx) (D:Ends) (F F1:Hp) (i:Nat) (gb:S) (ds:List EV.D) (n:Nat) (σ:L2.St) (H:Hp):Prop:=∃ δ os,StO X H σ δ os/\ay F1 ↥26/\ay F F1/\OQ X D F (forL i gb (ds.drop n) δ)
theorem tP {D:Ends} {F F1:Hp} {i n:Nat} {ds:List EV.D} {d:EV.D} {v:V} {δ:Dt} {os:Os} (hd:ds[n]? = some d) (S:StO X H σ δ os) (s1:ay F1 ↥26) (s0:ay F F1) (q:OQ X D F (forL i gb (ds.drop n) δ)) (r:Rep X.K X.mg ↥26 v d) :
  lG i v σ H fun σ2 H2=>tS X gb { D with nx:=Pv X D F F1 i gb ds (n+1),ct:=Pv X D F F1 i gb ds (n+1),bk:=D.nx } σ2 H2:=by
 rw [dE hd] at q
 obtain ⟨S2,s2⟩:=S.set (i:=i) r
 refine ⟨_,_,S2,?_⟩
 unfold forL trn at q
 have s3:=(s0.trans s1).trans s2
 cases e:gb (δ.set i (some d)) with
 | nx δ1=>rw [e] at q;exact fun σ' H' os' S' s'=>⟨δ1,os',S',(s1.trans s2).trans s',s0,q⟩
 | ct δ1=>rw [e] at q;exact fun σ' H' os' S' s'=>⟨δ1,os',S',(s1.trans s2).trans s',s0,q⟩
 | bk δ1=>rw [e] at q;exact fun σ' H' os' S' s'=>q σ' H' os' S' (s3.trans s')
 | rt d'=>rw [e] at q;exact fun v' H' s' r'=>q v' H' (s3.trans s') r'
 | ex C δ1=>rw [e] at q;exact fun σ' H' s' r'=>q σ' H' (s3.trans s') r'
 | mk C δ1=>rw [e] at q;exact fun σ' H' s'=>q σ' H' (s3.trans s')
 | hx C δ1=>rw [e] at q;exact fun σ' H' s' r'=>q σ' H' (s3.trans s') r'
 | bad=>rw [e] at q;exact q
theorem C7 {D:Ends} {F F1:Hp} {i n:Nat} {ds:List EV.D} (hn:ds.length<=n) (p:Pv X D F F1 i gb ds n σ H):D.nx σ H:=by
 obtain ⟨δ,os,S,s1,s0,q⟩:=p
 rw [List.drop_eq_nil_of_le hn] at q
 exact q σ H os S (s0.trans s1)
structure Lp (X:Cx):Prop where
 own:PassesOwn ↥4 X.A X.env X.xe
 calm:X.calm=true
theorem yw {lo hi:Int} {k:Nat} (h:k<(hi - lo).toNat):(d9 lo hi)[k]? = some (.int (lo+k)):=by
 unfold d9
 rw [List.getElem?_map,List.getElem?_range h]
 rfl
theorem nA (lo hi:Int):(d9 lo hi).length=(hi - lo).toNat:=by simp [d9]
end
end ES
namespace ES
open PySem PySem.Spec PyProof.Rows L2 EV
unseal SE ST SW SA SS SSs
theorem iy {P:Program} {w:World} {H:Hp} {h:Heap} {a:Addr} {o:HO} (x:fY P w H h a o):∃ ob,h.get? a=some ob:=by
 cases o with
 | lst xs=>obtain ⟨_,_,_,_,e⟩:=x;exact ⟨_,e⟩
 | tup xs=>obtain ⟨_,_,_,ob,e,_⟩:=x;exact ⟨_,e⟩
 | dK kvs=>obtain ⟨_,_,_,_,ob,_,_,e,_⟩:=x;exact ⟨_,e⟩
 | dT kvs=>obtain ⟨_,_,_,_,ob,_,_,e,_⟩:=x;exact ⟨_,e⟩
 | set S n=>obtain ⟨ob,_,_,_,e,_⟩:=x;exact ⟨_,e⟩
 | ins C dx fs=>obtain ⟨_,_,_,e,_⟩:=x;exact ⟨_,e⟩
 | own y=>exact x
 | xd fs=>obtain ⟨_,⟨_,_,_,e,_⟩,_⟩:=x;exact ⟨_,e⟩
 | rng lo hi=>obtain ⟨_,_,_,e⟩:=x;exact ⟨_,e⟩
 | frz ob u=>obtain ⟨e,_⟩:=x;exact ⟨_,e⟩
 | tbl ps=>exact ⟨_,(show h.get? a=some _ from x)⟩
 | met f y=>exact ⟨_,(show h.get? a=some _ from x)⟩
 | ext φ=>obtain ⟨_,e,_⟩:=x;exact e
theorem kR {fs:List Addr} {H H':Hp} {h h1 h2 B:Heap} (u:Un fs [] H H' h h1) (same:ay H H') (i1:∀ b o,h.get? b=some o->H b=none->b∉fs->B.get? b=some o)
  (i2:∀ b u o,H' b=some u->h1.get? b=some o->B.get? b=some o) (st:B.StaysIn h2) (up:h1.UpToSlots h2) (ff:∀ b∈fs,∀ o,h1.get? b=some o->∀ vs,o.data ≠ .fields vs):Un fs [] H H' h h2:=by
 have slot:∀ b o,h.get? b=some o->H b=none->b∈fs->b∉([]:List Addr)->∃ sl,h2.get? b=some { o with slots:=sl }:=fun b o e n hb hx=>by
  obtain ⟨sl,e1⟩:=u.slot b o e n hb hx
  obtain ⟨sl2,e2⟩:=up b _ e1 (ff b hb _ e1)
  exact ⟨sl2,e2⟩
 refine ⟨fun b o e n hb _=>st b o (i1 b o e n hb),slot,u.free,fun b o e hx => ?_,u.tups,u.frzs,u.tbls⟩
 cases n:H b with
 | none =>
  by_cases hb:b∈fs
  ·obtain ⟨sl,e2⟩:=slot b o e n hb hx
   exact ⟨_,e2⟩
  ·exact ⟨o,st b o (i1 b o e n hb)⟩
 | some x =>
  obtain ⟨o',e1⟩:=u.there b o e hx
  exact ⟨o',st b o' (i2 b x o' (same b x n) e1)⟩
theorem fP {P:Program} {w:World} {H':Hp} {h1 h2 B:Heap} (hok:HOk P w H' h1) (i2:∀ b u o,H' b=some u->h1.get? b=some o->B.get? b=some o) (st:B.StaysIn h2):HOk P w H' h2:=fun a o e =>
 (hok a o e).stay (fun b u hb q=>by
  rcases hb with rfl | hb
  ·exact st b u (i2 b o u e q)
  ·exact st b u (i2 b _ u hb q)) (fun _ q=>q) fun _ _ q=>q
theorem nP {P:Program} {w:World} {H':Hp} {h1 h2 B:Heap} (hok:HOk P w H' h1) (i2:∀ b u o,H' b=some u->h1.get? b=some o->B.get? b=some o) (st:B.StaysIn h2):∀ b u o,H' b=some u->h2.get? b=some o->B.get? b=some o:=fun b u o e q=>by
 obtain ⟨ob,e1⟩:=iy (hok b u e)
 have e2:=i2 b u ob e e1
 have e3:=st b ob e2
 rw [q] at e3
 cases e3
 exact e2
theorem mR {base h:Heap} {l:List Env} (x:h.FunFrames base l):∀ b∈frs l,∀ o,h.get? b=some o->∀ vs,o.data ≠ .fields vs:=fun b hb o e=>by
 obtain ⟨_,o',e',d⟩:=x.mem hb
 rw [e] at e'
 cases e'
 exact d
section
variable {X:Cx} {pins:List ↥7} {σ:L2.St} {H H':Hp} {s s':Shared} {C ea:Addr}
structure Own (X:Cx):Prop where
 stk:X.stack=X.env::X.outer
 frm:X.env.frame=some X.env.locals
 ex:X.ex=[]
theorem Own.frs (h:Own X):L2.frs X.stack=X.env.locals::X.fs:=by
 rw [h.stk]
 unfold L2.frs
 rw [List.filterMap_cons,h.frm]
 rfl
theorem fg (I:Inv X pins σ H s) (O:Own X) {B:Heap} (i1:∀ b o,s.heap.get? b=some o->H b=none->b∉L2.frs X.stack->B.get? b=some o):∀ b o,X.s₀.heap.get? b=some o->X.H₀ b=none->b∉X.fs->B.get? b=some o:=fun b o e n hb=>by
 have hx:b∉X.ex:=by rw [O.ex];simp
 refine i1 b o (I.base.keep b o e n hb hx) (I.base.free b o e n hx) fun z => ?_
 rw [O.frs] at z
 rcases List.mem_cons.mp z with q | q
 ·exact absurd (Nat.lt_of_lt_of_le (Heap.lt_size e) I.ok.above) (by rw [q];exact Nat.lt_irrefl _)
 ·exact hb q
theorem qR (I:Inv X pins σ H s) (O:Own X) (h:s.heap.get? ea=none):X.s₀.heap.get? ea=none:=by
 cases q:X.s₀.heap.get? ea with
 | none=>rfl
 | some o =>
  obtain ⟨o',e⟩:=I.base.there ea o q (by rw [O.ex];simp)
  rw [h] at e
  cases e
theorem ku (I:Inv X pins σ H s) (O:Own X):Un X.fs [] X.H₀ H X.s₀.heap s.heap:=by
 have z:=I.base
 rw [O.ex] at z
 exact z
theorem rE (I:Inv X pins σ H s) (F:FlyX X.prog X.w X.stack H s C H' ea s'):Inv X pins σ H' s':=I.call' (ch:=[]) F.os F.un F.hok F.bare fun b z=>absurd z ↥19
theorem q9 {M:Model} {E:Value->Shared->Prop} {Q:Unit->Shared->Prop} (I:Inv X pins σ H s) (O:Own X) (F:FlyX X.prog X.w X.stack H s C H' ea s') (same:ay X.H₀ H')
  (hQ:∀ s'',FlyX X.prog X.w X.outer X.H₀ X.s₀ C H' ea s''->Q () s''):wpAny M X.A (leaving X.env (.ref ea)) Q E s':=by
 obtain ⟨a0,B,hfl,i1,i2⟩:=F.fly
 have I':=rE I F
 have ff:=mR hfl.2.2.1
 rw [O.stk] at hfl
 refine wpAny_leaves_onW (by rw [I.ok.frames,O.stk]) O.frm hfl fun h' f1 up=>hQ _ ⟨F.os.trans I.os,F.bare,?_,fP F.hok i2 f1.1,same,qR I O F.new,a0,B,f1,fg I O i1,nP F.hok i2 f1.1⟩
 exact kR (ku I' O) same (fg I O i1) i2 f1.1 up fun b hb=>ff b (by rw [O.frs];exact List.mem_cons_of_mem _ hb)
theorem mE {M:Model} {E:Value->Shared->Prop} {Q:Unit->Shared->Prop} (O:Own X) (F:HeldX X pins σ C H' ea s') (same:ay X.H₀ H')
  (hQ:∀ s'',FlyX X.prog X.w X.outer X.H₀ X.s₀ C H' ea s''->Q () s''):wpAny M X.A (leaving X.env (.ref ea)) Q E s':=by
 obtain ⟨a0,B,hh,i1,i2⟩:=F.fly
 have I:=F.inv
 have ff:=mR hh.2.2.1
 rw [O.stk] at hh
 unfold leaving
 refine wpAny_bind (wpAny_noteFrame_againW O.frm hh.2.2.2 ?_)
 refine wpAny_landsW hh fun h' f1 up => ?_
 obtain ⟨k1,k2,⟨_,_,k3⟩,k4⟩:=f1
 refine hQ _ ⟨I.os,I.bare,?_,fP I.hok i2 k1,same,F.new,a0,B,⟨k1,k2,k3,k4⟩,i1,nP I.hok i2 k1⟩
 exact kR (ku I O) same i1 i2 k1 up fun b hb=>ff b (by rw [O.frs];exact List.mem_cons_of_mem _ hb)
theorem mD {M:Model} {E:Value->Shared->Prop} {Q:Unit->Shared->Prop} {h1:Heap} {vs:List Value} (I:Inv X pins σ H s) (O:Own X) (made:Heap.MadeExcOf s.heap h1 ea (.ref C) vs) (same:ay X.H₀ H)
  (hQ:∀ s'',FlyX X.prog X.w X.outer X.H₀ X.s₀ C H ea s''->Q () s''):wpAny M X.A (leaving X.env (.ref ea)) Q E { s with heap:=h1 }:=by
 have hst:=I.stack
 have ff:=mR hst
 have i1:∀ b o,s.heap.get? b=some o->H b=none->b∉L2.frs X.stack->(PySem.W.hideAll s.heap (L2.frs X.stack)).get? b=some o:=fun b o e _ hb=>PySem.W.hideAll_get _ e hb
 have i2:∀ b u o,H b=some u->s.heap.get? b=some o->(PySem.W.hideAll s.heap (L2.frs X.stack)).get? b=some o:=fun b u o e q=>PySem.W.hideAll_get _ q fun z=>by
  rw [I.stkFree b z] at e
  cases e
 have hl:=PySem.W.funFrames_hide (as:=L2.frs X.stack) hst fun env he b hb=>List.mem_filterMap.mpr ⟨env,he,hb⟩
 rw [O.stk] at hl
 refine wpAny_leaves_madeW (s:={ s with heap:=h1 }) (base:=PySem.W.hideAll s.heap (L2.frs X.stack)) (by rw [I.ok.frames,O.stk]) O.frm (fun b o e=>PySem.W.of_hideAll _ e) (by rw [O.stk] at *;exact hl) made fun h' t f1 _ _ up=>hQ _ ⟨I.os,I.bare,?_,fP I.hok i2 f1.1,same,qR I O made.new,_,_,f1,fg I O i1,nP I.hok i2 f1.1⟩
 exact kR (ku I O) same (fg I O i1) i2 f1.1 ((Heap.UpToSlots.of_keeps made.keeps).trans up) fun b hb=>ff b (by rw [O.frs];exact List.mem_cons_of_mem _ hb)
end
def CXF (P:Program) (w:World):CXT:=fun outer H s E e s'=>∃ C H' ea,e=.ref ea/\FlyX P w outer H s C H' ea s'/\E (.ref C) none H'
def spP (K:PySem.W.Frag) (mg:Str->Option Value) (f:List D->R D):Sp:=fun vs H Q E=>∃ ds,Reps K mg H vs ds/\match f ds with
 | .ok d=>∀ v H',ay H H'->Rep K mg H' v d->Q v H'
 | .ex C=>∀ Ca,mg C=some (.ref Ca)->∀ H',ay H H'->E (.ref Ca) none H'
 | .bad=>False
theorem iv {CX:CXT} {P:Program} {w:World} {K:PySem.W.Frag} {mg:Str->Option Value} {base:Heap} {N:List Str} {qual:Str} {sc:Scope} {f:Addr} {cdv:Value} {A:Around} {outer:List Env} {s:Shared} {H:Hp} {E:XK} :
  Own (rQ CX P w K mg base N qual sc f cdv A outer s H E):=⟨rfl,rfl,rfl⟩
section
variable {P:Program} {w:World} {K:PySem.W.Frag} {mg:Str->Option Value} {base:Heap} {N:List Str} {qual:Str} {sc:Scope} {f:Addr} {cdv:Value} {A:Around} {outer:List Env} {s:Shared} {H H':Hp} {E:XK} {C:Addr} {σ:L2.St}
theorem wq (same:ay H H') (hE:E (.ref C) none H'):ew (rQ (CXF P w) P w K mg base N qual sc f cdv A outer s H E) C σ H' :=
 fun pins H1 s1 ea s' I F=>q9 I iv F same fun s'' F'=>⟨C,H',ea,rfl,F',hE⟩
theorem rJ (same:ay H H') (hE:E (.ref C) none H'):ehx (rQ (CXF P w) P w K mg base N qual sc f cdv A outer s H E) C σ H' :=
 fun pins ea s' F=>mE iv F same fun s'' F'=>⟨C,H',ea,rfl,F',hE⟩
theorem wy (same:ay H H') (hE:E (.ref C) none H'):em (rQ (CXF P w) P w K mg base N qual sc f cdv A outer s H E) C σ H' :=
 fun pins s1 h' ea vs I made=>mD I iv made same fun s'' F'=>⟨C,H',ea,rfl,F',hE⟩
end
structure ScF (N G ps:List Str) (sc:Scope):Prop where
 fs:FnScope N ps sc
 loc:∀ x∈N,Loc sc x
 glb:∀ x∈G,sc.names.lookup x=some .globalImplicit
 dbg:∀ x∈N,(x == ("__debug__":Str))=false/\(x == ("__classdict__":Str))=false
 dbgG:∀ x∈G,(x == ("__debug__":Str))=false/\x≠"__name__"
structure Pl (X:Cx) (N G:List Str):Prop extends Sx X N where
 sto:∀ x∈N,Sto X x
 gb:∀ x∈G,Gb X x
noncomputable instance locDec {sc:Scope} {x:Str}:Decidable (Loc sc x):=inferInstanceAs (Decidable (_\/_))
theorem wb {sc:Scope} {x:Str} (h:Loc sc x):Vis sc x:=h.elim .inl fun z=>.inr (.inl z)
theorem kS {K:PySem.W.Frag} {mg:Str->Option Value} {H:Hp} {N:List Str} {n m:Nat}:∀ {vs:List V} {ds:List D},Reps K mg H vs ds->ds.length=n->N.length=m->Stt K mg H (L2.start N vs) (EV.start n m ds):=by
 intro vs ds r hn hm
 have hl:=r.length
 refine ⟨by simp [L2.start,EV.start,hl,hn,hm],fun i d e _ => ?_⟩
 unfold EV.start at e
 by_cases hi:i<ds.length
 ·rw [List.getElem?_append_left (by simpa using hi),List.getElem?_map] at e
  cases q:ds[i]? with
  | none=>rw [q] at e;cases e
  | some d' =>
   rw [q] at e
   have e':d'=d:=Option.some.inj (Option.some.inj e)
   subst e'
   obtain ⟨v,h1,h2⟩:=r.get q
   exact ⟨v,by unfold L2.start;rw [List.getElem?_append_left (by simp;omega),List.getElem?_map,h1];rfl,h2⟩
 ·rw [List.getElem?_append_right (by simpa using hi),List.getElem?_replicate] at e
  split at e<;>cases e
theorem ib {K:PySem.W.Frag} {mg:Str->Option Value} {H:Hp} {n m:Nat} {vs:List V} {ds:List D} (r:Reps K mg H vs ds) (i:Nat) (es:List D):(EV.start n m ds)[i]? ≠ some (some (.own es)):=fun e=>by
 unfold EV.start at e
 by_cases hi:i<ds.length
 ·rw [List.getElem?_append_left (by simpa using hi),List.getElem?_map] at e
  cases q:ds[i]? with
  | none=>rw [q] at e;cases e
  | some d' =>
   rw [q] at e
   have e':d'=.own es:=Option.some.inj (Option.some.inj e)
   subst e'
   obtain ⟨v,h1,h2⟩:=r.get q
   cases h2
 ·rw [List.getElem?_append_right (by simpa using hi),List.getElem?_replicate] at e
  split at e<;>cases e
theorem Fb {P:Program} {w:World} {K:PySem.W.Frag} {mg:Str->Option Value} {base:Heap} {x qual:Str} {st:Stmt} {f:Addr} {fd:FuncData} {N G ps:List Str} {k n m:Nat} {g:S}
  (F:Fun K x qual st f fd) (S:ScF N G ps (ae st)) (hn:ps.length=n) (hm:N.length=m)
  (hbody:∀ X:Cx,X.prog=P->X.w=w->X.K=K->X.mg=mg->X.base=base->Room k X.A->Lp X->Own X->Pl X N G->X.env.scope=ae st->SSs X (aC st) g) :
  FnOk P w K mg base (CXF P w) (k+1) f fd ps (spP K mg (fn n m g)):=by
 obtain ⟨oc,od,kV,doc,pm,an,cdv,ct,osl,rfl,lk,hcd⟩:=F.ex
 have len:∀ {ds:List D},fn n m g ds ≠ .bad->ds.length=n:=fun {ds} h=>by
  unfold fn at h
  split at h
  ·assumption
  ·exact absurd rfl h
 refine C2 lk hcd S.fs (fun vs H Q E h => ?_) fun A outer s H vs Q E hr h => ?_
 ·obtain ⟨ds,rs,h⟩:=h
  rw [rs.length,hn]
  refine len fun z => ?_
  rw [z] at h
  exact h
 ·obtain ⟨ds,rs,h⟩:=h
  have hl:ds.length=n:=len fun z=>by rw [z] at h;exact h
  refine ⟨_,hbody (rQ (CXF P w) P w K mg base N qual (ae st) f cdv A outer s H E) rfl rfl rfl rfl rfl hr ⟨PassesOwn.leaving,rfl⟩ iv ⟨⟨⟨rfl,S.fs.nd,fun y hy=>wb (S.loc y hy),S.dbg⟩,rfl⟩,fun y hy=>⟨S.loc y hy,.inl rfl⟩,fun y hy=>⟨S.glb y hy,(S.dbgG y hy).1,(S.dbgG y hy).2⟩⟩ rfl,_,[],StO.nil (kS rs hl hm) (ib rs),?_⟩
  rw [gZ]
  unfold fn at h
  rw [if_pos hl] at h
  cases e:g (EV.start n m ds) with
  | nx δ=>rw [e] at h;exact fun σ H' os _ s'=>h .non H' (s'.trans (aD _ _)) .non
  | rt d=>rw [e] at h;exact fun v H' s' r=>h v H' s' r
  | ex C δ=>rw [e] at h;exact fun σ H' s' _ Ca hc=>wq s' (h Ca hc H' s')
  | mk C δ=>rw [e] at h;exact fun σ H' s' Ca hc=>wy s' (h Ca hc H' s')
  | hx C δ=>rw [e] at h;exact fun σ H' s' _ Ca hc=>rJ s' (h Ca hc H' s')
  | bk δ=>rw [e] at h;exact False.elim h
  | ct δ=>rw [e] at h;exact False.elim h
  | bad=>rw [e] at h;exact False.elim h
abbrev at5 (X:Cx) (P:Program) (w:World) (K:PySem.W.Frag) (mg:Str->Option Value) (base:Heap):Cx:={ X with prog:=P,w:=w,K:=K,mg:=mg,base:=base }
theorem rB {P:Program} {w:World} {K:PySem.W.Frag} {mg:Str->Option Value} {base:Heap} {x qual:Str} {st:Stmt} {f:Addr} {fd:FuncData} {N G ps:List Str} {k n m:Nat} {g:S}
  (F:Fun K x qual st f fd) (S:ScF N G ps (ae st)) (hn:ps.length=n) (hm:N.length=m)
  (hbody:∀ X:Cx,Room k (at5 X P w K mg base).A->Lp (at5 X P w K mg base)->Own (at5 X P w K mg base)->Pl (at5 X P w K mg base) N G->(at5 X P w K mg base).env.scope=ae st->SSs (at5 X P w K mg base) (aC st) g) :
  FnOk P w K mg base (CXF P w) (k+1) f fd ps (spP K mg (fn n m g)):=Fb F S hn hm fun X hP hw hK hM hB hr L O Pl hS=>by
 subst hP hw hK hM hB
 exact hbody X hr L O Pl hS
theorem us1 {C:List Value->Prop} (h:∀ a,C [a]) (us:List Value) (hl:us.length=1):C us:=by
 match us,hl with
 | [_],_=>exact h _
theorem us2 {C:List Value->Prop} (h:∀ a b,C [a,b]) (us:List Value) (hl:us.length=2):C us:=by
 match us,hl with
 | a::us,hl=>exact us1 (C:=fun us=>C (a::us)) (h a) us (Nat.succ.inj hl)
theorem us3 {C:List Value->Prop} (h:∀ a b c,C [a,b,c]) (us:List Value) (hl:us.length=3):C us:=by
 match us,hl with
 | a::us,hl=>exact us2 (C:=fun us=>C (a::us)) (h a) us (Nat.succ.inj hl)
theorem us4 {C:List Value->Prop} (h:∀ a b c d,C [a,b,c,d]) (us:List Value) (hl:us.length=4):C us:=by
 match us,hl with
 | a::us,hl=>exact us3 (C:=fun us=>C (a::us)) (h a) us (Nat.succ.inj hl)
theorem us5 {C:List Value->Prop} (h:∀ a b c d e,C [a,b,c,d,e]) (us:List Value) (hl:us.length=5):C us:=by
 match us,hl with
 | a::us,hl=>exact us4 (C:=fun us=>C (a::us)) (h a) us (Nat.succ.inj hl)
theorem gw {K:PySem.W.Frag} {x qual:Str} {st:Stmt} {f:Addr} {fd:FuncData} {ps:List Str} (F:Fun K x qual st f fd) (hp:ps.length=1)
  (h:∀ (kV doc pm:Value) (an:Option Addr) (cdv ct:Value) (a:Value),bindArgs ↥3 ⟨[a],[]⟩=pure (ps.zip [a])):Binds K fd ps [] :=
 F.binds fun kV doc pm an cdv ct us hl=>us1 (C:=fun us=>bindArgs ↥3 ⟨us,[]⟩=pure (ps.zip us)) (h kV doc pm an cdv ct) us (hl.trans hp)
theorem gq {K:PySem.W.Frag} {x qual:Str} {st:Stmt} {f:Addr} {fd:FuncData} {ps:List Str} (F:Fun K x qual st f fd) (hp:ps.length=2)
  (h:∀ (kV doc pm:Value) (an:Option Addr) (cdv ct:Value) (a b:Value),bindArgs ↥3 ⟨[a,b],[]⟩=pure (ps.zip [a,b])):Binds K fd ps [] :=
 F.binds fun kV doc pm an cdv ct us hl=>us2 (C:=fun us=>bindArgs ↥3 ⟨us,[]⟩=pure (ps.zip us)) (h kV doc pm an cdv ct) us (hl.trans hp)
theorem r9 {K:PySem.W.Frag} {x qual:Str} {st:Stmt} {f:Addr} {fd:FuncData} {ps:List Str} (F:Fun K x qual st f fd) (hp:ps.length=3)
  (h:∀ (kV doc pm:Value) (an:Option Addr) (cdv ct:Value) (a b c:Value),bindArgs ↥3 ⟨[a,b,c],[]⟩=pure (ps.zip [a,b,c])):Binds K fd ps [] :=
 F.binds fun kV doc pm an cdv ct us hl=>us3 (C:=fun us=>bindArgs ↥3 ⟨us,[]⟩=pure (ps.zip us)) (h kV doc pm an cdv ct) us (hl.trans hp)
theorem Dq {K:PySem.W.Frag} {x qual:Str} {st:Stmt} {f:Addr} {fd:FuncData} {ps:List Str} (F:Fun K x qual st f fd) (hp:ps.length=4)
  (h:∀ (kV doc pm:Value) (an:Option Addr) (cdv ct:Value) (a b c d:Value),bindArgs ↥3 ⟨[a,b,c,d],[]⟩=pure (ps.zip [a,b,c,d])):Binds K fd ps [] :=
 F.binds fun kV doc pm an cdv ct us hl=>us4 (C:=fun us=>bindArgs ↥3 ⟨us,[]⟩=pure (ps.zip us)) (h kV doc pm an cdv ct) us (hl.trans hp)
theorem Dp {K:PySem.W.Frag} {x qual:Str} {st:Stmt} {f:Addr} {fd:FuncData} {ps:List Str} (F:Fun K x qual st f fd) (hp:ps.length=5)
  (h:∀ (kV doc pm:Value) (an:Option Addr) (cdv ct:Value) (a b c d e:Value),bindArgs ↥3 ⟨[a,b,c,d,e],[]⟩=pure (ps.zip [a,b,c,d,e])):Binds K fd ps [] :=
 F.binds fun kV doc pm an cdv ct us hl=>us5 (C:=fun us=>bindArgs ↥3 ⟨us,[]⟩=pure (ps.zip us)) (h kV doc pm an cdv ct) us (hl.trans hp)
structure FnP (P:Program) (w:World) (K:PySem.W.Frag) (mg:Str->Option Value) (base:Heap) (x:Str) (k:Nat) (f:List D->R D):Prop where
 ex:∃ fa fd ps,FnOk P w K mg base (CXF P w) k fa fd ps (spP K mg f)/\mg x=some (.ref fa)/\PySem.W.keepIn K (.ref fa)=true/\Binds K fd ps []
theorem wo {P:Program} {w:World} {K:PySem.W.Frag} {mg:Str->Option Value} {base:Heap} {x:Str} {fa:Addr} {fd:FuncData} {ps:List Str} {k:Nat} {f:List D->R D}
  (F:FnOk P w K mg base (CXF P w) k fa fd ps (spP K mg f)) (kp:PySem.W.keepIn K (.ref fa)=true) (hm:mg x=some (.ref fa)) (hb:Binds K fd ps []):FnP P w K mg base x k f:=⟨fa,fd,ps,F,hm,kp,hb⟩
structure Callee (X:Cx) (x:Str) (f:List D->R D):Prop where
 ex:∃ k fa fd ps,FnOk X.prog X.w X.K X.mg X.base (CXF X.prog X.w) k fa fd ps (spP X.K X.mg f)/\Room k X.A/\X.mg x=some (.ref fa)/\PySem.W.keepIn X.K (.ref fa)=true/\Binds X.K fd ps []
theorem FnP.callee {X:Cx} {x:Str} {k j:Nat} {f:List D->R D} (F:FnP X.prog X.w X.K X.mg X.base x k f) (hr:Room j X.A) (h:k<=j):Callee X x f:=by
 obtain ⟨fa,fd,ps,a,b,c,d⟩:=F.ex
 exact ⟨k,fa,fd,ps,a,hr.mono h,b,c,d⟩
section
variable {X:Cx} {x:Str} {f:List D->R D} {e:Expr} {es:List Expr} {gs:List E} {p pos:Pos}
theorem Eu {k:Nat} {fa:Addr} {fd:FuncData} {ps:List Str} {pins:List ↥7} {σ:L2.St} {H:Hp} {s:Shared} {Q:VK} {us:List Value} {vs:List V} {ds:List D}
  (F:FnOk X.prog X.w X.K X.mg X.base (CXF X.prog X.w) k fa fd ps (spP X.K X.mg f)) (hr:Room k X.A) (hb:Binds X.K fd ps []) (I:Inv X pins σ H s) (r:Vals vs us) (rs:Reps X.K X.mg H vs ds) (q:RQ X σ H (f ds) Q) :
  wpAny ↥4 X.A (PySem.call (.ref fa) us) (EP X pins σ Q) X.xe s:=by
 have hsp:spP X.K X.mg f vs H Q (fun c _ H'=>∃ C Ca,f ds=.ex C/\X.mg C=some (.ref Ca)/\c=.ref Ca/\ay H H'):=⟨ds,rs,by
  cases e:f ds with
  | ok d=>rw [e] at q;exact q
  | ex C=>exact fun Ca hc H' s'=>⟨C,Ca,rfl,hc,rfl,s'⟩
  | bad=>rw [e] at q;exact q⟩
 have hl:us.length=ps.length:=by rw [<- r.length];exact F.len _ _ _ _ hsp
 have hb':=hb s us I.kIn (by rw [List.append_nil];exact hl)
 rw [List.append_nil] at hb'
 refine wpAny_call (codeAny_mono (F.run X.A X.stack s H ⟨us,[]⟩ us vs _ _ hr I.env0 hb' r hsp) fun r s' hq => ?_)
 cases r with
 | error er =>
  obtain ⟨C',H',ea,rfl,FX,C,Ca,e1,hc,e2,s2⟩:=hq
  cases e2
  rw [e1] at q
  exact q C' hc H' s2 pins H s ea s' I FX
 | ok fl =>
  cases fl with
  | ret u=>exact I.after hq
  | next=>exact False.elim hq
  | brk=>exact False.elim hq
  | cont=>exact False.elim hq
theorem rL (c:Callee X x f) (G:Gb X x) (ha:SA X (e::es) gs) (he:starEach (e::es) X.env=(false,eval e X.env)::starEach es X.env:=by rfl) (hpl:(backTo pos (starEach es X.env)).any (·.1)=false:=by rfl) :
  SE X (.Call (.Name x p) (e::es) [] pos) (EV.call f gs):=by
 obtain ⟨k,fa,fd,ps,F,hr,hm,hk,hb⟩:=c.ex
 intro pins s σ H Q I ⟨δ,hσ,h⟩
 refine wpAny_Call_Name_kw (dz I G.g hm ?_ G.d)
 refine PySem.W.callWith_K (h₀:=X.base) I.ok.mod.kin hk (thn (ha pos pins s σ H _ I ⟨δ,hσ,RA.bind h⟩) fun us s1 ⟨vs,H1,I1,r,sm,ds,rs,q⟩=>⟨I1.kIn,Eu F hr hb I1 r rs q⟩) he hpl
end
theorem yN {K:PySem.W.Frag} {h:Heap} {C:Addr} {bmB:List Value} {newId:String} (KX:K.In h) (q:PySem.W.excIn K C bmB newId=true) :
  ∃ bm M nm qn bs hd sn sub ab col dd k0 k1 k2 k3 k5 mN,h.get? C=some (excClassObj nm qn C M bs bm hd sn sub ab col dd k0 k1 k2 k3 k5 newId)/\h.Ns M mN/\mN "__init__"=none/\OwnTail h bmB bm:=by
 unfold PySem.W.excIn at q
 split at q
 ·rename_i d1 cd sl hlk
  split at q
  ·rename_i C' bm k0 k1 k2 k3 n k5 e1 e2
   simp only [Bool.and_eq_true,beq_iff_eq,Bool.not_eq_true'] at q
   obtain ⟨⟨⟨⟨⟨r1,r2⟩,r3⟩,r4⟩,r5⟩,r6⟩:=q
   subst r1 r2
   obtain ⟨nm,bs,mro,ns,qn,hd,sn,sub,ab,col,del⟩:=cd
   dsimp only at e1 r3 r5 r6
   subst e1 r3
   have e3:sl = #[k0,k1,k2,k3,some (.builtin n),k5]:=by
    obtain ⟨l⟩:=sl
    simp only at e2
    rw [e2]
   subst e3
   exact ⟨bm,ns,nm,qn,bs,hd,sn,sub,ab,col,d1,k0,k1,k2,k3,k5,_,KX _ _ hlk,.of_isNs (PySem.W.isNs_of_in KX r5),PySem.W.nsMap_none_of_in KX r5 r6,PySem.W.tail_of_in KX r4⟩
  ·cases q
 ·cases q
def bmV:List Value:=[.type "ValueError",.type "Exception",.type "BaseException",.type "object"]
section
variable {X:Cx} {pos:Pos} {x:String} {C:Addr}
theorem yu (hc:X.calm=true) {np cp p3:Pos} {m:Str} {j:Nat} (G:Gb X x) (hm:X.mg x=some (.ref C)) (hq:PySem.W.excIn X.K C bmV "ValueError.__new__"=true) :
  SS X (.Raise (some (.Call (.Name x np) [.Constant (.str m) j p3] [] cp)) none pos) (raise x):=by
 intro pins s σ H D I ⟨δ,os,S,h⟩
 obtain ⟨bm,M,nm,qn,bs,hd,sn,sub,ab,col,dd,k0,k1,k2,k3,k5,mN,hC,hN,hni,T⟩:=yN I.mod.kin hq
 have FB:ExcBaseFacts "ValueError" "ValueError.__new__" "ValueError.__init__" bmV:=PySem.F.excBase_ValueError
 refine wpAny_Raise_call_subT (C:=C) (nm:=nm) (q:=qn) (N:=M) (bs:=bs) (bm:=bm) (hdct:=hd) (sn:=sn) (sub:=sub) (ab:=ab) (col:=col) (dd:=dd) (k0:=k0) (k1:=k1) (k2:=k2) (k3:=k3) (k5:=k5)
  FB (mN:=mN) (T.hasType FB.hasBase) (I.ok.hd hc) rfl hni (dz I G.g hm ⟨rfl,?_⟩ G.d)
 have hsp:=(fO (X:=X) (vP (x:=m) (j:=j) (pos:=p3)) iu) cp pins s σ H (fun vs H1=>vs.length=1/\H1=H) I (show (1=1/\H=H) from ⟨rfl,rfl⟩)
 refine Calls.evalArgs_plain (thn hsp fun us s2 ⟨vs,H1,I1,r,q1,q2⟩ => ?_)
 subst q2
 have hl:us.length=1:=by rw [<- r.length];exact q1
 exact ⟨rfl,by show us.length<=_;rw [hl,sizeLine_eq];decide,I1.bk _ _ hC,hN.keeps I1.bk,T.keeps I1.bk,fun h' e1 made=>h σ H1 (aD _ _) C hm pins s2 h' e1 us I1 made⟩
end
section
variable {K:PySem.W.Frag} {M:Model} {h:Heap} {C C' e:Addr}
open PySem.W in
theorem ov {A:Around} {E:Value->Shared->Prop} {s:Shared} {Q:Bool->Shared->Prop} (KX:K.In s.heap) (he:∃ o,s.heap.get? e=some o/\o.cls=.ref C) (c1:(clsIn K C').isSome=true) (c2:typeIn K (.ref C')=some (.type "type"))
  (c3:subIn K (.type "type") ↥11=some false) (c4:mroIn K C' ↥17=some true) (c5:mroIn K C (.ref C')=some true) (h:Q true s):wpAny M A (excMatches (.ref e) (.ref C')) Q E s:=by
 obtain ⟨o,ho,hcl⟩:=he
 have L1:Looks M s.heap (isInstance (.ref C') ↥11) false:=(looks_typeIn KX c2).andThen (looks_subIn KX c3)
 have L2:Looks M s.heap (isType (.ref C')) true:=by
  obtain ⟨cd,c1⟩:=Option.isSome_iff_exists.mp c1
  unfold clsIn at c1
  split at c1
  ·rename_i hlk
   intro A' Q' E' s' k q
   unfold isType loadHead
   exact wpAny_bind (wpAny_loadPart (k _ _ (KX _ _ hlk)) (wpAny_pure q))
  ·cases c1
 have L3:Looks M s.heap (isExcClass (.ref C')) true:=L2.andThen (looks_mroIn KX c4)
 have L4:Looks M s.heap (typeOf (.ref e)) (.ref C):=hcl▸(Looks.ld ho).andThen .now
 have L5:Looks M s.heap (isSubtype (.ref C) (.ref C')) true:=looks_mroIn KX c5
 unfold excMatches
 refine wpAny_bind (L1.here ?_)
 simp only [Bool.false_eq_true,if_false]
 refine wpAny_bind (wpAny_pure ?_)
 simp only [List.forIn_cons,List.forIn_nil]
 refine wpAny_bind (wpAny_bind (wpAny_bind (L3.here ?_)))
 simp only [Bool.not_true,Bool.false_eq_true,if_false]
 refine wpAny_pure ?_
 refine wpAny_pure ?_
 refine wpAny_bind (L4.here ?_)
 refine wpAny_bind (wpAny_bind (wpAny_bind (L5.here ?_)))
 simp only [if_true]
 exact wpAny_pure (wpAny_pure (wpAny_pure h))
end
abbrev me (X:Cx) (pins:List ↥7) (W:Value->Shared->Prop):Cx:={ X with xe:=W,pn:=X.pn++pins }
abbrev sE (X:Cx) (ea:Addr):Cx:={ X with A:=X.A.mark (some (.ref ea)),calm:=false,xe:=fun _ _=>False }
section
variable {X:Cx} {pins:List ↥7} {σ:L2.St} {H H':Hp} {s s':Shared} {C ea:Addr} {W:Value->Shared->Prop}
theorem Cd (o:X.Ok):(me X pins W).Ok:=⟨o.mod,o.kind,o.glob,o.blt,o.above,o.inj,o.has,o.cab,o.hd,o.frames,o.stk,o.exf,o.bs,o.bsz,o.noex,o.exfs,o.funs,o.frf⟩
theorem rh (I:Inv X pins σ H s):Inv (me X pins W) [] σ H s :=
 ⟨Cd I.ok,I.os,I.bare,I.base,I.loc,I.cell,I.free,I.freeC,fun p hp=>I.pin p (by rw [List.append_nil] at hp;exact hp),I.hok,I.len⟩
theorem lF {p2:List ↥7} (ok:X.Ok) (I:Inv (me X pins W) p2 σ H s):Inv X pins σ H s :=
 ⟨ok,I.os,I.bare,I.base,I.loc,I.cell,I.free,I.freeC,fun p hp=>I.pin p (List.mem_append_left _ hp),I.hok,I.len⟩
theorem wg (I:Inv X pins σ H s) (ea:Addr):Inv (sE X ea) pins σ H s :=
 let o:=I.ok
 ⟨⟨o.mod,o.kind,o.glob,o.blt,o.above,o.inj,o.has,o.cab,(fun z=>absurd z Bool.false_ne_true),o.frames,o.stk,o.exf,o.bs,o.bsz,o.noex,o.exfs,o.funs,o.frf⟩,I.os,I.bare,I.base,I.loc,I.cell,I.free,I.freeC,I.pin,I.hok,I.len⟩
theorem zH (ok:X.Ok) (I:Inv (sE X ea) pins σ H s):Inv X pins σ H s:=⟨ok,I.os,I.bare,I.base,I.loc,I.cell,I.free,I.freeC,I.pin,I.hok,I.len⟩
theorem uY (I:Inv X pins σ H s) {i:Nat} {n:Str} {m:Str->Option Value} {v:Option Value} {h':Heap} {tk:Nat} (hN:X.N.Nodup) (hi:X.N[i]? = some n)
  (hl:∀ (i:Nat) (x:Str) (v:V),X.N[i]? = some x->σ[i]? = some (some v)->Vis X.env.scope x->∃ u,RelV v u/\Look X.env s.heap m x u)
  (hn':h'.Ns X.env.locals (fun x=>if x=n then v else m x)) (hs:Heap.SameBut X.env.locals s.heap h'):Inv X pins (σ.set i none) H { s with heap:=h',toks:=tk }:=by
 have cne:=I.cne
 obtain ⟨m0,hn0,_⟩:=id I.loc
 have iσ:i<σ.length:=by rw [I.len];exact (List.getElem?_eq_some_iff.mp hi).1
 have ne0:∀ {b:Addr} {o:Obj},X.s₀.heap.get? b=some o->b≠X.env.locals:=fun {b o} e=>Nat.ne_of_lt (Nat.lt_of_lt_of_le (Heap.lt_size e) I.ok.above)
 refine ⟨I.ok,I.os,I.bare,⟨fun b o e k hb hx => ?_,fun b o e k hb hx => ?_,I.base.free,fun b o e hx => ?_,I.base.tups,I.base.frzs,I.base.tbls⟩,⟨_,hn',fun j y v' e1 e2 e3 => ?_⟩,fun y c e => ?_,I.free,I.freeC,fun p hp => ?_,fun b ob e => ?_,by rw [List.length_set];exact I.len⟩
 ·exact (hs.2 b (ne0 e)).trans (I.base.keep b o e k hb hx)
 ·obtain ⟨sl,q⟩:=I.base.slot b o e k hb hx
  exact ⟨sl,(hs.2 b (ne0 e)).trans q⟩
 ·obtain ⟨o',q⟩:=I.base.there b o e hx
  exact ⟨o',(hs.2 b (ne0 e)).trans q⟩
 ·by_cases hj:j=i
  ·subst hj
   rw [List.getElem?_set_self iσ] at e2
   cases e2
  ·rw [List.getElem?_set_ne (Ne.symm hj)] at e2
   obtain ⟨u,r,q⟩:=hl j y v' e1 e2 e3
   refine ⟨u,r,?_⟩
   rcases q with ⟨k,e⟩ | ⟨k,c,e,z⟩
   ·refine .inl ⟨k,?_⟩
    have:y≠n:=fun q=>hj (j9 hN e1 (q▸hi))
    simp [this,e]
   ·exact .inr ⟨k,c,e,z.sameBut hs (cne y c e)⟩
 ·obtain ⟨w',z⟩:=I.cell y c e
  exact ⟨w',z.sameBut hs (cne y c e)⟩
 ·obtain ⟨e,k,ne,nf,d⟩:=I.pin p hp
  exact ⟨(hs.2 p.1 ne).trans e,k,ne,nf,d⟩
 ·refine (I.hok b ob e).stay (fun c w' hc q=>(hs.2 c ?_).trans q) (fun _ q=>q) fun _ _ q=>q
  rintro rfl
  rcases hc with rfl | hc
  ·rw [I.free] at e;cases e
  ·rw [I.free] at hc;cases hc
theorem tG {fs:List Addr} {h h2:Heap} {o:HO} (u:Un fs [] H H' h h2) (k1:h.get? ea=none) (k2:H' ea=none):Un fs [] H (upd H' ea o) h h2:=by
 have ne1:∀ {b:Addr} {ob:Obj},h.get? b=some ob->b≠ea:=fun {b ob} e z=>by rw [z,k1] at e;cases e
 have ne2:∀ {b:Addr} {x:HO},H' b=some x->b≠ea:=fun {b x} e z=>by rw [z,k2] at e;cases e
 refine ⟨u.keep,u.slot,fun b ob e n hx=>by rw [aM (ne1 e)];exact u.free b ob e n hx,u.there,fun b xs e => ?_,fun b ob x e => ?_,fun b ps e => ?_⟩
 ·have q:=u.tups b xs e
  rw [aM (ne2 q)];exact q
 ·have q:=u.frzs b ob x e
  rw [aM (ne2 q)];exact q
 ·obtain ⟨more,q⟩:=u.tbls b ps e
  exact ⟨more,by rw [aM (ne2 q)];exact q⟩
theorem rk {P:Program} {w:World} {h2:Heap} (hok:HOk P w H' h2) (k2:H' ea=none) (he:∃ o vs,h2.get? ea=some o/\o.cls=.ref C/\o.data=.fields vs):HOk P w (upd H' ea (zS ea C)) h2:=fun b u e=>by
 by_cases hb:b=ea
 ·subst hb
  rw [aS] at e
  cases e
  obtain ⟨o,vs,h1,h2',h3⟩:=he
  exact ⟨⟨o,vs,h1,h2',h3⟩,⟨o,h1⟩,fun g1 g2 ⟨o1,vs1,q1,q2⟩ k=>⟨o1,vs1,k o1 q1,q2⟩⟩
 ·rw [aM hb] at e
  refine (hok b u e).stay (fun _ _ _ q=>q) (fun c q => ?_) fun c xs q => ?_
  ·rw [aM (fun z=>by rw [z,k2] at q;cases q)];exact q
  ·rw [aM (fun z=>by rw [z,k2] at q;cases q)];exact q
end
structure Catch (K:PySem.W.Frag) (C C':Addr):Prop where
 c1:(PySem.W.clsIn K C').isSome=true
 c2:PySem.W.typeIn K (.ref C')=some (.type "type")
 c3:PySem.W.subIn K (.type "type") ↥11=some false
 c4:PySem.W.mroIn K C' ↥17=some true
 c5:PySem.W.mroIn K C (.ref C')=some true
section
variable {X:Cx} {N G:List Str} {pos np hpos:Pos} {n:Str} {cls:String} {C':Addr} {body suite:List Stmt} {b₀:Stmt} {gb gs:S}
def m8 (X:Cx) (cls:String) (C':Addr):Prop:=∀ (C:String) (Ca:Addr),ko C cls=true->X.mg C=some (.ref Ca)->Catch X.K Ca C'
theorem qG {K:PySem.W.Frag} {mg:Str->Option Value} {H:Hp} {σ:L2.St} {δ:Dt} (h:Stt K mg H σ δ):Stt K mg H σ (noOwn δ):=by
 refine ⟨by unfold noOwn;rw [List.length_map];exact h.1,fun i d e n => ?_⟩
 unfold noOwn at e
 rw [List.getElem?_map] at e
 cases q:δ[i]? with
 | none=>rw [q] at e;cases e
 | some c =>
  rw [q] at e
  cases c with
  | none=>cases e
  | some d0 =>
   by_cases ho:∃ ds,d0=.own ds
   ·obtain ⟨ds,rfl⟩:=ho
    cases e
   ·have e':d0=d:=by
     cases d0<;>first | exact absurd ⟨_,rfl⟩ ho | exact Option.some.inj (Option.some.inj e)
    subst e'
    exact h.2 i d0 q n
theorem uJ {δ:Dt} {i:Nat} {d:D} (hd:∀ ds,d ≠ .own ds) (j:Nat) (ds:List D):((noOwn δ).set i (some d))[j]? ≠ some (some (.own ds)):=fun e=>by
 by_cases hj:j=i
 ·subst hj
  by_cases hl:j<(noOwn δ).length
  ·rw [List.getElem?_set_self hl] at e
   exact hd ds (Option.some.inj (Option.some.inj e))
  ·rw [List.getElem?_eq_none (by rw [List.length_set];omega)] at e
   cases e
 ·rw [List.getElem?_set_ne (Ne.symm hj)] at e
  unfold noOwn at e
  rw [List.getElem?_map] at e
  cases q:δ[j]? with
  | none=>rw [q] at e;cases e
  | some c =>
   rw [q] at e
   cases c with
   | none=>cases e
   | some d0=>cases d0<;>cases e
theorem Dk (P:Pl X N G) (O:Own X) (i:Nat) (hn:N[i]? = some n) (hloc:X.env.scope.names.lookup n=some .local) (GC:Gb X cls) (hm:X.mg cls=some (.ref C')) {C:String} {Ca:Addr} (hC:X.mg C=some (.ref Ca)) (hk:Catch X.K Ca C')
  (hs:∀ ea,SSs (sE X ea) (b₀::suite) gs) {δe δ2:Dt} (eg:gs (δe.set i (some (.exc C)))=.nx δ2)
  (ne':∀ (j:Nat) (ds:List D),(δe.set i (some (.exc C)))[j]? ≠ some (some (.own ds)))
  {pins:List ↥7} {σ:L2.St} {H1 H':Hp} {s1 s':Shared} {ea:Addr} {D:Ends} {hrest:List ExceptHandler}
  (I1:Inv X pins σ H1 s1) (F:FlyX X.prog X.w X.stack H1 s1 Ca H' ea s') (hσ:Stt X.K X.mg H' σ δe) (hD:∀ σ2 H2 os,ay H' (hide H2 os)->StO X H2 σ2 (δ2.set i none) os->D.nx σ2 H2) :
  wpAny ↥4 X.A (noteFrame (.ref ea) X.env) (fun _ s2=>wpAny ↥4 X.A (setFlight (.ref ea) none) (fun _ s3 =>
   wpAny ↥4 X.A (handleBy (.ref ea) X.env (.ExceptHandler (some (.Name cls np)) (some n) (b₀::suite) hpos::hrest)) (SP X pins D) X.xe s3) X.xe s2) X.xe s':=by
 have hmn:n∈N:=List.mem_of_getElem? hn
 obtain ⟨a0,B,hfl,i1,i2⟩:=F.fly
 have ff:=mR hfl.2.2.1
 have noea:H' ea=none:=by
  cases q:H' ea with
  | none=>rfl
  | some u =>
   obtain ⟨ob,e⟩:=iy (F.hok ea u q)
   have z:=i2 ea u ob q e
   rw [hfl.2.1] at z
   cases z
 rw [O.stk] at hfl
 refine wpAny_looks_onW (by rw [I1.ok.frames,O.stk]) O.frm hfl fun h4 held4 up4 => ?_
 refine wpAny_landsW held4 fun h5 fl5 up5 => ?_
 have up45:=up4.trans up5
 have at_:∀ {h6:Heap} {g:Nat},B.StaysIn h6->s'.heap.UpToSlots h6->Inv X pins σ H' { s' with heap:=h6,toks:=g }:=fun {h6 g} st up =>
  I1.call' (s':={ s' with heap:=h6,toks:=g }) (ch:=[]) F.os (kR F.un F.same i1 i2 st up ff) (fP F.hok i2 st) F.bare fun b z=>absurd z ↥19
 have I5:=at_ (g:=s'.toks) fl5.1 up45
 refine wpAny_handleBy_cons (codeAny_handlers_test ?_) (by intro q;cases q)
 refine dz (X:=sE X ea) (wg I5 ea) GC.g hm ?_ GC.d
 refine ov (K:=X.K) I5.kIn fl5.there hk.c1 hk.c2 hk.c3 hk.c4 hk.c5 ?_
 refine codeAny_handlers_suite_as ?_
 refine lands_againW fl5 fun h6 fl6 up6 => ?_
 have up456:=up45.trans up6
 have u6:=kR F.un F.same i1 i2 fl6.1 up456 ff
 have fl6':∃ o vs,h6.get? ea=some o/\o.cls=.ref Ca/\o.data=.fields vs:=by
  obtain ⟨_,_,_,oe,vs,_,_,_,he,hc,hd,_⟩:=fl6
  exact ⟨oe,vs,he,hc.1,hd⟩
 have I6:Inv X pins σ (upd H' ea (zS ea Ca)) { s' with heap:=h6 } :=
  I1.call' (s':={ s' with heap:=h6 }) (ch:=[]) F.os (tG u6 F.new noea) (rk (fP F.hok i2 fl6.1) noea fl6') F.bare fun b z=>absurd z ↥19
 have same2:ay H' (upd H' ea (zS ea Ca)):=aQ noea _
 have J6:=wg I6 ea
 refine gL (X:=sE X ea) (v:=.ref ea) (i:=i) J6 (by rw [show (sE X ea).N=X.N from rfl,P.sc.n];exact P.sc.nd) (by rw [show (sE X ea).N=X.N from rfl,P.sc.n];exact hn) (.inl hloc) rfl (fun s7 J7 => ?_) (.inr hloc)
 have hσ7:Stt X.K X.mg (upd H' ea (zS ea Ca)) (σ.set i (some (.ref ea))) (δe.set i (some (.exc C))):=(hσ.mono same2).set (.exc hC aS)
 have S7:StO (sE X ea) (upd H' ea (zS ea Ca)) (σ.set i (some (.ref ea))) (δe.set i (some (.exc C))) []:=StO.nil hσ7 ne'
 refine wpAny_mono (hs ea pins s7 _ _ { nx:=fun σ2 H2=>∃ os,ay (upd H' ea (zS ea Ca)) (hide H2 os)/\StO X H2 σ2 δ2 os,rt:=fun _ _=>False } J7 ⟨_,[],S7,by rw [eg];exact fun σ2 H2 os S sm=>⟨os,by rw [gZ] at sm;exact sm,⟨S.st,S.lst,S.own,S.inj⟩⟩⟩) (fun f s8 q8 => ?_) fun _ _ z=>False.elim z
 cases f with
 | ret v=>obtain ⟨_,_,_,_,_,z⟩:=q8;exact z.elim
 | brk=>obtain ⟨_,_,_,z⟩:=q8;exact z.elim
 | cont=>obtain ⟨_,_,_,z⟩:=q8;exact z.elim
 | next =>
  obtain ⟨σ8,H8,J8,os,sm,S8⟩:=q8
  have I8:=zH I1.ok J8
  obtain ⟨m,hns,hl⟩:=id I8.loc
  refine wpAny_nameGoes_keeps hloc hns (by rw [I8.ok.kind];rfl) fun h9 v hn9 hs9 => ?_
  have hless:ay (hide H8 os) (hide H8 (os.filter fun p=>p.1 != i)):=iJ fun p hp=>(aO os i p hp).1
  refine ⟨σ8.set i none,H8,uY I8 (by rw [P.sc.n];exact P.sc.nd) (by rw [P.sc.n];exact hn) hl hn9 hs9,hD _ _ (os.filter fun p=>p.1 != i) ((same2.trans sm).trans hless) ?_⟩
  have setn:∀ {α:Type} {l:List (Option α)} {j:Nat} {d:α},(l.set i none)[j]? = some (some d)->l[j]? = some (some d)/\j≠i:=fun {α l j d} e=>by
   by_cases hj:j=i
   ·subst hj
    by_cases hjl:j<l.length
    ·rw [List.getElem?_set_self hjl] at e;cases e
    ·rw [List.getElem?_eq_none (by rw [List.length_set];omega)] at e;cases e
   ·rw [List.getElem?_set_ne (Ne.symm hj)] at e
    exact ⟨e,hj⟩
  refine ⟨⟨by rw [List.length_set,List.length_set];exact S8.st.1,fun j d e nd => ?_⟩,fun p hp => ?_,fun j ds e => ?_,fun a b c h1 h2=>S8.inj a b c (aO os i _ h1).1 (aO os i _ h2).1⟩
  ·obtain ⟨e,hj⟩:=setn e
   obtain ⟨v1,q1,q2⟩:=S8.st.2 j d e nd
   exact ⟨v1,by rw [List.getElem?_set_ne (Ne.symm hj)];exact q1,q2.mono hless⟩
  ·obtain ⟨hp',hne⟩:=aO os i p hp
   obtain ⟨xs,ds,h1,h2,h3,h4⟩:=S8.lst p hp'
   exact ⟨xs,ds,h1,by rw [List.getElem?_set_ne (Ne.symm hne)];exact h2,by rw [List.getElem?_set_ne (Ne.symm hne)];exact h3,h4.mono hless⟩
  ·obtain ⟨e,hj⟩:=setn e
   obtain ⟨a,ha⟩:=S8.own j ds e
   exact ⟨a,List.mem_filter.mpr ⟨ha,by simpa using hj⟩⟩
theorem Er (P:Pl X N G) (O:Own X) (i:Nat) (hn:N[i]? = some n) (hloc:X.env.scope.names.lookup n=some .local) (GC:Gb X cls) (hm:X.mg cls=some (.ref C')) (hk:m8 X cls C')
  (hb:∀ pins W,SSs (me X pins W) body gb) (hs:∀ ea,SSs (sE X ea) (b₀::suite) gs) :
  SS X (.Try body [.ExceptHandler (some (.Name cls np)) (some n) (b₀::suite) hpos] [] [] pos) (DB gb cls i gs):=by
 intro pins s σ H D I ⟨δ,os,S,h⟩
 refine wpAny_Try_except ?_
 have S':∀ W,StO (me X pins W) H σ δ os:=fun W=>⟨S.st,S.lst,S.own,S.inj⟩
 unfold DB vG at h
 cases e:gb δ with
 | nx δ1 =>
  rw [e] at h
  refine wpAny_mono (hb pins _ [] s σ H { nx:=D.nx,rt:=fun _ _=>False } (rh I) ⟨δ,os,S' _,by rw [e];exact fun σ1 H1 os1 S1 s1=>h σ1 H1 os1 ⟨S1.st,S1.lst,S1.own,S1.inj⟩ s1⟩) (fun f s1 q => ?_) fun _ _ z=>z
  cases f with
  | next =>
   obtain ⟨σ1,H1,I1,q⟩:=q
   exact wpAny_execs_nil ⟨σ1,H1,lF I.ok I1,q⟩
  | ret v=>obtain ⟨_,_,_,_,_,z⟩:=q;exact z.elim
  | brk=>obtain ⟨_,_,_,z⟩:=q;exact z.elim
  | cont=>obtain ⟨_,_,_,z⟩:=q;exact z.elim
 | ex C δe =>
  rw [e] at h
  simp only [forget] at h
  split at h
  ·rename_i hcl
   cases eg:gs ((noOwn δe).set i (some (.exc C))) with
   | nx δ2 =>
    rw [eg] at h
    have ho:∀ W,(∀ ea s',(∃ p2 Hc sc σ1 H1 Ca,Inv X pins σ1 Hc sc/\ay ↥26 H1/\Stt X.K X.mg H1 σ1 δe/\X.mg C=some (.ref Ca)/\FlyX X.prog X.w X.stack Hc sc Ca H1 ea s'/\p2=pins)->W (.ref ea) s')->OQ (me X pins W) { nx:=fun _ _=>False,rt:=fun _ _=>False } ↥26 (gb δ):=fun W hW=>by
     rw [e]
     exact fun σ1 H1 s1 hσ1 Ca hCa p2 Hc sc ea s' Ic F=>hW ea s' ⟨pins,Hc,sc,σ1,H1,Ca,lF I.ok Ic,s1,hσ1,hCa,F,rfl⟩
    refine wpAny_mono (hb pins _ [] s σ H _ (rh I) ⟨δ,os,S' _,ho _ ?_⟩) (fun f s1 q => ?_) fun _ _ z=>z
    ·rintro ea s' ⟨p2,Hc,sc,σ1,H1,Ca,Ic,s1,hσ1,hCa,F,_⟩
     exact Dk P O i hn hloc GC hm hCa (hk C Ca hcl hCa) hs eg (uJ (fun _ z=>nomatch z)) Ic F (qG hσ1) fun σ2 H2 os2 sm S2=>h σ2 H2 os2 S2 (s1.trans sm)
    ·cases f with
     | next=>obtain ⟨_,_,_,z⟩:=q;exact z.elim
     | ret v=>obtain ⟨_,_,_,_,_,z⟩:=q;exact z.elim
     | brk=>obtain ⟨_,_,_,z⟩:=q;exact z.elim
     | cont=>obtain ⟨_,_,_,z⟩:=q;exact z.elim
   | _=>rw [eg] at h;exact False.elim h
  ·exact False.elim h
 | _=>rw [e] at h;exact False.elim h
theorem Pl.try (P:Pl X N G) (p:List ↥7) (W:Value->Shared->Prop):Pl (me X p W) N G:=⟨⟨⟨P.sc.n,P.sc.nd,P.sc.vis,P.sc.dbg⟩,P.ex⟩,P.sto,fun x hx=>⟨(P.gb x hx).g,(P.gb x hx).d,(P.gb x hx).n⟩⟩
theorem Pl.inn (P:Pl X N G) (ea:Addr):Pl (sE X ea) N G:=⟨⟨⟨P.sc.n,P.sc.nd,P.sc.vis,P.sc.dbg⟩,P.ex⟩,P.sto,fun x hx=>⟨(P.gb x hx).g,(P.gb x hx).d,(P.gb x hx).n⟩⟩
end
end ES
namespace ES
open PySem PySem.Spec PyProof.Rows L2 EV
unseal SE ST SW SA SS SSs
def rC (X:Cx) (f:List D->R D):List V->Hp->VK->Prop:=fun vs H Q=>∃ ds d,Reps X.K X.mg H vs ds/\f ds=.ok d/\∀ v H',ay H H'->Rep X.K X.mg H' v d->Q v H'
def NoX (f:List D->R D):Prop:=∀ ds C,f ds ≠ .ex C
theorem RQ.cl (nx:NoX f) (r:Reps X.K X.mg H vs ds) (h:RQ X σ H (f ds) Q):rC X f vs H Q:=by
 cases e:f ds with
 | ok d=>rw [e] at h;exact ⟨ds,d,r,e,h⟩
 | ex C=>exact absurd e (nx ds C)
 | bad=>rw [e] at h;exact False.elim h
section
variable {X:Cx} {x:Str} {id T:String} {f:List D->R D} {e o:Expr} {es:List Expr} {gs:List E} {g:E} {p pos apos:Pos}
theorem bV (hc:fJ X (.builtin id) (rC X f)) (nx:NoX f) (G:Gb X x) (hm:X.mg x=none) (hv:bootBuiltins x=some (.builtin id)) (ha:SA X (e::es) gs)
  (he:starEach (e::es) X.env=(false,eval e X.env)::starEach es X.env:=by rfl) (hpl:(backTo pos (starEach es X.env)).any (·.1)=false:=by rfl):SE X (.Call (.Name x p) (e::es) [] pos) (EV.call f gs) :=
 PE.weak (j5 hc G.g hm hv ha G.n G.d he hpl) fun σ H Q ⟨δ,hσ,h⟩=>⟨δ,hσ,(RA.bind h).to fun vs H' s ⟨_,ds,rs,q⟩=>RQ.cl nx rs q⟩
theorem rN (hc:fJ X (.type T) (rC X f)) (nx:NoX f) (G:Gb X x) (hm:X.mg x=none) (hv:bootBuiltins x=some (.type T)) (ha:SA X (e::es) gs)
  (he:starEach (e::es) X.env=(false,eval e X.env)::starEach es X.env:=by rfl) (hpl:(backTo pos (starEach es X.env)).any (·.1)=false:=by rfl):SE X (.Call (.Name x p) (e::es) [] pos) (EV.call f gs) :=
 PE.weak (qq hc G.g hm hv ha G.n G.d he hpl) fun σ H Q ⟨δ,hσ,h⟩=>⟨δ,hσ,(RA.bind h).to fun vs H' s ⟨_,ds,rs,q⟩=>RQ.cl nx rs q⟩
theorem mq (r:Reps X.K X.mg H vs [d]):∃ v,vs=[v]/\Rep X.K X.mg H v d:=by
 cases r with
 | cons r rr=>cases rr;exact ⟨_,rfl,r⟩
theorem t9 (r:Reps X.K X.mg H vs [d,d']):∃ v v',vs=[v,v']/\Rep X.K X.mg H v d/\Rep X.K X.mg H v' d':=by
 cases r with
 | cons r rr =>
  cases rr with
  | cons r' rr=>cases rr;exact ⟨_,_,rfl,r,r'⟩
theorem eE:NoX b5:=fun ds C z=>by unfold b5 at z;split at z<;>first | cases z | exact b0 z
theorem eM:fJ X (.builtin "len") (rC X b5):=by
 intro pins s σ H xs us Q I rs ⟨ds,d,r,e,q⟩
 unfold b5 at e
 split at e
 ·cases e
  obtain ⟨v,rfl,r1⟩:=mq r
  cases r1 with
  | @lst a ys _ hq rr=>exact gp pins s σ H _ us Q I rs ⟨a,ys,rfl,.inl hq,by rw [rr.length];exact q _ _ ↥20 (.int _)⟩
 ·cases e
  obtain ⟨v,rfl,r1⟩:=mq r
  cases r1 with
  | @tup a ys _ hq rr=>exact gp pins s σ H _ us Q I rs ⟨a,ys,rfl,.inr hq,by rw [rr.length];exact q _ _ ↥20 (.int _)⟩
 ·split at e
  ·rename_i hz
   cases e
   obtain ⟨v,rfl,r1⟩:=mq r
   cases r1
   exact lS pins s σ H _ us Q I rs ⟨_,rfl,Nat.le_trans hz (by rw [sizeLine_eq];decide),q _ _ ↥20 (.int _)⟩
  ·cases e
 ·cases e
theorem Co:NoX sG:=fun ds C z=>by unfold sG at z;split at z<;>cases z
theorem Dm:fJ X (.type "int") (rC X sG):=by
 intro pins s σ H xs us Q I rs ⟨ds,d,r,e,q⟩
 unfold sG at e
 split at e
 ·cases e
  obtain ⟨v,rfl,r1⟩:=mq r
  cases r1
  exact lT pins s σ H _ us Q I rs (.inl ⟨_,rfl,q _ _ ↥20 (.int _)⟩)
 ·cases e
  obtain ⟨v,rfl,r1⟩:=mq r
  cases r1
  exact lT pins s σ H _ us Q I rs (.inr ⟨_,rfl,q _ _ ↥20 (.int _)⟩)
 ·cases e
def tyV (mg:Str->Option Value):D->Option Value
 | .non=>some (.type "NoneType")
 | .bl _=>some (.type "bool")
 | .int _=>some (.type "int")
 | .str _=>some (.type "str")
 | .tup _=>some ↥11
 | .lst _=>some (.type "list")
 | .exc n=>mg n
 | _=>none
def DI (mg:Str->Option Value):D->Option Value
 | .ty n=>some (.type n)
 | .cls n=>mg n
 | _=>none
def Isi (X:Cx) (c:D):Prop:=∀ d k t u,gJ [d,c]=.ok (.bl k)->tyV X.mg d=some t->DI X.mg c=some u->PySem.W.kitOne X.K t u=some k
def i7 (X:Cx):Prop:=∀ (e C:Addr) (n:String),af.contains n=true->X.mg n=some (.ref C)->PySem.W.KitX X.K (.ref e) (.ref C) (fun h=>∃ o vs,h.get? e=some o/\o.cls=.ref C/\o.data=.fields vs)
theorem iW:(∃ d c k,ds=[d,c]/\gJ ds=.ok (.bl k))\/gJ ds=.bad:=by
 rcases ds with _ | ⟨d,_ | ⟨c,_ | ⟨x,y⟩⟩⟩
 ·exact .inr rfl
 ·exact .inr rfl
 ·cases c<;>first
   | exact .inr rfl
   | (cases d<;>first
     | exact .inr rfl
     | exact CQ rfl)
 ·first
   | exact .inr rfl
   | (cases c<;>exact .inr rfl)
theorem lL (h:gJ [.exc n,c]=.ok (.bl k)):af.contains n=true:=by
 cases c with
 | cls B =>
  have z:=(bY h).1
  rw [Bool.and_eq_true] at z
  exact z.1
 | ty B =>
  have z:=(bY h).1
  rw [Bool.and_eq_true] at z
  exact z.1
 | _=>cases h
theorem Fj (hI:Isi X c) (hE:i7 X):fJ X (.builtin "isinstance") (fun vs H Q=>∃ dx d,Reps X.K X.mg H vs [dx,c]/\gJ [dx,c]=.ok d/\∀ v H',ay H H'->Rep X.K X.mg H' v d->Q v H'):=by
 intro pins s σ H xs us Q I rs ⟨dx0,d,r,e,q⟩
 rcases iW (ds:=[dx0,c]) with ⟨dx,dc,k,ez,e'⟩ | e'<;>rw [e'] at e<;>cases e
 cases ez
 obtain ⟨v,v',rfl,r1,r2⟩:=t9 r
 cases rs with
 | cons h1 h2 =>
  cases h2 with
  | cons h2 h3 =>
   cases h3
   rename_i u w
   have fin:∀ tk,EP X pins σ Q (.bool k) { s with toks:=tk }:=fun tk=>⟨.bl k,H,I.tok tk,rfl,q _ _ ↥20 (.bl k)⟩
   have hw:DI X.mg c=some w:=by
    cases r2 with
    | ty n=>cases h2;rfl
    | cls hc=>cases h2;exact hc
    | _=>cases dx0<;>cases e'
   cases r1 with
   | non=>cases (show u=Value.none from h1);exact PySem.W.kia_one PySem.W.kitx_none I.kIn True.intro (hI _ k _ _ e' rfl hw) (fun z=>nomatch z) fin
   | bl y=>cases (show u=Value.bool y from h1);exact PySem.W.kia_one PySem.W.kitx_bool I.kIn True.intro (hI _ k _ _ e' rfl hw) (fun z=>nomatch z) fin
   | int i=>obtain ⟨t,z⟩:=(show ∃ t,u=Value.int i t from h1);cases z;exact PySem.W.kia_one PySem.W.kitx_int I.kIn True.intro (hI _ k _ _ e' rfl hw) (fun z=>nomatch z) fin
   | str y=>obtain ⟨t,z⟩:=(show ∃ t,u=Value.str y t from h1);cases z;exact PySem.W.kia_one PySem.W.kitx_str I.kIn True.intro (hI _ k _ _ e' rfl hw) (fun z=>nomatch z) fin
   | @tup a ys ds hq rr =>
    cases (show u=Value.ref a from h1)
    obtain ⟨its,_,⟨o,g1,g2,_⟩,_⟩:=I.tuple hq
    exact PySem.W.kia_one PySem.W.kitx_tuple I.kIn ⟨o,g1,g2⟩ (hI _ k _ _ e' rfl hw) (fun z=>nomatch z) fin
   | @lst a ys ds hq rr =>
    cases (show u=Value.ref a from h1)
    obtain ⟨its,_,⟨o,n,g1,g2,_⟩,_⟩:=I.list hq
    exact PySem.W.kia_one PySem.W.kitx_list I.kIn ⟨o,g1,g2⟩ (hI _ k _ _ e' rfl hw) (fun z=>nomatch z) fin
   | @exc a C n hn hq =>
    cases (show u=Value.ref a from h1)
    exact PySem.W.kia_one (hE a C n (lL e') hn) I.kIn (I.hok a _ hq).1 (hI _ k _ _ e' hn hw) (fun z=>nomatch z) fin
   | ty n=>cases c<;>cases e'
   | cls _=>cases c<;>cases e'
   | ins _ _ _=>cases c<;>cases e'
theorem vg (hI:Isi X c) (hE:i7 X) (G:Gb X "isinstance") (hm:X.mg "isinstance"=none) (ha:SE X e g) (hb:SE X e2 (con c))
  (hs:starEach [e,e2] X.env=(false,eval e X.env)::starEach [e2] X.env:=by rfl) (hs2:starEach [e2] X.env=[(false,eval e2 X.env)]:=by rfl) (hpl:(backTo pos (starEach [e2] X.env)).any (·.1)=false:=by rfl) :
  SE X (.Call (.Name "isinstance" p) [e,e2] [] pos) (EV.call gJ [g,con c]) :=
 PE.weak (j5 (Fj hI hE) G.g hm PyProof.Rows.boot_isinstance (aj ha (aj hb dH hs2) hs) G.n G.d hs hpl) fun σ H Q ⟨δ,hσ,h⟩=>⟨δ,hσ,by
  cases r:g δ with
  | ok d =>
   have e1:evs [g,con c] δ=.ok [d,c]:=by simp [evs,r,con,R.bind]
   unfold EV.call at h
   rw [e1] at h ⊢
   refine fun vs H' s rs => ?_
   have h':RQ X σ H' (gJ [d,c]) Q:=RQ.mono s h
   rcases iW (ds:=[d,c]) with ⟨_,_,k,_,e'⟩ | e'
   ·rw [e'] at h';exact ⟨d,_,rs,e',h'⟩
   ·rw [e'] at h';exact False.elim h'
  | ex C =>
   have e1:evs [g,con c] δ=.ex C:=by simp [evs,r,R.bind]
   unfold EV.call at h
   rw [e1] at h ⊢
   exact h
  | bad =>
   have e1:evs [g,con c] δ=.bad:=by simp [evs,r,R.bind]
   unfold EV.call at h
   rw [e1] at h
   exact False.elim h⟩
end
end ES
namespace ES
open PySem PySem.Spec PyProof.Rows L2 EV
unseal SE ST SW SA SS SSs
section
variable {prog:Program} {w:World} {A:Around} {s:Shared} {K:PySem.W.Frag} {e C:Addr}
open PySem.W PySem.Builtin PySem.Builtin.Getset_descriptor in
theorem AQ {R:Result->Shared->Prop} {tp:Value} (L1:Looks ↥32 s.heap (isSubtype (.ref C) ↥39) true) (L0:Looks ↥32 s.heap (typeOf (.ref e)) (.ref C)) (done:R (.ok (.ret (.ref C))) s) :
  codeAny ↥32 A (.call (.builtin "getset_descriptor.__get__") ⟨[.builtin "object.__class__",.ref e,tp],[]⟩) R s:=by
 obtain ⟨hh,g,dr,t,os⟩:=s
 refine codeAny_call_builtin KF.slot_gs.plain KF.entry_gs (KF.slot_gs.check _ _ _ _ _ _ _ _ KF.type_class (KF.args_gs _ _ tp) ?_)
 unfold Builtin.«getset_descriptor.__get__»;unfold descrGet;rw [dga_obj]
 refine wpAny_bind (wpAny_pure ?_)
 simp only [descrGetter,descrCheckInstance,descrNameAndClass,isInstance,KF.owner_class]
 repeat lk
 refine ⟨Code.quiet_builtin _ ↥24,?_⟩
 refine codeAny_builtin KF.entry_class ?_
 unfold Builtin.«object.__class__»;unfold shownTypeOf
 repeat lk
 exact done
open PySem.W PySem.Builtin PySem.Builtin.Getset_descriptor in
theorem sJ {E:Value->Shared->Prop} {Q:Fin->Shared->Prop} {tk:Tok} (L1:Looks ↥32 s.heap (isSubtype (.ref C) ↥39) true) (L0:Looks ↥32 s.heap (typeOf (.ref e)) (.ref C))
  (L2:Looks ↥32 s.heap (typeLookup (.ref C) "__class__") (some (.builtin "object.__class__"))) (done:Q (.done (.ret (.ref C))) s) :
  wpAny ↥32 A (Builtin.«object.__getattribute__» ⟨[.ref e,.str "__class__" tk],[]⟩) Q E s:=by
 obtain ⟨hh,g,dr,t,os⟩:=s
 have f5:=F.typeOf_object_class
 have f6:=F.slot_gs_get.lookup
 have f7:=F.slot_gs_set.lookup
 have hT5:(⟨hh,g,dr,t,os⟩:Shared).TypeIs (.builtin "object.__class__") "getset_descriptor":=F.typeOf_object_class
 repeat (any_goals (first | assumption | with_reducible refine L0.at ?_ | with_reducible refine L2.at ?_ | wp_step))
 refine AQ L1 L0 ?_
 repeat (any_goals (first | assumption | wp_step))
open PySem.W PySem.Builtin PySem.Builtin.Getset_descriptor in
theorem sL {M:Model} {E:Value->Shared->Prop} {nameV:Value} {Q:Unit->Shared->Prop} (L3:Looks M s.heap (isSubtype (.ref C) ↥17) true) (L0:Looks M s.heap (typeOf (.ref e)) (.ref C)) (done:Q () s) :
  wpAny M A (checkBuiltinCall "BaseException.__getattribute__" ⟨[.ref e,nameV],[]⟩) Q E s:=by
 obtain ⟨hh,g,dr,t,os⟩:=s
 have k1:builtinKind "BaseException.__getattribute__"=some .slot:=by decide +kernel
 have k2:splitId "BaseException.__getattribute__"=some ("BaseException","__getattribute__"):=by decide +kernel
 have ha:=F.args_bexc_ga (.ref e) nameV
 simp only [checkBuiltinCall,k1,k2]
 refine wpAny_bind ?_
 unfold isInstance
 repeat (first | with_reducible refine L0.at ?_ | with_reducible refine L3.at ?_ | wp_step)
 exact done
structure XCls (K:PySem.W.Frag) (C:Addr):Prop where
 c0:PySem.W.mroIn K C ↥39=some true
 c1:PySem.W.mroIn K C ↥17=some true
 c2:PySem.W.findIn K (.ref C) "__class__"=some (some (.builtin "object.__class__"))
 c3:PySem.W.findIn K (.ref C) "__getattribute__"=some (some (.builtin "BaseException.__getattribute__"))
 c4:PySem.W.findIn K (.ref C) "__getattr__"=some none
 c5:∃ cd,PySem.W.clsIn K C=some cd
open PySem.W PySem.Builtin PySem.Builtin.Getset_descriptor in
theorem DN {E:Value->Shared->Prop} {Q:Value->Shared->Prop} {tk:Tok} (FB:ExcAttrFacts "ValueError") (L0:Looks ↥32 s.heap (typeOf (.ref e)) (.ref C)) (c:XCls K C) (KX:K.In s.heap) (done:Q (.ref C) s) :
  wpAny ↥32 A (getAttrBy (.ref e) (.str "__class__" tk) false) Q E s:=by
 have L1:Looks ↥32 s.heap (isSubtype (.ref C) ↥39) true:=looks_mroIn KX c.c0
 have L3:Looks ↥32 s.heap (isSubtype (.ref C) ↥17) true:=looks_mroIn KX c.c1
 have L2:Looks ↥32 s.heap (typeLookup (.ref C) "__class__") (some (.builtin "object.__class__")):=looks_findIn KX c.c2
 have L4:Looks ↥32 s.heap (typeLookup (.ref C) "__getattribute__") (some (.builtin "BaseException.__getattribute__")):=looks_findIn KX c.c3
 have L5:Looks ↥32 s.heap (typeLookup (.ref C) "__getattr__") none:=looks_findIn KX c.c4
 obtain ⟨hh,g,dr,t,os⟩:=s
 have f3:=FB.ga.bind (.ref e)
 have q2:(Value.builtin "BaseException.__getattribute__" == Value.builtin "object.__getattribute__")=false:=by decide +kernel
 have q0:(false&&onTheHeap (Value.builtin "BaseException.__getattribute__"))=false:=rfl
 have q1:(onTheHeap (Value.ref C)&&Value.builtin "BaseException.__getattribute__" == Value.builtin "object.__getattribute__")=false:=by rw [q2];rfl
 repeat (any_goals (first | assumption | with_reducible refine L0.at ?_ | with_reducible refine L4.at ?_ | with_reducible refine L5.at ?_ | wp_step))
 refine codeAny_call_builtin FB.ga.plain F.entry_bexc_ga (sL L3 L0 (sJ L1 L0 L2 ?_))
 repeat (any_goals (first | assumption | wp_step))
open PySem.W in
theorem zR (c:XCls K C):KitX K (.ref e) (.ref C) (fun h=>∃ o vs,h.get? e=some o/\o.cls=.ref C/\o.data=.fields vs) where
 ty:=fun M h KX ⟨o,vs,h1,h2,h3⟩=>h2▸(Looks.ld h1).andThen .now
 it:=fun M h KX _=>by
  obtain ⟨cd,hc⟩:=c.c5
  unfold clsIn at hc
  split at hc
  ·rename_i hlk
   intro A' Q' E' s' k q
   unfold isType loadHead
   exact wpAny_bind (wpAny_loadPart (k _ _ (KX _ _ hlk)) (wpAny_pure q))
  ·cases hc
 ne:=fun h tp dd its n sl KX htp=>by
  obtain ⟨cd,hc⟩:=c.c5
  unfold clsIn at hc
  split at hc
  ·rename_i hlk
   have h1:=KX _ _ hlk
   by_cases z:C=tp
   ·subst z
    rw [htp] at h1
    cases h1
   ·simpa using z
  ·cases hc
 ca:=fun {prog w A E Q s} KX ⟨o,vs,h1,h2,h3⟩ q=>by
  obtain ⟨hh,g,dr,t,os⟩:=s
  have L0:Looks ↥32 hh (typeOf (.ref e)) (.ref C):=h2▸(Looks.ld h1).andThen .now
  have by_:∀ {tk:Tok} {t':Nat} {E':Value->Shared->Prop} {Q':Value->Shared->Prop},Q' (.ref C) ⟨hh,g,dr,t',os⟩->wpAny ↥32 A (getAttrBy (.ref e) (.str "__class__" tk) false) Q' E' ⟨hh,g,dr,t',os⟩:=fun {tk t' E' Q'} done=>DN (s:=⟨hh,g,dr,t',os⟩) PySem.F.excAttr_ValueError L0 c KX done
  clear h1
  unfold getAttr? getAttrBy?
  repeat (any_goals (first | assumption | with_reducible apply by_ | wp_step))
end
theorem lM (h:∀ (n:String) (C:Addr),af.contains n=true->X.mg n=some (.ref C)->XCls X.K C):i7 X:=fun e C n hx hn=>zR (h n C hx hn)
end ES
namespace ES
open PySem PySem.Spec PyProof.Rows L2 EV
unseal SE ST SW SA SS SSs
theorem iS:bootBuiltins "ValueError"=some ↥8:=by decide +kernel
theorem mG {G:List Str} (i:Nat) {x:Str} (h:G[i]? = some x:=by rfl):x∈G:=List.mem_of_getElem? h
structure XF (K:PySem.W.Frag) (mg:Str->Option Value) (n:String):Prop where
 ex:mg n=none\/∃ C,mg n=some (.ref C)/\XCls K C
theorem pO {K:PySem.W.Frag} {mg:Str->Option Value} (h:∀ n∈af,XF K mg n) (n:String) (C:Addr) (hn:af.contains n=true) (hm:mg n=some (.ref C)):XCls K C:=by
 rcases (h n (by simpa using hn)).ex with z | ⟨C',z,x⟩
 ·rw [hm] at z;cases z
 ·rw [hm] at z;cases z;exact x
structure CF (K:PySem.W.Frag) (mg:Str->Option Value) (B:Addr) (n:String):Prop where
 ex:mg n=none\/∃ C,mg n=some (.ref C)/\PySem.W.mroIn K C (.ref B)=some true
structure CB (K:PySem.W.Frag) (B:Addr):Prop where
 c1:∃ cd,PySem.W.clsIn K B=some cd
 c2:PySem.W.typeIn K (.ref B)=some (.type "type")
 c3:PySem.W.subIn K (.type "type") ↥11=some false
 c4:PySem.W.mroIn K B ↥17=some true
theorem pz (b:CB X.K B) (h:∀ n∈af,ko n cls=true->CF X.K X.mg B n):m8 X cls B:=fun C Ca hs hm=>by
 have hn:C∈af:=by
  unfold ko at hs
  rw [Bool.and_eq_true] at hs
  simpa using hs.1
 rcases (h C hn hs).ex with z | ⟨C',z,x⟩
 ·rw [hm] at z;cases z
 ·rw [hm] at z;cases z;exact ⟨by obtain ⟨_,e⟩:=b.c1;rw [e];rfl,b.c2,b.c3,b.c4,x⟩
theorem we (hn:n≠"ValueError") (i0:PySem.W.kitOne X.K (.type "NoneType") (.type n)=some false) (i1:PySem.W.kitOne X.K (.type "bool") (.type n)=some (n == "int"||n == "bool")) (i2:PySem.W.kitOne X.K (.type "int") (.type n)=some (n == "int"))
  (i3:PySem.W.kitOne X.K (.type "str") (.type n)=some (n == "str")) (i4:PySem.W.kitOne X.K ↥11 (.type n)=some (n == "tuple")) (i5:PySem.W.kitOne X.K (.type "list") (.type n)=some (n == "list")):Isi X (.ty n):=by
 intro d k t u e ht hu
 cases hu
 cases d with
 | exc C =>
  have z:=(bY e).1
  rw [Bool.and_eq_true,beq_iff_eq] at z
  exact absurd z.2 hn
 | non=>cases ht;obtain ⟨_,rfl⟩:=bY e;exact i0
 | bl b=>cases ht;obtain ⟨_,rfl⟩:=bY e;exact i1
 | int b=>cases ht;obtain ⟨_,rfl⟩:=bY e;exact i2
 | str b=>cases ht;obtain ⟨_,rfl⟩:=bY e;exact i3
 | tup b=>cases ht;obtain ⟨_,rfl⟩:=bY e;exact i4
 | lst b=>cases ht;obtain ⟨_,rfl⟩:=bY e;exact i5
 | _=>cases e
structure IF (K:PySem.W.Frag) (mg:Str->Option Value) (c:Value) (k:Bool) (n:String):Prop where
 ex:mg n=none\/∃ C,mg n=some (.ref C)/\PySem.W.kitOne K (.ref C) c=some k
theorem IF.get {K:PySem.W.Frag} {mg:Str->Option Value} {c:Value} {k:Bool} {n:String} {C:Addr} (f:IF K mg c k n) (hm:mg n=some (.ref C)):PySem.W.kitOne K (.ref C) c=some k:=by
 rcases f.ex with z | ⟨C',z,x⟩
 ·rw [hm] at z;cases z
 ·rw [hm] at z;cases z;exact x
theorem CP (hX:∀ n C,af.contains n=true->X.mg n=some (.ref C)->True) (hr:∀ (n:String) u,af.contains n=true->X.mg n=some u->∃ C,u=.ref C) (i0:PySem.W.kitOne X.K (.type "NoneType") ↥8=some false) (i1:PySem.W.kitOne X.K (.type "bool") ↥8=some false) (i2:PySem.W.kitOne X.K (.type "int") ↥8=some false)
  (i3:PySem.W.kitOne X.K (.type "str") ↥8=some false) (i4:PySem.W.kitOne X.K ↥11 ↥8=some false) (i5:PySem.W.kitOne X.K (.type "list") ↥8=some false) (ix:∀ n∈af,IF X.K X.mg ↥8 true n):Isi X (.ty "ValueError"):=by
 intro d k t u e ht hu
 cases hu
 cases d with
 | exc C =>
  obtain ⟨z,rfl⟩:=bY e
  rw [Bool.and_eq_true] at z
  obtain ⟨Ca,rfl⟩:=hr C t z.1 ht
  exact (ix C (by simpa using z.1)).get ht
 | non=>cases ht;cases e;exact i0
 | bl b=>cases ht;cases e;exact i1
 | int b=>cases ht;cases e;exact i2
 | str b=>cases ht;cases e;exact i3
 | tup b=>cases ht;cases e;exact i4
 | lst b=>cases ht;cases e;exact i5
 | _=>cases e
theorem bA (hB:X.mg B=some (.ref Ba)) (hr:∀ (n:String) u,af.contains n=true->X.mg n=some u->∃ C,u=.ref C) (i0:PySem.W.kitOne X.K (.type "NoneType") (.ref Ba)=some false) (ix:∀ n∈af,IF X.K X.mg (.ref Ba) (n == B||B == "MillError") n):Isi X (.cls B):=by
 intro d k t u e ht hu
 have hu':X.mg B=some u:=hu
 rw [hB] at hu'
 cases hu'
 cases d with
 | exc C =>
  obtain ⟨z,rfl⟩:=bY e
  rw [Bool.and_eq_true] at z
  obtain ⟨Ca,rfl⟩:=hr C t z.1 ht
  exact (ix C (by simpa using z.1)).get ht
 | non =>
  cases ht
  obtain ⟨_,rfl⟩:=bY e
  exact i0
 | _=>cases e
theorem bZ {K:PySem.W.Frag} {mg:Str->Option Value} (h:∀ n∈af,XF K mg n) (n:String) (u:Value) (hn:af.contains n=true) (hm:mg n=some u):∃ C,u=.ref C:=by
 rcases (h n (by simpa using hn)).ex with z | ⟨C',z,x⟩
 ·rw [hm] at z;cases z
 ·rw [hm] at z;cases z;exact ⟨_,rfl⟩
theorem dZ:∀ {ns:List Int},PySem.W.WData.weightAll (ns.map PySem.W.WData.int)<=2^20->∀ n∈ns,nb n<=2^20
 | [],_,_,h=>nomatch h
 | m::r,hw,n,h=>by
  rw [List.map_cons,PySem.W.WData.weightAll] at hw
  rcases List.mem_cons.mp h with rfl | h
  ·have:PySem.W.WData.weight (.int n)=Builtin.Int.intBits n:=by simp only [PySem.W.WData.weight,Builtin.Int.intBits]
   rw [uM]
   omega
  ·exact dZ (ns:=r) ⋯ n h
open PySem.W PySem.Calls Att in
theorem mZ {l:OpenLaw} {n:Nat} {q:Program} {loose:List Str} {XP:(Str->Option Value)->Heap->Prop} {YP:World->Heap->Prop} {d:DefRec}
  (hn:l.most=some n) (hdf:d.params.defaults=[])
  (call:∀ (w:World) (s₀ s₁:Shared) (mg mb:Str->Option Value) (fa:Addr) (a:Addr) (vs:List Value) (ns:List Int),
   Ground q loose [] XP w s₀ mg mb s₁.heap->YP w s₁.heap->mg d.name=some (.ref fa) ->
   s₁.heap.get? a=some { cls:=.type "list",data:=.seq vs.toArray }->IntsAre vs ns->ns.length<=n->(∀ m∈ns,nb m<=2^20)->s₁.gens = #[] ->
   codeAny (model l.prog w) callerA (.call (.ref fa) ⟨[.ref a],[]⟩) (fun r s'=>r=.ok (.ret (.bool true))/\OldK s₁.heap s'.heap/\s'.os=s₁.os/\AllBare s'.gens) s₁) :
  WalkO q loose XP YP l.row.toRowW d [] (fun f vs=>PySem.call f vs):=by
 intro w s₀ s₁ mg mb G Y fa o pm cd doc dV kV ho hd hcd hD hmg hg args vals as hpre hlay hrd hwl hlo
 obtain rfl:dV=.none:=Dflts.none hD hdf
 obtain rfl:kV=.none:=Dflts.noKw hD
 obtain ⟨a,vs,ns,rfl,rfl,hobj,hints,hlen⟩:=qb hn hpre hwl
 have hb:∀ m∈ns,nb m<=2^20:=by
  have h1:=(layableW_iff.mp (layW_cons hlay).1).2.2
  rw [WData.weight] at h1
  exact dZ h1
 refine enter_call (codeAny_mono (call w s₀ s₁ mg mb fa a vs ns G Y hmg hobj hints hlen hb hg) fun r s' hq => ?_)
 obtain ⟨rfl,h2,h3,h4⟩:=hq
 exact ⟨.inl ⟨.bool true,.bool true,[],rfl,fun _=>rfl,.bool true,ql l _,fun _=>⟨List.Pairwise.nil,fun _ hm=>(nomatch hm)⟩⟩,h2,h3,h4⟩
theorem sM {l:PySem.W.OpenLaw} {k:Nat} {q:Program} {loose:List Str} {XP:(Str->Option Value)->Heap->Prop} {YP:World->Heap->Prop} {d:DefRec} {K:Params->PySem.W.Frag} {x:Str} {f:List D->R D}
  (hf:Good f) (hn:l.most=some 63) (hdf:d.params.defaults=[]) (hr:Room k callerA)
  (hY:∀ (w:World) (h:Heap),YP w h->(K w.params).In h)
  (F:∀ (w:World) (mg:Str->Option Value) (fa:Addr) (h:Heap),(K w.params).In h->h.Ns mainGlobals mg->mg d.name=some (.ref fa) ->
   ∃ fd:FuncData,(∀ (s:Shared) (u:Value),BindsTo s fd ⟨[u],[]⟩ [(x,u)]) /\
    ∀ base:Heap,(K w.params).In base->base.Ns mainGlobals mg->FnOk l.prog w (K w.params) mg base (CXF l.prog w) k fa fd [x] (spP (K w.params) mg f)) :
  PySem.W.WalkO q loose XP YP l.row.toRowW d [] (fun f vs=>PySem.call f vs):=by
 refine mZ hn hdf fun w s₀ s₁ mg mb fa a vs ns G Y hmg hobj hints hlen hbits hg => ?_
 have KX:=hY w _ Y
 obtain ⟨fd,hb,hF⟩:=F w mg fa _ KX G.T.g hmg
 refine uV KX G.T.g G.T.b G.T.builtins G.T.nolimit hg hobj hints (Nat.le_trans hlen ↥0) hr hF hb (fun H hO hS=>⟨[.lst (ns.map .int)],.cons (.lst hS (Reps.ints ns)) .nil,?_⟩) fun H e s' ⟨_,_,_,_,_,z⟩=>z
 rw [hf ns hlen hbits]
 exact fun v H' _ r=>by cases r;rfl
end ES
namespace ES
open PySem PySem.Spec PyProof.Rows L2 EV
unseal SE ST SW SA SS SSs
structure FldOk (X:Cx) (cn f:String):Prop where
 ex:∃ C,X.mg cn=some (.ref C)/\Cls X.K C/\sC X.K C f
structure MethOk (X:Cx) (cn m:String) (F:List D->R D):Prop where
 ex:∃ C fa k fd ps,X.mg cn=some (.ref C)/\Cls X.K C/\Meth X.K C m fa/\FnOk X.prog X.w X.K X.mg X.base (CXF X.prog X.w) k fa fd ps (spP X.K X.mg F)/\Room k X.A/\Binds X.K fd ps []
section
variable {X:Cx} {o e:Expr} {es:List Expr} {go:E} {gs:List E} {pos apos p:Pos} {cn f m:String} {F:List D->R D}
def spI (K:PySem.W.Frag) (f:Str):Sp:=fun vs H Q _=>∃ x v C dx,vs=[.ref x,v]/\H x=some (.ins C dx [])/\Cls K C/\sC K C f/\Q .non (upd H x (.ins C dx [(f,v)]))
structure MakeOk (X:Cx) (cn f:String):Prop where
 ex:∃ C fa k fd ps,X.mg cn=some (.ref C)/\Cls X.K C/\sC X.K C f/\Mk X.K C fa/\FnOk X.prog X.w X.K X.mg X.base CX0 k fa fd ps (spI X.K f)/\Room (k+1) X.A/\Binds X.K fd ps []
end
end ES
namespace ES
open PySem PySem.Spec PyProof.Rows L2 EV
unseal SE ST SW SA SS SSs
def sA (X:Cx) (J:It) (H:Hp) (ds:List D):Prop:=∀ Hc,ay H Hc ->
 (∀ i d,ds[i]? = some d->J.go i Hc/\∀ x H',J.yld i Hc x H'->ay Hc H'/\∀ Hq,ay H Hq->(∀ b o,H' b=some o->Hc b=none->Hq b=some o)->Rep X.K X.mg Hq x d)/\∀ i,ds.length<=i->J.stop i Hc
theorem jS {X:Cx} {H Hc H':Hp} {x:V} {d:D} (e:H'=Hc) (r:Rep X.K X.mg H x d):ay Hc H'/\∀ Hq,ay H Hq->(∀ b o,H' b=some o->Hc b=none->Hq b=some o)->Rep X.K X.mg Hq x d :=
 ⟨by rw [e];exact ay.refl _,fun Hq s _=>r.mono s⟩
def RI (X:Cx) (σ:L2.St) (H:Hp) (r:R (List D)) (Q:It->Hp->Prop):Prop:=match r with
 | .ok ds=>∀ J H',ay H H'->sA X J H' ds->Q J H'
 | .ex C=>∀ Ca,X.mg C=some (.ref Ca)->∀ H',ay H H'->ew X Ca σ H'
 | .bad=>False
def tI (X:Cx) (g:IT):TI:=fun σ H Q=>∃ δ,Stt X.K X.mg H σ δ/\RI X σ H (g δ) Q
@[irreducible] def SI (X:Cx) (tg iter:Expr) (g:IT):Prop:=PI X tg iter (tI X g)
unseal SI
section
variable {X:Cx} {tg e a b:Expr} {g ga gb:E} {σ:L2.St} {H H1:Hp}
theorem RI.mono (s:ay H H1) (h:RI X σ H r Q):RI X σ H1 r Q:=by
 cases r with
 | ok d=>exact fun v H' s' r=>h v H' (s.trans s') r
 | ex C=>exact fun Ca hc H' s'=>h Ca hc H' (s.trans s')
 | bad=>exact h
theorem RI.bind (h:RI X σ H (r.bind f) Q):RQ X σ H r (fun v H'=>ay H H'/\∃ d,Rep X.K X.mg H' v d/\RI X σ H' (f d) Q):=by
 cases r with
 | ok d=>exact fun v H' s r=>⟨s,d,r,h.mono s⟩
 | ex C=>exact h
 | bad=>exact h
theorem RI.bindA (h:RI X σ H (r.bind f) Q):RA X σ H r (fun vs H'=>ay H H'/\∃ ds,Reps X.K X.mg H' vs ds/\RI X σ H' (f ds) Q):=by
 cases r with
 | ok d=>exact fun v H' s r=>⟨s,d,r,h.mono s⟩
 | ex C=>exact h
 | bad=>exact h
theorem PI.weak (h:PI X tg e t) (w:∀ σ H Q,t' σ H Q->t σ H Q):PI X tg e t':=fun pins s σ H Q I q=>h pins s σ H Q I (w σ H Q q)
theorem wm (h:SE X e g):SI X tg e (itL g):=PI.weak (yI h) fun σ H Q ⟨δ,hσ,q⟩=>⟨δ,hσ,(RI.bind q).to fun v H' s ⟨_,d,r,q⟩=>by
 cases d with
 | lst ds =>
  cases r with
  | @lst p xs _ hq rs =>
   refine ⟨p,rfl,⟨xs,hq⟩,q _ _ ↥20 fun Hc sc=>⟨fun i d hd => ?_,fun i hi=>⟨xs,sc.seq hq,by rw [rs.length];exact hi⟩⟩⟩
   obtain ⟨v,e1,r1⟩:=rs.get hd
   exact ⟨⟨xs,v,sc.seq hq,e1⟩,fun x H'' ⟨e2,y⟩=>by
    have:=y xs (sc.seq hq)
    rw [e1] at this
    cases this
    exact jS e2 r1⟩
 | _=>exact False.elim q⟩
theorem E2 (h:SE X e g):SI X tg e (itT g):=PI.weak (BP h) fun σ H Q ⟨δ,hσ,q⟩=>⟨δ,hσ,(RI.bind q).to fun v H' s ⟨_,d,r,q⟩=>by
 cases d with
 | tup ds =>
  cases r with
  | @tup p xs _ hq rs =>
   refine ⟨p,rfl,⟨xs,hq⟩,q _ _ ↥20 fun Hc sc=>⟨fun i d hd => ?_,fun i hi=>⟨xs,bT sc hq,by rw [rs.length];exact hi⟩⟩⟩
   obtain ⟨v,e1,r1⟩:=rs.get hd
   exact ⟨⟨xs,v,bT sc hq,e1⟩,fun x H'' ⟨e2,y⟩=>by
    have:=y xs (bT sc hq)
    rw [e1] at this
    cases this
    exact jS e2 r1⟩
 | _=>exact False.elim q⟩
theorem ni {lo hi:Int}:sA X (Itr lo (hi - lo).toNat) H (d9 lo hi):=fun Hc sc=>⟨fun i d hd=>by
  have hl:=(List.getElem?_eq_some_iff.mp hd).1
  rw [nA] at hl
  rw [yw hl] at hd
  cases hd
  exact ⟨hl,fun x H' ⟨e,ex⟩=>by subst ex;exact jS e (.int _)⟩,fun i hi'=>by rw [nA] at hi';exact hi'⟩
theorem nO (G:Gb X "range") (hm:X.mg "range"=none) (h:SE X e g) (hs:starEach [e] X.env=[(false,eval e X.env)]:=by rfl):SI X tg (.Call (.Name "range" p) [e] [] pos) (pF g) :=
 PI.weak (qp G.g hm (fO h iu hs) hs) fun σ H Q ⟨δ,hσ,q⟩=>⟨δ,hσ,(RI.bind q).to fun v H' s ⟨_,d,r,q⟩=>by
  cases d with
  | int hi =>
   cases r
   unfold Aj at q
   simp only at q
   split at q
   ·rename_i hb
    refine ⟨hi,rfl,hb.1,hb.2,q _ _ ↥20 ?_⟩
    have:=ni (X:=X) (lo:=0) (hi:=hi) (H:=H')
    rw [Int.sub_zero] at this
    exact this
   ·exact False.elim q
  | _=>exact False.elim q⟩
theorem CV (G:Gb X "range") (hm:X.mg "range"=none) (ha:SE X a ga) (hb:SE X b gb) (hs:starEach [a,b] X.env=[(false,eval a X.env),(false,eval b X.env)]:=by rfl) (hs2:starEach [b] X.env=[(false,eval b X.env)]:=by rfl) :
  SI X tg (.Call (.Name "range" p) [a,b] [] pos) (Ay ga gb) :=
 PI.weak (qo G.g hm (aj ha (aj hb dH hs2) (by rw [hs,hs2])) hs hs2) fun σ H Q ⟨δ,hσ,q⟩=>⟨δ,hσ,(RI.bindA q).to fun vs H' s ⟨_,ds,rs,q⟩=>by
  unfold Az at q
  split at q
  ·rename_i lo hi
   obtain ⟨v,v',rfl,r1,r2⟩:=t9 rs
   cases r1
   cases r2
   split at q
   ·rename_i hb
    exact ⟨lo,hi,rfl,hb,q _ _ ↥20 ni⟩
   ·exact False.elim q
  ·exact False.elim q⟩
end
def FI (X:Cx) (σ:L2.St) (H:Hp) (os:Os) (δ:Dt) (r:R (List D)) (Q:It->Hp->Prop):Prop:=match r with
 | .ok ds=>∀ J H',StO X H' σ δ os->ay ↥26 (hide H' os)->sA X J (hide H' os) ds->Q J H'
 | .ex C=>∀ Ca,X.mg C=some (.ref Ca)->∀ H',ay ↥26 H'->Stt X.K X.mg H' σ (noOwn δ)->ew X Ca σ H'
 | .bad=>False
def tFI (X:Cx) (g:IT):TI:=fun σ H Q=>∃ δ os,StO X H σ δ os/\FI X σ H os δ (g δ) Q
section
variable {X:Cx} {N:List Str} {tg e:Expr} {g:IT}
theorem C0 (hx:X.ex=[]) (h:SI X tg e g):PI X tg e (tFI X g):=by
 intro pins s σ H Q I ⟨δ,os,S,q⟩
 have hl:=S.lsts
 have hw:RI X σ ↥26 (g δ) (fun J H1=>ay ↥26 H1/\∃ ds,g δ=.ok ds/\sA X J H1 ds):=by
  cases r:g δ with
  | ok d=>exact fun v H' s r=>⟨s,d,rfl,r⟩
  | ex C =>
   rw [r] at q
   exact fun Ca hc H' s'=>q Ca hc H' s' (S.noOwn s')
  | bad=>rw [r] at q;exact q
 refine thn (h _ s σ _ _ (gY I hl) ⟨δ,S.st,hw⟩) fun v s1 h1=>thn h1 fun itv s2 h2 => ?_
 obtain ⟨it,fp,tn,J,H1,e1,I1,T,st,fpk,sm,ds,e2,wk⟩:=h2
 obtain ⟨I2,hn⟩:=gX hx I hl I1
 rw [e2] at q
 have eh:=fc (H:=H) hn
 refine ⟨it,fp,tn,J,cY H H1 os,e1,I2,T,st,fun b hb => ?_,q J _ (S.shown sm hn) (by rw [eh];exact sm) (by rw [eh];exact wk)⟩
 obtain ⟨f0,f1,f2,f3,f4,f5⟩:=fpk b hb
 have nb:b∉fX os:=fun z=>by
  obtain ⟨xs,hh⟩:=hl b z
  obtain ⟨o,eo⟩:∃ o,s.heap.get? b=some o:=by
   obtain ⟨_,its,n,_,eo⟩:=I.hok b _ hh
   exact ⟨_,eo⟩
  exact f5 (b,o) (List.mem_append_right _ (List.mem_append_right _ (cS z eo))) rfl
 refine ⟨by unfold cY;rw [if_neg nb];exact f0,f1,f2,f3,f4,fun p hp=>f5 p ?_⟩
 rw [<- List.append_assoc]
 exact List.mem_append_left _ hp
variable {body:List Stmt} {gb:S} {pos:Pos}
theorem nv (C:Sx X N) (L:Lp X) (i:Nat) (hN:N[i]? = some x) (hx:Sto X x) (he:SI X (.Name x pos') e g) (hb:SSs X body gb) (hs:∀ x,foldedSetIterable e X.env x=pure x:=by intro _;rfl) :
  SS X (.For (.Name x pos') e body [] pos) (u9 i g gb):=by
 refine PS.weak (vM L.own L.calm (C0 C.ex he) (j4 (i:=i) (by rw [C.sc.n];exact C.sc.nd) (by rw [C.sc.n];exact hN) hx.1 hx.2) hb hs) fun D σ H ⟨δ,os,S,q⟩=>⟨δ,os,S,?_⟩
 unfold u9 ovI at q
 cases r:g δ with
 | ok ds =>
  rw [r] at q
  intro J H1 S1 s1 wk
  refine ⟨fun n m σ' H'=>m=ds.length - n/\n<=ds.length/\Pv X D ↥26 (hide H1 os) i gb ds n σ' H',⟨ds.length,by simp,Nat.zero_le _,δ,os,S1,ay.refl _,s1,by rw [List.drop_zero];exact q⟩,?_⟩
  rintro n m σ' H' ⟨rfl,hn,p⟩
  obtain ⟨δ',os',S',s',s0,q'⟩:=id p
  have w:=wk H' (s'.trans (aD _ _))
  by_cases hlt:n<ds.length
  ·have hd:ds[n]? = some ds[n]:=List.getElem?_eq_getElem hlt
   refine .inr ⟨(w.1 n _ hd).1,Pv X D ↥26 (hide H1 os) i gb ds (n+1),fun σ2 H2 z=>⟨ds.length - (n+1),⋯,rfl,⋯,z⟩,fun x H'' y => ?_⟩
   obtain ⟨e1,r1⟩:=(w.1 n _ hd).2 x H'' y
   have sm:=s'.trans (bc os' e1)
   exact tP hd (S'.mono e1) sm s0 q' (r1 _ sm fun b o z1 z2=>by
    rw [br fun z=>by obtain ⟨xs,hx⟩:=S'.lsts b z;rw [z2] at hx;cases hx]
    exact z1)
  ·exact .inl ⟨w.2 n ⋯,C7 ⋯ p⟩
 | ex C=>rw [r] at q;exact fun Ca hc H' s' st=>q σ H' s' st Ca hc
 | bad=>rw [r] at q;exact q
end
end ES
namespace ES
open PySem PySem.Spec PyProof.Rows L2 EV
unseal SE ST SW SA SS SSs SI
def sF (env:Env):List (Str×NameKind)->List (Str×Addr)->List (Str×Addr)
 | [],cs=>cs
 | (n,k)::r,cs=>sF env r (if k == .free then (n,(env.cells.lookup n).getD 0)::cs else cs)
theorem pq (h:∀ y,(y,NameKind.free)∈sc.names->∃ c,env.cells.lookup y=some c):closureFor sc env=pure (sF env sc.names []):=by
 unfold closureFor
 have key:∀ (l:List (Str×NameKind)) (cs:List (Str×Addr)),(∀ y,(y,NameKind.free)∈l->∃ c,env.cells.lookup y=some c) ->
   (forIn l cs fun x (r:List (Str×Addr))=>(match x with | (name,kind)=>if (kind == NameKind.free)=true then do let a<-cellOf env name;pure (ForInStep.yield ((name,a)::r)) else pure (ForInStep.yield r)):Sem _)=pure (sF env l cs):=by
  intro l
  induction l with
  | nil=>intro cs _;rfl
  | cons p r ih =>
   intro cs hl
   obtain ⟨n,k⟩:=p
   rw [List.forIn_cons]
   by_cases hk:(k == NameKind.free)=true
   ·obtain ⟨c,hc⟩:=hl n (by rw [beq_iff_eq] at hk;subst hk;exact .head _)
    simp only [hk,if_true,cellOf,hc,sF]
    exact ih _ fun y hy=>hl y (.tail _ hy)
   ·simp only [hk,Bool.false_eq_true,if_false,sF]
    exact ih _ fun y hy=>hl y (.tail _ hy)
 simp only [key sc.names [] h]
 rfl
theorem wI:∀ {l:List (Str×NameKind)} {cs:List (Str×Addr)},(∀ y,(y,NameKind.free)∈l->∃ c,env.cells.lookup y=some c)->(∀ y c,cs.lookup y=some c->env.cells.lookup y=some c)->∀ y c,(sF env l cs).lookup y=some c->env.cells.lookup y=some c
 | [],_,_,h=>h
 | (n,k)::r,cs,hl,h=>by
  refine wI (l:=r) (fun y hy=>hl y (.tail _ hy)) fun y c e => ?_
  by_cases hk:(k == NameKind.free)=true
  ·rw [if_pos hk,List.lookup_cons] at e
   cases q:(y == n) with
   | true =>
    rw [q] at e
    obtain ⟨c',hc⟩:=hl n (by rw [beq_iff_eq] at hk;subst hk;exact .head _)
    rw [beq_iff_eq] at q
    subst q
    rw [hc] at e ⊢
    simpa using e
   | false=>rw [q] at e;exact h y c e
  ·rw [if_neg hk] at e;exact h y c e
theorem rW:∀ {l:List (Str×NameKind)} {cs:List (Str×Addr)} {y:Str},((y,NameKind.free)∈l\/∃ c,cs.lookup y=some c)->∃ c,(sF env l cs).lookup y=some c
 | [],_,_,h=>h.elim (fun z=>nomatch z) id
 | (n,k)::r,cs,y,h=>by
  refine rW (l:=r) ?_
  rcases h with h | ⟨c,h⟩
  ·rcases List.mem_cons.mp h with z | z
   ·cases z
    exact .inr ⟨_,by rw [if_pos (show (NameKind.free == NameKind.free)=true from rfl),List.lookup_cons,beq_self_eq_true]⟩
   ·exact .inl z
  ·refine .inr ?_
   by_cases hk:(k == NameKind.free)=true
   ·rw [if_pos hk,List.lookup_cons]
    cases q:(y == n) with
    | true=>exact ⟨_,rfl⟩
    | false=>exact ⟨c,h⟩
   ·rw [if_neg hk];exact ⟨c,h⟩
theorem dv (hk:k ≠ .free):sc.names.lookup x=some k->(relabel sc env).names.lookup x=some k:=by
 unfold relabel
 simp only
 generalize sc.names=l
 induction l with
 | nil=>intro h;cases h
 | cons p r ih =>
  obtain ⟨n,k'⟩:=p
  intro h
  rw [List.lookup_cons] at h
  rw [List.map_cons]
  cases q:(x == n) with
  | true =>
   rw [q] at h
   have e:k'=k:=by simpa using h
   subst e
   have:(k' == NameKind.free)=false:=by simpa using hk
   simp [this,List.lookup_cons,q]
  | false =>
   rw [q] at h
   split<;>(rw [List.lookup_cons,q];exact ih h)
theorem gj (hf:env.scope.kind=.function) (hc:env.kindOf x=some .cell):sc.names.lookup x=some .free->(relabel sc env).names.lookup x=some .cell:=by
 unfold relabel
 simp only
 generalize sc.names=l
 induction l with
 | nil=>intro h;cases h
 | cons p r ih =>
  obtain ⟨n,k'⟩:=p
  intro h
  rw [List.lookup_cons] at h
  rw [List.map_cons]
  cases q:(x == n) with
  | true =>
   rw [q] at h
   have e:k'=.free:=by simpa using h
   subst e
   rw [beq_iff_eq] at q
   subst q
   simp [hf,hc,List.lookup_cons]
  | false =>
   rw [q] at h
   split<;>(rw [List.lookup_cons,q];exact ih h)
theorem jx:(relabel sc env).names.lookup x=some k->sc.names.lookup x=some k\/(sc.names.lookup x=some .free/\k=.cell):=by
 unfold relabel
 simp only
 generalize sc.names=l
 induction l with
 | nil=>intro h;cases h
 | cons p r ih =>
  obtain ⟨n,k'⟩:=p
  intro h
  rw [List.map_cons] at h
  rw [List.lookup_cons]
  cases q:(x == n) with
  | true =>
   split at h
   ·rename_i hc
    rw [List.lookup_cons,q] at h
    have e:NameKind.cell=k:=by simpa using h
    simp only [Bool.and_eq_true,beq_iff_eq] at hc
    exact .inr ⟨by rw [hc.1.1],e.symm⟩
   ·rw [List.lookup_cons,q] at h
    have e:k'=k:=by simpa using h
    exact .inl (by rw [e])
  | false=>split at h<;>(rw [List.lookup_cons,q] at h;exact ih h)
structure ScU (xs ks G:List Str) (sc:Scope):Prop where
 kind:sc.kind=.function
 noc:∀ y∈sc.names,y.2 ≠ .cell
 nms:∀ y∈sc.names,y.2=.local->sc.names.lookup y.1=some .local
 loc:∀ y∈xs,sc.names.lookup y=some .local
 fre:∀ y∈ks,sc.names.lookup y=some .free
 all:∀ y∈sc.names,y.2=.free->y.1∈ks
 glb:∀ y∈G,sc.names.lookup y=some .globalImplicit
 nd:(xs++ks).Nodup
 dbg:∀ y∈xs++ks,(y == ("__debug__":Str))=false/\(y == ("__classdict__":Str))=false
 dbgG:∀ y∈G,(y == ("__debug__":Str))=false/\y≠"__name__"
def cxU (X:Cx) (xs ks:List Str) (sc:Scope) (C:Addr) (fp:List Addr) (s:Shared) (H:Hp) (W:Value->Shared->Prop):Cx :=
 { X with N:=xs++ks,s₀:=s,H₀:=H,env:={ newEnv sc C X.env.globals (sF X.env sc.names []) X.env.qual none .none (some X.env) X.env.builtins with scope:=relabel sc X.env },outer:=X.stack,stack:=X.stack,ex:=fp,fn:=fun _=>false,pn:=[],xe:=W }
theorem AX (u:Un fs ex H H' h h1) (hC:h.objs.size<=C) (sb:Heap.SameBut C h1 h2):Un fs ex H H' h h2:=by
 have ne:∀ {b:Addr} {o:Obj},h.get? b=some o->b≠C:=fun {b o} e=>Nat.ne_of_lt (Nat.lt_of_lt_of_le (Heap.lt_size e) hC)
 refine ⟨fun b o e n hb hx=>(sb.2 b (ne e)).trans (u.keep b o e n hb hx),fun b o e n hb hx => ?_,u.free,fun b o e hx => ?_,u.tups,u.frzs,u.tbls⟩
 ·obtain ⟨sl,q⟩:=u.slot b o e n hb hx
  exact ⟨sl,(sb.2 b (ne e)).trans q⟩
 ·obtain ⟨o',q⟩:=u.there b o e hx
  exact ⟨o',(sb.2 b (ne e)).trans q⟩
theorem zL (hok:HOk P w H h1) (hC:H C=none) (sb:Heap.SameBut C h1 h2):HOk P w H h2:=fun b u e =>
 (hok b u e).stay (fun c o hc q=>(sb.2 c (fun z=>by
  subst z
  rcases hc with rfl | hc
  ·rw [hC] at e;cases e
  ·rw [hC] at hc;cases hc)).trans q) (fun _ q=>q) fun _ _ q=>q
def NB (prog:Program) (w:World) (A:Around) (env:Env) (R:Result->Shared->Prop):Value->Shared->Prop:=notedBy ↥32 A env fun x s'=>R (.error x) s'
theorem qY {prog:Program} {w:World} {A:Around} {R:Result->Shared->Prop} {s:Shared} {elt target iter:Expr} {ifs:List Expr} {scope:Scope} {pos:Pos} {it acc:Value} {env:Env} (J:Nat->Shared->Prop)
  (turn:∀ n s,J n s->wpAny ↥32 A (pyNext it) (fun r s1=>match r with
   | none=>R (.ok .next) s1
   | some v=>wpAny ↥32 A (letOwnedTupleGo target it v) (fun _ s2=>wpAny ↥32 A (assign target env v) (fun _ s3 =>
     wpAny ↥32 A (forIn ifs true fun c r=>if r=true then do let ok<-isTrue c env (eval c env);pure (ForInStep.yield ok) else pure (ForInStep.yield r)) (fun ok s4 =>
      if ok=true then wpAny ↥32 A (eval elt env) (fun x s5=>wpAny ↥32 A (PySem.call (.builtin "list.append") [acc,x]) (fun _ s6=>∃ m,m<n/\J m s6) (NB prog w A env R) s5) (NB prog w A env R) s4
      else ∃ m,m<n/\J m s4) (NB prog w A env R) s3) (NB prog w A env R) s2) (NB prog w A env R) s1) (NB prog w A env R) s)
  (n:Nat) (h:J n s):codeAny ↥32 A (.compLoop (.ListComp elt [⟨target,iter,ifs,0⟩] scope pos) 0 it acc env) R s:=by
 refine codeAny_loop rfl J (fun n s hJ => ?_) n h
 show wpAny _ _ ((compTurn (.ListComp elt [⟨target,iter,ifs,0⟩] scope pos) 0 it acc env).onRaise fun x=>do
  noteFrame x env
  theTreesLotGoes x) _ _ s
 refine wpAny_noted ?_
 rw [compTurn_list]
 refine wpAny_bind (wpAny_standAt (wpAny_bind (wpAny_mono (turn n s hJ) (fun r s1 h1 => ?_) fun _ _ z=>z)))
 cases r with
 | none=>exact wpAny_pure h1
 | some v =>
  refine wpAny_bind (wpAny_mono h1 (fun _ s2 h2 => ?_) fun _ _ z=>z)
  refine wpAny_bind (wpAny_mono h2 (fun _ s3 h3 => ?_) fun _ _ z=>z)
  refine wpAny_bind (wpAny_mono h3 (fun ok s4 h4 => ?_) fun _ _ z=>z)
  cases ok with
  | true =>
   rw [if_pos rfl] at h4
   simp only [if_true]
   refine wpAny_bind (wpAny_bind (wpAny_mono h4 (fun x s5 h5 => ?_) fun _ _ z=>z))
   exact wpAny_bind (wpAny_mono h5 (fun _ s6 h6=>wpAny_pure (wpAny_pure ⟨rfl,h6⟩)) fun _ _ z=>z)
  | false =>
   rw [if_neg Bool.false_ne_true] at h4
   simp only [Bool.false_eq_true,if_false]
   first
    | exact wpAny_pure ⟨rfl,h4⟩
    | exact wpAny_bind (wpAny_pure (wpAny_pure ⟨rfl,h4⟩))
def cG (M:Model) (A:Around) (E:Value->Shared->Prop) (use:Option (Value->Sem Unit)) (Q:Value->Shared->Prop) (acc:Value) (C:Addr) (fr:Option Addr) (r:Result) (s':Shared):Prop :=
 match r,use with
 | .ok _,none=>∃ m,s'.heap.Ns C m/\∀ h',Heap.SameBut C s'.heap h'->Q acc { s' with heap:=h' }
 | .ok _,some u=>wpAny M A (u acc) (fun _ s''=>∃ m,s''.heap.Ns C m/\∀ h',Heap.SameBut C s''.heap h'->Q .none { s'' with heap:=h' }) E s'
 | .error x,_=>∃ m,s'.heap.Ns C m/\∀ h',Heap.SameBut C s'.heap h'->∀ cenv:Env,cenv.frame=fr->wpAny M A (passOn "comprehension.variables-let-go" x cenv:Sem Value) (fun _ _=>False) E { s' with heap:=h' }
theorem iR {M:Model} {A:Around} {E:Value->Shared->Prop} {s:Shared} {env:Env} {e:Expr} {scope:Scope} {pos:Pos} {newAcc first:Sem Value} {g:Comprehension} {gs:List Comprehension} {cl:List (Str×Addr)} {use:Option (Value->Sem Unit)}
  {Q:Value->Shared->Prop}
  (hcl:clausesOf e=g::gs) (hs:∀ x,foldedSetIterable g.iter env x=pure x) (hclos:closureFor scope env=pure cl)
  (hkind:scope.kind=.function) (hnames:∀ x∈scope.names,x.2=.local->scope.names.lookup x.1=some .local)
  (h:wpAny M A first (fun x s₁=>wpAny M A (pyIter x) (fun it s₂=>wpAny M A newAcc (fun acc s₃ =>
   wpAny M A (newFunctionEnv scope env.globals cl [] env.qual none .none (some env)) (fun cenv s₄=>cenv.frame=env.frame /\
    codeAny M A (.compStart e 0 it acc { cenv with scope:=relabel scope env }) (cG M A E use Q acc cenv.locals env.frame) s₄) E s₃) E s₂) E s₁) E s) :
  wpAny M A (comprehension e scope env pos newAcc false first use) Q E s:=by
 unfold comprehension
 rw [hclos,hcl]
 refine wpAny_bind (wpAny_mono h (fun x s₁ h₁=>wpAny_bind (wpAny_standAt (wpAny_bind (wpAny_of_eq (hs x) (wpAny_bind (wpAny_holding (wpAny_mono h₁ (fun it s₂ h₂ =>
  wpAny_standIf (wpAny_bind (wpAny_mono h₂ (fun acc s₃ h₃=>wpAny_bind (wpAny_pure (wpAny_bind (wpAny_mono h₃ (fun cenv s₄ h₄ => ?_) fun _ _ h'=>h')))) fun _ _ h'=>h')))
   fun _ _ h'=>h'))))))) fun _ _ h'=>h')
 obtain ⟨hfr,h₄⟩:=h₄
 dsimp only
 have hv:∀ x∈(scope.names.filter fun x=>(x.2 == .local||x.2 == .cell)&&x.1 != (".0":Str)).reverse,x.2=.local ->
   Env.kindOf { cenv with scope:=relabel scope env } x.1=some .local:=fun x hx hl=>lookup_relabel_local (hnames x (List.mem_filter.mp (List.mem_reverse.mp hx)).1 hl)
 have hv':∀ x∈(scope.names.filter fun x=>(x.2 == .local||x.2 == .cell)&&x.1 != (".0":Str)).reverse.drop 1++(scope.names.filter fun x=>(x.2 == .local||x.2 == .cell)&&x.1 != (".0":Str)).reverse.take 1,
   x.2=.local->Env.kindOf { cenv with scope:=relabel scope env } x.1=some .local:=fun x hx hl=>by
  rcases List.mem_append.mp hx with h1 | h1
  ·exact hv x (List.mem_of_mem_drop h1) hl
  ·exact hv x (List.mem_of_mem_take h1) hl
 refine wpAny_holding (wpAny_bind (wpAny_attempt (wpAny_holding (wpAny_run (codeAny_mono h₄ fun r s' hr => ?_)))))
 cases r with
 | ok f =>
  cases use with
  | none =>
   obtain ⟨m,hn,hr⟩:=hr
   exact wpAny_bind (wpAny_holding (wpAny_comp_letGo (cenv:={ cenv with scope:=relabel scope env }) hkind _ s' m hv hn fun h' m' _ hs'=>wpAny_pure (hr h' hs')))
  | some u =>
   refine wpAny_bind (wpAny_rule (wpAny_bind (wpAny_holding (wpAny_mono hr (fun _ s'' hr' => ?_) fun _ _ h'=>h'))))
   obtain ⟨m,hn,hr'⟩:=hr'
   exact wpAny_bind (wpAny_comp_letGo (cenv:={ cenv with scope:=relabel scope env }) hkind _ s'' m hv' hn fun h' m' _ hs'=>wpAny_pure (hr' h' hs'))
 | error x =>
  have hr':∃ m,s'.heap.Ns cenv.locals m/\∀ h',Heap.SameBut cenv.locals s'.heap h'->∀ cenv':Env,cenv'.frame=env.frame->wpAny M A (passOn "comprehension.variables-let-go" x cenv':Sem Value) (fun _ _=>False) E { s' with heap:=h' }:=by cases use<;>exact hr
  obtain ⟨m,hn,hr⟩:=hr'
  exact wpAny_bind (wpAny_holding (wpAny_comp_letGo (cenv:={ cenv with scope:=relabel scope env }) hkind _ s' m hv hn fun h' m' _ hs'=>wpAny_mono (hr h' hs' _ hfr) (fun _ _ f=>f.elim) fun _ _ y=>y))
theorem qe {st:D->R (Option D)} {l:List D} {d:D} {r1:List D} {o:Option D} (h1:runC st l=.ok r1) (h2:st d=.ok o):runC st (l++[d])=.ok (r1++o.toList):=by
 induction l generalizing r1 with
 | nil =>
  cases h1
  rw [List.nil_append]
  unfold runC
  rw [h2]
  cases o<;>rfl
 | cons x l ih =>
  rw [List.cons_append]
  unfold runC at h1 ⊢
  cases q:st x with
  | ok o' =>
   rw [q] at h1
   simp only [R.bind] at h1 ⊢
   cases q2:runC st l with
   | ok r =>
    rw [q2] at h1
    rw [ih q2]
    cases o'<;>(cases h1;rfl)
   | ex C=>rw [q2] at h1;cases h1
   | bad=>rw [q2] at h1;cases h1
  | ex C=>rw [q] at h1;cases h1
  | bad=>rw [q] at h1;cases h1
theorem gS (h:sD r=.ex C):False:=by cases r<;>cases h
theorem qP (h:sD r=.ok a):r=.ok a:=by
 cases r with
 | ok x=>exact h
 | ex C=>cases h
 | bad=>cases h
theorem mn {st:D->R (Option D)} {d:D} {l2:List D}:∀ {l1 r1:List D},runC st l1=.ok r1->(st d=.bad->runC st (l1++d::l2)=.bad)/\∀ C,st d=.ex C->runC st (l1++d::l2)=.ex C
 | [],_,_=>⟨fun e=>by rw [List.nil_append];unfold runC;rw [e];rfl,fun C e=>by rw [List.nil_append];unfold runC;rw [e];rfl⟩
 | a::l1,r1,h=>by
  unfold runC at h
  cases q:st a with
  | ok o =>
   rw [q] at h
   simp only [R.bind] at h
   cases q2:runC st l1 with
   | ok r =>
    obtain ⟨i1,i2⟩:=mn (d:=d) (l2:=l2) q2
    refine ⟨fun e => ?_,fun C e => ?_⟩
    ·rw [List.cons_append];unfold runC;rw [q,i1 e];rfl
    ·rw [List.cons_append];unfold runC;rw [q,i2 C e];rfl
   | ex C=>rw [q2] at h;cases h
   | bad=>rw [q2] at h;cases h
  | ex C=>rw [q] at h;cases h
  | bad=>rw [q] at h;cases h
theorem jJ:∀ {a:List D} {r:D},D.flats a=true->D.flat r=true->D.flats (a++[r])=true
 | [],r,_,h=>by show (D.flat r&&D.flats [])=true;rw [h];rfl
 | x::a,r,h,hr=>by
  have h':D.flat x=true/\D.flats a=true:=by simpa [D.flats] using h
  show (D.flat x&&D.flats (a++[r]))=true
  rw [h'.1,jJ h'.2 hr]
  rfl
def stG (pt:D->Option (List D)) (c elt:E) (ks:List Nat) (δ:Dt) (d:D):R (Option D):=match pt d with
 | some xs=>(sD (c (xs.map some++ks.map fun k=>δ.getD k none))).bind fun b=>truth b ((elt (xs.map some++ks.map fun k=>δ.getD k none)).bind fun r=>if D.flat r=true then .ok (some r) else .bad) (.ok none)
 | none=>.bad
theorem yj (h:EV.R.bad≠stG pt c elt ks δ d):∃ xs k,pt d=some xs/\c (xs.map some++ks.map fun k=>δ.getD k none)=.ok (.bl k) /\
  ((k=true/\stG pt c elt ks δ d=(elt (xs.map some++ks.map fun k=>δ.getD k none)).bind fun r=>if D.flat r=true then .ok (some r) else .bad)\/(k=false/\stG pt c elt ks δ d=.ok none)):=by
 unfold stG at h ⊢
 cases e:pt d with
 | none=>rw [e] at h;exact absurd rfl h
 | some xs =>
  rw [e] at h
  simp only at h ⊢
  cases q:sD (c (xs.map some++ks.map fun k=>δ.getD k none)) with
  | ok b =>
   have q':=qP q
   rw [q] at h
   simp only [R.bind] at h ⊢
   cases b with
   | bl k =>
    refine ⟨xs,k,rfl,q',?_⟩
    cases k with
    | true=>exact .inl ⟨rfl,rfl⟩
    | false=>exact .inr ⟨rfl,rfl⟩
   | _=>exact absurd rfl h
  | ex C=>exact (gS q).elim
  | bad=>rw [q] at h;exact absurd rfl h
def Put (σ:L2.St) (vs:List V) (σ':L2.St):Prop:=σ'.length=σ.length/\(∀ (j:Nat) (v:V),vs[j]? = some v->σ'[j]? = some (some v))/\∀ j:Nat,vs.length<=j->σ'[j]? = σ[j]?
structure Tgt (X:Cx) (n:Nat) (pt:D->Option (List D)) (gT:TG):Prop where
 len:∀ d xs,pt d=some xs->xs.length=n
 put:∀ {d:D} {xs:List D} {v:V} {σ:L2.St} {H:Hp} {Q:L2.St->Hp->Prop},pt d=some xs->Rep X.K X.mg H v d->n<=σ.length->(∀ vs σ',Reps X.K X.mg H vs xs->Put σ vs σ'->Q σ' H)->gT v σ H Q
inductive Tst (X':Cx):List Expr->E->Prop
 | nil:Tst X' [] (con ↥34)
 | one {c:Expr} {g:E}:ST X' c g->Tst X' [c] g
theorem xP {X':Cx} {ifs:List Expr} {g:E} (h:Tst X' ifs g) {pins:List ↥7} {s:Shared} {σ:L2.St} {H:Hp} {δ:Dt} {k:Bool} (I:Inv X' pins σ H s) (hσ:Stt X'.K X'.mg H σ δ) (hg:g δ=.ok (.bl k)) {E:Value->Shared->Prop} (hE:∀ e s,X'.xe e s->E e s) :
  wpAny (model X'.prog X'.w) X'.A (forIn ifs true fun c r=>if r=true then do let ok<-isTrue c X'.env (eval c X'.env);pure (ForInStep.yield ok) else pure (ForInStep.yield r)) (fun ok s'=>ok=k/\∃ H',Inv X' pins σ H' s'/\ay H H') E s:=by
 cases h with
 | nil=>cases hg;exact wpAny_tests_nil ⟨rfl,H,I,ay.refl _⟩
 | one h =>
  refine wpAny_mono (wpAny_tests_one (E:=X'.xe) (thn (h pins s σ H (fun b H'=>b=k/\ay H H') I ⟨δ,hσ,?_⟩) fun b s' ⟨H',I',e,sm⟩=>⟨e,H',I',sm⟩)) (fun _ _ x=>x) hE
  rw [hg]
  exact fun H' sm=>⟨rfl,sm⟩
theorem C3 {base h h':Heap}:∀ {l:List Env},h.FunFrames base l->(∀ b∈frs l,h'.get? b=h.get? b)->h'.FunFrames base l
 | [],_,_=>trivial
 | env::r,⟨hk,⟨L,o,hf,hn,ho,hd⟩,hr⟩,k=>by
  have e:frs (env::r)=L::frs r:=by unfold frs;rw [List.filterMap_cons,hf]
  rw [e] at k
  exact ⟨hk,⟨L,o,hf,hn,(k L (.head _)).trans ho,hd⟩,C3 hr fun b hb=>k b (.tail _ hb)⟩
theorem vm {X:Cx} (O:Own X) {xs ksn:List Str} {sc:Scope} {fp:List Addr} {WW:Value->Shared->Prop} {pins pins':List ↥7} {σ σ6:L2.St} {H3 Hx H':Hp} {s3 sx s':Shared} {ea Ca:Addr} {use:Option (Value->Sem Unit)} {Qf:Value->Shared->Prop} {acc:Value} {cenv:Env}
  (I3:Inv X pins σ H3 s3) (f3:∀ b∈fp,oo X pins H3 b) (hcf:cenv.frame=X.env.frame) (Ix:Inv ↥15 pins' σ6 Hx sx) (FX:FlyX X.prog X.w X.stack Hx sx Ca H' ea s')
  (kx:∀ b u,H3 b=some u->∃ u',H' b=some u') (hx:∀ ea s',HeldX X pins σ Ca H' ea s'->X.xe (.ref ea) s') :
  NB X.prog X.w X.A cenv (cG ↥4 X.A X.xe use Qf acc s3.heap.objs.size X.env.frame) (.ref ea) s':=by
 have en:noteFrame (.ref ea) cenv=noteFrame (.ref ea) X.env:=by unfold noteFrame PySem.frameOf;rw [hcf]
 unfold NB notedBy
 rw [en]
 obtain ⟨a0,B,hfl,i1,i2⟩:=FX.fly
 have Iy:Inv ↥15 pins' σ6 H' s':=rE Ix FX
 have ff:=mR hfl.2.2.1
 rw [O.stk] at hfl
 refine wpAny_looks_onW (by rw [I3.ok.frames,O.stk]) O.frm hfl fun h4 held up => ?_
 have IX:Inv X pins σ Hx sx:=I3.call' (s':=sx) (ch:=fp) Ix.os Ix.base Ix.hok Ix.bare fun b hb=>⟨(f3 b hb).2.2.2.1,(f3 b hb).2.1,(f3 b hb).2.2.2.2.1,(f3 b hb).2.2.2.2.2⟩
 obtain ⟨m,⟨oC,es,ep,hoC,rC⟩,_⟩:=Ix.loc
 have hoC:sx.heap.get? s3.heap.objs.size=some oC:=hoC
 have nfr:s3.heap.objs.size∉frs X.stack:=fun z=>by
  rw [O.frs] at z
  rcases List.mem_cons.mp z with q | q
  ·exact absurd I3.lt (by rw [<- q];exact Nat.lt_irrefl _)
  ·exact I3.nofs ↥30 q
 have hBC:B.get? s3.heap.objs.size=some oC:=i1 _ _ hoC Ix.free nfr
 have h4C:h4.get? s3.heap.objs.size=some oC:=held.1 _ _ hBC
 refine ⟨m,⟨oC,es,ep,h4C,rC⟩,fun h5 sb5 cenv' hcf' => ?_⟩
 have kB:(PySem.W.hideAll B [s3.heap.objs.size]).StaysIn B:=fun b o e=>PySem.W.of_hideAll _ e
 have held':=PySem.W.heldW_base kB held
 have st4:∀ b o,(PySem.W.hideAll B [s3.heap.objs.size]).get? b=some o->b≠s3.heap.objs.size:=fun b o e z=>by
  rw [z,PySem.W.hideAll_none _ ↥19] at e
  cases e
 obtain ⟨_,hne,hff,oe,vs,T,oT,ts,he,hcls,hd,h1,hnT,hTe,hT,hdT,h3⟩:=held
 have neC:∀ b,B.get? b=none->b≠s3.heap.objs.size:=fun b e z=>by rw [z,hBC] at e;cases e
 have he5:h5.get? ea=some oe:=(sb5.2 _ (neC _ hne)).trans he
 have hT5:h5.get? T=some oT:=(sb5.2 _ (neC _ hnT)).trans hT
 have hsz3:3<ts.size:=(Array.getElem?_eq_some_iff.mp h3).1
 unfold PySem.passOn
 refine wpAny_bind (wpAny_field he5 hd h1 ?_)
 rw [if_neg ↥19]
 show wpAny _ _ (setFlight (.ref ea) cenv'.frame >>= _) _ _ _
 refine wpAny_bind ?_
 unfold setFlight
 refine wpAny_bind (wpAny_field he5 hd h1 ?_)
 rw [if_pos (show (Value.ref T != Value.none)=true from by simp),hcf',O.frm]
 refine wpAny_setField hT5 hdT hsz3 ?_
 refine wpAny_throw (hx ea _ ?_)
 have other:∀ b,b≠T->(h5.update T (Obj.mapFields (·.setIfInBounds 3 ((some X.env.locals).elim Value.none fun f=>rawInt f)))).get? b=h5.get? b:=fun b hb=>Heap.get?_update_other _ _ (Ne.symm hb)
 have hT6:=Heap.get?_update_self (Obj.mapFields (·.setIfInBounds 3 ((some X.env.locals).elim Value.none fun f=>rawInt f))) hT5 (Obj.isFreed_of_fields (Obj.data_mapFields hdT _))
 generalize h5.update T (Obj.mapFields (·.setIfInBounds 3 ((some X.env.locals).elim Value.none fun f=>rawInt f)))=h6 at other hT6 ⊢
 have k46:∀ b,b≠T->b≠s3.heap.objs.size->h6.get? b=h4.get? b:=fun b q1 q2=>(other b q1).trans (sb5.2 b q2)
 have st6:(PySem.W.hideAll B [s3.heap.objs.size]).StaysIn h6:=fun b o e=>by
  rw [k46 b (fun z=>by rw [z] at e;have:=kB _ _ e;rw [hnT] at this;cases this) (st4 b o e)]
  exact held'.1 b o e
 have i2':∀ b u o,H' b=some u->s'.heap.get? b=some o->(PySem.W.hideAll B [s3.heap.objs.size]).get? b=some o:=fun b u o e q=>PySem.W.hideAll_get _ (i2 b u o e q) fun z=>by
  have z':b=s3.heap.objs.size:=by simpa using z
  rw [z'] at e
  have:H' s3.heap.objs.size=none:=Iy.free
  rw [this] at e
  cases e
 have i1':∀ b o,s3.heap.get? b=some o->H3 b=none->b∉frs X.stack->b∉fp->(PySem.W.hideAll B [s3.heap.objs.size]).get? b=some o:=fun b o e n hb hp=>PySem.W.hideAll_get _ (i1 b o (Ix.base.keep b o e n hb hp) (Ix.base.free b o e n hp) hb) fun z=>by
  have z':b=s3.heap.objs.size:=by simpa using z
  exact absurd (Heap.lt_size e) (by rw [z'];exact Nat.lt_irrefl _)
 have u6:Un (frs X.stack) fp H3 H' s3.heap h6:=by
  have u:=Iy.base
  have slot:∀ b o,s3.heap.get? b=some o->H3 b=none->b∈frs X.stack->b∉fp->∃ sl,h6.get? b=some { o with slots:=sl }:=fun b o e n hb hp=>by
   obtain ⟨sl,e1⟩:=u.slot b o e n hb hp
   obtain ⟨sl2,e2⟩:=up b _ e1 (ff b hb _ e1)
   refine ⟨sl2,?_⟩
   rw [k46 b (fun z => ?_) (fun z=>nfr (z▸hb))]
   ·exact e2
   ·have:=mR hff b (by rw [<- O.stk];exact hb) oT (by rw [z];exact hT) ts
    exact this hdT
  refine ⟨fun b o e n hb hp=>st6 b o (i1' b o e n hb hp),slot,u.free,fun b o e hp => ?_,u.tups,u.frzs,u.tbls⟩
  cases n:H3 b with
  | none =>
   by_cases hb:b∈frs X.stack
   ·obtain ⟨sl,e2⟩:=slot b o e n hb hp
    exact ⟨_,e2⟩
   ·exact ⟨o,st6 b o (i1' b o e n hb hp)⟩
  | some x =>
   obtain ⟨o',e1⟩:=u.there b o e hp
   obtain ⟨x',n'⟩:=kx b x n
   exact ⟨o',st6 b o' (i2' b x' o' n' e1)⟩
 refine ⟨I3.call' (s':={ s' with heap:=h6 }) (ch:=fp) Iy.os u6 (fP Iy.hok i2' st6) Iy.bare fun b hb=>⟨(f3 b hb).2.2.2.1,(f3 b hb).2.1,(f3 b hb).2.2.2.2.1,(f3 b hb).2.2.2.2.2⟩,?_,a0,PySem.W.hideAll B [s3.heap.objs.size],?_,fun b o e n hb => ?_,nP Iy.hok i2' st6⟩
 ·exact qR IX O FX.new
 ·rw [O.stk]
  have nT:∀ b∈frs (X.env::X.outer),h6.get? b=h4.get? b:=fun b hb=>k46 b (fun z=>mR hff b hb oT (by rw [z];exact hT) ts hdT) (fun z=>nfr (by rw [O.stk];exact z▸hb))
  exact ⟨st6,held'.2.1,C3 held'.2.2.1 nT,oe,vs,T,_,_,(k46 ea (Ne.symm hTe) (neC _ hne)).trans he,hcls,hd,h1,PySem.W.fresh_of_stays kB hnT,hTe,hT6,Obj.data_mapFields hdT _,by simp [hsz3]⟩
 ·exact PySem.W.hideAll_get _ (fg IX O i1 b o e n hb) fun z=>by
   have z':b=s3.heap.objs.size:=by simpa using z
   exact absurd (Nat.lt_of_lt_of_le (Heap.lt_size e) I3.sz) (by rw [z'];exact Nat.lt_irrefl _)
section
variable {X:Cx}
set_option maxHeartbeats 2000000 in
theorem lQ (hc:X.calm=true) {N:List Str} (S:Sc X N) {xs ksn G:List Str} {ks:List Nat} {tg elt iter:Expr} {ifs:List Expr} {pos ps:Pos} {sc:Scope} {git:IT} {gc ge:E} {pt:EV.D->Option (List EV.D)} {gT:TG} (SC:ScU xs ksn G sc)
  (hks:ks.map (fun k=>N.getD k "")=ksn) (hlt:∀ k∈ks,k<N.length) (hcell:∀ y∈ksn,X.env.scope.names.lookup y=some .cell)
  (he:SI X tg iter git) (TT:Tgt X xs.length pt gT)
  (htg:∀ C fp s H W,Sc ↥10 (xs++ksn)->(∀ y∈xs,(cxU X xs ksn sc C fp s H W).env.scope.names.lookup y=some .local)->PG ↥10 tg gT)
  (htst:∀ C fp s H W,Sc ↥10 (xs++ksn)->(∀ y∈G,Gb ↥10 y)->Tst ↥10 ifs gc)
  (helt:∀ C fp s H W,Sc ↥10 (xs++ksn)->(∀ y∈G,Gb ↥10 y)->SE ↥10 elt ge)
  (hs:∀ z,foldedSetIterable iter X.env z=pure z) {use:Option (Value->Sem Unit)} {Qf:Value->Shared->Prop}
  {pins:List ↥7} {s:Shared} {σ:L2.St} {H:Hp} {δ:Dt} (I:Inv X pins σ H s) (hσ:Stt X.K X.mg H σ δ)
  (hgit:∀ C,git δ=.ex C->∀ Ca,X.mg C=some (.ref Ca)->∀ H',ay H H'->ew X Ca σ H')
  {ds:List EV.D} (hds:git δ ≠ .bad) (hds':∀ ds',git δ=.ok ds'->ds'=ds/\ds.length<=100000/\runC (stG pt gc ge ks δ) ds ≠ .bad/\∀ rs,runC (stG pt gc ge ks δ) ds=.ok rs->EV.D.flats rs=true)
  (hex:∀ C Ca,runC (stG pt gc ge ks δ) ds=.ex C->X.mg C=some (.ref Ca)->∀ H',ay H H'->∀ ea s',HeldX X pins σ Ca H' ea s'->X.xe (.ref ea) s') (hO:(∃ C,runC (stG pt gc ge ks δ) ds=.ex C)->Own X)
  (hfin:∀ (s1:Shared) (Hc:Hp) (D C:Addr) (ys:List V) (rs:List EV.D),git δ=.ok ds->runC (stG pt gc ge ks δ) ds=.ok rs->EV.D.flats rs=true->H D=none->Hc D=some (.lst ys)->Reps X.K X.mg Hc ys rs->ay H Hc ->
   oo X pins Hc C->Inv X pins σ Hc s1->(∃ m,s1.heap.Ns C m)->(∀ h',Heap.SameBut C s1.heap h'->Inv X pins σ Hc { s1 with heap:=h' })->cG ↥4 X.A X.xe use Qf (.ref D) C X.env.frame (.ok .next) s1) :
  wpAny ↥4 X.A (comprehension (.ListComp elt [⟨tg,iter,ifs,0⟩] sc pos) sc X.env ps (newList []) false (eval iter X.env) use) Qf X.xe s:=by
 have lenks:ksn.length=ks.length:=by rw [<- hks,List.length_map]
 have atk:∀ (j:Nat) (y:Str),ksn[j]? = some y->∃ k,ks[j]? = some k/\N[k]? = some y:=fun j y e=>by
  rw [<- hks,List.getElem?_map] at e
  cases q:ks[j]? with
  | none=>rw [q] at e;cases e
  | some k =>
   rw [q] at e
   have e':N.getD k ""=y:=Option.some.inj e
   have hk:=hlt k (List.mem_of_getElem? q)
   exact ⟨k,rfl,by rw [<- e',List.getD_eq_getElem?_getD,List.getElem?_eq_getElem hk];rfl⟩
 have frec:∀ y,(y,NameKind.free)∈sc.names->∃ c,X.env.cells.lookup y=some c:=fun y hy=>I.ok.has y (.inl (hcell y (SC.all _ hy rfl)))
 refine iR (use:=use) rfl hs (pq frec) SC.kind SC.nms ?_
 have sub:∀ y c,(sF X.env sc.names []).lookup y=some c->X.env.cells.lookup y=some c:=wI frec fun y c e=>nomatch e
 have hq:RI X σ H (git δ) (fun J H'=>ay H H'/\∃ ds,git δ=.ok ds/\sA X J H' ds):=by
  cases r:git δ with
  | ok ds=>exact fun J H' s w=>⟨s,ds,rfl,w⟩
  | ex C=>exact hgit C r
  | bad=>exact absurd r hds
 refine thn (he pins s σ H _ I ⟨δ,hσ,hq⟩) fun v s1 h1=>thn h1 fun itv s2 h2 => ?_
 obtain ⟨it,fp,tn,J,H2,e,I2,T,st2,f2,sm2,ds',eds,wk⟩:=h2
 subst e
 obtain ⟨eq0,hz,nbad,hfl⟩:=hds' ds' eds
 rw [eq0] at eds wk
 have hσ2:Stt X.K X.mg H2 σ δ:=hσ.mono sm2
 refine wpAny_newList ?_ (Nat.zero_le _)
 have I3:Inv X pins σ (upd H2 s2.heap.objs.size (.lst [])) { s2 with heap:=s2.heap.push { cls:=.type "list",data:=.seq ([]:List Value).toArray } }:=I2.lnew (t':=s2.toks) .nil (Nat.zero_le _)
 have hnew:H2 s2.heap.objs.size=none:=I2.fresh
 have sm3:ay H2 (upd H2 s2.heap.objs.size (.lst [])):=aQ hnew _
 generalize hD:s2.heap.objs.size=D at *
 generalize hH3:upd H2 D (.lst [])=H3 at *
 have hD3:H3 D=some (.lst []):=by rw [<- hH3];exact aS
 have keep3:∀ b o,s2.heap.get? b=some o->(s2.heap.push { cls:=.type "list",data:=.seq ([]:List Value).toArray }).get? b=some o:=fun b o q=>Heap.get?_push_of_some _ q
 have st3:tn 0 (s2.heap.push { cls:=.type "list",data:=.seq ([]:List Value).toArray }):=T.keep 0 _ _ st2 fun b _ o q=>keep3 b o q
 have ne3:∀ b∈fp,b≠D:=fun b hb z=>by
  obtain ⟨o,e,_⟩:=T.obj 0 _ st2 b hb
  exact absurd (Heap.lt_size e) (by rw [z,<-hD];exact Nat.lt_irrefl _)
 have f3:∀ b∈fp,oo X pins H3 b:=fun b hb=>⟨by rw [<- hH3,aM (ne3 b hb)];exact (f2 b hb).1,(f2 b hb).2⟩
 generalize hs3:({ s2 with heap:=s2.heap.push { cls:=.type "list",data:=.seq ([]:List Value).toArray } }:Shared)=s3 at *
 have st3':tn 0 s3.heap:=by rw [<- hs3];exact st3
 refine wpAny_newFunctionEnv SC.noc (fun y z=>nomatch z) (fun h4 ns4 sb4=>⟨rfl,?_⟩) SC.kind
 generalize hWW:NB X.prog X.w X.A (cxU X xs ksn sc s3.heap.objs.size fp s3 H3 (fun _ _=>False)).env (cG ↥4 X.A X.xe use Qf (.ref D) s3.heap.objs.size X.env.frame)=WW
 have kp4:∀ b o,s3.heap.get? b=some o->h4.get? b=some o:=fun b o q=>by
  rw [sb4.2 b (Nat.ne_of_lt (Heap.lt_size q))]
  exact Heap.get?_push_of_some _ q
 have nst:∀ b∈fp,b∉frs X.stack:=fun b hb z=>by
  rcases List.mem_cons.mp (I3.stkSub b z) with q | q
  ·exact (f3 b hb).2.1 q
  ·exact (f3 b hb).2.2.1 q
 have neC:∀ b∈fp,b≠s3.heap.objs.size:=fun b hb=>by
  obtain ⟨ob,e,_⟩:=T.obj 0 _ st3' b hb
  exact Nat.ne_of_lt (Heap.lt_size e)
 have fpcl:∀ b∈fp,∀ y c,(sF X.env sc.names []).lookup y=some c->c≠b:=fun b hb y c e=>(f3 b hb).2.2.2.2.1 y c (sub y c e)
 have ok4:(cxU X xs ksn sc s3.heap.objs.size fp s3 H3 WW).Ok:=by
  have o:=I3.ok
  refine ⟨o.mod,SC.kind,o.glob,o.blt,Nat.le_refl _,fun y z c e1 e2=>o.inj y z c (sub y c e1) (sub z c e2),fun y hy => ?_,fun y c z e=>absurd z Bool.false_ne_true,o.hd,o.frames,.inl rfl,fun b hb=>⟨neC b hb,fpcl b hb⟩,I3.bs,Nat.le_trans o.bsz I3.sz,fun b ob e hb => ?_,fun b hb=>nst b hb,I3.stack,I3.stkFree⟩
  ·have hy:(relabel sc X.env).names.lookup y=some .cell\/(relabel sc X.env).names.lookup y=some .free:=hy
   have hf:sc.names.lookup y=some .free:=by
    rcases hy with hy | hy
    ·rcases jx hy with q | ⟨q,_⟩
     ·exact absurd rfl (SC.noc _ (PySem.mem_of_lookup q))
     ·exact q
    ·rcases jx hy with q | ⟨_,q⟩
     ·exact q
     ·cases q
   exact rW (.inl (PySem.mem_of_lookup hf))
  ·rcases (f3 b hb).2.2.2.1 with q | q
   ·exact o.noex b ob e q
   ·exact absurd (Heap.lt_size (o.bs b ob e).1) (Nat.not_lt.mpr q)
 have fun4:X.env.scope.kind=.function:=I3.ok.kind
 have S4:Sc ↥15 (xs++ksn):=by
  refine ⟨rfl,SC.nd,fun y hy => ?_,SC.dbg⟩
  rcases List.mem_append.mp hy with z | z
  ·exact .inl (dv ↥0 (SC.loc y z))
  ·exact .inr (.inl (gj fun4 (hcell y z) (SC.fre y z)))
 have G4:∀ y∈G,Gb ↥15 y:=fun y hy=>⟨dv ↥0 (SC.glb y hy),(SC.dbgG y hy).1,(SC.dbgG y hy).2⟩
 have E4:=helt s3.heap.objs.size fp s3 H3 WW S4 G4
 have T4:=htst s3.heap.objs.size fp s3 H3 WW S4 G4
 have P4:=htg s3.heap.objs.size fp s3 H3 WW S4 fun y hy=>dv ↥0 (SC.loc y hy)
 have hCn:H3 s3.heap.objs.size=none:=I3.fresh
 have hσ3:Stt X.K X.mg H3 σ δ:=hσ2.mono sm3
 have lenσ3:σ.length=N.length:=by rw [I3.len,S.n]
 have I4:Inv ↥15 [] (List.replicate xs.length none++ks.map fun k=>σ.getD k none) H3 { s3 with heap:=h4,toks:=s3.toks+([]:List (Str×Value)).length }:=by
  refine ⟨ok4,rfl,I3.bare,Un.kept kp4,⟨_,ns4,fun j y v e1 e2 e3 => ?_⟩,fun y c e => ?_,hCn,fun y c e=>I3.freeC y c (sub y c e),fun p hp=>absurd (show p∈([]:List ↥7) from hp) ↥19,I3.hok.kept kp4,by show _=(xs++ksn).length;rw [List.length_append,List.length_append,List.length_replicate,List.length_map,lenks]⟩
  ·by_cases hj:j<xs.length
   ·rw [List.getElem?_append_left (by rw [List.length_replicate];exact hj),List.getElem?_replicate,if_pos hj] at e2
    cases e2
   ·have e1:(xs++ksn)[j]? = some y:=e1
    rw [List.getElem?_append_right ⋯] at e1
    rw [List.getElem?_append_right (by rw [List.length_replicate];omega),List.length_replicate] at e2
    generalize j - xs.length=j at e1 e2
    have e1':ksn[j]? = some y:=e1
    obtain ⟨k,ek,eN⟩:=atk j y e1'
    rw [List.getElem?_map,ek] at e2
    have e2':σ.getD k none=some v:=Option.some.inj e2
    have eσ:σ[k]? = some (some v):=by
     rw [List.getD_eq_getElem?_getD] at e2'
     cases q:σ[k]? with
     | none=>rw [q] at e2';cases e2'
     | some o=>rw [q] at e2';have:o=some v:=e2';rw [this]
    have hy:=List.mem_of_getElem? e1'
    have hyc:=hcell y hy
    obtain ⟨m',hn',hl'⟩:=I3.loc
    obtain ⟨u,ru,lu⟩:=hl' k y v (by rw [S.n];exact eN) eσ (.inr (.inl hyc))
    refine ⟨u,ru,?_⟩
    rcases lu with ⟨k1,_⟩ | ⟨_,c,hcc,ic⟩
    ·have:(some NameKind.local)=some .cell:=k1.symm.trans hyc
     cases this
    ·obtain ⟨c',hc'⟩:=rW (env:=X.env) (cs:=[]) (.inl (PySem.mem_of_lookup (SC.fre y hy)))
     have:c'=c:=by have:=sub y c' hc';rw [hcc] at this;exact (Option.some.inj this).symm
     subst this
     obtain ⟨oc,hoc,hd⟩:=ic
     exact .inr ⟨.inl (gj fun4 hyc (SC.fre y hy)),c',hc',oc,kp4 _ _ hoc,hd⟩
  ·obtain ⟨v,oc,hoc,hd⟩:=I3.cell y c (sub y c e)
   exact ⟨v,oc,kp4 _ _ hoc,hd⟩
 have fpc:∀ {Hc:Hp},(∀ b∈fp,Hc b=none)->∀ b∈fp,oo ↥15 [] Hc b:=fun {Hc} hn b hb =>
  ⟨hn b hb,neC b hb,nst b hb,.inl hb,fpcl b hb,fun p hp=>absurd (show p∈([]:List ↥7) from hp) ↥19⟩
 have st4:tn 0 h4:=T.keep 0 _ _ st3' fun b _ o q=>kp4 b o q
 have kc2:∀ {Hc:Hp},(∀ b o,b≠D->H3 b=some o->Hc b=some o)->ay H2 Hc:=fun {Hc} kc b o e=>kc b o (fun z=>by rw [z,hnew] at e;cases e) (sm3 b o e)
 have R4:codeAny ↥4 X.A (.compLoop (.ListComp elt [⟨tg,iter,ifs,0⟩] sc pos) 0 (.ref it) (.ref D) (cxU X xs ksn sc s3.heap.objs.size fp s3 H3 WW).env)
   (cG ↥4 X.A X.xe use Qf (.ref D) s3.heap.objs.size X.env.frame)
   { s3 with heap:=h4,toks:=s3.toks+([]:List (Str×Value)).length }:=by
  refine qY (fun n s'=>∃ i σc Hc ys rsi,Inv ↥15 [] σc Hc s'/\tn i s'.heap/\(∀ b∈fp,Hc b=none)/\n=ds.length - i/\i<=ds.length/\Hc D=some (.lst ys)/\runC (stG pt gc ge ks δ) (ds.take i)=.ok rsi/\ys.length<=i/\Reps X.K X.mg Hc ys rsi/\(∀ b o,b≠D->H3 b=some o->Hc b=some o)/\σc.drop xs.length=(ks.map fun k=>σ.getD k none)/\EV.D.flats rsi=true) ?_ ds.length
   ⟨0,_,H3,[],[],I4,st4,fun b hb=>(f3 b hb).1,rfl,Nat.zero_le _,hD3,by rw [List.take_zero];rfl,Nat.zero_le _,.nil,fun _ _ _ q=>q,by rw [List.drop_append_of_le_length (by rw [List.length_replicate];exact Nat.le_refl _)];simp,rfl⟩
  have hW':NB X.prog X.w X.A (cxU X xs ksn sc s3.heap.objs.size fp s3 H3 WW).env (cG ↥4 X.A X.xe use Qf (.ref D) s3.heap.objs.size X.env.frame)=WW:=hWW
  rw [hW']
  rintro n s' ⟨i,σc,Hc,ys,rsi,Ic,st,fr,rfl,hi,hDc,ersi,hyl,hys,kc,tlσ,fl1⟩
  have smc:=kc2 kc
  have wkc:=wk Hc smc
  by_cases hlt':i<ds.length
  ·have hd:ds[i]? = some ds[i]:=List.getElem?_eq_getElem hlt'
   generalize ds[i]=d at hd
   have etk:ds=ds.take i++(d::ds.drop (i+1)):=by
    have:=List.take_append_drop i ds
    rw [dE hd] at this
    exact this.symm
   have nst':EV.R.bad≠stG pt gc ge ks δ d:=fun z=>nbad (by rw [etk];exact (mn ersi).1 z.symm)
   obtain ⟨xd,k,ept,ek,kcase⟩:=yj nst'
   have ertk:∀ o,stG pt gc ge ks δ d=.ok o->runC (stG pt gc ge ks δ) (ds.take (i+1))=.ok (rsi++o.toList):=fun o eo=>by
    rw [List.take_add_one,hd]
    exact qe ersi eo
   have lxd:=TT.len d xd ept
   refine thn (T.item ↥15 rfl rfl rfl hc i [] s' σc Hc WW Ic (fpc fr) st (wkc.1 i d hd).1) fun r s1 ⟨u,hr,h4'⟩ => ?_
   subst hr
   refine thn h4' fun _ s5 ⟨v,H5,I5,r5,yl,st5,fr5⟩ => ?_
   obtain ⟨sm5,rd⟩:=(wkc.1 i d hd).2 v H5 yl
   have smc5:=smc.trans sm5
   have rd5:=rd H5 smc5 fun b o z _=>z
   have I5':=I5.pinned (fpc fr5) (T.obj _ _ st5)
   have pinf:∀ {σ7:L2.St} {H7:Hp} {s7:Shared},Inv ↥15 ([]++jy fp s5.heap) σ7 H7 s7->∀ b∈fp,∀ o,s5.heap.get? b=some o->s7.heap.get? b=some o/\H7 b=none:=fun {σ7 H7 s7} I7 b hb o q =>
    have z:=I7.pin (b,o) (List.mem_append_right _ (List.mem_append_right _ (cS hb q)))
    ⟨z.1,z.2.1⟩
   have lenσ:σc.length=xs.length+ks.length:=by
    have:=Ic.len
    rw [this]
    show (xs++ksn).length=_
    rw [List.length_append,lenks]
   refine thn (P4 _ s5 σc H5 v u (fun σ6 H6=>∃ vs,Reps X.K X.mg H5 vs xd/\Put σc vs σ6/\H6=H5) I5' r5 (TT.put ept rd5 ⋯ fun vs σ' rv pu=>⟨vs,rv,pu,rfl⟩)) fun _ s6 ⟨σ6,H6,I6,vs,rv,pu,e6'⟩ => ?_
   subst e6'
   have lvs:vs.length=xs.length:=by rw [rv.length,lxd]
   have hσ6:Stt X.K X.mg H6 σ6 (xd.map some++ks.map fun k=>δ.getD k none):=by
    refine ⟨by rw [pu.1,lenσ,List.length_append,List.length_map,List.length_map,lxd],fun j d' e nown => ?_⟩
    by_cases hj:j<xd.length
    ·rw [List.getElem?_append_left (by rw [List.length_map];exact hj),List.getElem?_map] at e
     cases q:xd[j]? with
     | none=>rw [q] at e;cases e
     | some d'' =>
      rw [q] at e
      cases e
      obtain ⟨v',e1,e2⟩:=rv.get q
      exact ⟨v',pu.2.1 j v' e1,e2⟩
    ·rw [List.getElem?_append_right (by rw [List.length_map];omega),List.length_map,List.getElem?_map] at e
     cases ek':ks[j - xd.length]? with
     | none=>rw [ek'] at e;cases e
     | some k =>
      rw [ek'] at e
      have e':δ.getD k none=some d':=Option.some.inj e
      have eδ:δ[k]? = some (some d'):=by
       rw [List.getD_eq_getElem?_getD] at e'
       cases q:δ[k]? with
       | none=>rw [q] at e';cases e'
       | some o=>rw [q] at e';have:o=some d':=e';rw [this]
      obtain ⟨w,ew',rw'⟩:=hσ2.2 k d' eδ nown
      refine ⟨w,?_,rw'.mono smc5⟩
      rw [pu.2.2 j ⋯]
      have ht:(σc.drop xs.length)[j - xd.length]? = some (some w):=by
       rw [tlσ,List.getElem?_map,ek']
       show some (σ.getD k none)=_
       rw [List.getD_eq_getElem?_getD,ew']
       rfl
      rw [List.getElem?_drop,show xs.length+(j - xd.length)=j by omega] at ht
      exact ht
   have tl6:σ6.drop xs.length=(ks.map fun k=>σ.getD k none):=by
    rw [<- tlσ]
    refine List.ext_getElem? fun j => ?_
    rw [List.getElem?_drop,List.getElem?_drop]
    exact pu.2.2 _ ⋯
   have hD5:H6 D=some (.lst ys):=sm5 _ _ hDc
   have kc5:∀ b o,b≠D->H3 b=some o->H6 b=some o:=fun b o hb q=>sm5 _ _ (kc b o hb q)
   have hys5:=hys.mono sm5
   refine thn (xP T4 I6 hσ6 ek (E:=WW) fun _ _ z=>z) fun ok s7 ⟨eok,H7,I7,sm7⟩ => ?_
   subst eok
   rcases kcase with ⟨rfl,eg⟩ | ⟨rfl,eo⟩
   ·rw [if_pos rfl]
    cases eg':ge (xd.map some++ks.map fun k=>δ.getD k none) with
    | bad=>rw [eg'] at eg;exact absurd eg.symm nst'
    | ex C =>
     rw [eg'] at eg
     have ext:runC (stG pt gc ge ks δ) ds=.ex C:=by rw [etk];exact (mn ersi).2 C eg
     refine thn (E4 _ s7 σ6 H7 (fun _ _=>False) I7 ⟨_,hσ6.mono sm7,?_⟩) fun _ _ ⟨_,_,_,_,z⟩=>z.elim
     rw [eg']
     intro Ca hCa H' sm8 pins' Hx sx ea s8 Ix FX
     show WW (.ref ea) s8
     rw [<- hWW]
     exact vm (hO ⟨C,ext⟩) I3 f3 rfl Ix FX (fun b u e=>by
      by_cases hb:b=D
      ·rw [hb];exact ⟨_,sm8 _ _ (sm7 _ _ hD5)⟩
      ·exact ⟨_,sm8 _ _ (sm7 _ _ (kc5 b u hb e))⟩) (hex C Ca ext hCa H' (((sm2.trans smc5).trans sm7).trans sm8))
    | ok r =>
     rw [eg'] at eg
     simp only [R.bind] at eg
     have flo:EV.D.flat r=true:=by
      refine Classical.byContradiction fun z => ?_
      rw [if_neg z] at eg
      exact nst' eg.symm
     rw [if_pos flo] at eg
     refine thn (E4 _ s7 σ6 H7 (fun v8 H8=>ay H7 H8/\Rep X.K X.mg H8 v8 r) I7 ⟨_,hσ6.mono sm7,by rw [eg'];exact fun v8 H8 sm rp=>⟨sm,rp⟩⟩) fun u8 s8 ⟨v8,H8,I8,r8,sm8,rp8⟩ => ?_
     have sm78:=sm7.trans sm8
     have hD8:H8 D=some (.lst ys):=sm78 _ _ hD5
     refine thn (ly (X:=↥15) _ s8 _ H8 (.ref D) [v8] (.ref D) [u8] (fun _ H9=>H9=upd H8 D (.lst (ys++[v8]))) I8 rfl (.cons r8 .nil) ⟨D,ys,v8,rfl,rfl,hD8,by rw [sizeLine_eq];omega,rfl⟩) fun _ s9 ⟨_,H9,I9,_,e9⟩ => ?_
     subst e9
     have k9:NoL H8 (upd H8 D (.lst (ys++[v8]))):=fun b ob e n _=>by
      rw [aM fun z => ?_];exact e
      rw [z,hD8] at e
      exact n ys (Option.some.inj e).symm
     have k9':∀ b ob,b≠D->H8 b=some ob->upd H8 D (.lst (ys++[v8])) b=some ob:=fun b ob hb q=>by rw [aM hb];exact q
     refine ⟨ds.length - (i+1),⋯,i+1,_,_,ys++[v8],rsi++[r],I9.unpinned,T.keep _ _ _ st5 (fun b hb o q=>(pinf I9 b hb o q).1),fun b hb => ?_,rfl,⋯,aS,ertk _ eg,by rw [List.length_append];simp;omega,?_,fun b ob hb q=>k9' b ob hb (sm78 _ _ (kc5 b ob hb q)),tl6,jJ fl1 flo⟩
     ·obtain ⟨ob,e,_⟩:=T.obj _ _ st5 b hb
      exact (pinf I9 b hb ob e).2
     ·exact (gO k9 fl1 (hys5.mono sm78)).append (.cons (ir k9 flo rp8) .nil)
   ·rw [if_neg Bool.false_ne_true]
    refine ⟨ds.length - (i+1),⋯,i+1,_,_,ys,rsi,I7.unpinned,T.keep _ _ _ st5 (fun b hb o q=>(pinf I7 b hb o q).1),fun b hb => ?_,rfl,⋯,sm7 _ _ hD5,by rw [ertk _ eo];simp,⋯,hys5.mono sm7,fun b ob hb q=>sm7 _ _ (kc5 b ob hb q),tl6,fl1⟩
    obtain ⟨ob,e,_⟩:=T.obj _ _ st5 b hb
    exact (pinf I7 b hb ob e).2
  ·have ei:i=ds.length:=⋯
   subst ei
   refine thn (T.done ↥15 rfl rfl rfl hc ds.length [] s' σc Hc WW Ic (fpc fr) st (wkc.2 _ ↥30)) fun r s1 ⟨hr,I9⟩ => ?_
   subst hr
   obtain ⟨m,hns,_⟩:=id I9.loc
   have I10:∀ h',Heap.SameBut s3.heap.objs.size s1.heap h'->Inv X pins σ Hc { s1 with heap:=h' }:=fun h' sb=>I3.call' (s':={ s1 with heap:=h' }) (ch:=fp) I9.os (AX I9.base ↥30 sb) (zL I9.hok I9.free sb) I9.bare fun b hb =>
    ⟨(f3 b hb).2.2.2.1,(f3 b hb).2.1,(f3 b hb).2.2.2.2.1,(f3 b hb).2.2.2.2.2⟩
   rw [List.take_of_length_le ↥30] at ersi
   have hHD:H D=none:=by
    cases q:H D with
    | none=>rfl
    | some o=>have:=sm2 D o q;rw [hnew] at this;cases this
   exact hfin s1 Hc D s3.heap.objs.size ys rsi eds ersi fl1 hHD hDc hys (sm2.trans smc) (I3.fpOk ↥30 I9.free)
    (I10 s1.heap (Heap.SameBut.refl _ _)) ⟨m,hns⟩ I10
 exact codeAny_compStart_list R4 (T.self _ 0 _ _ _ st4 R4)
def pt1 (d:D):Option (List D):=some [d]
theorem HN:Tgt X 1 pt1 (lG 0):=⟨fun d xs e=>by cases e;rfl,fun {d xs v σ H Q} e r hl q=>by
 cases e
 refine q [v] _ (.cons r .nil) ⟨List.length_set ..,fun j w hj => ?_,fun j hj => ?_⟩
 ·cases j with
  | zero=>cases hj;exact List.getElem?_set_self ⋯
  | succ j=>simp at hj
 ·exact List.getElem?_set_ne (by have:1<=j:=hj;omega)⟩
theorem tg1:∀ C fp s H W,Sc (cxU X [x] ksn sc C fp s H W) ([x]++ksn)->(∀ y∈[x],(cxU X [x] ksn sc C fp s H W).env.scope.names.lookup y=some .local)->PG (cxU X [x] ksn sc C fp s H W) (.Name x px) (lG 0) :=
 fun C fp s H W S4 hl=>j4 (i:=0) (by rw [S4.n];exact S4.nd) rfl (.inl (hl x ↥19)) (.inr (hl x ↥19))
theorem Bp:∀ {ds rs:List EV.D},runC (EV.stC gc ge ks δ) ds=.ok rs->EV.D.flats rs=true->runC (stG pt1 gc ge ks δ) ds=.ok rs
 | [],rs,h,_=>h
 | d::ds,rs,h,hf=>by
  unfold runC at h ⊢
  cases q:EV.stC gc ge ks δ d with
  | ok o =>
   rw [q] at h
   simp only [R.bind] at h
   cases q2:runC (EV.stC gc ge ks δ) ds with
   | ok r =>
    rw [q2] at h
    have e:o.toList++r=rs:=by cases o<;>simpa using h
    have key:stG pt1 gc ge ks δ d=.ok o/\EV.D.flats r=true:=by
     unfold EV.stC at q
     unfold stG pt1
     simp only
     have ei:inC ks δ d=[d].map some++ks.map fun k=>δ.getD k none:=rfl
     rw [ei] at q
     cases q3:sD (gc ([d].map some++ks.map fun k=>δ.getD k none)) with
     | ok b =>
      rw [q3] at q
      cases b with
      | bl k =>
       cases k with
       | true =>
        simp only [R.bind,truth] at q ⊢
        cases q4:sD (ge ([d].map some++ks.map fun k=>δ.getD k none)) with
        | ok r' =>
         rw [q4] at q
         cases q
         rw [qP q4]
         rw [<- e] at hf
         have hf':EV.D.flat r'=true/\EV.D.flats r=true:=by simpa [EV.D.flats] using hf
         simp only
         rw [if_pos hf'.1]
         exact ⟨rfl,hf'.2⟩
        | ex C=>rw [q4] at q;cases q
        | bad=>rw [q4] at q;cases q
       | false =>
        simp only [R.bind,truth] at q ⊢
        cases q
        exact ⟨rfl,by rw [show r=rs from e];exact hf⟩
      | _=>cases q
     | ex C=>exact (gS q3).elim
     | bad=>rw [q3] at q;cases q
    rw [key.1]
    simp only [R.bind]
    rw [Bp q2 key.2]
    simp only
    rw [<- e]
    cases o<;>rfl
   | ex C=>rw [q2] at h;cases h
   | bad=>rw [q2] at h;cases h
  | ex C=>rw [q] at h;cases h
  | bad=>rw [q] at h;cases h
structure CompOf (ce:E) (git:IT) (pt:EV.D->Option (List EV.D)) (gc ge:E) (ks:List Nat):Prop where
 ex:∀ δ C,git δ=.ex C->ce δ=.ex C
 bad:∀ δ,git δ=.bad->ce δ=.bad
 ok:∀ δ ds,git δ=.ok ds->ce δ=.bad\/(ds.length<=100000/\∃ rs,runC (stG pt gc ge ks δ) ds=.ok rs/\EV.D.flats rs=true/\ce δ=.ok (.lst rs))
theorem pk (hc:X.calm=true) {N:List Str} (S:Sc X N) {xs ksn G:List Str} {ks:List Nat} {tg elt iter:Expr} {ifs:List Expr} {pos ps:Pos} {sc:Scope} {git:IT} {gc ge ce:E} {pt:EV.D->Option (List EV.D)} {gT:TG} (CE:CompOf ce git pt gc ge ks) (SC:ScU xs ksn G sc)
  (hks:ks.map (fun k=>N.getD k "")=ksn) (hlt:∀ k∈ks,k<N.length) (hcell:∀ y∈ksn,X.env.scope.names.lookup y=some .cell)
  (he:SI X tg iter git) (TT:Tgt X xs.length pt gT)
  (htg:∀ C fp s H W,Sc ↥10 (xs++ksn)->(∀ y∈xs,(cxU X xs ksn sc C fp s H W).env.scope.names.lookup y=some .local)->PG ↥10 tg gT)
  (htst:∀ C fp s H W,Sc ↥10 (xs++ksn)->(∀ y∈G,Gb ↥10 y)->Tst ↥10 ifs gc)
  (helt:∀ C fp s H W,Sc ↥10 (xs++ksn)->(∀ y∈G,Gb ↥10 y)->SE ↥10 elt ge)
  (hs:∀ z,foldedSetIterable iter X.env z=pure z) {use:Option (Value->Sem Unit)} {Qf:Value->Shared->Prop} {Q:VK}
  {pins:List ↥7} {s:Shared} {σ:L2.St} {H:Hp} {δ:Dt} (I:Inv X pins σ H s) (hσ:Stt X.K X.mg H σ δ) (h:RQ X σ H (ce δ) Q)
  (hfin:∀ (s1:Shared) (Hc:Hp) (D C:Addr) (ys:List V) (rs:List EV.D),ce δ=.ok (.lst rs)->EV.D.flats rs=true->H D=none->Hc D=some (.lst ys)->Reps X.K X.mg Hc ys rs->ay H Hc->Q (.ref D) Hc ->
   oo X pins Hc C->Inv X pins σ Hc s1->(∃ m,s1.heap.Ns C m)->(∀ h',Heap.SameBut C s1.heap h'->Inv X pins σ Hc { s1 with heap:=h' })->cG ↥4 X.A X.xe use Qf (.ref D) C X.env.frame (.ok .next) s1) :
  wpAny ↥4 X.A (comprehension (.ListComp elt [⟨tg,iter,ifs,0⟩] sc pos) sc X.env ps (newList []) false (eval iter X.env) use) Qf X.xe s:=by
 have key:git δ ≠ .bad/\(∀ C,git δ=.ex C->∀ Ca,X.mg C=some (.ref Ca)->∀ H',ay H H'->ew X Ca σ H')/\∃ ds,(∀ ds',git δ=.ok ds'->ds'=ds)/\∀ ds',git δ=.ok ds'->ds.length<=100000/\∃ rs,runC (stG pt gc ge ks δ) ds=.ok rs/\EV.D.flats rs=true/\ce δ=.ok (.lst rs):=by
  cases r:git δ with
  | bad=>rw [CE.bad δ r] at h;exact False.elim h
  | ex C=>rw [CE.ex δ C r] at h;exact ⟨(fun z=>nomatch z),(fun C' e=>by cases e;exact h),[],(fun _ e=>nomatch e),(fun _ e=>nomatch e)⟩
  | ok ds =>
   refine ⟨fun z=>(nomatch z),fun C' e=>(nomatch e),ds,fun _ e=>by cases e;rfl,fun _ e => ?_⟩
   rcases CE.ok δ ds r with z | z
   ·rw [z] at h;exact False.elim h
   ·exact z
 obtain ⟨k1,k2,ds,k3,k4⟩:=key
 by_cases g:∃ ds',git δ=.ok ds'
 ·obtain ⟨ds',eds⟩:=g
  obtain ⟨hz,rs,er,fl,ec⟩:=k4 ds' eds
  refine lQ hc S SC hks hlt hcell he TT htg htst helt hs (use:=use) I hσ k2 (ds:=ds) k1 (fun d e=>⟨k3 d e,hz,(fun z=>by rw [er] at z;cases z),(fun rs' e'=>by rw [er] at e';cases e';exact fl)⟩) (fun C Ca e=>by rw [er] at e;cases e) (fun ⟨C,e⟩=>by rw [er] at e;cases e) fun s1 Hc D C ys rs' e1 e2 e3 e4 e5 e6 e7 e8 e9 e10 e11 => ?_
  rw [er] at e2
  cases e2
  rw [ec] at h
  exact hfin s1 Hc D C ys rs ec fl e4 e5 e6 e7 (h _ _ e7 (.lst (SqL.of e5) e6)) e8 e9 e10 e11
 ·have no:∀ d,git δ ≠ .ok d:=fun d e=>g ⟨d,e⟩
  exact lQ hc S SC hks hlt hcell he TT htg htst helt hs (use:=use) I hσ k2 (ds:=[]) k1 (fun d e=>absurd e (no d)) (fun C Ca e=>nomatch e) (fun ⟨C,e⟩=>nomatch e) fun s1 Hc D C ys rs' e1=>absurd e1 (no _)
theorem rR:CompOf (dF git ks gc ge) git pt1 gc ge ks where
 ex:=fun δ C e=>by unfold dF;rw [e];rfl
 bad:=fun δ e=>by unfold dF;rw [e];rfl
 ok:=fun δ ds e=>by
  unfold dF
  rw [e]
  simp only [R.bind]
  by_cases hz:ds.length<=100000
  ·rw [if_pos hz]
   cases r:runC (EV.stC gc ge ks δ) ds with
   | bad=>exact .inl rfl
   | ex C =>
    exfalso
    have:∀ l C,runC (EV.stC gc ge ks δ) l ≠ .ex C:=fun l C=>by
     induction l with
     | nil=>exact fun z=>nomatch z
     | cons a l ih =>
      intro z
      unfold runC at z
      cases q:EV.stC gc ge ks δ a with
      | ok o =>
       rw [q] at z
       simp only [R.bind] at z
       cases q2:runC (EV.stC gc ge ks δ) l with
       | ok r=>rw [q2] at z;cases z
       | ex C'=>exact ih.elim (by rw [q2] at z;cases z;exact q2)
       | bad=>rw [q2] at z;cases z
      | ex C' =>
       unfold EV.stC at q
       cases q3:sD (gc (inC ks δ a)) with
       | ok d =>
        rw [q3] at q
        cases d with
        | bl b =>
         cases b with
         | true =>
          simp only [R.bind,truth] at q
          cases q4:sD (ge (inC ks δ a)) with
          | ok r=>rw [q4] at q;cases q
          | ex C''=>exact gS q4
          | bad=>rw [q4] at q;cases q
         | false=>cases q
        | _=>cases q
       | ex C''=>exact gS q3
       | bad=>rw [q3] at q;cases q
      | bad=>rw [q] at z;cases z
    exact this _ _ r
   | ok rs =>
    simp only [gH]
    by_cases hf:EV.D.flats rs=true
    ·rw [if_pos hf]
     exact .inr ⟨hz,rs,Bp r hf,hf,rfl⟩
    ·rw [if_neg hf]
     exact .inl rfl
  ·rw [if_neg hz]
   exact .inl rfl
theorem zW (hc:X.calm=true) {N:List Str} (S:Sc X N) {xs ksn G:List Str} {ks:List Nat} {tg elt iter:Expr} {ifs:List Expr} {pos:Pos} {sc:Scope} {git:IT} {gc ge ce:E} {pt:EV.D->Option (List EV.D)} {gT:TG} (CE:CompOf ce git pt gc ge ks) (SC:ScU xs ksn G sc)
  (hks:ks.map (fun k=>N.getD k "")=ksn) (hlt:∀ k∈ks,k<N.length) (hcell:∀ y∈ksn,X.env.scope.names.lookup y=some .cell)
  (he:SI X tg iter git) (TT:Tgt X xs.length pt gT)
  (htg:∀ C fp s H W,Sc ↥10 (xs++ksn)->(∀ y∈xs,(cxU X xs ksn sc C fp s H W).env.scope.names.lookup y=some .local)->PG ↥10 tg gT)
  (htst:∀ C fp s H W,Sc ↥10 (xs++ksn)->(∀ y∈G,Gb ↥10 y)->Tst ↥10 ifs gc)
  (helt:∀ C fp s H W,Sc ↥10 (xs++ksn)->(∀ y∈G,Gb ↥10 y)->SE ↥10 elt ge)
  (hs:∀ z,foldedSetIterable iter X.env z=pure z):SE X (.ListComp elt [⟨tg,iter,ifs,0⟩] sc pos) ce:=by
 intro pins s σ H Q I ⟨δ,hσ,h⟩
 rw [eval_ListComp]
 exact pk hc S CE SC hks hlt hcell he TT htg htst helt hs (use:=none) I hσ h fun s1 Hc D C ys rs e1 e2 e3 e4 e5 e6 q fC I1 ⟨m,ns⟩ turn=>⟨m,ns,fun h' sb=>⟨.ref D,Hc,turn h' sb,rfl,q⟩⟩
theorem vh (hc:X.calm=true) {N:List Str} (S:Sc X N) {x:Str} {ksn G:List Str} {ks:List Nat} {elt iter:Expr} {ifs:List Expr} {px pos:Pos} {sc:Scope} {git:IT} {gc ge:E} (SC:ScU [x] ksn G sc)
  (hks:ks.map (fun k=>N.getD k "")=ksn) (hlt:∀ k∈ks,k<N.length) (hcell:∀ y∈ksn,X.env.scope.names.lookup y=some .cell)
  (he:SI X (.Name x px) iter git)
  (htst:∀ C fp s H W,Sc (cxU X [x] ksn sc C fp s H W) ([x]++ksn)->(∀ y∈G,Gb (cxU X [x] ksn sc C fp s H W) y)->Tst (cxU X [x] ksn sc C fp s H W) ifs gc)
  (helt:∀ C fp s H W,Sc (cxU X [x] ksn sc C fp s H W) ([x]++ksn)->(∀ y∈G,Gb (cxU X [x] ksn sc C fp s H W) y)->SE (cxU X [x] ksn sc C fp s H W) elt ge)
  (hs:∀ z,foldedSetIterable iter X.env z=pure z:=by intro _;rfl):SE X (.ListComp elt [⟨.Name x px,iter,ifs,0⟩] sc pos) (dF git ks gc ge) :=
 zW hc S rR SC hks hlt hcell he HN tg1 htst helt hs
theorem nW (hc:X.calm=true) {N:List Str} (S:Sc X N) {x:Str} {ksn G:List Str} {ks:List Nat} {elt iter:Expr} {px pos:Pos} {sc:Scope} {git:IT} {ge:E} (SC:ScU [x] ksn G sc)
  (hks:ks.map (fun k=>N.getD k "")=ksn) (hlt:∀ k∈ks,k<N.length) (hcell:∀ y∈ksn,X.env.scope.names.lookup y=some .cell)
  (he:SI X (.Name x px) iter git)
  (helt:∀ C fp s H W,Sc (cxU X [x] ksn sc C fp s H W) ([x]++ksn)->(∀ y∈G,Gb (cxU X [x] ksn sc C fp s H W) y)->SE (cxU X [x] ksn sc C fp s H W) elt ge)
  (hs:∀ z,foldedSetIterable iter X.env z=pure z:=by intro _;rfl):SE X (.ListComp elt [⟨.Name x px,iter,[],0⟩] sc pos) (comp git ks ge) :=
 vh hc S SC hks hlt hcell he (fun _ _ _ _ _ _ _=>.nil) helt hs
end
end ES
namespace ES
open PySem PySem.Spec PyProof.Rows L2 EV
unseal SE ST SW SA SS SSs SI
structure GC (X:Cx) (x:String) (d:D):Prop where
 ex:∃ v u,X.mg x=some u/\RelV v u/\∀ H,Rep X.K X.mg H v d
section
variable {X:Cx} {pos p:Pos} {x:String} {d:D} {e e2:Expr} {g:E}
theorem aL:∀ {ss:List String} {ts:List Tok} {its:List Value},its=(ss.zip ts).map (fun p=>Value.str (Str.ofString p.1) p.2)->ts.length=ss.length->Vals (ss.map fun s=>V.str (Str.ofString s)) its
 | [],_,_,e,_=>by subst e;exact .nil
 | s::r,[],_,_,h=>by simp at h
 | s::r,t::ts,_,e,h=>by
  subst e
  exact .cons ⟨t,rfl⟩ (aL (ts:=ts) rfl (by simpa using h))
theorem An (hI:∀ c∈cs,Isi X c) (ht:tyV X.mg dx=some t) (hu:Paired (fun (c:D) (u:Value)=>DI X.mg c=some u) cs us) (h:cE dx cs=.ok (.bl k)):PySem.W.kitAny X.K t us=some k:=by
 induction hu generalizing k with
 | nil=>cases h;rfl
 | @cons c u cs us hc hr ih =>
  unfold cE at h
  rcases iW (ds:=[dx,c]) with ⟨d',c',k',e0,e'⟩ | e'
  ·cases e0
   rw [e'] at h
   have h1:=hI c (.head _) dx k' t u e' ht hc
   unfold PySem.W.kitAny
   rw [h1]
   cases k' with
   | true=>cases h;rfl
   | false=>exact ih (fun c hc=>hI c (.tail _ hc)) h
  ·rw [e'] at h;cases h
theorem iH:∀ {cs:List D},(∃ k,cE d cs=.ok (.bl k))\/cE d cs=.bad
 | []=>.inl ⟨false,rfl⟩
 | c::r=>by
  unfold cE
  rcases iW (ds:=[d,c]) with ⟨_,_,k',_,e'⟩ | e'
  ·rw [e']
   cases k' with
   | true=>exact .inl ⟨true,rfl⟩
   | false=>exact iH (cs:=r)
  ·rw [e'];exact .inr rfl
theorem nZ:∀ {cs:List D} {xs:List V} {us:List Value},(∀ c∈cs,∃ n,c=.cls n\/c=.ty n)->Reps X.K X.mg H xs cs->Vals xs us->Paired (fun (c:D) (u:Value)=>DI X.mg c=some u) cs us
 | [],_,_,_,.nil,.nil=>.nil
 | c::cs,_,_,hc,.cons r rs,.cons v vs=>by
  refine .cons ?_ (nZ (fun c h=>hc c (.tail _ h)) rs vs)
  obtain ⟨n,rfl | rfl⟩:=hc c (.head _)
  ·cases r with | cls h=>cases v;exact h
  ·cases r;cases v;rfl
theorem ph:∀ {cs:List D} {k:Bool},cs≠[]->cE (.exc n) cs=.ok (.bl k)->af.contains n=true
 | [],_,h,_=>absurd rfl h
 | c::r,k,_,h=>by
  unfold cE at h
  rcases iW (ds:=[.exc n,c]) with ⟨_,_,k',e0,e'⟩ | e'
  ·cases e0;exact lL e'
  ·rw [e'] at h;cases h
theorem Dl (hcs:cs≠[]) (hk:∀ c∈cs,∃ n,c=.cls n\/c=.ty n) (hI:∀ c∈cs,Isi X c) (hE:i7 X):fJ X (.builtin "isinstance") (fun vs H Q=>∃ dx d,Reps X.K X.mg H vs [dx,.tup cs]/\cE dx cs=.ok d/\∀ v H',ay H H'->Rep X.K X.mg H' v d->Q v H'):=by
 intro pins s σ H xs us Q I rs ⟨dx,d,r,e,q⟩
 rcases iH (d:=dx) (cs:=cs) with ⟨k,e'⟩ | e'<;>rw [e'] at e<;>cases e
 obtain ⟨v,v',rfl,r1,r2⟩:=t9 r
 cases rs with
 | cons h1 h2 =>
  cases h2 with
  | cons h2 h3 =>
   cases h3
   rename_i u w
   have fin:∀ tk,EP X pins σ Q (.bool k) { s with toks:=tk }:=fun tk=>⟨.bl k,H,I.tok tk,rfl,q _ _ ↥20 (.bl k)⟩
   cases r2 with
   | @tup tp ys _ hq rr =>
    cases (show w=Value.ref tp from h2)
    obtain ⟨its,rv,⟨ot,g1,g2,nt,g3⟩,_⟩:=I.tuple hq
    obtain ⟨ct,dt,tt,slt⟩:=ot
    simp only at g2 g3
    subst g2 g3
    have ka:∀ t,tyV X.mg dx=some t->PySem.W.kitAny X.K t its=some k:=fun t ht=>An hI ht (nZ hk rr rv) e'
    cases r1 with
    | non=>cases (show u=Value.none from h1);exact PySem.W.kia_tup PySem.W.kitx_none I.kIn True.intro g1 (ka _ rfl) (fun z=>nomatch z) fin
    | bl y=>cases (show u=Value.bool y from h1);exact PySem.W.kia_tup PySem.W.kitx_bool I.kIn True.intro g1 (ka _ rfl) (fun z=>nomatch z) fin
    | int i=>obtain ⟨t,z⟩:=(show ∃ t,u=Value.int i t from h1);cases z;exact PySem.W.kia_tup PySem.W.kitx_int I.kIn True.intro g1 (ka _ rfl) (fun z=>nomatch z) fin
    | str y=>obtain ⟨t,z⟩:=(show ∃ t,u=Value.str y t from h1);cases z;exact PySem.W.kia_tup PySem.W.kitx_str I.kIn True.intro g1 (ka _ rfl) (fun z=>nomatch z) fin
    | @tup a ys ds hq rr =>
     cases (show u=Value.ref a from h1)
     obtain ⟨its',_,⟨o,q1,q2,_⟩,_⟩:=I.tuple hq
     exact PySem.W.kia_tup PySem.W.kitx_tuple I.kIn ⟨o,q1,q2⟩ g1 (ka _ rfl) (fun z=>nomatch z) fin
    | @lst a ys ds hq rr =>
     cases (show u=Value.ref a from h1)
     obtain ⟨its',_,⟨o,n,q1,q2,_⟩,_⟩:=I.list hq
     exact PySem.W.kia_tup PySem.W.kitx_list I.kIn ⟨o,q1,q2⟩ g1 (ka _ rfl) (fun z=>nomatch z) fin
    | @exc a C n hn hq =>
     cases (show u=Value.ref a from h1)
     exact PySem.W.kia_tup (hE a C n (ph hcs e') hn) I.kIn (I.hok a _ hq).1 g1 (ka _ hn) (fun z=>nomatch z) fin
    | _ =>
     cases cs with
     | nil=>exact absurd rfl hcs
     | cons c r=>obtain ⟨n,rfl | rfl⟩:=hk c (.head _)<;>cases e'
theorem rG:∀ {cs:List D},evs (cs.map con) δ=.ok cs
 | []=>rfl
 | c::r=>by rw [List.map_cons];unfold evs;rw [rG (cs:=r)];rfl
theorem wB (hcs:cs≠[]) (hk:∀ c∈cs,∃ n,c=.cls n\/c=.ty n) (hI:∀ c∈cs,Isi X c) (hE:i7 X) (G:Gb X "isinstance") (hm:X.mg "isinstance"=none) (ha:SE X e g) (hb:SE X e2 (kF (cs.map con)))
  (hs:starEach [e,e2] X.env=(false,eval e X.env)::starEach [e2] X.env:=by rfl) (hs2:starEach [e2] X.env=[(false,eval e2 X.env)]:=by rfl) (hpl:(backTo pos (starEach [e2] X.env)).any (·.1)=false:=by rfl) :
  SE X (.Call (.Name "isinstance" p) [e,e2] [] pos) (EV.call vw [g,con (.tup cs)]) :=
 PE.weak (j5 (Dl hcs hk hI hE) G.g hm PyProof.Rows.boot_isinstance (aj ha (aj hb dH hs2) hs) G.n G.d hs hpl) fun σ H Q ⟨δ,hσ,h⟩=>⟨δ,hσ,by
  cases r:g δ with
  | ok d =>
   have e1:evs [g,kF (cs.map con)] δ=.ok [d,.tup cs]:=by simp [evs,r,kF,rG,R.bind]
   have e2:evs [g,con (.tup cs)] δ=.ok [d,.tup cs]:=by simp [evs,r,con,R.bind]
   unfold EV.call at h
   rw [e2] at h
   rw [e1]
   refine fun vs H' s rs => ?_
   have h':RQ X σ H' (cE d cs) Q:=RQ.mono s h
   rcases iH (d:=d) (cs:=cs) with ⟨k,e'⟩ | e'
   ·rw [e'] at h';exact ⟨d,_,rs,e',h'⟩
   ·rw [e'] at h';exact False.elim h'
  | ex C =>
   have e1:evs [g,kF (cs.map con)] δ=.ex C:=by simp [evs,r,R.bind]
   have e2:evs [g,con (.tup cs)] δ=.ex C:=by simp [evs,r,R.bind]
   unfold EV.call at h
   rw [e2] at h
   rw [e1]
   exact h
  | bad =>
   have e2:evs [g,con (.tup cs)] δ=.bad:=by simp [evs,r,R.bind]
   unfold EV.call at h
   rw [e2] at h
   exact False.elim h⟩
end
section
variable {X:Cx} {x y:Str} {ksn:List Str} {sc:Scope} {C:Addr} {fp:List Addr} {s:Shared} {H:Hp} {f:List D->R D} {cn m:String} {F:List D->R D}
end
def rT:Stmt->List Stmt
 | .ClassDef _ _ _ b _ _ _ _ _ _ _=>b
 | _=>[]
end ES
namespace ES
open EV
theorem nN:∀ c∈([]:List D),Isi X c:=fun _ h=>nomatch h
theorem aY (h:Isi X c) (hs:∀ c∈cs,Isi X c):∀ c'∈c::cs,Isi X c':=fun c' hc=>(List.mem_cons.mp hc).elim (fun e=>e▸h) (hs c')
end ES
namespace ES
open PySem PySem.Spec PyProof.Rows L2 EV
unseal SE ST SW SA SS SSs SI
def ROp (X:Cx) (σ:L2.St) (H:Hp) (r:R (Option Int)) (Q:Option Int->Hp->Prop):Prop:=match r with
 | .ok o=>∀ H',ay H H'->Q o H'
 | .ex C=>∀ Ca,X.mg C=some (.ref Ca)->∀ H',ay H H'->ew X Ca σ H'
 | .bad=>False
def tPo (X:Cx) (g:Option E):TO:=fun σ H Q=>∃ δ,Stt X.K X.mg H σ δ/\ROp X σ H (part g δ) Q
@[irreducible] def SO (X:Cx) (e:Option Expr) (g:Option E):Prop:=PO X e (tPo X g)
unseal SO
section
variable {X:Cx} {tg e a:Expr} {lo hi:Option Expr} {g:E} {gl gu:Option E} {σ:L2.St} {H H1:Hp} {pos p2:Pos}
theorem PO.weak (h:PO X o t) (w:∀ σ H Q,t' σ H Q->t σ H Q):PO X o t':=fun pins s σ H Q I q=>h pins s σ H Q I (w σ H Q q)
theorem aG:SO X none none:=PO.weak yH fun σ H Q ⟨δ,hσ,q⟩=>q H ↥20
theorem aF (h:SE X e g):SO X (some e) (some g):=PO.weak (yG h) fun σ H Q ⟨δ,hσ,q⟩=>⟨δ,hσ,by
 simp only [EV.part] at q
 cases r:g δ with
 | ok d =>
  rw [r] at q
  cases d with
  | int i=>exact fun v H' s r=>by cases r;exact ⟨i,rfl,q H' s⟩
  | _=>exact False.elim q
 | ex C=>rw [r] at q;exact q
 | bad=>rw [r] at q;exact q⟩
theorem ROp.bind (h:RQ X σ H (r.bind f) Q):ROp X σ H r (fun o H'=>ay H H'/\RQ X σ H' (f o) Q):=by
 cases r with
 | ok d=>exact fun H' s=>⟨s,h.mono s⟩
 | ex C=>exact h
 | bad=>exact h
theorem ROp.to (h:ROp X σ H r Q) (g:∀ o H',ay H H'->Q o H'->Q' o H'):ROp X σ H r Q':=by
 cases r with
 | ok d=>exact fun H' s=>g d H' s (h H' s)
 | ex C=>exact h
 | bad=>exact h
theorem nB (rs:Reps X.K X.mg H xs ds) (l u:Option Int):Reps X.K X.mg H (wF xs l u) (EV.cut ds l u):=by
 unfold wF EV.cut
 rw [rs.length]
 exact (rs.drop _).take _
def rS (X:Cx):V->Option Int->Option Int->Hp->VK->Prop:=fun x l u H Q=>∃ dx d,Rep X.K X.mg H x dx/\oSl dx l u=.ok d/\∀ v H',ay H H'->Rep X.K X.mg H' v d->Q v H'
theorem Ih:SlR X (rS X):=by
 intro pins s σ H x v vl vu l u sl Q I rx hs pl pu ⟨dx,d,r,e,q⟩
 unfold oSl at e
 split at e
 ·split at e
  ·cases e
  ·rename_i hn
   cases e;cases r
   rename_i p xs hq rs
   refine Bu pins s σ H _ v vl vu l u sl Q I rx hs pl pu ⟨p,xs,rfl,hq,?_,fun p hp=>q _ _ (aQ hp _) (.tup (SqT.of aS) ((nB rs l u).mono (aQ hp _)))⟩
   rw [rs.length]
   exact hn
 ·cases e;cases r
  rename_i p xs hq rs
  exact yo pins s σ H _ v vl vu l u sl Q I rx hs pl pu ⟨p,xs,rfl,hq,fun p hp=>q _ _ (aQ hp _) (.lst (SqL.of aS) ((nB rs l u).mono (aQ hp _)))⟩
 ·cases e
theorem fT (ha:SE X a g) (hl:SO X lo gl) (hu:SO X hi gu):SE X (.Subscript a (.Slice lo hi none p2) pos) (slc g gl gu) :=
 PE.weak (nF Ih ha hl hu) fun σ H Q ⟨δ,hσ,q⟩=>⟨δ,hσ,(RQ.bind q).to fun x H1 _ ⟨s1,d,r1,q1⟩=>⟨δ,hσ.mono s1,(ROp.bind q1).to fun l H2 _ ⟨s2,q2⟩=>⟨δ,hσ.mono (s1.trans s2),(ROp.bind q2).to fun u H3 _ ⟨s3,q3⟩=>by
  have r3:=r1.mono (s2.trans s3)
  cases e:oSl d l u with
  | ok z=>rw [e] at q3;exact ⟨d,z,r3,e,q3⟩
  | ex C =>
   exfalso
   unfold oSl at e
   split at e
   ·split at e<;>cases e
   ·cases e
   ·cases e
  | bad=>rw [e] at q3;exact False.elim q3⟩⟩⟩
theorem CW (h:SE X e g):SI X tg e (itA g):=fun pins s σ H Q I ⟨δ,hσ,q⟩=>by
 unfold itA at q
 cases r:g δ with
 | ok d =>
  rw [r] at q
  cases d with
  | lst ds=>exact wm h pins s σ H Q I ⟨δ,hσ,by unfold itL;rw [r];exact q⟩
  | tup ds=>exact E2 h pins s σ H Q I ⟨δ,hσ,by unfold itT;rw [r];exact q⟩
  | _=>exact False.elim q
 | ex C=>exact wm h pins s σ H Q I ⟨δ,hσ,by unfold itL;rw [r] at q ⊢;exact q⟩
 | bad=>rw [r] at q;exact False.elim q
end
theorem Ap {P:String->Prop} (h0:P "MillError") (h1:P "NoSize") (h2:P "NoBits") (h3:P "NoParts") (h4:P "NoRank") (h5:P "NotFinite") (h6:P "NoWay") (h7:P "NoFlags") (h8:P "NoFraction") (h9:P "Unlike") (h10:P "Empty") (h11:P "NoLeft") (h12:P "NoText") (h13:P "NoRow") (h14:P "NoName") (h15:P "Stopped"):∀ n∈af,P n:=by
 intro n hn
 simp only [af,List.mem_cons,List.not_mem_nil,or_false] at hn
 rcases hn with rfl | rfl | rfl | rfl | rfl | rfl | rfl | rfl | rfl | rfl | rfl | rfl | rfl | rfl | rfl | rfl
 all_goals assumption
end ES
namespace ES
open PySem PySem.Spec PyProof.Rows L2 EV
unseal SE ST SW SA SS SSs SI SO
section
variable {X:Cx} {tg:Expr} {H:Hp} {a b c:Expr} {ga gb gc:E}
end
end ES
namespace ES
open PySem PySem.Spec PyProof.Rows L2 EV
unseal SE ST SW SA SS SSs SI SO
section
variable {X:Cx} {N:List Str} {H:Hp} {σ:L2.St} {δ:Dt} {os:Os}
theorem ye (h:Stt X.K X.mg H σ δ):Stt X.K X.mg H σ (δ.set i (some (.own ds))):=by
 refine ⟨by rw [List.length_set];exact h.1,fun j d e n => ?_⟩
 by_cases hj:j=i
 ·subst hj
  by_cases hl:j<δ.length
  ·rw [List.getElem?_set_self hl] at e
   have e':.own ds=d:=Option.some.inj (Option.some.inj e)
   exact absurd e'.symm (n ds)
  ·rw [List.getElem?_eq_none (by simp;omega)] at e
   cases e
 ·rw [List.getElem?_set_ne (Ne.symm hj)] at e
  exact h.2 j d e n
theorem kf (h:a∈fX os):hide (upd H a o) os=hide H os:=by
 funext b
 unfold hide
 by_cases hb:b∈fX os
 ·rw [if_pos hb,if_pos hb]
 ·rw [if_neg hb,if_neg hb]
  exact aM fun z=>hb (by rw [z];exact h)
theorem StO.write (S:StO X H σ δ os) (ha:(i,a)∈os) (r:Reps X.K X.mg ↥26 xs ds):StO X (upd H a (.lst xs)) σ (δ.set i (some (.own ds))) os:=by
 have eh:hide (upd H a (.lst xs)) os=hide H os:=kf (cL ha)
 obtain ⟨_,_,_,h2,h3,_⟩:=S.lst _ ha
 have hl:i<δ.length:=(List.getElem?_eq_some_iff.mp h3).1
 refine ⟨by rw [eh];exact ye S.st,fun p hp => ?_,fun j es e => ?_,S.inj⟩
 ·rw [eh]
  by_cases hj:p.1=i
  ·have e2:p.2=a:=by
    obtain ⟨_,_,_,q2,_,_⟩:=S.lst p hp
    rw [hj,h2] at q2
    exact (V.ref.inj (Option.some.inj (Option.some.inj q2))).symm
   refine ⟨xs,ds,by rw [e2];exact aS,by rw [hj,e2];exact h2,by rw [hj];exact List.getElem?_set_self hl,r⟩
  ·obtain ⟨ys,es,q1,q2,q3,q4⟩:=S.lst p hp
   have ne:p.2≠a:=fun z=>hj (S.inj p.1 i a (by rw [<- z];exact hp) ha)
   exact ⟨ys,es,by rw [aM ne];exact q1,q2,by rw [List.getElem?_set_ne (Ne.symm hj)];exact q3,q4⟩
 ·by_cases hj:j=i
  ·subst hj;exact ⟨a,ha⟩
  ·rw [List.getElem?_set_ne (Ne.symm hj)] at e
   exact S.own j es e
theorem StO.begin (S:StO X H σ δ os) (hi:i<σ.length) (hn:H a=none) (r:Reps X.K X.mg ↥26 xs ds) :
  StO X (upd H a (.lst xs)) (σ.set i (some (.ref a))) (δ.set i (some (.own ds))) ((i,a)::os.filter fun p=>p.1 != i)/\ay ↥26 (hide (upd H a (.lst xs)) ((i,a)::os.filter fun p=>p.1 != i)):=by
 have hd:i<δ.length:=by rw [<- S.st.1];exact hi
 have sm:ay ↥26 (hide (upd H a (.lst xs)) ((i,a)::os.filter fun p=>p.1 != i)):=fun b o e=>by
  have hb:b∉fX os:=fun z=>by rw [fQ z] at e;cases e
  rw [br hb] at e
  have ne:b≠a:=fun z=>by rw [z,hn] at e;cases e
  rw [br fun z => ?_,aM ne];exact e
  obtain ⟨p,hp,e2⟩:=dR z
  rcases List.mem_cons.mp hp with q | q
  ·exact ne (by rw [<- e2,q])
  ·exact hb (by rw [<- e2];exact cL (aO os i p q).1)
 have naos:∀ p∈os,p.2≠a:=fun p hp z=>by
  obtain ⟨_,_,q,_⟩:=S.lst p hp
  rw [z,hn] at q
  cases q
 refine ⟨⟨?_,fun p hp => ?_,fun j es e => ?_,fun j k b h1 h2 => ?_⟩,sm⟩
 ·have st:=S.st.mono sm
  refine ⟨by rw [List.length_set,List.length_set];exact st.1,fun j d e n => ?_⟩
  by_cases hj:j=i
  ·subst hj
   rw [List.getElem?_set_self hd] at e
   exact absurd (Option.some.inj (Option.some.inj e)).symm (n ds)
  ·rw [List.getElem?_set_ne (Ne.symm hj)] at e
   obtain ⟨v,e1,e2⟩:=st.2 j d e n
   exact ⟨v,by rw [List.getElem?_set_ne (Ne.symm hj)];exact e1,e2⟩
 ·rcases List.mem_cons.mp hp with q | q
  ·subst q
   exact ⟨xs,ds,aS,List.getElem?_set_self hi,List.getElem?_set_self hd,r.mono sm⟩
  ·obtain ⟨hp',ne⟩:=aO os i p q
   obtain ⟨ys,es,q1,q2,q3,q4⟩:=S.lst p hp'
   exact ⟨ys,es,by rw [aM (naos p hp')];exact q1,by rw [List.getElem?_set_ne (Ne.symm ne)];exact q2,by rw [List.getElem?_set_ne (Ne.symm ne)];exact q3,q4.mono sm⟩
 ·by_cases hj:j=i
  ·subst hj;exact ⟨a,.head _⟩
  ·rw [List.getElem?_set_ne (Ne.symm hj)] at e
   obtain ⟨b,hb⟩:=S.own j es e
   exact ⟨b,.tail _ (List.mem_filter.mpr ⟨hb,by simpa using hj⟩)⟩
 ·rcases List.mem_cons.mp h1 with q1 | q1<;>rcases List.mem_cons.mp h2 with q2 | q2
  ·cases q1;cases q2;rfl
  ·cases q1;exact absurd rfl (naos _ (aO os i _ q2).1)
  ·cases q2;exact absurd rfl (naos _ (aO os i _ q1).1)
  ·exact S.inj j k b (aO os i _ q1).1 (aO os i _ q2).1
theorem StO.pub (S:StO X H σ δ os) (i:Nat):∃ os',StO X H σ (EV.pub i δ) os'/\ay ↥26 (hide H os'):=by
 unfold EV.pub
 split
 ·rename_i ds e
  obtain ⟨a,ha⟩:=S.own i ds e
  obtain ⟨xs,ds',h1,h2,h3,h4⟩:=S.lst _ ha
  rw [e] at h3
  cases h3
  have sm:ay ↥26 (hide H (os.filter fun p=>p.1 != i)):=iJ fun p hp=>(aO os i p hp).1
  have hl:i<δ.length:=(List.getElem?_eq_some_iff.mp e).1
  have na:a∉fX (os.filter fun p=>p.1 != i):=fun z=>by
   obtain ⟨p,hp,e2⟩:=dR z
   obtain ⟨hp',ne⟩:=aO os i p hp
   exact ne (S.inj p.1 i a (by rw [<- e2];exact hp') ha)
  refine ⟨_,⟨?_,fun p hp => ?_,fun j es q => ?_,fun j k b h1 h2=>S.inj j k b (aO os i _ h1).1 (aO os i _ h2).1⟩,sm⟩
  ·have st:=S.st.mono sm
   refine ⟨by rw [List.length_set];exact st.1,fun j d q n => ?_⟩
   by_cases hj:j=i
   ·subst hj
    rw [List.getElem?_set_self hl] at q
    have q':D.lst ds=d:=Option.some.inj (Option.some.inj q)
    subst q'
    exact ⟨.ref a,h2,.lst (SqL.of (by rw [br na];exact h1)) (h4.mono sm)⟩
   ·rw [List.getElem?_set_ne (Ne.symm hj)] at q
    exact st.2 j d q n
  ·obtain ⟨hp',ne⟩:=aO os i p hp
   obtain ⟨ys,es,q1,q2,q3,q4⟩:=S.lst p hp'
   exact ⟨ys,es,q1,q2,by rw [List.getElem?_set_ne (Ne.symm ne)];exact q3,q4.mono sm⟩
  ·by_cases hj:j=i
   ·subst hj
    rw [List.getElem?_set_self hl] at q
    cases q
   ·rw [List.getElem?_set_ne (Ne.symm hj)] at q
    obtain ⟨b,hb⟩:=S.own j es q
    exact ⟨b,List.mem_filter.mpr ⟨hb,by simpa using hj⟩⟩
 ·exact ⟨os,S,ay.refl _⟩
variable {e:Expr} {g:E} {pos:Pos} {st:Stmt} {gs:S}
theorem Et (i:Nat) (h:SS X st gs):SS X st (ED i gs):=PS.weak h fun D σ H ⟨δ,os,S,q⟩=>by
 obtain ⟨os',S',sm⟩:=S.pub i
 exact ⟨_,os',S',OQ.mono sm q⟩
theorem t5 (C:Sx X N) (i:Nat) (hN:N[i]? = some x) (hx:Sto X x) (hsw:swapsWith (.List [] pl) (some (.Name x pos')) pos.line X.env=pure false:=by rfl):SS X (.Assign [.Name x pos'] (.List [] pl) pos) (qs i):=by
 intro pins s σ H D I ⟨δ,os,S,q⟩
 refine qj (i:=i) (by rw [C.sc.n];exact C.sc.nd) (by rw [C.sc.n];exact hN) hx.1 (vQ iu) hsw hx.2 pins s σ H D I ⟨Nat.zero_le _,fun p hp => ?_⟩
 have hi:i<σ.length:=by
  rw [I.len,C.sc.n]
  exact (List.getElem?_eq_some_iff.mp hN).1
 obtain ⟨S',sm⟩:=S.begin (i:=i) hi hp .nil
 exact q _ _ _ S' sm
theorem t6 (C:Sx X N) (i:Nat) (hN:N[i]? = some x) (he:SE X e g)
  (hbase:attributeBase (.Name x p1) "append" X.env (eval (.Name x p1) X.env)=eval (.Name x p1) X.env:=by rfl)
  (hfew:((backTo p3 (starEach [e] X.env)).all (fun x => !x.1)&&(backToKw p3 (keywordEach [] X.env)).all (fun x=>x.1.isSome)
   && decide ([e].length+([]:List Keyword).length+(if ([]:List Keyword).isEmpty then 0 else 1)<30))=true:=by rfl)
  (hline:(p2.endLine == p3.line)=true:=by rfl) (hs:starEach [e] X.env=[(false,eval e X.env)]:=by rfl)
  (hsw:swapsWith (.Call (.Attribute (.Name x p1) "append" p2) [e] [] p3) none pos.line X.env=pure false:=by rfl) :
  SS X (.Expr (.Call (.Attribute (.Name x p1) "append" p2) [e] [] p3) pos) (iw i g):=by
 have hm:x∈N:=List.mem_of_getElem? hN
 refine PS.weak (mv (yL PySem.F.plainAttrs_list PySem.F.slot_list_append PySem.F.type_list_append ly (lb (i:=i) (by rw [C.sc.n];exact hN) (C.sc.vis x hm) (C.sc.dbg x hm).1 (C.sc.dbg x hm).2) (fO (rY he) iu hs) hbase hfew hline hs (by rfl)) hsw) fun D σ H ⟨δ,os,S,q⟩ => ?_
 unfold iw eB at q
 split at q
 ·rename_i ds ei
  obtain ⟨a,ha⟩:=S.own i ds ei
  obtain ⟨xs,ds',h1,h2,h3,h4⟩:=S.lst _ ha
  rw [ei] at h3
  cases h3
  refine ⟨.ref a,h2,.inl ⟨rfl,xs,SqL.of h1⟩,δ,os,S,?_,?_⟩
  ·intro d ed
   unfold wM at q
   rw [ed] at q
   simp only at q
   split at q
   ·rename_i z;exact z.1
   ·exact False.elim q
  ·unfold wM at q
   cases r:g (view δ) with
   | ok d =>
    rw [r] at q
    simp only at q
    split at q
    ·rename_i z
     intro v H' S' sm rp
     obtain ⟨xs',ds',k1,k2,k3,k4⟩:=S'.lst _ ha
     rw [ei] at k3
     cases k3
     refine ⟨a,xs',v,rfl,rfl,k1,by rw [k4.length,sizeLine_eq];omega,?_⟩
     have S2:=S'.write ha (k4.append (.cons rp .nil))
     exact q _ _ _ S2 (by rw [kf (cL ha)];exact sm)
    ·exact False.elim q
   | ex C=>rw [r] at q;exact fun Ca hc H' s' st=>q σ H' s' st Ca hc
   | bad=>rw [r] at q;exact False.elim q
 ·exact False.elim q
end
end ES
namespace ES
open PySem PySem.Spec PyProof.Rows L2 EV
unseal SE ST SW SA SS SSs SI SO
section
variable {X:Cx} {N:List Str} {H:Hp} {σ:L2.St} {δ:Dt} {os:Os}
theorem StO.adopt (S:StO X H σ δ os) (sm:ay H Hc) (hi:i<σ.length) (hn:H a=none) (ha:Hc a=some (.lst xs)) (r:Reps X.K X.mg Hc xs ds) (fl:EV.D.flats ds=true) :
  StO X Hc (σ.set i (some (.ref a))) (δ.set i (some (.own ds))) ((i,a)::os.filter fun p=>p.1 != i)/\ay ↥26 (hide Hc ((i,a)::os.filter fun p=>p.1 != i)):=by
 have hd:i<δ.length:=by rw [<- S.st.1];exact hi
 have sm2:ay ↥26 (hide Hc ((i,a)::os.filter fun p=>p.1 != i)):=fun b o e=>by
  have hb:b∉fX os:=fun z=>by rw [fQ z] at e;cases e
  rw [br hb] at e
  have ne:b≠a:=fun z=>by rw [z,hn] at e;cases e
  rw [br fun z => ?_];exact sm b o e
  obtain ⟨p,hp,e2⟩:=dR z
  rcases List.mem_cons.mp hp with q | q
  ·exact ne (by rw [<- e2,q])
  ·exact hb (by rw [<- e2];exact cL (aO os i p q).1)
 have naos:∀ p∈os,p.2≠a:=fun p hp z=>by
  obtain ⟨_,_,q,_⟩:=S.lst p hp
  rw [z,hn] at q
  cases q
 have ls:Dy Hc ((i,a)::os.filter fun p=>p.1 != i):=fun b hb=>by
  obtain ⟨p,hp,e2⟩:=dR hb
  rcases List.mem_cons.mp hp with q | q
  ·exact ⟨xs,by rw [<- e2,q];exact ha⟩
  ·obtain ⟨ys,_,q1,_⟩:=S.lst p (aO os i p q).1
   exact ⟨ys,by rw [<- e2];exact sm _ _ q1⟩
 refine ⟨⟨?_,fun p hp => ?_,fun j es e => ?_,fun j k b h1 h2 => ?_⟩,sm2⟩
 ·have st:=S.st.mono sm2
  refine ⟨by rw [List.length_set,List.length_set];exact st.1,fun j d e n => ?_⟩
  by_cases hj:j=i
  ·subst hj
   rw [List.getElem?_set_self hd] at e
   exact absurd (Option.some.inj (Option.some.inj e)).symm (n ds)
  ·rw [List.getElem?_set_ne (Ne.symm hj)] at e
   obtain ⟨v,e1,e2⟩:=st.2 j d e n
   exact ⟨v,by rw [List.getElem?_set_ne (Ne.symm hj)];exact e1,e2⟩
 ·rcases List.mem_cons.mp hp with q | q
  ·subst q
   exact ⟨xs,ds,ha,List.getElem?_set_self hi,List.getElem?_set_self hd,gO (j8 ls) fl r⟩
  ·obtain ⟨hp',ne⟩:=aO os i p q
   obtain ⟨ys,es,q1,q2,q3,q4⟩:=S.lst p hp'
   exact ⟨ys,es,sm _ _ q1,by rw [List.getElem?_set_ne (Ne.symm ne)];exact q2,by rw [List.getElem?_set_ne (Ne.symm ne)];exact q3,q4.mono sm2⟩
 ·by_cases hj:j=i
  ·subst hj;exact ⟨a,.head _⟩
  ·rw [List.getElem?_set_ne (Ne.symm hj)] at e
   obtain ⟨b,hb⟩:=S.own j es e
   exact ⟨b,.tail _ (List.mem_filter.mpr ⟨hb,by simpa using hj⟩)⟩
 ·rcases List.mem_cons.mp h1 with q1 | q1<;>rcases List.mem_cons.mp h2 with q2 | q2
  ·cases q1;cases q2;rfl
  ·cases q1;exact absurd rfl (naos _ (aO os i _ q2).1)
  ·cases q2;exact absurd rfl (naos _ (aO os i _ q1).1)
  ·exact S.inj j k b (aO os i _ q1).1 (aO os i _ q2).1
variable {e c k v:Expr} {g gc gk gv:E} {pos:Pos} {st:Stmt} {body els:List Stmt} {gs gb ge:S}
theorem t7 (hc:ST X c gc) (ha:SSs X body gb) (hb:SSs X els ge):SS X (.If c body els pos) (mL gc gb ge) :=
 PS.weak (yF (Aa hc) ha hb) fun D σ H ⟨δ,os,S,q⟩=>⟨δ,os,S,FT.then q fun b H' S' s q'=>by
  cases b with
  | true=>exact Av ⟨δ,os,S',by simpa using q'⟩
  | false=>exact Aw ⟨δ,os,S',by simpa using q'⟩⟩
theorem vK (C:Sx X N) (i:Nat) (hN:N[i]? = some x) (hx:Sto X x) (h:SE X e g) (hsw:swapsWith e (some (.Name x pos')) pos.line X.env=pure false:=by rfl):SS X (.Assign [.Name x pos'] e pos) (fW i g) :=
 PS.weak (qj (i:=i) (by rw [C.sc.n];exact C.sc.nd) (by rw [C.sc.n];exact hN) hx.1 (rY h) hsw hx.2) fun D σ H ⟨δ,os,S,q⟩=>by
  unfold fW wL at q
  refine ⟨δ,os,S,fun d ed => ?_,?_⟩
  ·rw [ed] at q
   simp only at q
   split at q
   ·assumption
   ·exact False.elim q
  ·cases r:g (view δ) with
   | ok d =>
    rw [r] at q
    simp only at q
    split at q
    ·intro v H' S' s rp
     obtain ⟨S2,s2⟩:=S'.set (i:=i) rp
     exact q _ _ _ S2 (s.trans s2)
    ·exact False.elim q
   | ex C=>rw [r] at q;exact fun Ca hc H' s' st=>q σ H' s' st Ca hc
   | bad=>rw [r] at q;exact False.elim q
end
end ES
namespace ES
open PySem PySem.Spec PyProof.Rows L2 EV
unseal SE ST SW SA SS SSs SI SO
def RF (X:Cx) (σ:L2.St) (H:Hp) (r:R D) (Q:VK):Prop:=match r with
 | .ok (.lst rs)=>∀ a xs H',ay H H'->H a=none->H' a=some (.lst xs)->Reps X.K X.mg H' xs rs->EV.D.flats rs=true->Q (.ref a) H'
 | .ex C=>∀ Ca,X.mg C=some (.ref Ca)->∀ H',ay H H'->ew X Ca σ H'
 | _=>False
def FE (X:Cx) (e:Expr) (g:E):Prop:=PE X e fun σ H Q=>∃ δ,Stt X.K X.mg H σ δ/\RF X σ H (g δ) Q
def OQF (X:Cx) (D:Ends) (F:Hp):O->Prop
 | .rt (.lst rs)=>∀ a xs H,ay F H->F a=none->H a=some (.lst xs)->Reps X.K X.mg H xs rs->EV.D.flats rs=true->D.rt (.ref a) H
 | .rt _=>False
 | o=>OQ X D F o
def tSF (X:Cx) (g:S):TS:=fun D σ H=>∃ δ os,StO X H σ δ os/\OQF X D ↥26 (g δ)
@[irreducible] def SSF (X:Cx) (st:List Stmt) (g:S):Prop:=PSs X st (tSF X g)
unseal SSF
section
variable {X:Cx} {N:List Str}
theorem OQF.mono {D:Ends} {F F':Hp} {o:O} (s:ay F F') (h:OQF X D F o):OQF X D F' o:=by
 cases o with
 | rt d =>
  cases d with
  | lst rs=>exact fun a xs H s' hn ha r fl=>h a xs H (s.trans s') (by
    cases q:F a with
    | none=>rfl
    | some o=>rw [s a o q] at hn;cases hn) ha r fl
  | _=>exact False.elim h
 | nx δ=>exact OQ.mono (o:=.nx δ) s h
 | bk δ=>exact OQ.mono (o:=.bk δ) s h
 | ct δ=>exact OQ.mono (o:=.ct δ) s h
 | ex C δ=>exact OQ.mono (D:=D) (o:=.ex C δ) s h
 | mk C δ=>exact OQ.mono (D:=D) (o:=.mk C δ) s h
 | hx C δ=>exact OQ.mono (D:=D) (o:=.hx C δ) s h
 | bad=>exact False.elim h
variable {st:Stmt} {rest:List Stmt} {gs gr:S} {e:Expr} {g:E} {pos:Pos}
theorem qa {H Hc:Hp} {os:Os} (hn:∀ a∈fX os,Hc a=none):ay Hc (cY H Hc os):=fun b o q=>by
 unfold cY
 rw [if_neg fun z=>by rw [hn b z] at q;cases q]
 exact q
theorem lK (h:SS X st gs) (nr:∀ δ d,gs δ ≠ .rt d) (hr:SSF X rest gr):SSF X (st::rest) (seq gs gr):=PSs.weak (nE h hr) fun D σ H ⟨δ,os,S,h⟩=>⟨δ,os,S,by
 unfold seq at h
 cases q:gs δ with
 | nx δ' =>
  rw [q] at h
  exact fun σ' H' os' S' s'=>⟨δ',os',S',OQF.mono s' h⟩
 | rt d=>exact absurd q (nr δ d)
 | _=>rw [q] at h;exact OQ.lv (fun _ z=>nomatch z) h⟩
end
theorem j6:∀ δ d,raise C δ ≠ .rt d:=fun δ d z=>by cases z
theorem mz:∀ δ d,aK δ ≠ .rt d:=fun δ d z=>by cases z
theorem Cq (ha:∀ δ d,a δ ≠ .rt d) (hb:∀ δ d,b δ ≠ .rt d):∀ δ d,ifs c a b δ ≠ .rt d:=fun δ d z=>by
 unfold ifs ifO at z
 split at z
 ·exact ha δ d z
 ·exact hb δ d z
 ·cases z
 ·cases z
def spF (K:PySem.W.Frag) (mg:Str->Option Value) (f:List D->R D):Sp:=fun vs H Q E=>∃ ds,Reps K mg H vs ds/\match f ds with
 | .ok (.lst rs)=>∀ a xs H',ay H H'->H a=none->H' a=some (.lst xs)->Reps K mg H' xs rs->EV.D.flats rs=true->Q (.ref a) H'
 | .ex C=>∀ Ca,mg C=some (.ref Ca)->∀ H',ay H H'->E (.ref Ca) none H'
 | _=>False
theorem C1 {P:Program} {w:World} {K:PySem.W.Frag} {mg:Str->Option Value} {base:Heap} {x qual:Str} {st:Stmt} {f:Addr} {fd:FuncData} {N G ps:List Str} {k n m:Nat} {g:S}
  (F:Fun K x qual st f fd) (S:ScF N G ps (ae st)) (hn:ps.length=n) (hm:N.length=m)
  (hbody:∀ X:Cx,Room k (at5 X P w K mg base).A->Lp (at5 X P w K mg base)->Own (at5 X P w K mg base)->Pl (at5 X P w K mg base) N G->(at5 X P w K mg base).env.scope=ae st->SSF (at5 X P w K mg base) (aC st) g) :
  FnOk P w K mg base (CXF P w) (k+1) f fd ps (spF K mg (fn n m g)):=by
 obtain ⟨oc,od,kV,doc,pm,an,cdv,ct,osl,rfl,lk,hcd⟩:=F.ex
 have len:∀ {ds:List D},fn n m g ds ≠ .bad->ds.length=n:=fun {ds} h=>by
  unfold fn at h
  split at h
  ·assumption
  ·exact absurd rfl h
 refine C2 lk hcd S.fs (fun vs H Q E h => ?_) fun A outer s H vs Q E hr h => ?_
 ·obtain ⟨ds,rs,h⟩:=h
  rw [rs.length,hn]
  refine len fun z => ?_
  rw [z] at h
  exact h
 ·obtain ⟨ds,rs,h⟩:=h
  have hl:ds.length=n:=len fun z=>by rw [z] at h;exact h
  refine ⟨_,hbody (rQ (CXF P w) P w K mg base N qual (ae st) f cdv A outer s H E) hr ⟨PassesOwn.leaving,rfl⟩ iv ⟨⟨⟨rfl,S.fs.nd,fun y hy=>wb (S.loc y hy),S.dbg⟩,rfl⟩,fun y hy=>⟨S.loc y hy,.inl rfl⟩,fun y hy=>⟨S.glb y hy,(S.dbgG y hy).1,(S.dbgG y hy).2⟩⟩ rfl,_,[],StO.nil (kS rs hl hm) (ib rs),?_⟩
  rw [gZ]
  unfold fn at h
  rw [if_pos hl] at h
  cases e:g (EV.start n m ds) with
  | nx δ=>rw [e] at h;exact False.elim h
  | rt d =>
   rw [e] at h
   cases d with
   | lst rs=>exact h
   | _=>exact False.elim h
  | ex C δ=>rw [e] at h;exact fun σ H' s' _ Ca hc=>wq s' (h Ca hc H' s')
  | mk C δ=>rw [e] at h;exact fun σ H' s' Ca hc=>wy s' (h Ca hc H' s')
  | hx C δ=>rw [e] at h;exact fun σ H' s' _ Ca hc=>rJ s' (h Ca hc H' s')
  | bk δ=>rw [e] at h;exact False.elim h
  | ct δ=>rw [e] at h;exact False.elim h
  | bad=>rw [e] at h;exact False.elim h
structure FnF (P:Program) (w:World) (K:PySem.W.Frag) (mg:Str->Option Value) (base:Heap) (x:Str) (k:Nat) (f:List D->R D):Prop where
 ex:∃ fa fd ps,FnOk P w K mg base (CXF P w) k fa fd ps (spF K mg f)/\mg x=some (.ref fa)/\PySem.W.keepIn K (.ref fa)=true/\Binds K fd ps []
structure CalleeF (X:Cx) (x:Str) (f:List D->R D):Prop where
 ex:∃ k fa fd ps,FnOk X.prog X.w X.K X.mg X.base (CXF X.prog X.w) k fa fd ps (spF X.K X.mg f)/\Room k X.A/\X.mg x=some (.ref fa)/\PySem.W.keepIn X.K (.ref fa)=true/\Binds X.K fd ps []
theorem FnF.callee (F:FnF X.prog X.w X.K X.mg X.base x k f) (hr:Room j X.A) (h:k<=j):CalleeF X x f:=by
 obtain ⟨fa,fd,ps,a,b,c,d⟩:=F.ex
 exact ⟨k,fa,fd,ps,a,hr.mono h,b,c,d⟩
section
variable {X:Cx} {N:List Str} {x:Str} {f:List D->R D} {e:Expr} {es:List Expr} {gs:List E} {p pos:Pos} {g:E}
theorem Ew
  (F:FnOk X.prog X.w X.K X.mg X.base (CXF X.prog X.w) k fa fd ps (spF X.K X.mg f)) (hr:Room k X.A) (hb:Binds X.K fd ps []) (I:Inv X pins σ H s) (r:Vals vs us) (rs:Reps X.K X.mg H vs ds) (q:RF X σ H (f ds) Q) :
  wpAny ↥4 X.A (PySem.call (.ref fa) us) (EP X pins σ Q) X.xe s:=by
 have hsp:spF X.K X.mg f vs H Q (fun c _ H'=>∃ C Ca,f ds=.ex C/\X.mg C=some (.ref Ca)/\c=.ref Ca/\ay H H'):=⟨ds,rs,by
  cases e:f ds with
  | ok d =>
   rw [e] at q
   cases d with
   | lst rs=>exact q
   | _=>exact False.elim q
  | ex C=>exact fun Ca hc H' s'=>⟨C,Ca,rfl,hc,rfl,s'⟩
  | bad=>rw [e] at q;exact False.elim q⟩
 have hl:us.length=ps.length:=by rw [<- r.length];exact F.len _ _ _ _ hsp
 have hb':=hb s us I.kIn (by rw [List.append_nil];exact hl)
 rw [List.append_nil] at hb'
 refine wpAny_call (codeAny_mono (F.run X.A X.stack s H ⟨us,[]⟩ us vs _ _ hr I.env0 hb' r hsp) fun r s' hq => ?_)
 cases r with
 | error er =>
  obtain ⟨C',H',ea,rfl,FX,C,Ca,e1,hc,e2,s2⟩:=hq
  cases e2
  rw [e1] at q
  exact q C' hc H' s2 pins H s ea s' I FX
 | ok fl =>
  cases fl with
  | ret u=>exact I.after hq
  | next=>exact False.elim hq
  | brk=>exact False.elim hq
  | cont=>exact False.elim hq
theorem C5 (c:CalleeF X x f) (G:Gb X x) (ha:SA X (e::es) gs) (he:starEach (e::es) X.env=(false,eval e X.env)::starEach es X.env:=by rfl) (hpl:(backTo pos (starEach es X.env)).any (·.1)=false:=by rfl) :
  FE X (.Call (.Name x p) (e::es) [] pos) (EV.call f gs):=by
 obtain ⟨k,fa,fd,ps,F,hr,hm,hk,hb⟩:=c.ex
 intro pins s σ H Q I ⟨δ,hσ,h⟩
 refine wpAny_Call_Name_kw (dz I G.g hm ?_ G.d)
 have hA:RA X σ H (evs gs δ) (fun vs H1=>ay H H1/\∃ ds,Reps X.K X.mg H1 vs ds/\RF X σ H1 (f ds) Q):=by
  unfold EV.call at h
  cases r:evs gs δ with
  | ok ds =>
   rw [r] at h
   exact fun vs H1 sm rs=>⟨sm,ds,rs,by
    simp only [R.bind] at h
    cases q:f ds with
    | ok d =>
     rw [q] at h
     cases d with
     | lst rs=>exact fun a xs H' s' hn ha rr fl=>h a xs H' (sm.trans s') (by
       cases z:H a with
       | none=>rfl
       | some o=>rw [sm a o z] at hn;cases hn) ha rr fl
     | _=>exact False.elim h
    | ex C=>rw [q] at h;exact fun Ca hc H' s'=>h Ca hc H' (sm.trans s')
    | bad=>rw [q] at h;exact False.elim h⟩
  | ex C=>rw [r] at h;exact h
  | bad=>rw [r] at h;exact False.elim h
 refine PySem.W.callWith_K (h₀:=X.base) I.ok.mod.kin hk (thn (ha pos pins s σ H _ I ⟨δ,hσ,hA⟩) fun us s1 ⟨vs,H1,I1,r,sm,ds,rs,q⟩=>⟨I1.kIn,Ew F hr hb I1 r rs q⟩) he hpl
theorem iq (C:Sx X N) (i:Nat) {y:Str} {pos':Pos} (hN:N[i]? = some y) (hy:Sto X y) (h:FE X e g) (hsw:swapsWith e (some (.Name y pos')) pos.line X.env=pure false:=by rfl):SS X (.Assign [.Name y pos'] e pos) (eA i g):=by
 intro pins s σ H D I ⟨δ,os,S,q⟩
 have hi:i<σ.length:=by
  rw [I.len,C.sc.n]
  exact (List.getElem?_eq_some_iff.mp hN).1
 have hl:=S.lsts
 unfold eA yb at q
 refine wpAny_Assign_Name (thn (h _ s σ _ (fun v Hc=>∃ a xs rs,v=.ref a/\g δ=.ok (.lst rs)/\ay ↥26 Hc/\hide H os a=none/\Hc a=some (.lst xs)/\Reps X.K X.mg Hc xs rs/\EV.D.flats rs=true) (gY I hl) ⟨δ,S.st,?_⟩) fun u s1 ⟨v,Hc,I1,rv,a,xs,rs,ev,eg,sm,hn,ha,rr,fl⟩ => ?_) hsw
 ·cases r:g δ with
  | ok d =>
   rw [r] at q
   cases d with
   | lst rs=>exact fun a xs H' sm hn ha rr fl=>⟨a,xs,rs,rfl,rfl,sm,hn,ha,rr,fl⟩
   | _=>exact False.elim q
  | ex C=>rw [r] at q;exact fun Ca hc H' s'=>q σ H' s' (S.noOwn s') Ca hc
  | bad=>rw [r] at q;exact False.elim q
 ·obtain ⟨I2,hz⟩:=gX C.ex I hl I1
  rw [eg] at q
  subst ev
  have ss:=qa (H:=H) hz
  have na:a∉fX os:=fun z=>by rw [hz a z] at ha;cases ha
  have sH:ay H (cY H Hc os):=fun b o e=>by
   unfold cY
   by_cases hb:b∈fX os
   ·rw [if_pos hb];exact e
   ·rw [if_neg hb]
    exact sm b o (by rw [br hb];exact e)
  obtain ⟨S2,sm2⟩:=S.adopt (i:=i) sH hi (by rw [br na] at hn;exact hn) (ss a _ ha) (rr.mono ss) fl
  exact gL I2 (by rw [C.sc.n];exact C.sc.nd) (by rw [C.sc.n];exact hN) hy.1 rv (fun s2 I3=>⟨_,_,I3,q _ _ _ S2 sm2⟩) hy.2
end
end ES
namespace EV
def put2 (i j:Nat) (δ:Dt):D->O
 | .tup [a,b]=>.nx ((δ.set i (some a)).set j (some b))
 | _=>.bad
def boolsOf:List D->Option (List Bool)
 | []=>some []
 | .bl b::r=>(boolsOf r).map (b::·)
 | _=>none
end EV
namespace ES
open PySem PySem.Spec PyProof.Rows L2 EV
unseal SE ST SW SA SS SSs SI SO
section
variable {X:Cx} {N:List Str} {e:Expr} {g:E} {pos:Pos}
end
end ES
namespace ES
open PySem PySem.Spec PyProof.Rows L2 EV
unseal SE ST SW SA SS SSs SI SO
section
variable {prog:Program} {w:World} {A:Around} {R:Result->Shared->Prop} {I:Addr} {fp wr:List Addr} {n:Nat} {P:Nat->Value->Prop} {St:Nat->Heap->Prop}
end
section
variable {prog:Program} {w:World} {A:Around} {E:Value->Shared->Prop} {s:Shared} {l:Addr} {xs:Array (Int×Tok)}
end
section
variable {X:Cx} {N:List Str} {e:Expr} {g:E} {pos:Pos}
end
end ES
namespace ES
open PySem PySem.Spec PyProof.Rows L2 EV
unseal SE ST SW SA SS SSs SI SO
section
variable {X:Cx} {N:List Str} {e:Expr} {g:E} {pos:Pos}
theorem jM:∀ {xs:List V} {ds:List D} {bs:List Bool} {us:List Value},boolsOf ds=some bs->Reps X.K X.mg H xs ds->Vals xs us->us=bs.map Value.bool
 | _,[],_,_,e,.nil,.nil=>by cases e;rfl
 | _,.bl b::r,bs,_,e,.cons h t,.cons h' t'=>by
  cases h
  unfold boolsOf at e
  cases q:boolsOf r with
  | none=>rw [q] at e;cases e
  | some ms =>
   rw [q] at e
   have e':b::ms=bs:=Option.some.inj e
   subst e'
   cases h'
   rw [jM q t t',List.map_cons]
 | _,.non::_,_,_,e,_,_=>by cases e
 | _,.int _::_,_,_,e,_,_=>by cases e
 | _,.str _::_,_,_,e,_,_=>by cases e
 | _,.tup _::_,_,_,e,_,_=>by cases e
 | _,.lst _::_,_,_,e,_,_=>by cases e
 | _,.own _::_,_,_,e,_,_=>by cases e
 | _,.ty _::_,_,_,e,_,_=>by cases e
 | _,.cls _::_,_,_,e,_,_=>by cases e
 | _,.exc _::_,_,_,e,_,_=>by cases e
 | _,.ins _ _::_,_,_,e,_,_=>by cases e
end
end ES
namespace ES
open PySem PySem.Spec PyProof.Rows L2 EV
structure DA (K:PySem.W.Frag) (n:Str) (st:Stmt):Prop where
 ex:∃ f fd,PySem.W.nsIn K mainGlobals n=some (some (.ref f))/\Fun K n n st f fd
theorem Dh {K:PySem.W.Frag} {n:Str} {st:Stmt} {f:Addr} {oc:Value} {od an:Option Addr} {osl:Array ↥37} {kV doc pm cdv ct:Value} (a:PySem.W.nsIn K mainGlobals n=some (some (.ref f))) (l:K.lookup f=some ⟨oc,od,.func (PySem.W.fnOf n n (eJ st) (aC st) (ae st) .none kV doc pm an cdv ct),osl⟩)
  (c:PySem.W.codeIn K cdv n=true) (k:PySem.W.keepIn K (.ref f)=true):DA K n st:=⟨_,_,a,ro l c k⟩
theorem DA.fn {P:Program} {w:World} {K:PySem.W.Frag} {h:Heap} {mg:Str->Option Value} {base:Heap} {n:Str} {st:Stmt} {N G ps:List Str} {k a m:Nat} {g:S}
  (q:DA K n st) (KX:K.In h) (GG:h.Ns mainGlobals mg) (S:ScF N G ps (ae st)) (hn:ps.length=a) (hm:N.length=m) (B:∀ {f:Addr} {fd:FuncData},Fun K n n st f fd->Binds K fd ps [])
  (hbody:∀ X:Cx,Room k (at5 X P w K mg base).A->Lp (at5 X P w K mg base)->Own (at5 X P w K mg base)->Pl (at5 X P w K mg base) N G->(at5 X P w K mg base).env.scope=ae st->SSs (at5 X P w K mg base) (aC st) g) :
  FnP P w K mg base n (k+1) (fn a m g):=by
 obtain ⟨f,fd,a,F⟩:=q.ex
 exact wo (rB F S hn hm hbody) F.kp (PySem.W.mg_of KX GG a) (B F)
theorem FnP.c (F:FnP X.prog X.w X.K X.mg X.base x k f) (hr:Room j X.A) (h:k<=j:=by decide):Callee X x f:=F.callee hr h
end ES
local macro_rules | `(tactic| walk_at "S")=>`(tactic| exact ⟨⟨rfl,rfl,rfl,by decide +kernel,by decide +kernel,by decide +kernel,by decide +kernel⟩,by decide +kernel,by decide +kernel,by decide +kernel,by decide +kernel⟩)
namespace EV
def DG:List Nat->Dt->List D->Option Dt
 | [],δ,[]=>some δ
 | i::is,δ,d::ds=>DG is (δ.set i (some d)) ds
 | _,_,_=>none
def oZ (is:List Nat) (δ:Dt):D->Option Dt
 | .tup ds=>DG is δ ds
 | _=>none
def qx:D->D->R D
 | .lst xs,.int k=>if 0<=k/\k<=1000/\xs.length*k.toNat<=100000 then .ok (.lst (List.replicate k.toNat xs).flatten) else .bad
 | _,_=>.bad
end EV
namespace ES
open PySem PySem.Spec PyProof.Rows L2 EV
unseal SE ST SW SA SS SSs SI SO
section
variable {X:Cx}
end
end ES
namespace ES
open PySem PySem.Spec PyProof.Rows L2 EV
unseal SE ST SW SA SS SSs SI SO
def gIs:List Nat->TGs
 | []=>Hy
 | i::is=>CY (lG i) (gIs is)
section
variable {X:Cx} {N:List Str} {e:Expr} {es:List Expr} {g:IT} {gb:S} {body:List Stmt} {is:List Nat} {pos:Pos}
theorem A1:PGs X [] (gIs []):=yJ
theorem nj (C:Sx X N) (i:Nat) (hi:N[i]? = some x) (hx:Sto X x) (h:PGs X es (gIs is)) (hs:(assignEach (.Name x p::es) X.env).map (·.2)=assign (.Name x p) X.env::(assignEach es X.env).map (·.2):=by rfl):PGs X (.Name x p::es) (gIs (i::is)) :=
 ue (j4 (i:=i) (by rw [C.sc.n];exact C.sc.nd) (by rw [C.sc.n];exact hi) hx.1 hx.2) h hs
theorem Fv:∀ {is:List Nat} {xs:List V} {ds:List D} {σ:L2.St} {δ δ2:Dt} {os:List (Nat×Addr)},StO X H σ δ os->Reps X.K X.mg ↥26 xs ds->DG is δ ds=some δ2->(∀ σ2 os2,StO X H σ2 δ2 os2->ay ↥26 (hide H os2)->Q σ2 H)->gIs is xs σ H Q
 | [],xs,ds,σ,δ,δ2,os,S,r,e,q=>by
  cases r with
  | nil=>cases e;exact ⟨rfl,q _ _ S ↥20⟩
  | cons _ _=>cases e
 | i::is,xs,ds,σ,δ,δ2,os,S,r,e,q=>by
  cases r with
  | nil=>cases e
  | cons ra rr =>
   obtain ⟨S2,s2⟩:=S.set (i:=i) ra
   exact ⟨_,_,rfl,Fv S2 (rr.mono s2) e fun σ2 os2 S3 s3=>q σ2 os2 S3 (s2.trans s3)⟩
end
end ES
namespace ES
open PySem PySem.Spec PyProof.Rows L2 EV
section
variable {X:Cx} {N G:List Str} {e e1 e2 e3 e4:Expr} {es:List Expr} {g g1 g2 g3 g4:E} {gs:List E} {x:Str} {p pos:Pos} {f:List D->R D}
theorem Pl.v (P:Pl X N G) (i:Nat) (h:N[i]? = some x:=by rfl):SE X (.Name x pos) (var i):=fh P.sc i h
theorem Pl.w (P:Pl X N G) (i:Nat) (h:G[i]? = some x:=by rfl):Gb X x:=P.gb _ (mG i h)
theorem Pl.set (P:Pl X N G) (i:Nat) (h:SE X e g) (hN:N[i]? = some x:=by rfl) (hsw:swapsWith e (some (.Name x p)) pos.line X.env=pure false:=by rfl):SS X (.Assign [.Name x p] e pos) (assign i g):=Bw P.toSx i hN (P.sto _ (mG i hN)) h hsw
theorem Pl.ret (P:Pl X N G) (h:SE X e g):SS X (.Return (some e) pos) (ret g):=Es P.toSx h
theorem Pl.if_ {c:Expr} {gc:E} {body els:List Stmt} {gb ge:S} (P:Pl X N G) (hc:ST X c gc) (ha:SSs X body gb) (hb:SSs X els ge):SS X (.If c body els pos) (ifs gc gb ge):=Ii P.toSx hc ha hb
theorem Pl.y {j} (P:Pl X N G) (i:Nat) (h:N[i]? = some x:=by rfl):SE X (.Subscript (.Name x p1) (.Constant (.int k) j p2) pos) (bin oIx (var i) (con (.int k))):=nU (fh P.sc i h) ag
theorem Pl.call (P:Pl X N G) (i:Nat) (c:Callee X x f) (ha:SA X (e::es) gs) (h:G[i]? = some x:=by rfl) (he:starEach (e::es) X.env=(false,eval e X.env)::starEach es X.env:=by rfl) (hpl:(backTo pos (starEach es X.env)).any (·.1)=false:=by rfl) :
  SE X (.Call (.Name x p) (e::es) [] pos) (EV.call f gs):=rL c (P.gb _ (mG i h)) ha he hpl
theorem a1 (h1:SE X e1 g1) (s1:starEach [e1] X.env=(false,eval e1 X.env)::starEach [] X.env:=by rfl):SA X [e1] [g1]:=aj h1 dH s1
theorem a2 (h1:SE X e1 g1) (h2:SE X e2 g2) (s1:starEach [e1,e2] X.env=(false,eval e1 X.env)::starEach [e2] X.env:=by rfl) (s2:starEach [e2] X.env=(false,eval e2 X.env)::starEach [] X.env:=by rfl):SA X [e1,e2] [g1,g2]:=aj h1 (aj h2 dH s2) s1
theorem a3 (h1:SE X e1 g1) (h2:SE X e2 g2) (h3:SE X e3 g3) (s1:starEach [e1,e2,e3] X.env=(false,eval e1 X.env)::starEach [e2,e3] X.env:=by rfl) (s2:starEach [e2,e3] X.env=(false,eval e2 X.env)::starEach [e3] X.env:=by rfl) (s3:starEach [e3] X.env=(false,eval e3 X.env)::starEach [] X.env:=by rfl):SA X [e1,e2,e3] [g1,g2,g3]:=aj h1 (aj h2 (aj h3 dH s3) s2) s1
end
end ES
local macro_rules | `(tactic| walk_at "C")=>`(tactic| exact ⟨rfl,by decide +kernel,by decide +kernel,by decide +kernel,by decide +kernel,by decide +kernel,by decide +kernel,by decide +kernel,by decide +kernel,by decide +kernel⟩)
namespace ES
open PySem PySem.Spec PyProof.Rows L2 EV
unseal SE ST SW SA SS SSs SI SO
theorem Ez (a:Int) (t:Tok) (l:Addr) (xs:Array Value) (n:Nat) (d1:Option Addr) (s1:Array ↥37) :
  Meets (Builtin.«int.__rmul__» ⟨[.int a t,.ref l],[]⟩) (fun _ R s=>s.heap.get? l=some { cls:=.type "list",dict:=d1,data:=.seq xs n,slots:=s1 }/\R (.ok (.ret .notImplemented)) s) :=
 .of_wp fun prog w A R s h=>by
  obtain ⟨hp,g,dd,tk,os⟩:=s
  obtain ⟨ha,h⟩:=h
  wp_walk using AutoSeq1.wpAny_loadPart' ha
  exact ⟨_,rfl,h⟩
theorem Jy (l:Addr) (xs:Array Value) (n:Nat) (k:Int) (t:Tok) (d1:Option Addr) (s1:Array ↥37) (h1:¬ (!Builtin.List.listFitsIndex k)=true) (h2:¬ xs.size*k.toNat>(2^63 - 1) / 8) (h3:¬ Builtin.List.listTooLong (xs.size*k.toNat)=true)
  (h4:¬ (List.foldl (fun x1 x2=>x1++x2) #[] (List.replicate (if xs.isEmpty=true then 0 else k.toNat) xs)).size>sizeLine) :
  Meets (Builtin.«list.__mul__» ⟨[.ref l,.int k t],[]⟩) (fun _ R s=>s.heap.get? l=some { cls:=.type "list",dict:=d1,data:=.seq xs n,slots:=s1 } /\
   R (.ok (.ret (Value.ref s.heap.objs.size))) { s with heap:=s.heap.push { cls:=.type "list",data:=.seq (List.foldl (fun x1 x2=>x1++x2) #[] (List.replicate (if xs.isEmpty=true then 0 else k.toNat) xs)) } }) :=
 .of_wp fun prog w A R s h=>by
  obtain ⟨hp,g,dd,tk,os⟩:=s
  obtain ⟨ha,h⟩:=h
  wp_walk using AutoSeq1.wpAny_loadPart' ha
  show wpAny _ _ (ite _ _ _) _ _ _
  rw [if_neg h4]
  wp_walk
  exact ⟨_,rfl,h⟩
theorem jY {K:PySem.W.Frag} {mg:Str->Option Value} {H:Hp} {xs:List V} {ds:List D} (r:Reps K mg H xs ds):∀ k:Nat,Reps K mg H (List.replicate k xs).flatten (List.replicate k ds).flatten
 | 0=>.nil
 | k+1=>by
  rw [List.replicate_succ,List.replicate_succ,List.flatten_cons,List.flatten_cons]
  exact r.append (jY r k)
section
variable {X:Cx} {pos:Pos} {a b:Expr} {ga gb:E}
theorem ET:i8 qx:=fun x y C z=>by unfold qx at z;split at z<;>first | cases z | exact b0 z
theorem yT:OpR X (binaryOp .Mult) (rD X qx):=by
 intro pins s σ H x y v u Q I rx ry ⟨dx,dy,d,r1,r2,e,q⟩
 unfold qx at e
 split at e
 ·rename_i xs' k
  split at e
  ·rename_i hz
   cases e
   cases r1 with
   | @lst l xs _ hH rr =>
    cases r2
    cases rx
    obtain ⟨t,rfl⟩:=ry
    obtain ⟨its,r,⟨⟨c1,d1,t1,s1⟩,n,e,g1,g2,g3⟩,_⟩:=I.list hH
    simp only at g1 g2 g3
    subst g1 g2 g3
    have hl:=r.length
    have hl':=rr.length
    have hsz:xs.length*k.toNat<=sizeLine:=by rw [hl'];exact Nat.le_trans hz.2.2 (by rw [sizeLine_eq];decide)
    have hlen:its.toArray.size*k.toNat<=sizeLine:=by rw [List.size_toArray,<-hl];exact hsz
    have hcap:¬ its.toArray.size*k.toNat>(2^63 - 1) / 8:=by
     have:(sizeLine:Nat)<=(2^63 - 1) / 8:=by decide
     omega
    have hfit:¬ (!Builtin.List.listFitsIndex k)=true:=by
     rw [fitsIndex_both ⋯ ⋯]
     exact Bool.false_ne_true
    have hlong:¬ Builtin.List.listTooLong (its.toArray.size*k.toNat)=true:=by
     rw [uH hlen]
     exact Bool.false_ne_true
    have hnew:List.foldl (fun x1 x2=>x1++x2) #[] (List.replicate (if its.toArray.isEmpty=true then 0 else k.toNat) its.toArray)=(List.replicate k.toNat its).flatten.toArray:=by
     have f0:∀ m:Nat,List.foldl (fun x1 x2=>x1++x2) #[] (List.replicate m its.toArray)=(List.replicate m its).flatten.toArray:=fun m=>by
      have:=foldl_rep its m []
      rw [List.nil_append] at this
      exact this
     rw [f0]
     cases its with
     | nil=>simp
     | cons a r'=>rw [if_neg ↥19]
    have hbig:¬ (List.foldl (fun x1 x2=>x1++x2) #[] (List.replicate (if its.toArray.isEmpty=true then 0 else k.toNat) its.toArray)).size>sizeLine:=by
     rw [hnew,List.size_toArray,len_rep,Nat.mul_comm]
     rw [List.size_toArray] at hlen
     omega
    refine wpAny_binaryOp_repeat_ref (T:="list") (U:="int") ↥0 ⟨_,e,rfl⟩ (fun s'=>typeIs_int s' k t) noFill_list_mul F.fills_int_mul F.slot_int_rmul repeat_list F.slot_int_index.lookup
     (call_meets F.slot_int_rmul (typeIs_int s k t) F.entry_int_rmul (F.args_int_rmul_2 _ _) (Ez k t l its.toArray n _ _)
      ⟨e,rfl,⟨_,e,rfl⟩,call_meets F.slot_list_mul ⟨_,e,rfl⟩ F.entry_list_mul (F.args_list_mul_2 _ _) (Jy l its.toArray n k t _ _ hfit hcap hlong hbig) ⟨e,?_⟩⟩)
    rw [hnew]
    exact ⟨.ref _,_,I.lnew (t':=s.toks) (r.rep k.toNat) (by rw [len_rep,Nat.mul_comm];exact hsz),rfl,q _ _ (aQ I.fresh _) (.lst (SqL.of aS) ((jY rr k.toNat).mono (aQ I.fresh _)))⟩
  ·cases e
 ·cases e
theorem C9 (ha:SE X a ga) (hb:SE X b gb):SE X (.BinOp a .Mult b pos) (EV.bin qx ga gb):=jk ET yT ha hb
end
end ES
namespace EV
end EV
namespace ES
open PySem PySem.Spec PyProof.Rows L2 EV
unseal SE ST SW SA SS SSs SI SO
section
variable {X:Cx} {pos:Pos} {a b:Expr} {ga gb:E}
end
end ES
namespace EV
def wG (x:PySem.Str) (lo hi:Option Int):PySem.Str:=⟨(cut x.cps.toList lo hi).toArray⟩
def iz:D->Option Int->Option Int->R D
 | .str x,lo,hi=>if x.cps.size<=1000000 then .ok (.str (wG x lo hi)) else .bad
 | _,_,_=>.bad
def oG (a:E) (lo hi:Option E):E:=fun δ=>(a δ).bind fun d=>(part lo δ).bind fun l=>(part hi δ).bind fun h=>iz d l h
theorem gi:oG a lo hi δ=(a δ).bind fun d=>(part lo δ).bind fun l=>(part hi δ).bind fun h=>iz d l h:=rfl
theorem um (h:x.cps.size<=1000000):iz (.str x) lo hi=.ok (.str (wG x lo hi)):=by unfold iz;simp only;rw [if_pos h]
theorem aN:part (some e) δ=(e δ).bind fun d=>match d with | .int i=>.ok (some i) | _=>.bad:=rfl
end EV
namespace ES
open PySem PySem.Spec PyProof.Rows L2 EV
unseal SE ST SW SA SS SSs SI SO
section
variable {X:Cx} {pos p p2:Pos} {a e:Expr} {g:E} {lo hi:Option Expr} {gl gu:Option E}
theorem BB (h:d<=n) (i:Option Int):sIx n d i<=n:=by
 cases i with
 | none=>exact h
 | some j =>
  unfold sIx
  by_cases q:j<0
  ·simp only [if_pos q];omega
  ·simp only [if_neg q];exact Nat.min_le_right _ _
theorem zI (n:Nat) (l u:Option Int):PySem.Builtin.Str.strSliceIndices l u 1 n=(List.range (sIx n n u - sIx n 0 l)).map (sIx n 0 l + ·):=by
 rw [<- PySem.sliceRange_one]
 unfold PySem.Builtin.Str.strSliceIndices
 simp only [show (1:Int)>0 by decide,if_true]
 congr 1
 ·cases l with
  | none=>rfl
  | some i=>simp only [sIx];by_cases h:i<0<;>simp only [h,if_true,if_false]<;>omega
 ·cases u with
  | none=>rfl
  | some i=>simp only [sIx];by_cases h:i<0<;>simp only [h,if_true,if_false]<;>omega
theorem p8 (x:Str) (l u:Option Int):PySem.Txt.slice x l u=wG x l u:=by
 have hn:x.cps.toList.length=x.length:=by simp [Str.length]
 have h1:=BB (Nat.le_refl x.length) u
 unfold PySem.Txt.slice wG EV.cut
 rw [zI,PySem.pick_run,hn]
 split
 ·rename_i h
  simp only [beq_self_eq_true,Bool.true_and,List.length_map,List.length_range,beq_iff_eq] at h
  by_cases z:x.length=0
  ·have:x.cps.toList=[]:=List.length_eq_zero_iff.mp (by rw [hn];exact z)
   rw [this]
   simp only [List.drop_nil,List.take_nil]
   cases x with | mk c=>simp at this;rw [this]
  ·have e0:sIx x.length 0 l=0:=⋯
   rw [e0,List.drop_zero,List.take_of_length_le (by rw [hn];omega)]
 ·rfl
def rSS (X:Cx):V->Option Int->Option Int->Hp->VK->Prop:=fun x l u H Q=>∃ dx d,Rep X.K X.mg H x dx/\iz dx l u=.ok d/\∀ v H',ay H H'->Rep X.K X.mg H' v d->Q v H'
theorem Ig:SlR X (rSS X):=by
 intro pins s σ H x v vl vu l u sl Q I rx hs pl pu ⟨dx,d,r,e,q⟩
 cases dx with
 | str z =>
  unfold iz at e
  simp only at e
  split at e
  ·rename_i hz
   cases e;cases r
   obtain ⟨t,rfl⟩:=rx
   have hsz:z.length<=sizeLine:=Nat.le_trans hz ↥0
   have fin:∀ t' k,EP X pins σ Q (.str (PySem.Txt.slice z l u) t') { s with toks:=k }:=fun t' k=>⟨.str (PySem.Txt.slice z l u),H,I.tok k,⟨_,rfl⟩,by rw [p8];exact q _ _ ↥20 (.str _)⟩
   have hl:=Nat.le_trans (PySem.Txt.slice_le z l u) hsz
   refine ⟨"str",_,F.slot_str_getitem.lookup,typeIs_str _ _ _,?_⟩
   cases pl with
   | none =>
    cases pu with
    | none=>exact wpAny_getItem_str_slice (l:=none) (u:=none) (st:=none) hs rfl (post_val_or_str ⟨hl,fin⟩)
    | int j uj=>exact wpAny_getItem_str_slice (l:=none) (u:=some (j,uj)) (st:=none) hs rfl (post_val_or_str ⟨hl,fin⟩)
   | int i ui =>
    cases pu with
    | none=>exact wpAny_getItem_str_slice (l:=some (i,ui)) (u:=none) (st:=none) hs rfl (post_val_or_str ⟨hl,fin⟩)
    | int j uj=>exact wpAny_getItem_str_slice (l:=some (i,ui)) (u:=some (j,uj)) (st:=none) hs rfl (post_val_or_str ⟨hl,fin⟩)
  ·cases e
 | _=>cases e
theorem dD (ha:SE X a g) (hl:SO X lo gl) (hu:SO X hi gu):SE X (.Subscript a (.Slice lo hi none p2) pos) (oG g gl gu) :=
 PE.weak (nF Ig ha hl hu) fun σ H Q ⟨δ,hσ,q⟩=>⟨δ,hσ,(RQ.bind q).to fun x H1 _ ⟨s1,d,r1,q1⟩=>⟨δ,hσ.mono s1,(ROp.bind q1).to fun l H2 _ ⟨s2,q2⟩=>⟨δ,hσ.mono (s1.trans s2),(ROp.bind q2).to fun u H3 _ ⟨s3,q3⟩=>by
  have r3:=r1.mono (s2.trans s3)
  cases e:iz d l u with
  | ok z=>rw [e] at q3;exact ⟨d,z,r3,e,q3⟩
  | ex C =>
   exfalso
   unfold iz at e
   split at e
   ·split at e<;>cases e
   ·cases e
  | bad=>rw [e] at q3;exact False.elim q3⟩⟩⟩
structure IsW (X:Cx) (n:String) (C:Addr):Prop where
 mg:X.mg n=some (.ref C)
 cl:Cls X.K C
 ha:PySem.W.findIn X.K (.ref C) "__class__"=some (some (.builtin "object.__class__"))
 hn:PySem.W.specialIn X.K (.builtin "object.__class__") "__get__"=some (some (.builtin "getset_descriptor.__get__"))
 htk:PySem.W.takesIn X.K (.builtin "object.__class__")=some true
 hm:PySem.W.mroIn X.K C ↥39=some true
 kit:PySem.W.kitOne X.K (.ref C) (.ref C)=some true
end
end ES
namespace EV
def mS (f:PySem.Str->D->R D) (a b:E):E:=fun δ=>(a δ).bind fun d=>match d with | .str z=>(b δ).bind (f z) | _=>.bad
def wJ:List D->R D
 | [.int i]=>if nb i<=1900 then .ok (.str (toString i)) else .bad
 | _=>.bad
def zf (x:PySem.Str) (i:Int):PySem.Str:=if i<=x.cps.size then x else ⟨(List.replicate (i.toNat - x.cps.size) 48).toArray++x.cps⟩
def fb (x:PySem.Str):D->R D
 | .int i=>if 0<=i/\i<=100000/\x.cps[0]? ≠ some 43/\x.cps[0]? ≠ some 45 then .ok (.str (zf x i)) else .bad
 | _=>.bad
def jh:D->D->R D
 | .str x,.int n=>if x.cps.size=1 /\ -100000<=n/\n<=100000 then .ok (.str ⟨(List.replicate n.toNat (x.cps.getD 0 0)).toArray⟩) else .bad
 | _,_=>.bad
theorem gK:mS f a b δ=(a δ).bind fun d=>match d with | .str z=>(b δ).bind (f z) | _=>.bad:=rfl
end EV
namespace ES
open PySem PySem.Spec PyProof.Rows L2 EV
open Builtin Builtin.Str Builtin.Int in
theorem mB (h:n<=100000):tooLong n=false:=by
 unfold tooLong
 exact decide_eq_false (by have:sizeLine=16777216:=rfl;omega)
unseal SE ST SW SA SS SSs SI SO
section
variable {X:Cx} {pos:Pos} {a b:Expr} {ga gb:E}
theorem ER:NoX wJ:=fun ds C z=>by unfold wJ at z;split at z<;>first | cases z | exact b0 z
theorem Fi:fJ X (.type "str") (rC X wJ):=by
 intro pins s σ H xs us Q I rs ⟨ds,d,r,e,q⟩
 unfold wJ at e
 split at e
 ·rename_i i
  split at e
  ·rename_i hz
   cases e
   obtain ⟨v,rfl,r1⟩:=mq r
   cases r1
   refine lR pins s σ H _ us Q I rs ⟨i,rfl,?_,q _ _ ↥20 (.str _)⟩
   unfold nb at hz
   split at hz
   ·rename_i z;subst z;decide
   ·omega
  ·cases e
 ·cases e
def rM (X:Cx) (f:Str->D->R D):V->List V->Hp->VK->Prop:=fun x vs H Q=>∃ z v dy d,x=.str z/\vs=[v]/\Rep X.K X.mg H v dy/\f z dy=.ok d/\∀ w H',ay H H'->Rep X.K X.mg H' w d->Q w H'
def DK (f:Str->D->R D):Prop:=∀ x y C,f x y ≠ .ex C
theorem kq {f:Str->D->R D} {name:Str} {id:String} {apos cpos:Pos} (nx:DK f) (slot:Slot "str" name id) (hty:typeOf (.builtin id)=pure (.type "method_descriptor")) (hm:MtR X id (rM X f)) (ho:SE X a ga) (ha:SE X b gb)
  (hbase:attributeBase a name X.env (eval a X.env)=eval a X.env:=by rfl)
  (hfew:((backTo cpos (starEach [b] X.env)).all (fun x => !x.1)&&(backToKw cpos (keywordEach [] X.env)).all (fun x=>x.1.isSome)
   && decide ([b].length+([]:List Keyword).length+(if ([]:List Keyword).isEmpty then 0 else 1)<30))=true:=by rfl)
  (hline:(apos.endLine == cpos.line)=true:=by rfl) (hs:starEach [b] X.env=[(false,eval b X.env)]:=by rfl) :
  SE X (.Call (.Attribute a name apos) [b] [] cpos) (mS f ga gb):=by
 refine PE.weak (yL F.plainAttrs_str slot hty hm ho (fO ha iu hs) hbase hfew hline hs (by rfl)) fun σ H Q ⟨δ,hσ,h⟩=>⟨δ,hσ,(RQ.bind h).to fun x H1 s1 ⟨_,dx,r1,q1⟩ => ?_⟩
 cases dx with
 | str z =>
  cases r1
  refine ⟨rfl,δ,hσ.mono s1,(RQ.bind q1).to fun y H2 s2 ⟨_,dy,r2,q2⟩ => ?_⟩
  cases e:f z dy with
  | ok d=>rw [e] at q2;exact ⟨z,y,dy,d,rfl,rfl,r2,e,q2⟩
  | ex C=>exact absurd e (nx z dy C)
  | bad=>rw [e] at q2;exact False.elim q2
 | _=>exact False.elim q1
theorem qE:DK fb:=fun x y C z=>by unfold fb at z;split at z<;>first | cases z | exact b0 z
theorem DL (h1:x.cps[0]? ≠ some 43) (h2:x.cps[0]? ≠ some 45):Txt.zfill x i=zf x i:=by
 unfold Txt.zfill zf
 show (if i<=(x.cps.size:Int) then x else _)=_
 split
 ·rfl
 ·unfold zfilled
  split
  ·rename_i z;exact absurd z h1
  ·rename_i z;exact absurd z h2
  ·show Builtin.Str.padded x (i.toNat - x.cps.size) 0 48=_
   unfold Builtin.Str.padded
   simp
theorem BZ (h0:0<=i) (h1:i<=100000):PadOk i=true:=by
 unfold PadOk fitsSsize
 have a:¬ i < -(2^63:Int):=⋯
 have b:¬ i>=2^63:=⋯
 rw [decide_eq_false a,decide_eq_false b,mB ⋯]
 rfl
theorem nL:MtR X "str.zfill" (rM X fb):=by
 intro pins s σ H x vs v us Q I rx rv h
 obtain ⟨z,w,dy,d,rfl,rfl,r,e,q⟩:=h
 unfold fb at e
 split at e
 ·rename_i i
  split at e
  ·rename_i hc
   cases e
   cases r
   obtain ⟨t,rfl⟩:=rx
   obtain ⟨u,rfl,t',rfl⟩:=vals1 rv
   refine SC.zfill (BZ hc.1 hc.2.1) fun t' k => ?_
   rw [DL hc.2.2.1 hc.2.2.2]
   exact ⟨.str _,H,I.tok _,⟨_,rfl⟩,q _ _ ↥20 (.str _)⟩
  ·cases e
 ·cases e
theorem nS {a:Nat}:∀ (k:Nat) (acc:Array Nat),(List.replicate k #[a]).foldl (·++·) acc=acc++(List.replicate k a).toArray
 | 0,acc=>by simp
 | k+1,acc=>by
  rw [List.replicate_succ,List.foldl_cons,nS k,List.replicate_succ,Array.append_assoc]
  exact congrArg (acc++·) (by apply Array.ext';simp [-List.toArray_replicate])
theorem Cn:i8 jh:=fun x y C z=>by unfold jh at z;split at z<;>first | cases z | exact b0 z
theorem yS:OpR X (binaryOp .Mult) (rD X jh):=by
 intro pins s σ H x y v u Q I rx ry h
 obtain ⟨dx,dy,d,r1,r2,e,q⟩:=h
 unfold jh at e
 split at e
 ·rename_i z n
  split at e
  ·rename_i hc
   cases e
   cases r1
   cases r2
   obtain ⟨t,rfl⟩:=rx
   obtain ⟨t',rfl⟩:=ry
   have fin:∀ t' k (w:Str),w=⟨(List.replicate n.toNat (z.cps.getD 0 0)).toArray⟩->EP X pins σ Q (.str w t') { s with toks:=k }:=fun t' k w hw=>⟨.str w,H,I.tok k,⟨_,rfl⟩,by rw [hw];exact q _ _ ↥20 (.str _)⟩
   have zz:z=⟨#[z.cps.getD 0 0]⟩:=by
    cases z with
    | mk c =>
     have hs:c.size=1:=hc.1
     congr 1
     apply Array.ext
     ·simp [hs]
     ·intro i h1 h2
      have:i=0:=⋯
      subst this
      simp [Array.getD,hs]
   refine PySem.P.mul_str (by
    rw [decide_eq_false (show ¬ n < -(2^63:Int) by omega),decide_eq_false (show ¬ n>=2^63 by omega)];rfl) (fun h1 h2 => ?_) (fun h1 h2 => ?_) ?_
   ·have:(z.length:Int)=1:=by show ((z.cps.size:Nat):Int)=1;rw [hc.1];rfl
    rw [this]
    have:1<=(2^63 - 1) / n:=(Int.le_ediv_iff_mul_le ⋯).mpr ⋯
    omega
   ·have:z.length=1:=hc.1
    exact mB (by rw [this];omega)
   ·by_cases g:n<1
    ·rw [if_pos g]
     exact ⟨by decide,fin _ _ _ (by rw [show n.toNat=0 by omega];rfl)⟩
    ·rw [if_neg g]
     by_cases g2:n=1
     ·rw [if_pos (by simp [g2])]
      exact fin t s.toks z (by rw [g2];exact zz)
     ·rw [if_neg (by have:z.length=1:=hc.1;simp [g2,this])]
      have ef:∀ k:Nat,(List.replicate k z.cps).foldl (·++·) (#[]:Array Nat)=(List.replicate k (z.cps.getD 0 0)).toArray:=by
       intro k
       have zc:z.cps = #[z.cps.getD 0 0]:=congrArg Str.cps zz
       generalize z.cps.getD 0 0=a at zc ⊢
       rw [zc,nS]
       simp
      refine ⟨?_,fin _ _ _ (by rw [ef])⟩
      rw [ef]
      show (List.replicate n.toNat (z.cps.getD 0 0)).toArray.size<=sizeLine
      simp
      have:sizeLine=16777216:=rfl
      omega
  ·cases e
 ·cases e
theorem wA (ha:SE X a ga) (hb:SE X b gb):SE X (.BinOp a .Mult b pos) (EV.bin jh ga gb):=jk Cn yS ha hb
end
end ES
namespace EV
def Fh (goes:Nat->Bool) (a b:Bool) (l:List Nat):List Nat :=
 let lo:=if a then (l.takeWhile goes).length else 0
 let hi:=if b then l.length - ((l.drop lo).reverse.takeWhile goes).length else l.length
 (l.take hi).drop lo
end EV
namespace ES
open PySem PySem.Spec PyProof.Rows L2 EV
unseal SE ST SW SA SS SSs SI SO
section
variable {X:Cx} {pos:Pos} {a b:Expr} {ga gb:E}
end
end ES
namespace EV
def pf (l:List Nat):Bool:=l.all fun c=>decide (48<=c/\c<=57)
def wK:List D->R D
 | [.lst ds]=>match boolsOf ds with | some bs=>.ok (.bl (bs.all id)) | none=>.bad
 | _=>.bad
def asS:D->R (List D)
 | .str x=>if x.cps.size<=100000 then .ok (x.cps.toList.map fun c=>.str ⟨#[c]⟩) else .bad
 | _=>.bad
def itS (g:E):IT:=fun δ=>(g δ).bind asS
def iA:D->D->R D
 | .str x,.int n=>if x.cps.size*n.toNat<=100000/\x.cps.size<=100000 /\ -100000<=n/\n<=100000 then .ok (.str ⟨(List.replicate n.toNat x.cps.toList).flatten.toArray⟩) else .bad
 | _,_=>.bad
theorem sk (h:x.cps.size<=100000):asS (.str x)=.ok (x.cps.toList.map fun c=>.str ⟨#[c]⟩):=by unfold asS;simp only;rw [if_pos h]
end EV
namespace ES
open PySem PySem.Spec PyProof.Rows L2 EV
unseal SE ST SW SA SS SSs SI SO
section
variable {X:Cx} {pos:Pos} {tg e a b:Expr} {g ga gb:E}
theorem Cp:NoX wK:=fun ds C z=>by
 unfold wK at z
 split at z
 ·split at z<;>cases z
 ·cases z
theorem Dn (hc:X.calm=true):fJ X (.builtin "all") (rC X wK):=by
 intro pins s σ H xs us Q I rs ⟨ds,d,r,e,q⟩
 unfold wK at e
 split at e
 ·rename_i ds'
  cases hbs:boolsOf ds' with
  | none=>rw [hbs] at e;cases e
  | some bs =>
   rw [hbs] at e
   cases e
   obtain ⟨v,rfl,r1⟩:=mq r
   cases r1 with
   | @lst a ys _ hq rr =>
    obtain ⟨its,rv,pl,_⟩:=I.list hq
    have e1:=jM hbs rr rv
    cases rs with
    | cons h1 h2 =>
     cases h2
     cases h1
     have hl:=pl.isList
     rw [e1] at hl
     have hlt:a<s.heap.objs.size:=by obtain ⟨_,z,_⟩:=hl;exact Heap.lt_size z
     refine call_all_walk (wpAny_pyIter_list hl ⟨_,_,_,_,_,_,fun i=>(bs[i]?).getD false,rfl,Walks.list (A:=X.A.in1) (I.ok.hd hc) _ a (Nat.ne_of_lt hlt) (bs.map Value.bool).toArray,⟨⟨_,Heap.get?_push_size _ rfl,rfl,rfl⟩,hl.push _⟩,?_,fun h' tk hk => ?_⟩)
     ·intro i v s' Q' E' hP hQ
      have hQ':Q' ((bs[i]?).getD false) s':=hQ
      have hP':((bs.map Value.bool).toArray)[i]? = some v:=hP
      rw [List.getElem?_toArray,List.getElem?_map] at hP'
      cases hb:bs[i]? with
      | none=>rw [hb] at hP';cases hP'
      | some b =>
       rw [hb] at hP' hQ'
       cases hP'
       exact wpAny_truthy_bool hQ'
     ·have hold:∀ b o,s.heap.get? b=some o->h'.get? b=some o:=fun b o z=>hk b o (fun hm=>by
       rcases List.mem_cons.mp hm with e2 | hm
       ·exact absurd (e2▸Heap.lt_size z) (Nat.lt_irrefl _)
       ·cases hm) (Heap.get?_push_of_some _ z)
      have ea:(List.range (bs.map Value.bool).toArray.size).all (fun i=>(bs[i]?).getD false)=bs.all id:=by
       rw [List.size_toArray,List.length_map]
       apply Bool.eq_iff_iff.mpr
       simp only [List.all_eq_true,List.mem_range,id]
       constructor
       ·intro z b hb
        obtain ⟨i,hi,rfl⟩:=List.getElem_of_mem hb
        have:=z i hi
        rw [List.getElem?_eq_getElem hi] at this
        exact this
       ·intro z i hi
        rw [List.getElem?_eq_getElem hi]
        exact z _ (List.getElem_mem hi)
      rw [ea]
      exact ⟨.bl _,H,I.kept (t':=tk) hold,rfl,q _ _ ↥20 (.bl _)⟩
 ·cases e
def Its (x:Str):It:=⟨fun i _=>i<x.cps.size,fun i H v H'=>H'=H/\∃ c,x.cps[i]? = some c/\v=.str ⟨#[c]⟩,fun i _=>x.cps.size<=i⟩
theorem oD {P:Program} {w:World} {K:PySem.W.Frag} (x:Str) (t:Tok) (it:Addr):Turn P w K tg (Its x) [it] it (fun i h=>h.IsStrIter it "str_ascii_iterator" x t i) where
 mem:=by simp
 obj:=fun i h st b hb=>by
  have e:b=it:=by simpa using hb
  subst e
  obtain ⟨o,e,c,d⟩:=st
  exact ⟨o,e,fun v z=>by rw [d] at z;cases z⟩
 keep:=fun i h h' st k=>let ⟨o,ho,r⟩:=st;⟨o,k it ↥19 o ho,r⟩
 item:=by
  intro X hP hw hK hc i pins s σ H E I hf st hg
  subst hP hw hK
  have hg:i<x.cps.size:=hg
  obtain ⟨f0,f1,f2,f3,f4,f5⟩:=hf it ↥19
  refine wpAny_pyNext_ascii_item st (c:=x.cps[i]) (by simp [hg]) fun h' st' sb => ?_
  have I1:Inv X pins σ H { s with heap:=h',toks:=s.toks+1 }:=I.turned (fun b o hb e=>sb.extBut b o hb e) f0 f1 f3 f4 f5
  obtain ⟨o,e,c,d⟩:=id st'
  exact ⟨_,rfl,rn (s:={ s with heap:=h',toks:=s.toks+1 }) e c d ↥0 ⟨.str ⟨#[x.cps[i]]⟩,H,I1,⟨_,rfl⟩,⟨rfl,_,by simp [hg],rfl⟩,st',fun b hb=>(hf b hb).1⟩⟩
 done:=by
  intro X hP hw hK hc i pins s σ H E I hf st hg
  subst hP hw hK
  have hg:x.cps.size<=i:=hg
  obtain ⟨f0,f1,f2,f3,f4,f5⟩:=hf it ↥19
  exact wpAny_pyNext_ascii_end (I.ok.hd hc) st (by simp [hg]) fun h' eb=>⟨rfl,I.turned (t':=s.toks) (fun b o hb e=>eb b o hb e) f0 f1 f3 f4 f5⟩
 self:=fun _ _ _ _ _ st h=>wpAny_pyIter_striter_ascii st h
theorem pX {P:Program} {w:World} {K:PySem.W.Frag} (x:Str) (t:Tok) (it:Addr):Turn P w K tg (Its x) [it] it (fun i h=>h.IsStrIter it "str_iterator" x t i) where
 mem:=by simp
 obj:=fun i h st b hb=>by
  have e:b=it:=by simpa using hb
  subst e
  obtain ⟨o,e,c,d⟩:=st
  exact ⟨o,e,fun v z=>by rw [d] at z;cases z⟩
 keep:=fun i h h' st k=>let ⟨o,ho,r⟩:=st;⟨o,k it ↥19 o ho,r⟩
 item:=by
  intro X hP hw hK hc i pins s σ H E I hf st hg
  subst hP hw hK
  have hg:i<x.cps.size:=hg
  obtain ⟨f0,f1,f2,f3,f4,f5⟩:=hf it ↥19
  refine wpAny_pyNext_wide_item st (c:=x.cps[i]) (by simp [hg]) fun h' st' sb => ?_
  have I1:Inv X pins σ H { s with heap:=h',toks:=s.toks+1 }:=I.turned (fun b o hb e=>sb.extBut b o hb e) f0 f1 f3 f4 f5
  obtain ⟨o,e,c,d⟩:=id st'
  exact ⟨_,rfl,rn (s:={ s with heap:=h',toks:=s.toks+1 }) e c d ↥0 ⟨.str ⟨#[x.cps[i]]⟩,H,I1,⟨_,rfl⟩,⟨rfl,_,by simp [hg],rfl⟩,st',fun b hb=>(hf b hb).1⟩⟩
 done:=by
  intro X hP hw hK hc i pins s σ H E I hf st hg
  subst hP hw hK
  have hg:x.cps.size<=i:=hg
  obtain ⟨f0,f1,f2,f3,f4,f5⟩:=hf it ↥19
  exact wpAny_pyNext_wide_end (I.ok.hd hc) st (by simp [hg]) fun h' eb=>⟨rfl,I.turned (t':=s.toks) (fun b o hb e=>eb b o hb e) f0 f1 f3 f4 f5⟩
 self:=fun _ _ _ _ _ st h=>wpAny_pyIter_striter_wide st h
def JS (tl:TE):TI:=fun σ H R=>tl σ H fun v H1=>∃ x,v=.str x/\R (Its x) H1
theorem BQ {l:Expr} {tl:TE} (hl:PE X l tl):PI X tg l (JS tl):=by
 intro pins s σ H R I h
 refine thn (hl pins s σ H _ I h) fun v s1 ⟨x,H1,I1,r1,q1⟩ => ?_
 obtain ⟨x,e,q⟩:=q1
 subst e
 obtain ⟨t,rfl⟩:=r1
 have fp:∀ b∈[s1.heap.objs.size],oo X pins H1 b:=fun b hb=>by
  have e:b=s1.heap.objs.size:=by simpa using hb
  subst e
  exact I1.fpOk ↥30 (I1.hok.fresh ↥30)
 cases ha:x.cps.all (· < 128)
 ·refine wpAny_pyIter_wide ha ?_
  exact ⟨s1.heap.objs.size,[s1.heap.objs.size],_,_,H1,rfl,I1.kept (t':=s1.toks) fun b o e=>Heap.get?_push_of_some _ e,pX x t _,⟨_,Heap.get?_push_size _ rfl,rfl,rfl⟩,fp,q⟩
 ·refine wpAny_pyIter_ascii ha ?_
  exact ⟨s1.heap.objs.size,[s1.heap.objs.size],_,_,H1,rfl,I1.kept (t':=s1.toks) fun b o e=>Heap.get?_push_of_some _ e,oD x t _,⟨_,Heap.get?_push_size _ rfl,rfl,rfl⟩,fp,q⟩
theorem CU (h:SE X e g):SI X tg e (itS g):=PI.weak (BQ h) fun σ H Q ⟨δ,hσ,q⟩=>⟨δ,hσ,(RI.bind q).to fun v H' s ⟨_,d,r,q⟩=>by
 cases d with
 | str x =>
  cases r
  unfold asS at q
  simp only at q
  split at q
  ·refine ⟨x,rfl,q _ _ ↥20 fun Hc sc=>⟨fun i d hd => ?_,fun i hi => ?_⟩⟩
   ·rw [List.getElem?_map] at hd
    have hx:x.cps.toList[i]? = x.cps[i]? := by simp
    rw [hx] at hd
    cases hc:x.cps[i]? with
    | none=>rw [hc] at hd;cases hd
    | some c =>
     rw [hc] at hd
     cases hd
     refine ⟨?_,fun y H'' ⟨e2,c',e3,e4⟩=>jS e2 ?_⟩
     ·show i<x.cps.size
      exact (Array.getElem?_eq_some_iff.mp hc).1
     ·rw [hc] at e3
      cases e3
      subst e4
      exact .str _
   ·show x.cps.size<=i
    simpa using hi
  ·exact False.elim q
 | _=>exact False.elim q⟩
theorem lJ:∀ (k:Nat) (acc:Array Nat),(List.replicate k c).foldl (·++·) acc=acc++(List.replicate k c.toList).flatten.toArray
 | 0,acc=>by simp
 | k+1,acc=>by
  rw [List.replicate_succ,List.foldl_cons,lJ k,List.replicate_succ,Array.append_assoc]
  exact congrArg (acc++·) (by apply Array.ext';simp)
theorem Cm:i8 iA:=fun x y C z=>by unfold iA at z;split at z<;>first | cases z | exact b0 z
theorem yR:OpR X (binaryOp .Mult) (rD X iA):=by
 intro pins s σ H x y v u Q I rx ry h
 obtain ⟨dx,dy,d,r1,r2,e,q⟩:=h
 unfold iA at e
 split at e
 ·rename_i z n
  split at e
  ·rename_i hc
   cases e
   cases r1
   cases r2
   obtain ⟨t,rfl⟩:=rx
   obtain ⟨t',rfl⟩:=ry
   have fin:∀ t' k (w:Str),w=⟨(List.replicate n.toNat z.cps.toList).flatten.toArray⟩->EP X pins σ Q (.str w t') { s with toks:=k }:=fun t' k w hw=>⟨.str w,H,I.tok k,⟨_,rfl⟩,by rw [hw];exact q _ _ ↥20 (.str _)⟩
   have zl:z.length=z.cps.size:=rfl
   refine PySem.P.mul_str (by
    rw [decide_eq_false (show ¬ n < -(2^63:Int) by omega),decide_eq_false (show ¬ n>=2^63 by omega)];rfl) (fun h1 h2 => ?_) (fun h1 h2 => ?_) ?_
   ·rw [zl]
    have:(z.cps.size:Int)<=(2^63 - 1) / n:=(Int.le_ediv_iff_mul_le ⋯).mpr (by
     have:(z.cps.size:Int)*n<=100000*100000:=Int.mul_le_mul ⋯ ⋯ ⋯ ⋯
     omega)
    omega
   ·exact mB (by rw [zl];exact hc.1)
   ·by_cases g:n<1
    ·rw [if_pos g]
     exact ⟨by decide,fin _ _ _ (by rw [show n.toNat=0 by omega];rfl)⟩
    ·rw [if_neg g]
     by_cases g2:(n == 1||z.length == 0)=true
     ·rw [if_pos g2]
      refine fin t s.toks z ?_
      rcases Bool.or_eq_true_iff.mp g2 with g3 | g3
      ·have:n=1:=by simpa using g3
       rw [this]
       cases z
       simp
      ·have g3:z.cps.size=0:=by simpa [zl] using g3
       have:z.cps = #[]:=Array.eq_empty_of_size_eq_zero g3
       cases z with
       | mk cs =>
        have hcs:cs = #[]:=this
        subst hcs
        congr 1
        apply Array.ext'
        simp
     ·rw [if_neg g2]
      have ef:(List.replicate n.toNat z.cps).foldl (·++·) (#[]:Array Nat)=(List.replicate n.toNat z.cps.toList).flatten.toArray:=by
       rw [lJ]
       simp
      refine ⟨?_,fin _ _ _ (by rw [ef])⟩
      rw [ef]
      show (List.replicate n.toNat z.cps.toList).flatten.toArray.size<=sizeLine
      rw [List.size_toArray,List.length_flatten,List.map_replicate,List.sum_replicate_nat]
      have:sizeLine=16777216:=rfl
      have h1:=hc.1
      rw [Nat.mul_comm] at h1
      simp only [Array.length_toList]
      omega
  ·cases e
 ·cases e
theorem wz (ha:SE X a ga) (hb:SE X b gb):SE X (.BinOp a .Mult b pos) (EV.bin iA ga gb):=jk Cm yR ha hb
end
end ES
namespace EV
end EV
namespace ES
open PySem PySem.Spec PyProof.Rows L2 EV
abbrev IsZ (h:Heap) (z TI TO:Addr) (f0:Value) (b:Bool):Prop :=
 h.get? z=some { cls:=.type "zip",dict:=none,data:=.fields #[f0,.bool b,.bool false,.ref TI,.ref TO],slots := #[] }
section
variable {prog:Program} {w:World} {A:Around} {E:Value->Shared->Prop} {s:Shared}
end
structure Zs (h:Heap) (z TI TO i1 i2 l1 l2 S N0:Addr) (xs ys:Array Value) (i:Nat) (acc:Array Value):Prop where
 zf:(IsZip h z TI TO .none/\∃ a b,IsPair h TO a b)\/∃ (T:Addr) (b:Bool),IsZ h z TI TO (rawInt T) b/\(∃ o,h.get? T=some o)/\N0<=T
 ti:IsPair h TI (.ref i1) (.ref i2)
 h1:h.IsListIter i1 l1 i
 h2:h.IsListIter i2 l2 i
 hl1:h.IsList l1 xs
 hl2:h.IsList l2 ys
 sz:N0<=h.objs.size
 al:acc.size=i
 ac:∀ (j:Nat) (v:Value),acc[j]? = some v->∃ (a:Addr) (x y:Value),v=Value.ref a/\xs[j]? = some x/\ys[j]? = some y/\IsPair h a x y/\N0<=a
 inj:∀ (j j':Nat) (a:Addr),acc[j]? = some (Value.ref a)->acc[j']? = some (Value.ref a)->j=j'
structure Zap (z TI TO i1 i2 l1 l2 S N0:Addr):Prop where
 D:ZipApart z TI TO i1 i2 l1 l2
 zN:z<N0
 TIN:TI<N0
 TON:TO<N0
 i1N:i1<N0
 i2N:i2<N0
 SN:S<N0
 Sz:S≠z
 STI:S≠TI
 STO:S≠TO
 Si1:S≠i1
 Si2:S≠i2
 Sl1:S≠l1
 Sl2:S≠l2
section
variable {prog:Program} {w:World} {A:Around} {R:Result->Shared->Prop} {z TI TO i1 i2 l1 l2 S N0:Addr} {xs ys:Array Value}
end
theorem AA {N l1 l2:Nat} (h1:l1<N) (h2:l2<N):Zap (N+4) (N+2) (N+3) N (N+1) l1 l2 (N+5) (N+6):=by
 refine ⟨⟨?_,?_,?_,?_,?_,?_,?_,?_,?_,?_,?_,?_,?_,?_,?_,?_,?_,?_⟩,?_,?_,?_,?_,?_,?_,?_,?_,?_,?_,?_,?_,?_⟩<;>first | exact Nat.add_lt_add_left ↥0 N | exact Nat.lt_add_of_pos_right ↥0 | exact Nat.ne_of_gt ⋯ | exact Nat.ne_of_lt ⋯
section
variable {prog:Program} {w:World} {A:Around} {E:Value->Shared->Prop} {s:Shared} {xs ys:Array Value}
end
section
variable {X:Cx} {pins:List ↥7} {σ:L2.St} {H H':Hp} {s:Shared}
end
unseal SE ST SW SA SS SSs SI SO
section
variable {X:Cx} {a b:Expr} {ga gb:E} {p p2 pos pos2:Pos}
end
end ES
namespace ES
open PySem PySem.Spec PyProof.Rows L2 EV
unseal SE ST SW SA SS SSs SI SO
section
variable {X:Cx} {N:List Str} {e e2:Expr} {g g2:E} {pos:Pos}
end
end ES
namespace EV
end EV
namespace ES
open PySem PySem.Spec PyProof.Rows L2 EV
unseal SE ST SW SA SS SSs SI SO
section
variable {prog:Program} {w:World} {A:Around} {E:Value->Shared->Prop} {s:Shared}
end
section
variable {X:Cx} {a b:Expr} {ga gb:E} {p p2 pos pos2:Pos}
end
end ES
namespace ES
open PySem PySem.Spec PyProof.Rows L2 EV
unseal SE ST SW SA SS SSs SI SO
section
variable {X:Cx} {pins:List ↥7} {σ:L2.St} {H:Hp} {s:Shared} {h':Heap}
theorem oz {fp:List Addr} (I:Inv X pins σ H s) (hf:∀ b∈fp,oo X pins H b) (k:∀ b o,b∉fp->s.heap.get? b=some o->h'.get? b=some o):Inv X pins σ H { s with heap:=h' }:=by
 have nit:∀ b u,H b=some u->b∉fp:=fun b u e z=>by rw [(hf b z).1] at e;cases e
 refine I.step (g':=s.gens) (d':=s.drawn) (t':=s.toks) (ch:=fp) (fun b hb=>⟨(hf b hb).2.2.2.1,(hf b hb).2.1,(hf b hb).2.2.2.2.1,(hf b hb).2.2.2.2.2⟩) (fun b o _ _ hc e _=>k b o hc e) (fun b o _ _ hc e _=>⟨o.slots,k b o hc e⟩) (fun _ _ _ _ n=>n)
  (fun b o hc e=>⟨o,k b o hc e⟩) (fun _ _ e=>e) (fun _ _ _ e=>e) (fun b ps e=>⟨#[],by rw [e];simp⟩) (fun m hm => ?_) (fun b u e => ?_) I.bare
 ·obtain ⟨o,es,ep,ho,r⟩:=hm
  exact ⟨o,es,ep,k _ o (fun z=>(hf _ z).2.1 rfl) ho,r⟩
 ·refine (I.hok b u e).stay (fun c v hc q=>k c v ?_ q) (fun _ q=>q) fun _ _ q=>q
  rcases hc with z | z
  ·rw [z];exact nit b u e
  ·exact nit c _ z
theorem oy {fp:List Addr} {x y:V} {u v:Value} (I:Inv X pins σ H s) (hf:∀ b∈fp,oo X pins H b) (k:∀ b o,b∉fp->s.heap.get? b=some o->h'.get? b=some o) (rx:RelV x u) (ry:RelV y v) (hp:IsPair h' s.heap.objs.size u v) :
  Inv X pins σ (upd H s.heap.objs.size (.tup [x,y])) { s with heap:=h' }:=by
 have nit:∀ b u,H b=some u->b∉fp:=fun b u e z=>by rw [(hf b z).1] at e;cases e
 have hn:H s.heap.objs.size=none:=I.fresh
 have ne:∀ b o,s.heap.get? b=some o->b≠s.heap.objs.size:=fun b o e=>Nat.ne_of_lt (Heap.lt_size e)
 have neH:∀ b u,H b=some u->b≠s.heap.objs.size:=fun b u e z=>by rw [z,hn] at e;cases e
 refine I.step (g':=s.gens) (d':=s.drawn) (t':=s.toks) (ch:=fp) (fun b hb=>⟨(hf b hb).2.2.2.1,(hf b hb).2.1,(hf b hb).2.2.2.2.1,(hf b hb).2.2.2.2.2⟩) (fun b o _ _ hc e _=>k b o hc e) (fun b o _ _ hc e _=>⟨o.slots,k b o hc e⟩) (fun b o _ e n=>by rw [aM (ne b o e)];exact n)
  (fun b o hc e=>⟨o,k b o hc e⟩) (fun b xs e=>by rw [aM (neH b _ e)];exact e) (fun b o u e=>by rw [aM (neH b _ e)];exact e) (fun b ps e=>⟨#[],by rw [aM (neH b _ e),e];simp⟩) (fun m hm => ?_) (fun b w e => ?_) I.bare
 ·obtain ⟨o,es,ep,ho,r⟩:=hm
  exact ⟨o,es,ep,k _ o (fun z=>(hf _ z).2.1 rfl) ho,r⟩
 ·by_cases hb:b=s.heap.objs.size
  ·subst hb
   rw [aS] at e
   cases e
   exact ⟨by show 2<=sizeLine;decide,[u,v],.cons rx (.cons ry .nil),⟨_,hp,rfl,_,rfl⟩⟩
  ·rw [aM hb] at e
   refine (I.hok b w e).stay (fun c o hc q=>k c o ?_ q) (fun c q=>by rw [aM (neH c _ q)];exact q) fun c xs q=>by rw [aM (neH c _ q)];exact q
   rcases hc with z | z
   ·rw [z];exact nit b w e
   ·exact nit c _ z
end
section
variable {X:Cx} {a b:Expr} {ga gb:E} {p pos:Pos}
theorem vB (h1:l1<N) (h2:l2<N):ZipApart (N+4) (N+2) (N+3) N (N+1) l1 l2:=(AA h1 h2).D
end
section
variable {X:Cx}
end
section
variable {prog:Program} {w:World} {A:Around} {E:Value->Shared->Prop} {s:Shared}
end
section
variable {X:Cx} {N:List Str} {e:Expr} {es:List Expr} {g:E} {is:List Nat} {pos:Pos}
end
end ES
namespace ES
open PySem PySem.Spec PyProof.Rows L2 EV
def tabI (K:PySem.W.Frag) (Cs:List (String×Addr)) (q:String×Addr):Bool:=PySem.W.kitOne K (.type "NoneType") (.ref q.2) == some false&&Cs.all fun p=>PySem.W.kitOne K (.ref p.2) (.ref q.2) == some (p.1 == q.1||q.1 == "MillError")
def Fp (K:PySem.W.Frag) (Cs:List (String×Addr)):Bool:=Cs.all fun p=>PySem.W.kitOne K (.ref p.2) ↥8 == some true
def vD (mg:Str->Option Value) (Cs:List (String×Addr)) (x:String):Prop:=mg x=none\/∃ C,mg x=some (.ref C)/\(x,C)∈Cs
theorem mP {ns:List (String×Addr)} (i:Nat) {x:String×Addr} (h:ns[i]? = some x:=by rfl):x∈ns:=List.mem_of_getElem? h
section
variable {K:PySem.W.Frag} {mg:Str->Option Value} {Cs ns:List (String×Addr)} {q:String×Addr}
theorem bx (t:ns.all (tabI K Cs)=true) (m:q∈ns):PySem.W.kitOne K (.type "NoneType") (.ref q.2)=some false:=by
 have:=List.all_eq_true.mp t q m
 unfold tabI at this
 rw [Bool.and_eq_true] at this
 exact eq_of_beq this.1
theorem bz (hC:∀ x∈af,vD mg Cs x) (t:ns.all (tabI K Cs)=true) (m:q∈ns):∀ x∈af,IF K mg (.ref q.2) (x == q.1||q.1 == "MillError") x:=fun x hx=>by
 have:=List.all_eq_true.mp t q m
 unfold tabI at this
 rw [Bool.and_eq_true] at this
 rcases hC x hx with z | ⟨C,e,mC⟩
 ·exact ⟨.inl z⟩
 ·exact ⟨.inr ⟨C,e,eq_of_beq (List.all_eq_true.mp this.2 (x,C) mC)⟩⟩
theorem Bk (hC:∀ x∈af,vD mg Cs x) (t:Fp K Cs=true):∀ x∈af,IF K mg ↥8 true x:=fun x hx=>by
 rcases hC x hx with z | ⟨C,e,mC⟩
 ·exact ⟨.inl z⟩
 ·exact ⟨.inr ⟨C,e,eq_of_beq (List.all_eq_true.mp t (x,C) mC)⟩⟩
end
end ES
namespace EV
def few (rs:List D) (o:O):O:=if rs.length<100000 then o else .bad
end EV
namespace ES
open PySem PySem.Spec PyProof.Rows L2 EV
unseal SE ST SW SA SS SSs SI SO SSF
def Fr (K:PySem.W.Frag) (mg:Str->Option Value) (H H':Hp) (v:V) (d:D):Prop:=(∃ i,v=.int i/\d=.int i)\/∃ b vs ds,v=.ref b/\d=.lst ds/\H b=none/\H' b=some (.lst vs)/\Reps K mg H' vs ds/\EV.D.flats ds=true
def FrT (K:PySem.W.Frag) (mg:Str->Option Value) (H H':Hp) (v:V) (d:D):Prop:=∃ t v1 v2 d1 d2,v=.ref t/\d=.tup [d1,d2]/\H' t=some (.tup [v1,v2])/\Fr K mg H H' v1 d1/\Fr K mg H H' v2 d2
section
variable {K:PySem.W.Frag} {mg:Str->Option Value} {F F' H:Hp} {v:V} {d:D}
end
def TQ (K:PySem.W.Frag) (mg:Str->Option Value) (H:Hp) (d:D) (Q:VK):Prop:=(∀ v H',ay H H'->FrT K mg H H' v d->Q v H')/\(d=.non->∀ H',ay H H'->Q .non H')
def OQT (X:Cx) (D:Ends) (F:Hp):O->Prop
 | .rt d=>∀ v H,ay F H->FrT X.K X.mg F H v d->D.rt v H
 | o=>OQ X D F o
def tST (X:Cx) (g:S):TS:=fun D σ H=>∃ δ os,StO X H σ δ os/\OQT X D ↥26 (g δ)
@[irreducible] def SST (X:Cx) (st:List Stmt) (g:S):Prop:=PSs X st (tST X g)
unseal SST
section
variable {X:Cx} {N:List Str}
variable {st:Stmt} {rest:List Stmt} {gs gr:S} {e:Expr} {g:E} {pos:Pos}
end
theorem oQ {i:Nat} {g:E}:∀ δ d,fW i g δ ≠ .rt d:=fun δ d z=>by
 unfold fW wL at z
 split at z
 ·split at z<;>cases z
 ·cases z
 ·cases z
theorem oP {i:Nat} {g:E}:∀ δ d,eA i g δ ≠ .rt d:=fun δ d z=>by
 unfold eA yb at z
 split at z<;>cases z
theorem zy {c:E} {a b:S} (ha:∀ δ d,a δ ≠ .rt d) (hb:∀ δ d,b δ ≠ .rt d):∀ δ d,mL c a b δ ≠ .rt d:=fun δ d z=>by
 unfold mL ifO at z
 split at z
 ·exact ha δ d z
 ·exact hb δ d z
 ·cases z
 ·cases z
def spT (K:PySem.W.Frag) (mg:Str->Option Value) (f:List D->R D):Sp:=fun vs H Q E=>∃ ds,Reps K mg H vs ds/\match f ds with
 | .ok d=>TQ K mg H d Q
 | .ex C=>∀ Ca,mg C=some (.ref Ca)->∀ H',ay H H'->E (.ref Ca) none H'
 | .bad=>False
structure FnT (P:Program) (w:World) (K:PySem.W.Frag) (mg:Str->Option Value) (base:Heap) (x:Str) (k:Nat) (f:List D->R D):Prop where
 ex:∃ fa fd ps,FnOk P w K mg base (CXF P w) k fa fd ps (spT K mg f)/\mg x=some (.ref fa)/\PySem.W.keepIn K (.ref fa)=true/\Binds K fd ps []
structure CalleeT (X:Cx) (x:Str) (f:List D->R D):Prop where
 ex:∃ k fa fd ps,FnOk X.prog X.w X.K X.mg X.base (CXF X.prog X.w) k fa fd ps (spT X.K X.mg f)/\Room k X.A/\X.mg x=some (.ref fa)/\PySem.W.keepIn X.K (.ref fa)=true/\Binds X.K fd ps []
section
variable {X:Cx} {N:List Str} {x:Str} {f:List D->R D} {e:Expr} {es:List Expr} {gs:List E} {p pos:Pos} {g:E}
end
section
variable {X:Cx} {D:Ends} {F:Hp} {r:R EV.D}
end
section
variable {K:PySem.W.Frag} {mg:Str->Option Value} {H H' H'':Hp} {σ:L2.St} {δ:Dt} {i:Nat} {v:V} {d:D}
end
section
variable {X:Cx} {N:List Str}
end
section
variable {X:Cx} {N:List Str} {D:Ends} {F:Hp} {r:R EV.D}
end
end ES
namespace EV
end EV
namespace ES
open PySem PySem.Spec PyProof.Rows L2 EV
unseal SE ST SW SA SS SSs SI SO SSF SST
section
variable {X:Cx} {a b:Expr} {ga gb:E} {pos:Pos}
end
end ES
namespace EV
def xO:List D->Option (List PySem.Str)
 | []=>some []
 | .str x::ds=>(xO ds).map (x::·)
 | _::_=>none
def bJ (x:PySem.Str):D->R D
 | .lst ds=>match xO ds with
  | some ys=>if (ys.map (·.length)).sum+ys.length*x.length<=16777216 then .ok (.str (PySem.Str.join x ys)) else .bad
  | none=>.bad
 | _=>.bad
def bF (c:Nat):List Nat->List ↥31
 | []=>[[]]
 | x::r=>if x=c then []::bF c r else match bF c r with
  | []=>[[x]]
  | a::s=>(x::a)::s
def cT (x:PySem.Str):D->R D
 | .str y=>match y.cps.toList with
  | [c]=>if x.length<=100000 then .ok (.lst ((bF c x.cps.toList).map fun l=>.str ⟨l.toArray⟩)) else .bad
  | _=>.bad
 | _=>.bad
def aq (c:Nat):List ↥31->List Nat
 | []=>[]
 | [a]=>a
 | a::b::r=>a++c::aq c (b::r)
theorem ie {c:Nat}:∀ a:List Nat,c∉a->bF c a=[a]
 | [],_=>rfl
 | x::r,h=>by
  have h1:¬ x=c:=fun e=>h (by simp [e])
  unfold bF
  rw [if_neg h1,ie r fun e=>h (by simp [e])]
theorem jv {c:Nat}:∀ (a r:List Nat),c∉a->bF c (a++c::r)=a::bF c r
 | [],r,_=>by simp [bF]
 | x::a,r,h=>by
  have h1:¬ x=c:=fun e=>h (by simp [e])
  show (if x=c then []::bF c (a++c::r) else match bF c (a++c::r) with
   | []=>[[x]]
   | a::s=>(x::a)::s)=_
  rw [if_neg h1,jv a r fun e=>h (by simp [e])]
theorem cX {c:Nat}:∀ ls:List ↥31,ls≠[]->(∀ l∈ls,c∉l)->bF c (aq c ls)=ls
 | [],h,_=>absurd rfl h
 | [a],_,h=>ie a (h a ↥19)
 | a::b::r,_,h=>by
  unfold aq
  rw [jv a _ (h a ↥19),cX (b::r) ↥19 fun l m=>h l (by simp at m ⊢;right;exact m)]
theorem ke (c:Nat):∀ ys:List PySem.Str,(PySem.Str.join ⟨#[c]⟩ ys).cps.toList=aq c (ys.map fun y=>y.cps.toList)
 | []=>rfl
 | [a]=>rfl
 | a::b::r=>by
  have ih:=ke c (b::r)
  have:PySem.Str.join ⟨#[c]⟩ (a::b::r)=a++⟨#[c]⟩++PySem.Str.join ⟨#[c]⟩ (b::r):=rfl
  rw [this]
  show (a.cps ++ #[c]++(PySem.Str.join ⟨#[c]⟩ (b::r)).cps).toList=_
  simp only [Array.toList_append,ih,List.map_cons,aq]
  simp
end EV
namespace ES
open PySem PySem.Spec PyProof.Rows L2 EV
unseal SE ST SW SA SS SSs SI SO
section
variable {X:Cx} {pos:Pos} {tg e a b:Expr} {g ga gb:E}
theorem bU:DK bJ:=fun x y C z=>by
 unfold bJ at z
 split at z
 ·split at z
  ·exact b0 z
  ·cases z
 ·cases z
theorem nq {K:PySem.W.Frag} {mg:PySem.Str->Option Value} {H:Hp}:∀ {xs:List V} {ds:List D} {us:List Value} {ys:List Str},Reps K mg H xs ds->Vals xs us->xO ds=some ys->StrsAre us ys
 | _,_,_,_,.nil,.nil,e=>by cases e;exact .nil
 | _,d::ds,_,_,.cons r rs,.cons v vs,e=>by
  cases d with
  | str x =>
   unfold xO at e
   cases h:xO ds with
   | none=>rw [h] at e;cases e
   | some ys =>
    rw [h] at e
    cases e
    cases r
    obtain ⟨t,rfl⟩:=v
    exact .cons _ _ (nq rs vs h)
  | _=>cases e
theorem bo:MtR X "str.join" (rM X bJ):=by
 intro pins s σ H x vs v us Q I rx rv h
 obtain ⟨z,w,dy,d,rfl,rfl,r,e,q⟩:=h
 unfold bJ at e
 split at e
 ·rename_i ds
  split at e
  ·rename_i ys hy
   split at e
   ·rename_i hz
    cases e
    cases r with
    | @lst l xs _ hq rr =>
     obtain ⟨t,rfl⟩:=rx
     obtain ⟨u,rfl,hu⟩:=vals1 rv
     cases hu
     obtain ⟨its,rvs,pl,hz2⟩:=I.list hq
     refine join_list pl.isList (nq rr rvs hy) hz fun t' k => ?_
     rw [show Txt.join z ys=Str.join z ys from StrLaws.glued_eq_join z ys]
     exact ⟨.str _,H,I.tok _,⟨_,rfl⟩,q _ _ ↥20 (.str _)⟩
   ·cases e
  ·cases e
 ·cases e
theorem zx:DK cT:=fun x y C z=>by
 unfold cT at z
 split at z
 ·split at z
  ·exact b0 z
  ·cases z
 ·cases z
theorem pA {s:Shared} {x y:Str} {t u:Tok} {Q E:Value->Shared->Prop} (hy:(y.length == 0)=false) (hx:x.length<=100000)
  (h:∀ l k,l.map (·.1)=Txt.split x y->Q (.ref s.heap.objs.size) { s with heap:=s.heap.push { cls:=.type "list",data:=.seq (strValues l).toArray },toks:=k }) :
  wpAny ↥4 X.A (call (.builtin "str.split") [.str x t,.str y u]) Q E s:=by
 have hsz:x.length<=sizeLine:=Nat.le_trans hx (by rw [sizeLine_eq];decide)
 cases h1:(decide (x.length<y.length)||decide (Builtin.Str.strKind x<Builtin.Str.strKind y))
 ·cases hf:(Builtin.Str.occurrences x y 0 x.length (x.length+1)).isEmpty
  ·have e:Txt.split x y=Builtin.Str.partsBetween x (Builtin.Str.occurrences x y 0 x.length (x.length+1)) y.length:=(if_neg (ne_true_of_eq_false h1)).trans (if_neg (ne_true_of_eq_false hf))
   have y1:1<=y.length:=by
    refine Classical.byContradiction fun q => ?_
    rw [show y.length=0 by omega] at hy
    cases hy
   have wt:=split_weight x y y1
   have hsz2:(Builtin.Str.partsBetween x (Builtin.Str.occurrences x y 0 x.length (x.length+1)) y.length).length<=sizeLine:=by
    rw [<- e]
    have:(100001:Nat)<=sizeLine:=by rw [sizeLine_eq];decide
    omega
   refine call_meets F.slot_str_split (typeIs_str _ _ _) F.entry_str_split (F.args_str_split_2 _ _) (meets_str_split_sep x y t u h1 hy hf hsz hsz2) ?_
   show wants Q E _ { s with toks:=_,heap:=s.heap.push { cls:=.type "list",data:=.seq (strsFrom s.toks (Builtin.Str.partsBetween x (Builtin.Str.occurrences x y 0 x.length (x.length+1)) y.length)).toArray } }
   rw [strsFrom_eq]
   exact h (numbered s.toks _) _ ((numbered_texts _ _).trans e.symm)
  ·exact call_meets F.slot_str_split (typeIs_str _ _ _) F.entry_str_split (F.args_str_split_2 _ _) (meets_str_split_not_found x y t u h1 hy hf)
    (h [(x,t)] s.toks ((if_neg (ne_true_of_eq_false h1)).trans (if_pos hf)).symm)
 ·exact call_meets F.slot_str_split (typeIs_str _ _ _) F.entry_str_split (F.args_str_split_2 _ _) (meets_str_split_cannot_occur x y t u h1)
   (h [(x,t)] s.toks (if_pos h1).symm)
theorem wH (c:Nat):∀ l,0<=PyProof.Rows.cnt c l
 | []=>Int.le_of_eq (PyProof.Rows.cnt_nil c).symm
 | n::r=>by
  have:=wH c r
  rw [PyProof.Rows.cnt_cons]
  split<;>omega
theorem tZ (x:Str) (c:Nat):Txt.split x ⟨#[c]⟩=(bF c x.cps.toList).map fun l=>(⟨l.toArray⟩:Str):=by
 have e:=ke c (Txt.split x ⟨#[c]⟩)
 rw [StrLaws.join_split] at e
 have ne:Txt.split x ⟨#[c]⟩≠[]:=fun z=>by
  have:=PyProof.Rows.split_len x c
  have nn:=wH c x.cps.toList
  rw [z] at this
  simp only [List.length_nil] at this
  omega
 have f:=cX (c:=c) ((Txt.split x ⟨#[c]⟩).map fun y=>y.cps.toList) (by simpa using ne) (fun l m=>by
  obtain ⟨p,hp,rfl⟩:=List.mem_map.mp m
  exact StrLaws.split_free x c p hp)
 rw [<- e] at f
 rw [f,List.map_map]
 have:∀ ys:List Str,ys=ys.map ((fun l=>(⟨l.toArray⟩:Str)) ∘ fun y=>y.cps.toList):=fun ys=>by
  induction ys with
  | nil=>rfl
  | cons a r ih=>rw [List.map_cons,<-ih];rfl
 exact this _
theorem kT:∀ (l:List (Str×Tok)),Vals (l.map fun p=>V.str p.1) (strValues l)
 | []=>.nil
 | (x,t)::l=>.cons ⟨t,rfl⟩ (kT l)
theorem kU {K:PySem.W.Frag} {mg:PySem.Str->Option Value} {H:Hp}:∀ ys:List Str,Reps K mg H (ys.map V.str) (ys.map D.str)
 | []=>.nil
 | y::ys=>.cons (.str y) (kU ys)
end
end ES
namespace EV
open PySem (Str)
def bC:List (Str×D)->Str->Option D
 | [],_=>none
 | p::r,x=>if p.1=x then some p.2 else bC r x
def dIn (tab:List (Str×D)):D->R D
 | .str x=>.ok (.bl (bC tab x).isSome)
 | _=>.bad
def fi (tab:List (Str×D)):D->R D
 | .str x=>.ok (.bl (!(bC tab x).isSome))
 | _=>.bad
def nX (tab:List (Str×D)):D->R D
 | .str x=>match bC tab x with | some d=>.ok d | none=>.bad
 | _=>.bad
def mUp:D->R D
 | .str x=>match x.cps.toList with | [c]=>if 97<=c/\c<=122 then .ok (.str ⟨#[c - 32]⟩) else .bad | _=>.bad
 | _=>.bad
def lr:D->D->R D
 | .tup xs,.int k=>if xs≠[]/\1<=k/\k<=1000/\xs.length*k.toNat<=100000 then .ok (.tup (List.replicate k.toNat xs).flatten) else .bad
 | _,_=>.bad
def Ar:List D->R (List D)
 | [.tup xs,.lst ys]=>if xs.length<=100000/\ys.length<=100000 then .ok (List.zipWith (fun x y=>.tup [x,y]) xs ys) else .bad
 | _=>.bad
def Ax (a b:E):IT:=fun δ=>(evs [a,b] δ).bind Ar
theorem A3 {a b:E} {δ:Dt}:Ax a b δ=(evs [a,b] δ).bind Ar:=rfl
theorem wR {xs ys:List D} (h1:xs.length<=100000) (h2:ys.length<=100000):Ar [.tup xs,.lst ys]=.ok (List.zipWith (fun x y=>.tup [x,y]) xs ys):=by
 unfold Ar
 simp only
 rw [if_pos ⟨h1,h2⟩]
def gP (i:Nat):S:=fun δ=>eB i δ fun _=>.nx (δ.set i (some (.own [])))
def As (i:Nat):S:=fun δ=>eB i δ fun ds=>if D.flats ds=true then .rt (.lst ds) else .bad
def ji (put:Dt->D->Option Dt) (body:S):List D->S
 | [],δ=>.nx δ
 | d::ds,δ=>match put δ d with
  | some δ'=>trn (body δ') (ji put body ds)
  | none=>.bad
def putN (i:Nat) (δ:Dt) (d:D):Option Dt:=some (δ.set i (some d))
def pG (put:Dt->D->Option Dt) (it:IT) (c:E) (l:S):S:=fun δ=>ovI δ (it (view δ)) fun ds=>if D.flats ds=true then ji put (mL c l aK) ds δ else .bad
end EV
namespace ES
open PySem PySem.Spec PyProof.Rows L2 EV
unseal SE ST SW SA SS SSs SI SO SSF
def Lv (g:S):Prop:=∀ δ δ',g δ ≠ .nx δ'/\g δ ≠ .bk δ'/\g δ ≠ .ct δ'
theorem nM {C:String}:Lv (raise C):=fun δ δ'=>⟨fun z=>(nomatch z),fun z=>(nomatch z),fun z=>(nomatch z)⟩
theorem CD {g:E}:Lv (ret g):=fun δ δ'=>by
 unfold EV.ret rtn
 cases g δ<;>exact ⟨fun z=>(nomatch z),fun z=>(nomatch z),fun z=>(nomatch z)⟩
def LT (X:Cx) (σ:L2.St) (H:Hp) (os:Os) (δ:Dt) (r:R D) (Q:Bool->Hp->Prop):Prop:=match r with
 | .ok (.bl b)=>∀ H',ay H H'->Q b H'
 | .ex C=>∀ Ca,X.mg C=some (.ref Ca)->∀ H',ay ↥26 H'->Stt X.K X.mg H' σ (noOwn δ)->ew X Ca σ H'
 | _=>False
def tLT (X:Cx) (g:E):TT:=fun σ H Q=>∃ δ os,StO X H σ δ os/\LT X σ H os δ (g (view δ)) Q
def Aq (X:Cx) (t:TG) (put:Dt->D->Option Dt):Prop:=∀ {v:V} {d:D} {σ:L2.St} {H:Hp} {δ δ2:Dt} {os:Os} {Q:L2.St->Hp->Prop},StO X H σ δ os->Rep X.K X.mg ↥26 v d->put δ d=some δ2 ->
 (∀ σ2 os2,StO X H σ2 δ2 os2->ay ↥26 (hide H os2)->Q σ2 H)->t v σ H Q
section
variable {X:Cx} {N:List Str} {tg e c:Expr} {g:IT} {gc:E} {gl:S} {lv:List Stmt} {pos p:Pos} {t:TG} {put:Dt->D->Option Dt}
theorem E1 (h:ST X c gc):PT X c (tLT X gc):=by
 intro pins s σ H Q I ⟨δ,os,S,q⟩
 refine h pins s σ H Q I ⟨_,S.view,?_⟩
 cases r:gc (view δ) with
 | ok d =>
  rw [r] at q
  cases d with
  | bl b=>exact fun H' s=>q H' s
  | _=>exact False.elim q
 | ex C =>
  rw [r] at q
  exact fun Ca hc H' s'=>q Ca hc H' ((aD H os).trans s') (S.noOwn ((aD H os).trans s'))
 | bad=>rw [r] at q;exact False.elim q
theorem uc {i:Nat}:Aq X (lG i) (putN i):=fun {v d σ H δ δ2 os Q} S r e q=>by
 cases e
 obtain ⟨S2,s2⟩:=S.set (i:=i) r
 exact q _ _ S2 s2
theorem qh {is:List Nat} {m:Nat} (hm:is.length=m):Aq X (Hw X.K m (gIs is)) (oZ is):=fun {v d σ H δ δ2 os Q} S r e q=>by
 unfold oZ at e
 cases d with
 | tup es' =>
  have r':=r
  cases r' with
  | @tup a xs _ hq rr =>
   have hlen:xs.length=m:=by
    rw [rr.length,<-hm]
    clear q rr hq
    have:∀ {is:List Nat} {ds:List EV.D} {δ δ2:Dt},DG is δ ds=some δ2->ds.length=is.length:=fun {is}=>by
     induction is with
     | nil=>intro ds δ δ2 h;cases ds with | nil=>rfl | cons _ _=>cases h
     | cons i is ih=>intro ds δ δ2 h;cases ds with | nil=>cases h | cons _ _=>exact congrArg (· + 1) (ih h)
    exact this e
   exact ⟨a,xs,rfl,bT (aD _ _) hq,hlen,Fv S rr e fun σ2 os2 S2 s2=>q _ _ S2 s2⟩
 | _=>cases e
theorem va {ds:List D} (f:D.flats ds=true):∀ {n:Nat} {d:D},ds[n]? = some d->d.flat=true:=by
 induction ds with
 | nil=>intro n d h;cases n<;>cases h
 | cons a r ih =>
  have f':a.flat=true/\D.flats r=true:=by simpa [D.flats] using f
  intro n d h
  cases n with
  | zero=>cases h;exact f'.1
  | succ n=>exact ih f'.2 h
def PvQ (X:Cx) (D:Ends) (F H1:Hp) (put:Dt->EV.D->Option Dt) (gb:S) (ds:List EV.D) (n:Nat) (σ:L2.St) (H:Hp):Prop:=∃ δ os,StO X H σ δ os/\ay H1 H/\ay F ↥26/\OQ X D F (ji put gb (ds.drop n) δ)
theorem qc (L:Lp X) (ht:PG X tg t) (hp:Aq X t put) (he:SI X tg e g) (hc:ST X c gc) (hl:SSs X lv gl) (nl:Lv gl) (hs:∀ x,foldedSetIterable e X.env x=pure x:=by intro _;rfl) :
  SS X (.For tg e [.If c lv [] p] [] pos) (pG put g gc gl):=by
 refine PS.weak (vM L.own L.calm he ht (mr (yF (E1 hc) hl qi)) hs) fun D σ H ⟨δ,os,S,q⟩=>⟨view δ,S.view,?_⟩
 unfold pG ovI at q
 cases r:g (view δ) with
 | ok ds =>
  rw [r] at q
  simp only at q
  split at q
  ·rename_i fl
   intro J H1 s1 wk
   refine ⟨fun n m σ' H'=>m=ds.length - n/\n<=ds.length/\PvQ X D ↥26 H1 put (mL gc gl aK) ds n σ' H',⟨ds.length,by simp,Nat.zero_le _,δ,os,S.mono s1,ay.refl _,bc os s1,by rw [List.drop_zero];exact q⟩,?_⟩
   rintro n m σ' H' ⟨rfl,hn,p⟩
   obtain ⟨δ',os',S',s',s0,q'⟩:=id p
   have w:=wk H' s'
   by_cases hlt:n<ds.length
   ·have hd:ds[n]? = some ds[n]:=List.getElem?_eq_getElem hlt
    refine .inr ⟨(w.1 n _ hd).1,PvQ X D ↥26 H1 put (mL gc gl aK) ds (n+1),fun σ2 H2 z=>⟨ds.length - (n+1),⋯,rfl,⋯,z⟩,fun x H'' y => ?_⟩
    obtain ⟨e1,r1⟩:=(w.1 n _ hd).2 x H'' y
    have rx:=ir (j8 ((S'.mono e1).lsts)) (va fl hd) (r1 H'' (s'.trans e1) fun b o z1 _=>z1)
    rw [dE hd] at q'
    unfold ji at q'
    cases e0:put δ' ds[n] with
    | none=>rw [e0] at q';exact False.elim q'
    | some δ2 =>
     rw [e0] at q'
     simp only at q'
     refine hp (S'.mono e1) rx e0 fun σ2 os2 S2 s2=>⟨δ2,os2,S2,?_⟩
     have s3:ay ↥26 (hide H'' os2):=(s0.trans (bc os' e1)).trans s2
     unfold mL ifO trn at q'
     cases r2:gc (view δ2) with
     | ok d2 =>
      cases d2 with
      | bl b =>
       cases b with
       | true =>
        rw [r2] at q'
        intro H3 s4
        refine Av ⟨δ2,os2,S2.mono s4,?_⟩
        obtain ⟨n1,n2,n3⟩:(∀ δ',gl δ2 ≠ .nx δ')/\(∀ δ',gl δ2 ≠ .bk δ')/\∀ δ',gl δ2 ≠ .ct δ':=⟨fun z=>(nl δ2 z).1,fun z=>(nl δ2 z).2.1,fun z=>(nl δ2 z).2.2⟩
        cases q2:gl δ2 with
        | nx z=>exact absurd q2 (n1 z)
        | bk z=>exact absurd q2 (n2 z)
        | ct z=>exact absurd q2 (n3 z)
        | rt d=>simp only [q2] at q';exact fun v' H' s5 r'=>q' v' H' ((s3.trans (bc os2 s4)).trans s5) r'
        | ex C δ1=>simp only [q2] at q';exact fun σ' H' s5 r'=>q' σ' H' ((s3.trans (bc os2 s4)).trans s5) r'
        | mk C δ1=>simp only [q2] at q';exact fun σ' H' s5=>q' σ' H' ((s3.trans (bc os2 s4)).trans s5)
        | hx C δ1=>simp only [q2] at q';exact fun σ' H' s5 r'=>q' σ' H' ((s3.trans (bc os2 s4)).trans s5) r'
        | bad=>simp only [q2] at q';exact False.elim q'
       | false =>
        rw [r2] at q'
        intro H3 s4
        exact Aw ⟨δ2,os2,S2.mono s4,(s'.trans e1).trans s4,s3.trans (bc os2 s4),q'⟩
      | _=>rw [r2] at q';exact False.elim q'
     | ex C=>rw [r2] at q';exact fun Ca hc H' s5 st=>q' σ2 H' (s3.trans s5) st Ca hc
     | bad=>rw [r2] at q';exact False.elim q'
   ·refine .inl ⟨w.2 n ⋯,?_⟩
    rw [List.drop_eq_nil_of_le ⋯] at q'
    exact q' σ' H' os' S' s0
  ·exact False.elim q
 | ex C=>rw [r] at q;exact fun Ca hc H' s'=>q σ H' ((aD H os).trans s') (S.noOwn ((aD H os).trans s')) Ca hc
 | bad=>rw [r] at q;exact False.elim q
theorem j7 {put:Dt->D->Option Dt} {b:S} (hb:∀ δ d,b δ ≠ .rt d):∀ ds δ d,ji put b ds δ ≠ .rt d
 | [],δ,d,z=>by cases z
 | a::ds,δ,d,z=>by
  unfold ji at z
  cases e:put δ a with
  | none=>rw [e] at z;cases z
  | some δ' =>
   rw [e] at z
   simp only [trn] at z
   split at z
   ·exact j7 hb ds _ d z
   ·exact j7 hb ds _ d z
   ·cases z
   ·exact hb _ _ z
theorem uG {c:E} {a b:S} (ha:∀ δ d,a δ ≠ .rt d) (hb:∀ δ d,b δ ≠ .rt d):∀ δ d,mL c a b δ ≠ .rt d:=fun δ d z=>by
 unfold mL ifO at z
 split at z
 ·exact ha δ d z
 ·exact hb δ d z
 ·cases z
 ·cases z
theorem zA {put:Dt->D->Option Dt} {it:IT} {c:E} {l:S} (hl:∀ δ d,l δ ≠ .rt d):∀ δ d,pG put it c l δ ≠ .rt d:=fun δ d z=>by
 unfold pG ovI at z
 split at z
 ·simp only at z
  split at z
  ·exact j7 (uG hl mz) _ _ _ z
  ·cases z
 ·cases z
 ·cases z
end
section
variable {X:Cx} {N:List Str} {pos:Pos}
theorem oJ (C:Sx X N) (i:Nat) {x:Str} {p1 p2 p3:Pos} (hN:N[i]? = some x)
  (hbase:attributeBase (.Name x p1) "clear" X.env (eval (.Name x p1) X.env)=eval (.Name x p1) X.env:=by rfl)
  (hline:(p2.endLine == p3.line)=true:=by rfl)
  (hsw:swapsWith (.Call (.Attribute (.Name x p1) "clear" p2) [] [] p3) none pos.line X.env=pure false:=by rfl) :
  SS X (.Expr (.Call (.Attribute (.Name x p1) "clear" p2) [] [] p3) pos) (gP i):=by
 have hm:x∈N:=List.mem_of_getElem? hN
 refine PS.weak (mv (vR PySem.F.plainAttrs_list PySem.F.slot_list_clear PySem.F.type_list_clear uR (lb (i:=i) (by rw [C.sc.n];exact hN) (C.sc.vis x hm) (C.sc.dbg x hm).1 (C.sc.dbg x hm).2) hbase hline) hsw) fun D σ H ⟨δ,os,S,q⟩ => ?_
 unfold gP eB at q
 split at q
 ·rename_i ds ei
  obtain ⟨a,ha⟩:=S.own i ds ei
  obtain ⟨xs,ds',h1,h2,h3,h4⟩:=S.lst _ ha
  rw [ei] at h3
  cases h3
  refine ⟨.ref a,h2,.inl ⟨rfl,xs,SqL.of h1⟩,a,xs,rfl,rfl,h1,?_⟩
  have S2:=S.write ha (Reps.nil (K:=X.K) (mg:=X.mg) (H:=hide H os))
  exact q _ _ _ S2 (by rw [kf (cL ha)];exact ay.refl _)
 ·exact False.elim q
theorem jT {δ:Dt} {i:Nat} {ds:List D} (e:δ[i]? = some (some (.own ds))):var i (view δ)=.ok (.lst ds):=by
 unfold var EV.view
 rw [List.getElem?_map,e]
 rfl
theorem By (C:Sx X N) (i:Nat) {x:Str} {p:Pos} (hN:N[i]? = some x):SS X (.Return (some (.Name x p)) pos) (As i) :=
 PS.weak (Bx (fh C.sc i hN)) fun D σ H ⟨δ,os,S,q⟩=>⟨δ,os,S,by
  unfold As eB at q
  split at q
  ·rename_i ds ei
   simp only at q
   split at q
   ·unfold DF
    rw [jT ei]
    exact q
   ·exact False.elim q
  ·exact False.elim q⟩
theorem C4 (C:Sx X N) (i:Nat) {x:Str} {p:Pos} (hN:N[i]? = some x):SSF X [.Return (some (.Name x p)) pos] (As i):=by
 have hm:x∈N:=List.mem_of_getElem? hN
 refine PSs.weak (mr (qk (lb (i:=i) (by rw [C.sc.n];exact hN) (C.sc.vis x hm) (C.sc.dbg x hm).1 (C.sc.dbg x hm).2))) fun D σ H ⟨δ,os,S,q⟩ => ?_
 unfold As eB at q
 split at q
 ·rename_i ds ei
  simp only at q
  split at q
  ·rename_i fl
   obtain ⟨a,ha⟩:=S.own i ds ei
   obtain ⟨xs,ds',h1,h2,h3,h4⟩:=S.lst _ ha
   rw [ei] at h3
   cases h3
   exact ⟨.ref a,h2,q a xs H (aD _ _) (fQ (cL ha)) h1 (h4.mono (aD _ _)) fl⟩
  ·exact False.elim q
 ·exact False.elim q
end
section
variable {X:Cx} {a b:Expr} {ga gb:E}
def yz (X:Cx):V->List V->Hp->VK->Prop:=fun x vs H Q=>∃ z v dy rs,x=.str z/\vs=[v]/\Rep X.K X.mg H v dy/\cT z dy=.ok (.lst rs)/\∀ a xs H',ay H H'->H a=none->H' a=some (.lst xs)->Reps X.K X.mg H' xs rs->EV.D.flats rs=true->Q (.ref a) H'
theorem jI:∀ ys:List Str,D.flats (ys.map D.str)=true
 | []=>rfl
 | y::ys=>by
  have ih:=jI ys
  simp [D.flats,D.flat,ih]
theorem qT:MtR X "str.split" (yz X):=by
 intro pins s σ H x vs v us Q I rx rv h
 obtain ⟨z,w,dy,rs,rfl,rfl,r,e,q⟩:=h
 unfold cT at e
 split at e
 ·rename_i y
  split at e
  ·rename_i c hc
   split at e
   ·rename_i hz
    cases e
    cases r
    obtain ⟨t,rfl⟩:=rx
    obtain ⟨u,rfl,t',rfl⟩:=vals1 rv
    have ey:y=⟨#[c]⟩:=by
     cases y with
     | mk cs=>congr 1;apply Array.ext';exact hc
    subst ey
    refine pA rfl hz fun l k hl => ?_
    have hn:H s.heap.objs.size=none:=I.hok.fresh ↥30
    have el:l.map (·.1)=(bF c z.cps.toList).map fun l=>(⟨l.toArray⟩:Str):=hl.trans (tZ z c)
    have wt:=split_weight z ⟨#[c]⟩ (Nat.le_refl 1)
    have ll:l.length<=100001:=by
     have:=congrArg List.length hl
     rw [List.length_map] at this
     omega
    have eD:((bF c z.cps.toList).map fun l=>D.str ⟨l.toArray⟩)=(l.map (·.1)).map D.str:=by rw [el,List.map_map];rfl
    have eV:(l.map fun p=>V.str p.1)=(l.map (·.1)).map V.str:=by rw [List.map_map];rfl
    refine ⟨.ref s.heap.objs.size,upd H s.heap.objs.size (.lst (l.map fun p=>V.str p.1)),?_,rfl,q _ _ _ (aQ hn _) hn aS ?_ ?_⟩
    ·refine I.laid (fun b o e=>Heap.get?_push_of_some _ e) ↥30 ⟨?_,strValues l,0,kT l,?_⟩
     ·rw [List.length_map]
      exact Nat.le_trans ll (by rw [sizeLine_eq];decide)
     ·exact Heap.get?_push_size s.heap rfl
    ·rw [eD,eV]
     exact kU _
    ·rw [eD]
     exact jI _
   ·cases e
  ·cases e
 ·cases e
theorem rF {apos cpos:Pos} (ho:SE X a ga) (ha:SE X b gb)
  (hbase:attributeBase a "split" X.env (eval a X.env)=eval a X.env:=by rfl)
  (hfew:((backTo cpos (starEach [b] X.env)).all (fun x => !x.1)&&(backToKw cpos (keywordEach [] X.env)).all (fun x=>x.1.isSome)
   && decide ([b].length+([]:List Keyword).length+(if ([]:List Keyword).isEmpty then 0 else 1)<30))=true:=by rfl)
  (hline:(apos.endLine == cpos.line)=true:=by rfl) (hs:starEach [b] X.env=[(false,eval b X.env)]:=by rfl) :
  FE X (.Call (.Attribute a "split" apos) [b] [] cpos) (mS cT ga gb):=by
 refine PE.weak (yL F.plainAttrs_str F.slot_str_split F.type_str_split qT ho (fO ha iu hs) hbase hfew hline hs (by rfl)) fun σ H Q ⟨δ,hσ,h⟩=>⟨δ,hσ,?_⟩
 unfold mS at h
 cases r:ga δ with
 | ok dx =>
  rw [r] at h
  simp only [R.bind] at h
  intro x H1 s1 r1
  cases dx with
  | str z =>
   cases r1
   refine ⟨rfl,δ,hσ.mono s1,?_⟩
   simp only at h
   cases r2:gb δ with
   | ok dy =>
    rw [r2] at h
    simp only [R.bind] at h
    intro y H2 s2 r3
    cases e:cT z dy with
    | ok d =>
     rw [e] at h
     cases d with
     | lst rs=>exact ⟨z,y,dy,rs,rfl,rfl,r3,e,fun a xs H' s' hn ha rr fl=>h a xs H' ((s1.trans s2).trans s') (by
       cases q:H a with
       | none=>rfl
       | some o=>rw [(s1.trans s2) a o q] at hn;cases hn) ha rr fl⟩
     | _=>exact False.elim h
    | ex C=>exact absurd e (zx z dy C)
    | bad=>rw [e] at h;exact False.elim h
   | ex C=>rw [r2] at h;exact fun Ca hc H' s'=>h Ca hc H' (s1.trans s')
   | bad=>rw [r2] at h;exact False.elim h
  | _=>exact False.elim h
 | ex C=>rw [r] at h;exact h
 | bad=>rw [r] at h;exact False.elim h
end
inductive DE (X:Cx):List DictEntry->List (Str×D)->Prop
 | nil:DE X [] []
 | cons {k:Str} {t:Tok} {u:Value} {v:V} {d:D} {es:List DictEntry} {tab:List (Str×D)}:RelV v u->(∀ H,Rep X.K X.mg H v d)->DE X es tab->DE X (⟨hashStr X.w k,.str k t,u⟩::es) ((k,d)::tab)
structure GD (X:Cx) (x:String) (tab:List (Str×D)):Prop where
 ex:∃ (a:Addr) (n:Nat) (es:List DictEntry),X.mg x=some (.ref a)/\(a == sysModules)=false/\X.K.lookup a=some ⟨.type "dict",none,.dict es.toArray n,#[]⟩/\DE X es tab/\(tab.map (·.1)).Nodup
section
variable {X:Cx} {x:String} {tab:List (Str×D)} {a b:Expr} {ga gb:E} {pos p:Pos}
theorem DE.kvs {es:List DictEntry} (h:DE X es tab):∃ kvs:List (Str×Value),(∀ e∈es,∃ k,(strKind X.prog X.w).is k e.key=true/\e.hash=(strKind X.prog X.w).hash k)/\Pairs (strKind X.prog X.w) es kvs/\kvs.map (·.1)=tab.map (·.1) /\
  ∀ x,(bC tab x=none/\valueAt kvs x=none)\/∃ d u v,bC tab x=some d/\valueAt kvs x=some u/\RelV v u/\∀ H,Rep X.K X.mg H v d:=by
 induction h with
 | nil=>exact ⟨[],fun e z=>(nomatch z),.nil,rfl,fun x=>.inl ⟨rfl,rfl⟩⟩
 | @cons k t u v d es tab r rp _ ih =>
  obtain ⟨kvs,h1,h2,h3,h4⟩:=ih
  refine ⟨(k,u)::kvs,fun e z => ?_,.cons (strKind_is _ _ _ _) rfl h2,by rw [List.map_cons,List.map_cons,h3],fun x => ?_⟩
  ·rcases List.mem_cons.mp z with rfl | z
   ·exact ⟨k,strKind_is _ _ _ _,rfl⟩
   ·exact h1 e z
  ·by_cases hk:k=x
   ·refine .inr ⟨d,u,v,if_pos hk,?_,r,rp⟩
    unfold valueAt
    rw [List.find?_cons_of_pos (by simpa using hk)]
    rfl
   ·have e1:bC ((k,d)::tab) x=bC tab x:=if_neg hk
    have e2:valueAt ((k,u)::kvs) x=valueAt kvs x:=by
     unfold valueAt
     rw [List.find?_cons_of_neg (by simpa using hk)]
    rw [e1,e2]
    exact h4 x
theorem GD.dict (h:GD X x tab):∃ (a:Addr) (kvs:List (Str×Value)),X.mg x=some (.ref a)/\(a == sysModules)=false/\(∀ h:Heap,X.K.In h->h.DictOf (strKind X.prog X.w) a kvs) /\
  ∀ x,(bC tab x=none/\valueAt kvs x=none)\/∃ d u v,bC tab x=some d/\valueAt kvs x=some u/\RelV v u/\∀ H,Rep X.K X.mg H v d:=by
 obtain ⟨a,n,es,hm,hs,hk,de,nd⟩:=h.ex
 obtain ⟨kvs,h1,h2,h3,h4⟩:=de.kvs
 exact ⟨a,kvs,hm,hs,fun h kin=>⟨_,_,_,kin a _ hk,⟨rfl,rfl,rfl⟩,rfl,fun e he=>h1 e (by simpa using he),by simpa using h2,by rw [h3];exact nd⟩,h4⟩
theorem BY (G:Gb X x) (h:GD X x tab) (ha:SE X a ga):PC X .In a (.Name x p) (tE X (un (dIn tab) ga)):=by
 obtain ⟨d,kvs,hm,hs,hd,hv⟩:=h.dict
 intro pins s σ H Q I ⟨δ,hσ,q⟩
 refine thn (ha pins s σ H _ I ⟨δ,hσ,RQ.bind q⟩) fun u s1 ⟨v,H1,I1,rv,s2,dx,r1,q1⟩=>dz I1 G.g hm ?_ G.d
 cases dx with
 | str z =>
  cases r1
  obtain ⟨t,rfl⟩:=rv
  refine wpAny_in_of (strKind_is _ _ _ _) hs (hd _ I1.kIn).mapOf ⟨.bl _,H1,I1.tok _,rfl,?_⟩
  have e:(bC tab z).isSome=(valueAt kvs z).isSome:=by rcases hv z with ⟨a,b⟩ | ⟨d,u,v,a,b,_⟩<;>rw [a,b]<;>rfl
  rw [<- e]
  exact q1 _ _ ↥20 (.bl _)
 | _=>exact False.elim q1
theorem qr (G:Gb X x) (h:GD X x tab) (ha:SE X a ga):PC X .NotIn a (.Name x p) (tE X (un (fi tab) ga)):=by
 obtain ⟨d,kvs,hm,hs,hd,hv⟩:=h.dict
 intro pins s σ H Q I ⟨δ,hσ,q⟩
 refine thn (ha pins s σ H _ I ⟨δ,hσ,RQ.bind q⟩) fun u s1 ⟨v,H1,I1,rv,s2,dx,r1,q1⟩=>dz I1 G.g hm ?_ G.d
 cases dx with
 | str z =>
  cases r1
  obtain ⟨t,rfl⟩:=rv
  refine wpAny_notIn_of (strKind_is _ _ _ _) hs (hd _ I1.kIn).mapOf ⟨.bl _,H1,I1.tok _,rfl,?_⟩
  have e:(bC tab z).isSome=(valueAt kvs z).isSome:=by rcases hv z with ⟨a,b⟩ | ⟨d,u,v,a,b,_⟩<;>rw [a,b]<;>rfl
  rw [<- e]
  exact q1 _ _ ↥20 (.bl _)
 | _=>exact False.elim q1
theorem RT.toB {σ:L2.St} {H:Hp} {r:R D} {Q:Bool->Hp->Prop} (h:RT X σ H r Q):RQ X σ H r fun v H'=>∃ b,v=.bl b/\Q b H':=by
 cases r with
 | ok d =>
  cases d with
  | bl b=>exact fun v H' s r=>by cases r;exact ⟨b,rfl,h H' s⟩
  | _=>exact False.elim h
 | ex C=>exact h
 | bad=>exact False.elim h
theorem Bn (G:Gb X x) (h:GD X x tab) (ha:SE X a ga):ST X (.Compare a [.In] [.Name x p] pos) (un (dIn tab) ga):=PT.weak (vL (BY G h ha) rfl) fun σ H Q ⟨δ,hσ,q⟩=>⟨δ,hσ,RT.toB q⟩
theorem tW (G:Gb X x) (h:GD X x tab) (ha:SE X a ga):ST X (.Compare a [.NotIn] [.Name x p] pos) (un (fi tab) ga):=PT.weak (vL (qr G h ha) rfl) fun σ H Q ⟨δ,hσ,q⟩=>⟨δ,hσ,RT.toB q⟩
end
end ES
namespace ES
open PySem PySem.Spec PyProof.Rows L2 EV
unseal SE ST SW SA SS SSs SI SO SSF
section
variable {X:Cx} {x:String} {tab:List (Str×D)} {a b:Expr} {ga gb:E} {pos p:Pos}
theorem rK (G:Gb X x) (h:GD X x tab) (hb:SE X b gb) (hs:m5 b:=by intro _ _;rfl):SE X (.Subscript (.Name x p) b pos) (un (nX tab) gb):=by
 obtain ⟨d,kvs,hm,_,hd,hv⟩:=h.dict
 intro pins s σ H Q I ⟨δ,hσ,q⟩
 refine Subscript_ (dz I G.g hm ?_ G.d)
 refine thn (hb pins s σ H _ I ⟨δ,hσ,RQ.bind q⟩) fun u s1 ⟨v,H1,I1,rv,s2,dx,r1,q1⟩ => ?_
 cases dx with
 | str z =>
  cases r1
  obtain ⟨t,rfl⟩:=rv
  have D0:=hd _ I1.kIn
  rcases hv z with ⟨e1,e2⟩ | ⟨dd,u,v,e1,e2,rr,rp⟩
  ·unfold nX at q1
   simp only [e1] at q1
   exact False.elim q1
  ·refine subscriptTail_builtin D0.mapOf.typeIs PySem.F.slot_dict_getitem.lookup (wpAny_getItem_of (strKind_is _ _ _ _) D0.mapOf e2 ⟨v,H1,I1.tok _,rr,?_⟩) (hs _ _)
   unfold nX at q1
   simp only [e1] at q1
   exact q1 _ _ ↥20 (rp _)
 | _=>exact False.elim q1
theorem upper_one {c:Nat} (h1:97<=c) (h2:c<=122):Txt.upper ⟨#[c]⟩=⟨#[c - 32]⟩:=by
 have:∀ c:Nat,c<123->97<=c->Txt.upper ⟨#[c]⟩=⟨#[c - 32]⟩:=by decide +kernel
 exact this c ⋯ h1
def rUp (X:Cx):V->List V->Hp->VK->Prop:=fun x vs H Q=>∃ z d,x=.str z/\vs=[]/\mUp (.str z)=.ok d/\∀ w H',ay H H'->Rep X.K X.mg H' w d->Q w H'
theorem uQ:MtR X "str.upper" (rUp X):=by
 intro pins s σ H x vs v us Q I rx rv h
 obtain ⟨z,d,rfl,rfl,e,q⟩:=h
 have hus:=rv.zero
 subst hus
 obtain ⟨t,rfl⟩:=rx
 unfold mUp at e
 simp only at e
 split at e
 ·rename_i c hc
  split at e
  ·rename_i hz
   cases e
   have ez:z=⟨#[c]⟩:=by
    cases z with
    | mk cs=>congr 1;apply Array.ext';exact hc
   subst ez
   refine SCL.upper (by show 1<=_;decide) fun _ => ?_
   rw [upper_one hz.1 hz.2]
   exact ⟨.str _,H,I.tok _,⟨_,rfl⟩,q _ _ ↥20 (.str _)⟩
  ·cases e
 ·cases e
theorem zV {apos cpos:Pos} (ho:SE X a ga) (hbase:attributeBase a "upper" X.env (eval a X.env)=eval a X.env:=by rfl) (hline:(apos.endLine == cpos.line)=true:=by rfl) :
  SE X (.Call (.Attribute a "upper" apos) [] [] cpos) (un mUp ga):=by
 refine PE.weak (vR F.plainAttrs_str F.slot_str_upper F.type_str_upper uQ ho hbase hline) fun σ H Q ⟨δ,hσ,h⟩=>⟨δ,hσ,(RQ.bind h).to fun x H1 s1 ⟨_,dx,r1,q1⟩ => ?_⟩
 cases dx with
 | str z =>
  cases r1
  cases e:mUp (.str z) with
  | ok d=>rw [e] at q1;exact ⟨rfl,z,d,rfl,rfl,e,q1⟩
  | ex C =>
   unfold mUp at e
   simp only at e
   split at e
   ·split at e<;>cases e
   ·cases e
  | bad=>rw [e] at q1;exact False.elim q1
 | _=>exact False.elim q1
end
theorem gE:fillsNumberSlot ↥11 "mul"=pure false :=
 PySem.fillsNumberSlot_seq (id:="tuple.__mul__") (r:=some (.builtin "tuple.__rmul__")) F.slot_tuple_mul.lookup ↥24 F.slot_tuple_rmul.lookup ↥24
theorem kZ:seqRepeat? ↥11=pure (some (.builtin "tuple.__mul__")):=by
 unfold seqRepeat?
 rw [PySem.seqSlot_of (T:="tuple") (name:="__mul__") (id:="tuple.__mul__") F.slot_tuple_mul.lookup ↥24,PySem.seqSlot_of (T:="tuple") (name:="__rmul__") (id:="tuple.__rmul__") F.slot_tuple_rmul.lookup ↥24]
 rfl
theorem Ey (a:Int) (t:Tok) (l:Addr) (xs:Array Value) (n:Nat) (d1:Option Addr) (s1:Array ↥37) :
  Meets (Builtin.«int.__rmul__» ⟨[.int a t,.ref l],[]⟩) (fun _ R s=>s.heap.get? l=some { cls:=.type "tuple",dict:=d1,data:=.seq xs n,slots:=s1 }/\R (.ok (.ret .notImplemented)) s) :=
 .of_wp fun prog w A R s h=>by
  obtain ⟨hp,g,dd,tk,os⟩:=s
  obtain ⟨ha,h⟩:=h
  wp_walk using AutoSeq1.wpAny_loadPart' ha
  exact ⟨_,rfl,h⟩
theorem Ee (l:Addr) (xs:Array Value) (n:Nat) (k:Int) (t:Tok) (d1:Option Addr) (s1:Array ↥37) (h0:xs.isEmpty=false) (h1:2<=k) (h2:k<=1000) (h3:xs.size*k.toNat<=100000)
  (h4:¬ (List.foldl (fun x1 x2=>x1++x2) #[] (List.replicate k.toNat xs)).size>sizeLine) :
  Meets (Builtin.«tuple.__mul__» ⟨[.ref l,.int k t],[]⟩) (fun _ R s=>s.heap.get? l=some { cls:=.type "tuple",dict:=d1,data:=.seq xs n,slots:=s1 } /\
   R (.ok (.ret (Value.ref s.heap.objs.size))) { s with heap:=s.heap.push { cls:=.type "tuple",data:=.seq (List.foldl (fun x1 x2=>x1++x2) #[] (List.replicate k.toNat xs)) } }) :=
 .of_wp fun prog w A R s h=>by
  obtain ⟨hp,g,dd,tk,os⟩:=s
  obtain ⟨ha,h⟩:=h
  have hk:(xs.size:Int)*k<=100000:=by
   have e:k=(k.toNat:Int):=⋯
   have h':((xs.size*k.toNat:Nat):Int)<=((100000:Nat):Int):=Int.ofNat_le.mpr h3
   rw [Int.natCast_mul,<-e] at h'
   exact h'
  have hl:(100000:Int)<=(sizeLine:Int):=by rw [sizeLine_eq];decide
  wp_walk using AutoSeq1.wpAny_loadPart' ha
  rw [if_neg (by simp;omega)]
  wp_walk using AutoSeq1.wpAny_loadPart' ha
  rw [if_neg (by rw [h0];simp;omega)]
  show wpAny _ _ (ite _ _ _) _ _ _
  rw [if_neg (by rw [h0];simp;omega)]
  show wpAny _ _ (ite _ _ _) _ _ _
  rw [if_neg ⋯]
  show wpAny _ _ (ite _ _ _) _ _ _
  rw [if_neg (by unfold Builtin.Tuple.tupleTooMany;simp;omega)]
  wp_walk
  exact ⟨_,rfl,h⟩
theorem Ef (l:Addr) (xs:Array Value) (n:Nat) (t:Tok) (d1:Option Addr) (s1:Array ↥37) :
  Meets (Builtin.«tuple.__mul__» ⟨[.ref l,.int 1 t],[]⟩) (fun _ R s=>s.heap.get? l=some { cls:=.type "tuple",dict:=d1,data:=.seq xs n,slots:=s1 }/\R (.ok (.ret (Value.ref l))) s) :=
 .of_wp fun prog w A R s h=>by
  obtain ⟨hp,g,dd,tk,os⟩:=s
  obtain ⟨ha,h⟩:=h
  wp_walk using AutoSeq1.wpAny_loadPart' ha
  exact ⟨_,rfl,h⟩
section
variable {X:Cx} {a b:Expr} {ga gb:E} {pos p:Pos}
theorem Ck:i8 lr:=fun x y C z=>by unfold lr at z;split at z<;>first | cases z | exact b0 z
theorem yQ:OpR X (binaryOp .Mult) (rD X lr):=by
 intro pins s σ H x y v u Q I rx ry ⟨dx,dy,d,r1,r2,e,q⟩
 unfold lr at e
 split at e
 ·rename_i xs' k
  split at e
  ·rename_i hz
   cases e
   have r1':=r1
   cases r1 with
   | @tup l xs _ hq rr =>
    cases r2
    cases rx
    obtain ⟨t,rfl⟩:=ry
    obtain ⟨its,r,⟨⟨c1,d1,t1,s1⟩,g0,g1,n,g2⟩,_⟩:=I.tuple hq
    simp only at g1 g2
    subst g1 g2
    have hl:=r.length
    have hl':=rr.length
    have nz:its≠[]:=fun z=>by
     rw [z] at hl
     rw [hl] at hl'
     exact hz.1 (List.length_eq_zero_iff.mp (by rw [<- hl'];rfl))
    have hsz:xs.length*k.toNat<=sizeLine:=by rw [hl'];exact Nat.le_trans hz.2.2.2 (by rw [sizeLine_eq];decide)
    refine wpAny_binaryOp_repeat_ref (T:="tuple") (U:="int") ↥0 ⟨_,g0,rfl⟩ (fun s'=>typeIs_int s' k t) gE F.fills_int_mul F.slot_int_rmul kZ F.slot_int_index.lookup
     (call_meets F.slot_int_rmul (typeIs_int s k t) F.entry_int_rmul (F.args_int_rmul_2 _ _) (Ey k t l its.toArray n _ _) ⟨g0,rfl,⟨_,g0,rfl⟩,?_⟩)
    by_cases hk:k=1
    ·subst hk
     refine call_meets F.slot_tuple_mul ⟨_,g0,rfl⟩ F.entry_tuple_mul (F.args_tuple_mul_2 _ _) (Ef l its.toArray n t _ _) ⟨g0,.ref l,H,I,rfl,q _ _ ↥20 ?_⟩
     have e1:(List.replicate (1:Int).toNat xs').flatten=xs':=by simp
     rw [e1]
     exact r1'
    ·have hnew:List.foldl (fun x1 x2=>x1++x2) #[] (List.replicate k.toNat its.toArray)=(List.replicate k.toNat its).flatten.toArray:=by
      have:=foldl_rep its k.toNat []
      rw [List.nil_append] at this
      exact this
     refine call_meets F.slot_tuple_mul ⟨_,g0,rfl⟩ F.entry_tuple_mul (F.args_tuple_mul_2 _ _) (Ee l its.toArray n k t _ _ (by cases its with | nil=>exact absurd rfl nz | cons _ _=>rfl) ⋯ hz.2.2.1 (by rw [List.size_toArray,<-hl,hl'];exact hz.2.2.2) (by
      rw [hnew,List.size_toArray,len_rep,Nat.mul_comm,<-hl]
      omega)) ⟨g0,?_⟩
     rw [hnew]
     refine ⟨.ref _,upd H s.heap.objs.size (.tup (List.replicate k.toNat xs).flatten),I.laid (fun _ _ q=>Heap.get?_push_of_some _ q) ↥30 ⟨by rw [len_rep,Nat.mul_comm];exact hsz,_,r.rep k.toNat,⟨_,Heap.get?_push_size _ rfl,rfl,0,rfl⟩⟩,rfl,q _ _ (aQ I.fresh _) (.tup (SqT.of aS) ((jY rr k.toNat).mono (aQ I.fresh _)))⟩
  ·cases e
 ·cases e
theorem C8 (ha:SE X a ga) (hb:SE X b gb):SE X (.BinOp a .Mult b pos) (EV.bin lr ga gb):=jk Ck yQ ha hb
theorem uf {N:List Str} (C:Sx X N) (i:Nat) {x:Str} {p:Pos} (hi:N[i]? = some x) (hx:Sto X x):PG X (.Name x p) (lG i):=j4 (i:=i) (by rw [C.sc.n];exact C.sc.nd) (by rw [C.sc.n];exact hi) hx.1 hx.2
theorem ua {a:Addr} {dd:Option Addr} {ss:List String} {its:Array Value} {n:Nat} {sl:Array ↥37} (hk:X.K.lookup a=some ⟨.type "tuple",dd,.seq its n,sl⟩) (hi:Vals (ss.map fun s=>V.str (Str.ofString s)) its.toList) (hz:its.size<=1000):∀ H,Rep X.K X.mg H (.ref a) (.tup (ss.map fun s=>D.str (Str.ofString s))):=by
 refine fun H=>.tup (.inr ⟨_,its,n,hk,rfl,rfl,Nat.le_of_lt (ig hz),hi⟩) ?_
 clear hi
 induction ss with
 | nil=>exact .nil
 | cons s r ih=>exact .cons (.str _) ih
theorem jL {k:Str} {t t':Tok} {i:Int} {es:List DictEntry} {tab:List (Str×D)} (h:DE X es tab):DE X (⟨hashStr X.w k,.str k t,.int i t'⟩::es) ((k,.int i)::tab):=.cons (v:=.int i) ⟨t',rfl⟩ (fun _=>.int i) h
theorem bW {k:Str} {t:Tok} {a:Addr} {dd:Option Addr} {ss:List String} {its:Array Value} {n:Nat} {sl:Array ↥37} (hk:X.K.lookup a=some ⟨.type "tuple",dd,.seq its n,sl⟩) (hi:Vals (ss.map fun s=>V.str (Str.ofString s)) its.toList) (hz:its.size<=1000)
  {es:List DictEntry} {tab:List (Str×D)} (h:DE X es tab):DE X (⟨hashStr X.w k,.str k t,.ref a⟩::es) ((k,.tup (ss.map fun s=>D.str (Str.ofString s)))::tab):=.cons (v:=.ref a) rfl (ua hk hi hz) h
theorem zM {x:String} {a:Addr} {n:Nat} {es:List DictEntry} {tab:List (Str×D)} (hm:X.mg x=some (.ref a)) (hs:(a == sysModules)=false) (hk:X.K.lookup a=some ⟨.type "dict",none,.dict es.toArray n,#[]⟩) (h:DE X es tab) (nd:(tab.map (·.1)).Nodup):GD X x tab:=⟨a,n,es,hm,hs,hk,h,nd⟩
end
end ES
namespace ES
open PySem PySem.Spec PyProof.Rows L2 EV
unseal SE ST SW SA SS SSs SI SO SSF
theorem fL {h h':Heap} {a t:Addr} {i:Nat} (x:h.IsTupleIter a t i) (k:∀ o,h.get? a=some o->h'.get? a=some o):h'.IsTupleIter a t i:=let ⟨o,ho,r⟩:=x;⟨o,k o ho,r⟩
section
variable {prog:Program} {w:World} {A:Around} {E:Value->Shared->Prop} {s:Shared}
theorem cQ {it t:Addr} {i:Nat} {items:Array Value} {x:Value} {Q:Value->Shared->Prop} (hit:s.heap.IsTupleIter it t i) (ht:s.heap.IsTuple t items) (hx:items[i]? = some x)
  (hQ:∀ h',h'.IsTupleIter it t (i+1)->Heap.SameBut it s.heap h'->Q x { s with heap:=h' }):wpAny ↥32 A (Builtin.SmallTypes.nextOf (.ref it)) Q E s:=by
 obtain ⟨o,ho,hc,hd⟩:=id hit
 obtain ⟨ol,hol,_,nl,hdl⟩:=ht
 unfold Builtin.SmallTypes.nextOf
 refine wpAny_bind (wpAny_callSpecial?_slot (name:=Str.ofString "__next__") hit.typeIs F.slot_tuple_iterator_next
  (wpAny_call_entry F.slot_tuple_iterator_next hit.typeIs F.entry_tuple_iterator_next ?_ (F.args_tuple_iterator_next_1 _)))
 show wpAny _ _ (field (.ref it) 0 >>= _) _ _ s
 refine wpAny_bind (wpAny_field ho hd (x:=.ref t) rfl ?_)
 show wpAny _ _ (if (Value.ref t == Value.none)=true then _ else _) _ _ s
 rw [if_neg (show ¬ ((Value.ref t == Value.none)=true) from Bool.false_ne_true)]
 show wpAny _ _ (field (.ref it) 1 >>= _) _ _ s
 refine wpAny_bind (wpAny_field ho hd (x:=.int i 0) rfl ?_)
 show wpAny _ _ (seqItems? (.ref t) >>= _) _ _ s
 refine wpAny_bind (wpAny_seqItems hol hdl ?_)
 simp only [Int.toNat_natCast,hx]
 refine wpAny_bind (wpAny_setField ho hd ↥19 (wpAny_pure ⟨x,rfl,wpAny_pure (hQ _ ?_ (Heap.SameBut.update ..))⟩))
 exact ⟨_,Heap.get?_update_self _ ho (Obj.isFreed_of_fields (Obj.data_mapFields hd _)),(Obj.cls_mapFields ..).trans hc,by
  rw [Obj.data_mapFields hd];simp [rawInt]⟩
theorem gF {it t:Addr} {i:Nat} {items:Array Value} {Q:Value->Shared->Prop} (hh:A.handled=none) (hit:s.heap.IsTupleIter it t i) (ht:s.heap.IsTuple t items) (hx:items[i]? = none)
  (hE:∀ h' e,Heap.ExtBut it s.heap h'->(∃ o,h'.get? e=some o/\o.cls=.type "StopIteration")->E (.ref e) { s with heap:=h' }):wpAny ↥32 A (Builtin.SmallTypes.nextOf (.ref it)) Q E s:=by
 obtain ⟨o,ho,hc,hd⟩:=id hit
 obtain ⟨ol,hol,_,nl,hdl⟩:=ht
 unfold Builtin.SmallTypes.nextOf
 refine wpAny_bind (wpAny_callSpecial?_slot (name:=Str.ofString "__next__") hit.typeIs F.slot_tuple_iterator_next
  (wpAny_call_entry F.slot_tuple_iterator_next hit.typeIs F.entry_tuple_iterator_next ?_ (F.args_tuple_iterator_next_1 _)))
 show wpAny _ _ (field (.ref it) 0 >>= _) _ _ s
 refine wpAny_bind (wpAny_field ho hd (x:=.ref t) rfl ?_)
 show wpAny _ _ (if (Value.ref t == Value.none)=true then _ else _) _ _ s
 rw [if_neg (show ¬ ((Value.ref t == Value.none)=true) from Bool.false_ne_true)]
 show wpAny _ _ (field (.ref it) 1 >>= _) _ _ s
 refine wpAny_bind (wpAny_field ho hd (x:=.int i 0) rfl ?_)
 show wpAny _ _ (seqItems? (.ref t) >>= _) _ _ s
 refine wpAny_bind (wpAny_seqItems hol hdl ?_)
 simp only [Int.toNat_natCast,hx]
 refine wpAny_bind (wpAny_rule (wpAny_bind (wpAny_setField ho hd ↥19 ?_)))
 show wpAny _ _ (newExc (.type "StopIteration") [] >>= _) _ _ _
 refine wpAny_bind ?_
 simp only [newExc,newTuple]
 refine wpAny_bind (wpAny_newObj_type ?_ (by size_fits))
 refine wpAny_bind (m:=firstArgMember _ _) (wpAny_of_eq (a:=Value.none) (by first | rfl | (simp only [firstArgMember];rfl)) ?_)
 refine wpAny_newObj_type ?_ (by size_fits)
 simp only [raiseNew]
 refine wpAny_bind (wpAny_handled ?_)
 first | rw [show A.in1.handled=none from hh] | rw [hh]
 refine wpAny_bind (wpAny_pure (wpAny_throw ?_))
 exact hE _ _ (((Heap.SameBut.update ..).extBut.push _).push _) ⟨_,Heap.get?_push_size _ rfl,rfl⟩
theorem pI {z TI TO i1 i2 l1 l2:Addr} {k1 k2:Nat} {xs ys:Array Value} {x y a b:Value} {Q:Value->Shared->Prop} (D:ZipApart z TI TO i1 i2 l1 l2)
  (hz:IsZip s.heap z TI TO .none) (hTI:IsPair s.heap TI (.ref i1) (.ref i2)) (hTO:IsPair s.heap TO a b)
  (h1:s.heap.IsTupleIter i1 l1 k1) (h2:s.heap.IsListIter i2 l2 k2) (hl1:s.heap.IsTuple l1 xs) (hl2:s.heap.IsList l2 ys) (hx:xs[k1]? = some x) (hy:ys[k2]? = some y)
  (hQ:∀ h',IsZip h' z TI TO (rawInt s.heap.objs.size)->IsPair h' TO x y->h'.IsTupleIter i1 l1 (k1+1)->h'.IsListIter i2 l2 (k2+1)->IsPair h' s.heap.objs.size x y->h'.objs.size=s.heap.objs.size+1 ->
   ↥33->Q (.ref s.heap.objs.size) { s with heap:=h' }) :
  wpAny ↥32 A (Builtin.«zip.__next__» ⟨[.ref z],[]⟩) (fun fin s'=>∃ v,fin=.done (.ret v)/\Q v s') E s:=by
 show wpAny _ _ (field (.ref z) 2 >>= _) _ _ _
 refine wpAny_bind (wpAny_field hz rfl (x:=.bool false) rfl ?_)
 show wpAny _ _ (field (.ref z) 3 >>= _) _ _ _
 refine wpAny_bind (wpAny_field hz rfl (x:=.ref TI) rfl ?_)
 refine wpAny_bind (wpAny_seqItems hTI rfl ?_)
 show wpAny _ _ (Builtin.SmallTypes.ownedTupleIsFree (.ref z) >>= _) _ _ _
 refine wpAny_bind ?_
 unfold Builtin.SmallTypes.ownedTupleIsFree
 refine wpAny_bind (wpAny_field hz rfl (x:=.none) rfl (wpAny_pure ?_))
 simp only [if_true]
 refine wpAny_bind (wpAny_rule ?_)
 refine wpAny_bind (wpAny_field hz rfl (x:=.ref TO) rfl ?_)
 refine wpAny_bind (wpAny_setField_rec hz ↥19 fun h₁ hz₁ hs₁ => ?_)
 replace hz₁:IsZip h₁ z TI TO .ellipsis:=hz₁
 refine wpAny_bind ?_
 simp only [List.zipIdx_cons,List.zipIdx_nil,List.forIn_cons,List.forIn_nil]
 refine wpAny_bind (wpAny_bind (wpAny_onRaise ?_))
 show wpAny _ _ (Builtin.SmallTypes.nextOf (.ref i1) >>= _) _ _ _
 refine wpAny_bind (cQ (h1.extBut hs₁.extBut D.i1z) (hl1.extBut hs₁.extBut D.l1z) hx fun h₂ h1₂ hs₂=>wpAny_pure ?_)
 have hTO₂:IsPair h₂ TO a b:=hs₂.extBut _ _ D.TOi1 (hs₁.extBut _ _ D.TOz hTO)
 refine wpAny_bind (wpAny_seqItems hTO₂ rfl ?_)
 refine wpAny_bind (wpAny_updateSeq_pair hTO₂ fun h₃ hTO₃ hs₃ => ?_)
 replace hTO₃:IsPair h₃ TO x b:=hTO₃
 refine wpAny_bind (wpAny_letGo (wpAny_pure ?_))
 refine wpAny_bind (wpAny_bind (wpAny_onRaise ?_))
 show wpAny _ _ (Builtin.SmallTypes.nextOf (.ref i2) >>= _) _ _ _
 refine wpAny_bind (wpAny_nextOf_list_item (((h2.extBut hs₁.extBut D.i2z).extBut hs₂.extBut D.i12.symm).extBut hs₃.extBut D.TOi2.symm)
  (((hl2.extBut hs₁.extBut D.l2z).extBut hs₂.extBut D.l2i1).extBut hs₃.extBut D.l2TO) hy fun h₄ h2₄ hs₄=>wpAny_pure ?_)
 have hTO₄:IsPair h₄ TO x b:=hs₄.extBut _ _ D.TOi2 hTO₃
 refine wpAny_bind (wpAny_seqItems hTO₄ rfl ?_)
 refine wpAny_bind (wpAny_updateSeq_pair hTO₄ fun h₅ hTO₅ hs₅ => ?_)
 replace hTO₅:IsPair h₅ TO x y:=hTO₅
 refine wpAny_bind (wpAny_letGo (wpAny_pure (wpAny_pure ?_)))
 refine wpAny_bind (wpAny_seqItems hTO₅ rfl ?_)
 refine wpAny_bind (wpAny_newTuple ?_)
 have hsz:h₅.objs.size=s.heap.objs.size:=by rw [hs₅.1,hs₄.1,hs₃.1,hs₂.1,hs₁.1]
 have hz₅:IsZip h₅ z TI TO .ellipsis:=hs₅.extBut _ _ D.TOz.symm (hs₄.extBut _ _ D.i2z.symm (hs₃.extBut _ _ D.TOz.symm (hs₂.extBut _ _ D.i1z.symm hz₁)))
 have hk₅:∀ c o,c≠z->c≠TO->c≠i1->c≠i2->s.heap.get? c=some o->h₅.get? c=some o:=fun c o c1 c2 c3 c4 e =>
  hs₅.extBut _ _ c2 (hs₄.extBut _ _ c4 (hs₃.extBut _ _ c2 (hs₂.extBut _ _ c3 (hs₁.extBut _ _ c1 e))))
 have h1₅:h₅.IsTupleIter i1 l1 (k1+1):=((h1₂.extBut hs₃.extBut D.TOi1.symm).extBut hs₄.extBut D.i12).extBut hs₅.extBut D.TOi1.symm
 have h2₅:h₅.IsListIter i2 l2 (k2+1):=h2₄.extBut hs₅.extBut D.TOi2.symm
 have hzlt:z<h₅.objs.size:=Heap.lt_size hz₅
 show wpAny _ _ (Builtin.SmallTypes.ownedTupleHandOut (.ref z) (.ref h₅.objs.size) >>= _) _ _ _
 refine wpAny_bind ?_
 unfold Builtin.SmallTypes.ownedTupleHandOut
 have hz₆:IsZip (h₅.push { cls:=.type "tuple",data:=.seq #[x,y] }) z TI TO .ellipsis:=Heap.get?_push_of_some _ hz₅
 refine wpAny_bind (wpAny_setField_rec hz₆ ↥19 fun h₇ hz₇ hs₇ => ?_)
 replace hz₇:IsZip h₇ z TI TO (rawInt h₅.objs.size):=hz₇
 refine wpAny_setField_rec hz₇ ↥19 fun h₈ hz₈ hs₈ => ?_
 replace hz₈:IsZip h₈ z TI TO (rawInt h₅.objs.size):=hz₈
 have up:∀ c o,c≠z->h₅.get? c=some o->h₈.get? c=some o:=fun c o c1 e=>hs₈.extBut _ _ c1 (hs₇.extBut _ _ c1 (Heap.get?_push_of_some _ e))
 have hT₈:IsPair h₈ h₅.objs.size x y:=hs₈.extBut _ _ (Nat.ne_of_gt hzlt) (hs₇.extBut _ _ (Nat.ne_of_gt hzlt) (Heap.get?_push_size _ rfl))
 have hz8:h₈.objs.size=h₅.objs.size+1:=by rw [hs₈.1,hs₇.1,Heap.size_push]
 rw [hsz] at hz₈ hT₈ hz8
 refine wpAny_pure ⟨_,rfl,?_⟩
 show Q (.ref h₅.objs.size) _
 rw [hsz]
 exact hQ h₈ hz₈ (up _ _ D.TOz hTO₅) (fL h1₅ fun o e=>up _ o D.i1z e) (h2₅.at fun o e=>up _ o D.i2z e) hT₈ hz8 fun c o c1 c2 c3 c4 e=>up c o c1 (hk₅ c o c1 c2 c3 c4 e)
theorem sI {z TI TO i1 i2 l1 l2:Addr} {k1 k2:Nat} {xs ys:Array Value} {a b:Value} {Q:Fin->Shared->Prop} (hh:A.handled=none) (D:ZipApart z TI TO i1 i2 l1 l2)
  (hz:IsZip s.heap z TI TO .none) (hTI:IsPair s.heap TI (.ref i1) (.ref i2)) (hTO:IsPair s.heap TO a b)
  (h1:s.heap.IsTupleIter i1 l1 k1) (h2:s.heap.IsListIter i2 l2 k2) (hl1:s.heap.IsTuple l1 xs) (hl2:s.heap.IsList l2 ys) (hend:xs[k1]? = none\/ys[k2]? = none)
  (hE:∀ h' e,↥33->(∃ o,h'.get? e=some o/\o.cls=.type "StopIteration")->E (.ref e) { s with heap:=h' }) :
  wpAny ↥32 A (Builtin.«zip.__next__» ⟨[.ref z],[]⟩) Q E s:=by
 show wpAny _ _ (field (.ref z) 2 >>= _) _ _ _
 refine wpAny_bind (wpAny_field hz rfl (x:=.bool false) rfl ?_)
 show wpAny _ _ (field (.ref z) 3 >>= _) _ _ _
 refine wpAny_bind (wpAny_field hz rfl (x:=.ref TI) rfl ?_)
 refine wpAny_bind (wpAny_seqItems hTI rfl ?_)
 show wpAny _ _ (Builtin.SmallTypes.ownedTupleIsFree (.ref z) >>= _) _ _ _
 refine wpAny_bind ?_
 unfold Builtin.SmallTypes.ownedTupleIsFree
 refine wpAny_bind (wpAny_field hz rfl (x:=.none) rfl (wpAny_pure ?_))
 simp only [if_true]
 refine wpAny_bind (wpAny_rule ?_)
 refine wpAny_bind (wpAny_field hz rfl (x:=.ref TO) rfl ?_)
 refine wpAny_bind (wpAny_setField_rec hz ↥19 fun h₁ hz₁ hs₁ => ?_)
 replace hz₁:IsZip h₁ z TI TO .ellipsis:=hz₁
 refine wpAny_bind ?_
 simp only [List.zipIdx_cons,List.zipIdx_nil,List.forIn_cons,List.forIn_nil]
 refine wpAny_bind (wpAny_bind (wpAny_onRaise ?_))
 show wpAny _ _ (Builtin.SmallTypes.nextOf (.ref i1) >>= _) _ _ _
 cases hx:xs[k1]? with
 | none =>
  refine wpAny_bind (gF hh (h1.extBut hs₁.extBut D.i1z) (hl1.extBut hs₁.extBut D.l1z) hx fun h₂ e hs₂ he => ?_)
  obtain ⟨oe,hoe,hce⟩:=he
  have hz₂:IsZip h₂ z TI TO .ellipsis:=hs₂ _ _ D.i1z.symm hz₁
  have hez:e≠z:=fun x=>by subst x;rw [hz₂] at hoe;cases hoe;simp at hce
  refine wpAny_setField_rec hz₂ ↥19 fun h₃ _ hs₃=>hE h₃ e (fun c o c1 _ c3 _ x=>hs₃.extBut _ _ c1 (hs₂ _ _ c3 (hs₁.extBut _ _ c1 x))) ⟨oe,hs₃.extBut _ _ hez hoe,hce⟩
 | some x =>
  have hy:ys[k2]? = none:=by rcases hend with h | h;rw [hx] at h;cases h;exact h
  refine wpAny_bind (cQ (h1.extBut hs₁.extBut D.i1z) (hl1.extBut hs₁.extBut D.l1z) hx fun h₂ h1₂ hs₂=>wpAny_pure ?_)
  have hTO₂:IsPair h₂ TO a b:=hs₂.extBut _ _ D.TOi1 (hs₁.extBut _ _ D.TOz hTO)
  refine wpAny_bind (wpAny_seqItems hTO₂ rfl ?_)
  refine wpAny_bind (wpAny_updateSeq_pair hTO₂ fun h₃ hTO₃ hs₃ => ?_)
  refine wpAny_bind (wpAny_letGo (wpAny_pure ?_))
  refine wpAny_bind (wpAny_bind (wpAny_onRaise ?_))
  show wpAny _ _ (Builtin.SmallTypes.nextOf (.ref i2) >>= _) _ _ _
  refine wpAny_bind (wpAny_nextOf_list_end hh (((h2.extBut hs₁.extBut D.i2z).extBut hs₂.extBut D.i12.symm).extBut hs₃.extBut D.TOi2.symm)
   (((hl2.extBut hs₁.extBut D.l2z).extBut hs₂.extBut D.l2i1).extBut hs₃.extBut D.l2TO) hy fun h₄ e hs₄ he => ?_)
  obtain ⟨oe,hoe,hce⟩:=he
  have hz₄:IsZip h₄ z TI TO .ellipsis:=hs₄ _ _ D.i2z.symm (hs₃.extBut _ _ D.TOz.symm (hs₂.extBut _ _ D.i1z.symm hz₁))
  have hez:e≠z:=fun x=>by subst x;rw [hz₄] at hoe;cases hoe;simp at hce
  refine wpAny_setField_rec hz₄ ↥19 fun h₅ _ hs₅=>hE h₅ e (fun c o c1 c2 c3 c4 x=>hs₅.extBut _ _ c1 (hs₄ _ _ c4 (hs₃.extBut _ _ c2 (hs₂.extBut _ _ c3 (hs₁.extBut _ _ c1 x))))) ⟨oe,hs₅.extBut _ _ hez hoe,hce⟩
theorem oV {z TI TO i1 i2 l1 l2:Addr} {k1 k2:Nat} {xs ys:Array Value} {x y a b:Value} {Q:Option Value->Shared->Prop} (D:ZipApart z TI TO i1 i2 l1 l2)
  (hz:IsZip s.heap z TI TO .none) (hTI:IsPair s.heap TI (.ref i1) (.ref i2)) (hTO:IsPair s.heap TO a b)
  (h1:s.heap.IsTupleIter i1 l1 k1) (h2:s.heap.IsListIter i2 l2 k2) (hl1:s.heap.IsTuple l1 xs) (hl2:s.heap.IsList l2 ys) (hx:xs[k1]? = some x) (hy:ys[k2]? = some y)
  (hQ:∀ h',IsZip h' z TI TO (rawInt s.heap.objs.size)->IsPair h' TO x y->h'.IsTupleIter i1 l1 (k1+1)->h'.IsListIter i2 l2 (k2+1)->IsPair h' s.heap.objs.size x y->h'.objs.size=s.heap.objs.size+1 ->
   ↥33->Q (some (.ref s.heap.objs.size)) { s with heap:=h' }) :
  wpAny ↥32 A (pyNext (.ref z)) Q E s:=by
 have hT:s.TypeIs (.ref z) "zip":=⟨_,hz,rfl⟩
 unfold pyNext
 exact wpAny_bind (wpAny_attempt (wpAny_callSpecial?_slot (name:=Str.ofString "__next__") hT F.slot_zip_next
  (wpAny_call_entry F.slot_zip_next hT F.entry_zip_next
   (pI D hz hTI hTO h1 h2 hl1 hl2 hx hy fun h' a1 a2 a3 a4 a5 a6 a7=>wpAny_pure (hQ h' a1 a2 a3 a4 a5 a6 a7)) (F.args_zip_next_1 _))))
theorem qQ {z TI TO i1 i2 l1 l2:Addr} {k1 k2:Nat} {xs ys:Array Value} {a b:Value} {Q:Option Value->Shared->Prop} (hh:A.handled=none) (D:ZipApart z TI TO i1 i2 l1 l2)
  (hz:IsZip s.heap z TI TO .none) (hTI:IsPair s.heap TI (.ref i1) (.ref i2)) (hTO:IsPair s.heap TO a b)
  (h1:s.heap.IsTupleIter i1 l1 k1) (h2:s.heap.IsListIter i2 l2 k2) (hl1:s.heap.IsTuple l1 xs) (hl2:s.heap.IsList l2 ys) (hend:xs[k1]? = none\/ys[k2]? = none)
  (hQ:∀ h',↥33->Q none { s with heap:=h' }):wpAny ↥32 A (pyNext (.ref z)) Q E s:=by
 have hT:s.TypeIs (.ref z) "zip":=⟨_,hz,rfl⟩
 unfold pyNext
 refine wpAny_bind (wpAny_attempt (wpAny_callSpecial?_slot (name:=Str.ofString "__next__") hT F.slot_zip_next
  (wpAny_call_entry F.slot_zip_next hT F.entry_zip_next (sI hh D hz hTI hTO h1 h2 hl1 hl2 hend fun h' e hk he => ?_) (F.args_zip_next_1 _))))
 obtain ⟨o,ho,hc⟩:=he
 refine wpAny_bind (wpAny_isInstance (T:="StopIteration") (b:=true) ⟨o,ho,hc⟩ isSubtype_stop ?_)
 exact wpAny_pure (hQ _ hk)
end
abbrev zT1 (h:Heap) (l1:Addr):Heap:=h.push { cls:=.type "tuple_iterator",data:=.fields #[.ref l1,.int 0 0] }
abbrev zT2 (h:Heap) (l1 l2:Addr):Heap:=(zT1 h l1).push { cls:=.type "list_iterator",data:=.fields #[.ref l2,.int 0 0] }
abbrev zT3 (h:Heap) (l1 l2:Addr):Heap:=(zT2 h l1 l2).push { cls:=.type "tuple",data:=.seq #[.ref h.objs.size,.ref (zT1 h l1).objs.size] }
abbrev zT4 (h:Heap) (l1 l2:Addr):Heap:=(zT3 h l1 l2).push { cls:=.type "tuple",data:=.seq #[.none,.none] }
abbrev zT5 (h:Heap) (l1 l2:Addr):Heap:=(zT4 h l1 l2).push { cls:=.type "zip",data:=.fields #[.none,.bool false,.bool false,.ref (zT2 h l1 l2).objs.size,.ref (zT3 h l1 l2).objs.size] }
theorem oY (l1 l2:Addr) (xs ys:Array Value) :
  Meets (Builtin.«zip.__new__» ⟨[.type "zip",.ref l1,.ref l2],[]⟩) (fun _ R s=>s.heap.IsTuple l1 xs/\s.heap.IsList l2 ys /\
   R (.ok (.ret (.ref (zT4 s.heap l1 l2).objs.size))) { s with heap:=zT5 s.heap l1 l2 }) :=
 .of_wp fun prog w A R s h=>by
  obtain ⟨hp,g,d,tk,os⟩:=s;obtain ⟨hl1,hl2,h⟩:=h
  have hsub:=sub_zip
  have hL1:Heap.IsTuple (Shared.heap ⟨hp,g,d,tk,os⟩) l1 xs:=hl1
  have hL2:Heap.IsList (Shared.heap ⟨hp.push { cls:=.type "tuple_iterator",data:=.fields #[.ref l1,.int 0 0] },g,d,tk,os⟩) l2 ys:=Heap.IsList.push hl2 _
  wp_walk using wpAny_pyIter_tuple hL1,wpAny_pyIter_list hL2
  exact ⟨_,rfl,h⟩
section
variable {prog:Program} {w:World} {A:Around} {E:Value->Shared->Prop} {s:Shared}
theorem rX {l1 l2:Addr} {xs ys:Array Value} {Q:Value->Shared->Prop} (hl1:s.heap.IsTuple l1 xs) (hl2:s.heap.IsList l2 ys)
  (h:∀ h',IsZip h' (s.heap.objs.size+4) (s.heap.objs.size+2) (s.heap.objs.size+3) .none->IsPair h' (s.heap.objs.size+2) (.ref s.heap.objs.size) (.ref (s.heap.objs.size+1)) ->
   IsPair h' (s.heap.objs.size+3) .none .none->h'.IsTupleIter s.heap.objs.size l1 0->h'.IsListIter (s.heap.objs.size+1) l2 0->h'.objs.size=s.heap.objs.size+5 ->
   (∀ c o,s.heap.get? c=some o->h'.get? c=some o)->Q (.ref (s.heap.objs.size+4)) { s with heap:=h' }) :
  wpAny ↥32 A (call (.type "zip") [.ref l1,.ref l2]) Q E s:=by
 refine callType_new F.called_zip ↥0 (F.typeCall_zip_2 _ _) (F.newCall_zip_2 _ _) (fun obj=>F.args_object_init_3 obj _ _) F.entry_zip_new
  (oY l1 l2 xs ys) ⟨hl1,hl2,?_⟩
 have z1:(zT1 s.heap l1).objs.size=s.heap.objs.size+1:=Heap.size_push ..
 have z2:(zT2 s.heap l1 l2).objs.size=s.heap.objs.size+2:=by rw [Heap.size_push,z1]
 have z3:(zT3 s.heap l1 l2).objs.size=s.heap.objs.size+3:=by rw [Heap.size_push,z2]
 have z4:(zT4 s.heap l1 l2).objs.size=s.heap.objs.size+4:=by rw [Heap.size_push,z3]
 have z5:(zT5 s.heap l1 l2).objs.size=s.heap.objs.size+5:=by rw [Heap.size_push,z4]
 have g5:(zT5 s.heap l1 l2).get? (zT4 s.heap l1 l2).objs.size=some _:=Heap.get?_push_size _ rfl
 have g4:(zT5 s.heap l1 l2).get? (zT3 s.heap l1 l2).objs.size=some _:=Heap.get?_push_of_some _ (Heap.get?_push_size _ rfl)
 have g3:(zT5 s.heap l1 l2).get? (zT2 s.heap l1 l2).objs.size=some _:=Heap.get?_push_of_some _ (Heap.get?_push_of_some _ (Heap.get?_push_size _ rfl))
 have g2:(zT5 s.heap l1 l2).get? (zT1 s.heap l1).objs.size=some _:=Heap.get?_push_of_some _ (Heap.get?_push_of_some _ (Heap.get?_push_of_some _ (Heap.get?_push_size _ rfl)))
 have g1:(zT5 s.heap l1 l2).get? s.heap.objs.size=some _:=Heap.get?_push_of_some _ (Heap.get?_push_of_some _ (Heap.get?_push_of_some _ (Heap.get?_push_of_some _ (Heap.get?_push_size _ rfl))))
 show _/\_
 rw [z2,z3,z4] at g5
 rw [z1,z2] at g3
 rw [z3] at g4
 rw [z1] at g2
 rw [z4]
 exact ⟨⟨_,g5,rfl⟩,h _ g5 g3 g4 ⟨_,g1,rfl,rfl⟩ ⟨_,g2,rfl,rfl⟩ z5 fun c o x =>
  Heap.get?_push_of_some _ (Heap.get?_push_of_some _ (Heap.get?_push_of_some _ (Heap.get?_push_of_some _ (Heap.get?_push_of_some _ x))))⟩
end
def J9 (K:PySem.W.Frag) (a b:Addr):It :=
 ⟨fun i H=>∃ xs ys x y,SqT K H a xs/\SqL K H b ys/\xs[i]? = some x/\ys[i]? = some y,
  fun i H v H'=>∃ p x y,H p=none/\v=.ref p/\H'=upd H p (.tup [x,y])/\(∀ xs,SqT K H a xs->xs[i]? = some x)/\∀ ys,SqL K H b ys->ys[i]? = some y,
  fun i H=>∃ xs ys,SqT K H a xs/\SqL K H b ys/\(xs.length<=i\/ys.length<=i)⟩
theorem pW {P:Program} {w:World} {K:PySem.W.Frag} {es:List Expr} {kk:Nat} {pt:Pos} {z TI TO i1 i2 l1 l2:Addr} (D:ZipApart z TI TO i1 i2 l1 l2) :
  Turn P w K (.Tuple es kk pt) (J9 K l1 l2) [z,TI,TO,i1,i2] z (fun i h=>IsZip h z TI TO .none/\IsPair h TI (.ref i1) (.ref i2)/\(∃ a b,IsPair h TO a b)/\h.IsTupleIter i1 l1 i/\h.IsListIter i2 l2 i) where
 mem:=by simp
 obj:=fun i h ⟨hz,hti,⟨a,b',hto⟩,h1,h2⟩ b hb=>by
  simp only [List.mem_cons,List.not_mem_nil,or_false] at hb
  rcases hb with e | e | e | e | e<;>subst e
  ·exact ⟨_,hz,fun v q=>nomatch q⟩
  ·exact ⟨_,hti,fun v q=>nomatch q⟩
  ·exact ⟨_,hto,fun v q=>nomatch q⟩
  ·obtain ⟨o,e,c,d⟩:=h1
   exact ⟨o,e,fun v q=>by rw [d] at q;cases q⟩
  ·obtain ⟨o,e,c,d⟩:=h2
   exact ⟨o,e,fun v q=>by rw [d] at q;cases q⟩
 keep:=fun i h h' ⟨hz,hti,⟨a,b',hto⟩,h1,h2⟩ k=>⟨k z ↥19 _ hz,k TI ↥19 _ hti,⟨a,b',k TO ↥19 _ hto⟩,fL h1 fun o e=>k i1 ↥19 o e,h2.at fun o e=>k i2 ↥19 o e⟩
 item:=by
  intro X hP hw hK hc i pins s σ H E I hf ⟨hz,hti,⟨a,b',hto⟩,h1,h2⟩ ⟨xs,ys,x,y,q1,q2,ex,ey⟩
  subst hP hw hK
  obtain ⟨t1,rv1,p1,_⟩:=I.tuple q1
  obtain ⟨t2,rv2,p2,_⟩:=I.list q2
  obtain ⟨u1,hu1,ru1⟩:=rv1.get ex
  obtain ⟨u2,hu2,ru2⟩:=rv2.get ey
  refine oV D hz hti hto h1 h2 p1 p2.isList (x:=u1) (y:=u2) (by simpa using hu1) (by simpa using hu2) fun h' a1 a2 a3 a4 a5 a6 kp => ?_
  refine ⟨_,rfl,wpAny_letOwnedTupleGo_zip a1 fun h'' b1 sb => ?_⟩
  have pN:s.heap.objs.size≠z:=fun e=>Nat.lt_irrefl _ (by have:=Heap.lt_size hz;rw [<- e] at this;exact this)
  have k2:∀ b o,b∉[z,TI,TO,i1,i2]->s.heap.get? b=some o->h''.get? b=some o:=fun b o hb e=>by
   simp only [List.mem_cons,List.not_mem_nil,or_false,not_or] at hb
   exact (sb.2 b hb.1).trans (kp b o hb.1 hb.2.2.1 hb.2.2.2.1 hb.2.2.2.2 e)
  refine ⟨.ref s.heap.objs.size,_,oy (s:=s) (h':=h'') I hf k2 ru1 ru2 ((sb.2 _ pN).trans a5),rfl,⟨_,x,y,I.fresh,rfl,rfl,fun xs' hx=>by rw [I.tuple_inj hx q1];exact ex,fun ys' hy=>by rw [I.list_inj hy q2];exact ey⟩,⟨b1,(sb.2 _ D.TIz).trans (kp _ _ D.TIz D.TITO D.TIi1 D.TIi2 hti),⟨_,_,(sb.2 _ D.TOz).trans a2⟩,fL a3 fun o e=>(sb.2 _ D.i1z).trans e,a4.at fun o e=>(sb.2 _ D.i2z).trans e⟩,fun b hb => ?_⟩
  rw [aM fun e => ?_]
  ·exact (hf b hb).1
  ·subst e
   simp only [List.mem_cons,List.not_mem_nil,or_false] at hb
   have lt:∀ {c:Addr} {o:Obj},s.heap.get? c=some o->s.heap.objs.size≠c:=fun {c o} q e=>Nat.lt_irrefl _ (by have:=Heap.lt_size q;rw [<- e] at this;exact this)
   obtain ⟨o1,e1,_⟩:=h1
   obtain ⟨o2,e2,_⟩:=h2
   rcases hb with e | e | e | e | e
   ·exact lt hz e
   ·exact lt hti e
   ·exact lt hto e
   ·exact lt e1 e
   ·exact lt e2 e
 done:=by
  intro X hP hw hK hc i pins s σ H E I hf ⟨hz,hti,⟨a,b',hto⟩,h1,h2⟩ ⟨xs,ys,q1,q2,hend⟩
  subst hP hw hK
  obtain ⟨t1,rv1,p1,_⟩:=I.tuple q1
  obtain ⟨t2,rv2,p2,_⟩:=I.list q2
  have e1:=rv1.length
  have e2:=rv2.length
  refine qQ (I.ok.hd hc) D hz hti hto h1 h2 p1 p2.isList (by
   rcases hend with q | q
   ·exact .inl (by simp;omega)
   ·exact .inr (by simp;omega)) fun h' kp=>⟨rfl,oz I hf fun b o hb e => ?_⟩
  simp only [List.mem_cons,List.not_mem_nil,or_false,not_or] at hb
  exact kp b o hb.1 hb.2.2.1 hb.2.2.2.1 hb.2.2.2.2 e
 self:=fun _ _ _ _ _ st h=>wpAny_pyIter_zip st.1 h
section
variable {X:Cx} {a b:Expr} {ga gb:E} {p pos:Pos}
theorem wj {es:List Expr} {kk:Nat} {pt:Pos} (hc:X.calm=true) (G:Gb X "zip") (hm:X.mg "zip"=none) (ha:SA X [a,b] [ga,gb])
  (hs:starEach [a,b] X.env=(false,eval a X.env)::starEach [b] X.env:=by rfl) (hpl:(backTo pos (starEach [b] X.env)).any (·.1)=false:=by rfl) :
  SI X (.Tuple es kk pt) (.Call (.Name "zip" p) [a,b] [] pos) (Ax ga gb):=by
 intro pins s σ H R I ⟨δ,hσ,h⟩
 refine Call_ (jB I G.g hm boot_zip (PyProof.Rows.callWith_type1 (thn (ha pos pins s σ H _ I ⟨δ,hσ,RI.bindA h⟩) fun us s1 ⟨vs,H1,I1,r1,sm,ds,rs,q⟩ => ?_) hs hpl))
 unfold Ar at q
 split at q
 ·rename_i xs ys
  split at q
  ·obtain ⟨v,v',rfl,r1',r2'⟩:=t9 rs
   cases r1' with
   | @tup l1 vs1 _ hq1 rr1 =>
    cases r2' with
    | @lst l2 vs2 _ hq2 rr2 =>
     obtain ⟨u1,u2,rfl,e1,e2⟩:=vals2 r1
     cases e1
     cases e2
     obtain ⟨t1,rv1,p1,_⟩:=I1.tuple hq1
     obtain ⟨t2,rv2,p2,_⟩:=I1.list hq2
     refine rX p1 p2.isList fun h' hz hTI hTO g1 g2 hsz kp=>wpAny_pyIter_zip hz ?_
     have lt1:l1<s1.heap.objs.size:=by obtain ⟨_,e,_⟩:=p1;exact Heap.lt_size e
     have lt2:l2<s1.heap.objs.size:=by obtain ⟨_,e,_⟩:=p2.isList;exact Heap.lt_size e
     refine ⟨_,_,_,_,H1,rfl,I1.kept (t':=s1.toks) kp,pW (vB lt1 lt2),⟨hz,hTI,⟨_,_,hTO⟩,g1,g2⟩,fun b hb => ?_,q _ _ ↥20 fun Hc sc=>⟨fun i d hd => ?_,fun i hi => ?_⟩⟩
     ·have hb':s1.heap.objs.size<=b:=by
       simp only [List.mem_cons,List.not_mem_nil,or_false] at hb
       rcases hb with e | e | e | e | e<;>rw [e]<;>first | exact Nat.le_refl _ | exact Nat.le_add_right _ _
      exact I1.fpOk hb' (I1.hok.fresh hb')
     ·obtain ⟨dx,dy,e1,e2,e3⟩:=List.getElem?_zipWith_eq_some.mp hd
      obtain ⟨x,ex,rx⟩:=rr1.get e1
      obtain ⟨y,ey,ry⟩:=rr2.get e2
      refine ⟨⟨vs1,vs2,x,y,bT sc hq1,sc.seq hq2,ex,ey⟩,fun v H' ⟨pp,x',y',hp,ev,eH,g1,g2⟩ => ?_⟩
      have ex':=g1 _ (bT sc hq1)
      have ey':=g2 _ (sc.seq hq2)
      rw [ex] at ex'
      rw [ey] at ey'
      cases ex'
      cases ey'
      subst ev eH
      refine ⟨aQ hp _,fun Hq sq hn => ?_⟩
      subst e3
      exact .tup (SqT.of (hn pp _ aS hp)) (.cons (rx.mono sq) (.cons (ry.mono sq) .nil))
     ·rw [List.length_zipWith] at hi
      refine ⟨vs1,vs2,bT sc hq1,sc.seq hq2,?_⟩
      rw [rr1.length,rr2.length]
      omega
  ·exact False.elim q
 ·exact False.elim q
end
end ES
namespace T
open EV
def aH:List (PySem.Str×D):=[("size",.tup [.str "measure",.str "measure"]),("way",.tup [.str "text"]),("put",.tup [.str "new",.str "text"]),("bits",.tup [.str "new",.str "bits"]),("same",.tup [.str "new",.str "old"]),("minus",.tup [.str "new",.str "old"]),("add",.tup [.str "new",.str "old",.str "old"]),("take",.tup [.str "new",.str "old",.str "old"]),("mul",.tup [.str "new",.str "old",.str "old"]),("div",.tup [.str "new",.str "old",.str "old"]),("root",.tup [.str "new",.str "old"]),("fuse",.tup [.str "new",.str "old",.str "old",.str "old"]),("whole",.tup [.str "new",.str "old"]),("show",.tup [.str "old"]),("less",.tup [.str "old",.str "old"]),("flags",.tup []),("calm",.tup [])]
def ar:List (PySem.Str×D):=[("measure",.int 4),("bits",.int 40)]
def au:List (PySem.Str×D):=[("sum",.int 1),("turn",.int 1),("halves",.int 1),("dot",.int 2)]
def cq:S :=
 seq (assign 2 (call wJ [bin oMod (var 0) (bin uo ⇑10 ⇑40)]))
 (seq (ifs (bin oEq (bin oMod (var 0) ⇑3) ⇑0) (assign 2 (mS fb (var 2) (var 1))) (aK))
 (ret (oG (var 2) none (some (var 1)))))
def ba:List D->R D:=fn 2 3 cq
def cj:S :=
 seq (assign 1 (con (.str "!\"#$&'()*+,-./0123456789:;<=>?@ABCDEFGHIJKLMNOPQRSTUVWXYZ[\\]^_`abcdefghijklmnopqrstuvwxyz{|}~")))
 (ret (bin oIx (var 1) (bin oMod (var 0) (call b5 [var 1]))))
def aU:List D->R D:=fn 1 2 cj
def bN:S :=
 seq (ifs (bin oEq (var 0) (con (.str "size"))) (ret (iD [call ba [var 1,⇑4],call ba [var 2,⇑4]])) (aK))
 (seq (ifs (bin oEq (var 0) (con (.str "bits"))) (ret (iD [call ba [var 1,⇑40]])) (aK))
 (seq (ifs (bin oIn (var 0) (kF [con (.str "way"),con (.str "put")])) (ret (iD [mS bJ (con (.str "")) (comp (pF (bin aR ⇑1 (bin oMod (bin oDiv (var 2) ⇑90) ⇑40))) [1,2] (call aU [bin aR (var 1) (bin gm (var 0) (bin oMod (var 2) ⇑90))]))])) (aK))
 (ret (iD []))))
def aX:List D->R D:=fn 3 3 bN
def ax:S :=
 seq (ifs (bin oIn (var 0) (kF [con (.str "sum"),con (.str "turn"),con (.str "halves")])) (ret (bin aR ⇑2 (bin oMod (var 1) ⇑20))) (aK))
 (seq (ifs (bin oEq (var 0) (con (.str "dot"))) (ret (bin aR ⇑3 (bin gm ⇑2 (bin oMod (var 1) ⇑10)))) (aK))
 (seq (ifs (bin oIn (var 0) (kF [con (.str "add"),con (.str "take"),con (.str "mul"),con (.str "div")])) (ret ⇑3) (aK))
 (seq (ifs (bin oEq (var 0) (con (.str "fuse"))) (ret ⇑4) (aK))
 (seq (ifs (bin oIn (var 0) (kF [con (.str "same"),con (.str "minus"),con (.str "root"),con (.str "whole"),con (.str "less")])) (ret ⇑2) (aK))
 (ret (call sG [bin oIn (var 0) (kF [con (.str "show"),con (.str "put"),con (.str "bits")])]))))))
def ah:List D->R D:=fn 2 2 ax
def cF:S :=
 seq (ifs (un (dIn aH) (var 0)) (ret (un (nX aH) (var 0))) (aK))
 (seq (ifs (un (fi au) (var 0)) (raise "NoRow") (aK))
 (seq (assign 2 (bin my (var 1) ⇑1))
 (seq (ifs (or_ (bin oLt (var 2) ⇑1) (or_ (bin oGt (var 2) ⇑20) (bin oNe (bin oMod (var 2) (un (nX au) (var 0))) ⇑0))) (raise "NoRow") (aK))
 (ret (bin aR (kF [con (.str "new")]) (bin lr (kF [con (.str "old")]) (var 2)))))))
def az:List D->R D:=fn 2 3 cF
def fe:S :=
 seq (ifs (or_ (bin oEq (var 0) (con (.str ""))) (bin oGt (call b5 [var 0]) ⇑8)) (ret (con ↥14)) (aK))
 (ret (call wK [comp (itS (var 0)) [] (bin oIn (var 0) (con (.str "abcdefghijklmnopqrstuvwxyz")))]))
def dw:List D->R D:=fn 1 1 fe
def cv:S :=
 ret (pH (bin oNe (var 0) (con (.str ""))) (call wK [comp (itS (var 0)) [] (bin oIn (var 0) (con (.str "0123456789")))]))
def bI:List D->R D:=fn 1 1 cv
def nQ:S :=
 seq (ifs (bin oEq (var 0) (con (.str "text"))) (ret (bin oNe (var 1) (con (.str "")))) (aK))
 (seq (ifs (un (dIn ar) (var 0)) (ret (pH (call bI [var 1]) (bin oLe (call b5 [var 1]) (un (nX ar) (var 0))))) (aK))
 (ret (call dw [var 1])))
def dX:List D->R D:=fn 2 2 nQ
def bj:S :=
 seq (ifs (bin oGt (call b5 [var 0]) ⇑600) (raise "NoRow") (aK))
 (seq (eA 1 (mS cT (var 0) (con (.str " "))))
 (seq (fW 2 (call az [bin oIx (var 1) ⇑0,bin my (call b5 [var 1]) ⇑1]))
 (seq (mL (bin oNe (call b5 [var 2]) (bin my (call b5 [var 1]) ⇑1)) (raise "NoRow") (aK))
 (seq (pG (oZ [3,4]) (Ax (var 2) (slc (var 1) (some ⇑1) none)) (gR (call dX [var 3,var 4])) (raise "NoRow"))
 (As 1)))))
def av:List D->R D:=fn 1 5 bj
def bK:S :=
 seq (eA 1 (call av [mS bJ (con (.str " ")) (var 0)]))
 (seq (mL (or_ (gR (call gJ [var 1,con (.ty "list")])) (bin oNe (call b5 [var 1]) (call b5 [var 0]))) (ret (con ↥14)) (aK))
 (seq (pG (putN 2) (itA (var 1)) (gR (call gJ [var 2,con (.ty "str")])) (ret (con ↥14)))
 (seq (mL (bin oNe (var 1) (var 0)) (ret (con ↥14)) (aK))
 (seq (gP 1)
 (ret (bin oEq (call av [mS bJ (con (.str " ")) (var 0)]) (var 0)))))))
def aZ:List D->R D:=fn 1 3 bK
def cm:S :=
 seq (ifs (bin oEq (bin oMod (var 0) ⇑6) ⇑5) (ret (bin oIx (iD [con (.str "add"),con (.str "sum"),con (.str "flags"),con (.str "calm"),con (.str "size"),con (.str "halves")]) (bin oMod (bin oDiv (var 0) ⇑6) ⇑6))) (aK))
 (seq (assign 1 (con (.str "abcdefghijklmnopqrstuvwxyz")))
 (seq (assign 2 (bin aR ⇑1 (bin oMod (var 0) ⇑8)))
 (ret (mS bJ (con (.str "")) (comp (pF (var 2)) [0,1] ↥16)))))
def a8:List D->R D:=fn 1 3 cm
def cu:S :=
 seq (ifs (bin oLt (var 1) (call b5 [var 0])) (ret (bin oIx (var 0) (var 1))) (aK))
 (ret ⇑0)
def ai:List D->R D:=fn 2 2 cu
def dh:S :=
 seq (ifs (or_ (gR (call gJ [var 0,con (.cls "NoRow")])) (gR (call gJ [var 0,con (.ty "ValueError")]))) (ret (con ↥14)) (aK))
 (seq (ifs (call vw [var 0,con (.tup [.cls "NoSize",.cls "NoBits",.cls "NoParts",.cls "NoRank",.cls "NotFinite",.cls "NoWay",.cls "NoFlags"])]) (ret (con ↥14)) (aK))
 (ret (gR (call vw [var 0,con (.tup [.cls "NoFraction",.cls "Unlike",.cls "Empty",.cls "NoLeft",.cls "NoText",.cls "NoName",.cls "Stopped"])]))))
def cA:List D->R D:=fn 1 1 dh
def ck:S :=
 seq (assign 1 (con .non))
 (seq (DB (expr (call av [var 0])) "MillError" 2 (assign 1 (var 2)))
 (ret (call cA [var 1])))
def aB:List D->R D:=fn 1 3 ck
def cJ:S :=
 seq (assign 2 (mS bJ (con (.str " ")) (var 0)))
 (seq (ifs (bin oEq (bin oMod (var 1) ⇑3) ⇑0) (ret (bin aR (con (.str " ")) (var 2))) (aK))
 (seq (ifs (bin oEq (bin oMod (var 1) ⇑3) ⇑1) (ret (bin aR (var 2) (con (.str " ")))) (aK))
 (seq (assign 3 (bin aR ⇑1 (bin oMod (bin oDiv (var 1) ⇑3) (call b5 [var 0]))))
 (ret (bin aR (bin aR (mS bJ (con (.str " ")) (slc (var 0) none (some (var 3)))) (con (.str "  "))) (mS bJ (con (.str " ")) (slc (var 0) (some (var 3)) none)))))))
def bB:List D->R D:=fn 2 4 cJ
def bt:S :=
 seq (assign 3 (bin oMod (bin oDiv (var 1) ⇑3) (call b5 [var 0])))
 (seq (ifs (bin oEq (bin oMod (var 1) ⇑3) ⇑0) (ret (bin aR (bin aR (oG (var 0) none (some (var 3))) (bin oIx (con (.str "+-.eaO x,_")) (bin oMod (bin oDiv (var 1) ⇑120) ⇑10))) (oG (var 0) (some (bin aR (var 3) ⇑1)) none))) (aK))
 (ret (mS fb (var 0) (bin oIx (iD [bin aR (var 2) ⇑1,⇑41]) (bin oMod (bin oDiv (var 1) ⇑3) ⇑2)))))
def aV:List D->R D:=fn 3 4 bt
def cy:S :=
 seq (ifs (bin oIn (var 0) (kF [con (.str "sum"),con (.str "turn"),con (.str "halves")])) (ret (bin aR (var 1) (bin qx (slc (var 2) none (some ⇑1)) (bin my ⇑23 (call b5 [var 1]))))) (aK))
 (seq (ifs (pH (bin oEq (var 0) (con (.str "dot"))) (bin oEq (bin oMod (var 3) ⇑2) ⇑0)) (ret (bin aR (var 1) (bin qx (slc (var 2) none (some ⇑1)) (bin my ⇑24 (call b5 [var 1]))))) (aK))
 (ret (bin aR (var 1) (iD [con (.str "a")]))))
def bh:List D->R D:=fn 4 4 cy
def bR:S :=
 seq (ifs (bin oEq (bin oMod (var 1) ⇑3) ⇑0) (ret (bin aR (var 0) (bin oIx (con (.str "abcdefghijklmnopqrstuvwxyz")) (bin oMod (bin oDiv (var 1) ⇑3) ⇑26)))) (aK))
 (seq (ifs (bin oEq (bin oMod (var 1) ⇑3) ⇑1) (ret (oG (var 0) none (some (un Ce ⇑1)))) (aK))
 (ret (bin aR (un mUp (oG (var 0) none (some ⇑1))) (oG (var 0) (some ⇑1) none))))
def bf:List D->R D:=fn 2 2 bR
def bS:S :=
 seq (assign 2 (bin oMod (bin oDiv (var 1) ⇑4) (call b5 [var 0])))
 (seq (ifs (bin oEq (bin oMod (var 1) ⇑4) ⇑0) (ret (oG (bin aR (bin aR (var 0) (var 0)) (con (.str "abcdefgh"))) none (some ⇑9))) (aK))
 (seq (ifs (bin oEq (bin oMod (var 1) ⇑4) ⇑1) (ret (bin aR (bin aR (oG (var 0) none (some (var 2))) (bin oIx (con (.str "ABCDEFGHIJKLMNOPQRSTUVWXYZ")) (bin oMod (bin oDiv (var 1) ⇑40) ⇑26))) (oG (var 0) (some (bin aR (var 2) ⇑1)) none))) (aK))
 (ret (bin aR (bin aR (oG (var 0) none (some (var 2))) (bin oIx (con (.str "0123456789-_.,'`{\x40[")) (bin oMod (bin oDiv (var 1) ⇑40) ⇑19))) (oG (var 0) (some (bin aR (var 2) ⇑1)) none)))))
def bg:List D->R D:=fn 2 3 bS
def aw:S :=
 seq (assign 5 (bin aR (bin aR (iD [var 0]) (var 1)) (var 2)))
 (seq (ifs (bin oEq (var 3) ⇑1) (ret (call bB [var 5,var 4])) (aK))
 (seq (ifs (bin oEq (var 3) ⇑2) (ret (mS bJ (con (.str " ")) (bin aR (bin aR (iD [call bf [var 0,var 4]]) (var 1)) (var 2)))) (aK))
 (seq (ifs (pH (bin oEq (var 3) ⇑3) (bin oIn (var 0) (kF [con (.str "sum"),con (.str "turn"),con (.str "halves")]))) (ret (mS bJ (con (.str " ")) (slc (var 5) none (some (bin aR ⇑1 (bin oMod (var 4) ⇑2)))))) (aK))
 (seq (ifs (pH (bin oEq (var 3) ⇑3) (pH (bin oEq (var 0) (con (.str "dot"))) (bin oEq (bin oMod (var 4) ⇑2) ⇑0))) (ret (mS bJ (con (.str " ")) (slc (var 5) none (some ⇑2)))) (aK))
 (seq (ifs (bin oEq (var 3) ⇑3) (ret (mS bJ (con (.str " ")) (slc (var 5) none (some (un Ce ⇑1))))) (aK))
 (seq (ifs (bin oEq (var 3) ⇑4) (ret (mS bJ (con (.str " ")) (call bh [var 0,var 5,var 1,var 4]))) (aK))
 (seq (ifs (pH (bin oEq (var 3) ⇑5) (bin oGt (call b5 [var 1]) ⇑0)) (seq (assign 6 (bin oMod (var 4) (call b5 [var 1])))
 (ret (mS bJ (con (.str " ")) (bin aR (bin aR (bin aR (bin aR (iD [var 0]) (slc (var 1) none (some (var 6)))) (iD [call bg [bin oIx (var 1) (var 6),bin oDiv (var 4) ⇑21]])) (slc (var 1) (some (bin aR (var 6) ⇑1)) none)) (var 2))))) (aK))
 (seq (ifs (pH (bin oEq (var 3) ⇑6) (bin oIn (var 0) (kF [con (.str "size"),con (.str "bits")]))) (seq (assign 6 (bin aR (bin aR (call b5 [var 1]) ⇑1) (bin oMod (var 4) (call b5 [var 2]))))
 (seq (assign 7 (call aV [bin oIx (var 5) (var 6),bin oDiv (var 4) ⇑2,bin oIx (iD [⇑40,⇑4]) (call sG [bin oEq (var 0) (con (.str "size"))])]))
 (ret (mS bJ (con (.str " ")) (bin aR (bin aR (slc (var 5) none (some (var 6))) (iD [var 7])) (slc (var 5) (some (bin aR (var 6) ⇑1)) none)))))) (aK))
 (seq (ifs (pH (bin oEq (var 3) ⇑7) (bin oIn (var 0) (kF [con (.str "way"),con (.str "put")]))) (ret (bin aR (mS bJ (con (.str " ")) (var 5)) (bin jh (con (.str "7")) (bin my ⇑601 (call b5 [mS bJ (con (.str " ")) (var 5)]))))) (aK))
 (ret (con (.str ""))))))))))))
def aa:List D->R D:=fn 5 8 aw
def bL:S :=
 seq (qs 3)
 (seq (u9 4 (pF (call ah [var 0,bin aR (call ai [var 1,⇑1]) (var 2)])) (iw 3 (call a8 [bin aR (bin aR (call ai [var 1,bin aR ⇑2 (var 4)]) (bin gm ⇑11 (var 4))) (var 2)])))
 (seq (ED 3 (assign 5 (call aX [var 0,bin aR (call ai [var 1,⇑24]) (bin gm ⇑7 (var 2)),bin aR (call ai [var 1,⇑25]) (bin oDiv (call ai [var 1,⇑1]) ⇑21)])))
 (seq (ifs (gR (call aZ [bin aR (bin aR (iD [var 0]) (var 3)) (var 5)])) (ret (con ↥14)) (aK))
 (seq (ifs (bin oIn (var 0) (kF [con (.str "way"),con (.str "put")])) (seq (assign 8 (bin aR (var 3) (iD [bin jh (con (.str "7")) (bin my (bin my (bin my ⇑599 (call b5 [var 0])) (call b5 [mS bJ (con (.str " ")) (var 3)])) (call b5 [var 3]))])))
 (ifs (gR (call aZ [bin aR (iD [var 0]) (var 8)])) (ret (con ↥14)) (aK))) (aK))
 (seq (assign 6 (bin aR (bin aR (call ai [var 1,⇑26]) (bin oDiv (call ai [var 1,⇑0]) ⇑21)) (bin gm ⇑13 (var 2))))
 (seq (u9 7 (Ay ⇑1 ⇑8) (ifs (gR (call aB [call aa [var 0,var 3,var 5,var 7,bin aR (var 6) (var 7)]])) (ret (con ↥14)) (aK)))
 (ret (con ↥34))))))))
def aW:List D->R D:=fn 3 9 bL
def u4:S :=
 seq (assign 1 (iD [con (.str "size"),con (.str "way"),con (.str "put"),con (.str "bits"),con (.str "same"),con (.str "minus"),con (.str "add"),con (.str "take"),con (.str "mul"),con (.str "div"),con (.str "root"),con (.str "fuse"),con (.str "whole")]))
 (seq (assign 1 (bin aR (var 1) (iD [con (.str "sum"),con (.str "turn"),con (.str "halves"),con (.str "dot"),con (.str "show"),con (.str "less"),con (.str "flags"),con (.str "calm")])))
 (seq (u9 2 (pF ⇑21) (ifs (gR (call aW [bin oIx (var 1) (var 2),var 0,bin aR (bin oMod (call ai [var 0,⇑0]) ⇑21) (var 2)])) (ret (con ↥14)) (aK)))
 (seq (u9 3 (itA (iD [con (.str "dot a"),bin aR (con (.str "dot")) (bin iA (con (.str " a")) ⇑23),con (.str "sum a"),bin aR (con (.str "sum")) (bin iA (con (.str " a")) ⇑22)])) (ifs (gR (call aB [var 3])) (ret (con ↥14)) (aK)))
 (ret (con ↥34)))))
def ug:List D->R D:=fn 1 4 u4
end T
namespace T
open PySem PySem.Spec PyProof.Rows L2 EV ES
def top (i:Nat):Stmt:=PySem.Challenge.pw_roundmill_k66_words_of.main.body.getD i (.Pass ⟨0,0,0,0⟩)
set_option maxHeartbeats 4000000
def cb:Stmt:=top 37
abbrev fw:List Str:=["_law_cell","_law_most","_law_word"]
abbrev fG:List Str:=["str"]
theorem jd:ScF fw fG ["_law_cell","_law_most"] (ae cb):=by walk_at "S"
def b7:Stmt:=top 35
abbrev fo:List Str:=["_law_cell","_law_some"]
abbrev fD:List Str:=["len"]
theorem ja:ScF fo fD ["_law_cell"] (ae b7):=by walk_at "S"
def dP:Stmt:=top 38
abbrev jN:List Str:=["_law_verb","_law_cell","_law_other"]
abbrev jP:List Str:=["_law_figures","range"]
theorem ml:ScF jN jP ["_law_verb","_law_cell","_law_other"] (ae dP):=by walk_at "S"
def bw:Stmt:=top 36
abbrev dm:List Str:=["_law_verb","_law_cell"]
abbrev dn:List Str:=["int"]
theorem fM:ScF dm dn ["_law_verb","_law_cell"] (ae bw):=by walk_at "S"
def eU:Stmt:=top 30
abbrev l3:List Str:=["verb","count","names"]
abbrev l5:List Str:=["FORMS","NAME_ROWS","NoRow","MOST_NAMES"]
theorem oI:ScF l3 l5 ["verb","count"] (ae eU):=by walk_at "S"
def eS:Stmt:=top 28
abbrev l0:List Str:=["word"]
abbrev l4:List Str:=["len","LONGEST_NAME","all"]
theorem oH:ScF l0 l4 ["word"] (ae eS):=by walk_at "S"
def cg:Stmt:=top 19
abbrev fA:List Str:=["word"]
abbrev fI:List Str:=["all"]
theorem jf:ScF fA fI ["word"] (ae cg):=by walk_at "S"
def ny:Stmt:=top 29
abbrev wO:List Str:=["sort","word"]
abbrev wQ:List Str:=["LONGEST_FIGURES","all_figures","len","is_name"]
theorem yt:ScF wO wQ ["sort","word"] (ae ny):=by walk_at "S"
def bp:Stmt:=top 31
abbrev fZ:List Str:=["row","words","form","sort","word"]
abbrev gf:List Str:=["len","LONGEST_ROW","NoRow","form_of","zip","fits"]
theorem ik:ScF fZ gf ["row"] (ae bp):=by walk_at "S"
def bG:Stmt:=top 47
abbrev dI:List Str:=["_law_words","_law_found","_law_word"]
abbrev dM:List Str:=["words_of","isinstance","list","len","str"]
theorem gC:ScF dI dM ["_law_words"] (ae bG):=by walk_at "S"
def b9:Stmt:=top 34
abbrev ft:List Str:=["_law_cell","_law_letters","_law_size"]
abbrev fF:List Str:=["range"]
theorem jc:ScF ft fF ["_law_cell"] (ae b9):=by walk_at "S"
def cf:Stmt:=top 33
abbrev fz:List Str:=["_law_script","_law_k"]
abbrev fH:List Str:=["len"]
theorem je:ScF fz fH ["_law_script","_law_k"] (ae cf):=by walk_at "S"
def cZ:Stmt:=top 45
abbrev iY:List Str:=["_law_caught"]
abbrev iZ:List Str:=["isinstance","NoRow","ValueError","NoSize","NoBits","NoParts","NoRank","NotFinite","NoWay","NoFlags","NoFraction","Unlike","Empty","NoLeft","NoText","NoName","Stopped"]
theorem kX:ScF iY iZ ["_law_caught"] (ae cZ):=by walk_at "S"
def b8:Stmt:=top 46
abbrev fq:List Str:=["_law_row","_law_caught","e"]
abbrev fE:List Str:=["words_of","MillError","_law_alone"]
theorem jb:ScF fq fE ["_law_row"] (ae b8):=by walk_at "S"
def cI:Stmt:=top 39
abbrev gy:List Str:=["_law_words","_law_cell","_law_row","_law_at"]
abbrev gz:List Str:=["len"]
theorem jW:ScF gy gz ["_law_words","_law_cell"] (ae cI):=by walk_at "S"
def bq:Stmt:=top 42
abbrev cV:List Str:=["_law_word","_law_cell","_law_most","_law_at"]
abbrev cW:List Str:=["len"]
theorem eR:ScF cV cW ["_law_word","_law_cell","_law_most"] (ae bq):=by walk_at "S"
def dQ:Stmt:=top 43
abbrev jO:List Str:=["_law_verb","_law_words","_law_names","_law_cell"]
abbrev jQ:List Str:=["len"]
theorem mm:ScF jO jQ ["_law_verb","_law_words","_law_names","_law_cell"] (ae dQ):=by walk_at "S"
def bP:Stmt:=top 40
abbrev d3:List Str:=["_law_verb","_law_cell"]
abbrev d5:List Str:=[]
theorem il:ScF d3 d5 ["_law_verb","_law_cell"] (ae bP):=by walk_at "S"
def bQ:Stmt:=top 41
abbrev d4:List Str:=["_law_name","_law_cell","_law_at"]
abbrev d6:List Str:=["len"]
theorem ip:ScF d4 d6 ["_law_name","_law_cell"] (ae bQ):=by walk_at "S"
def b6:Stmt:=top 44
abbrev fm:List Str:=["_law_verb","_law_names","_law_tail_here","_law_way","_law_cell","_law_words","_law_at","_law_odd"]
abbrev fB:List Str:=["_law_blanks","_law_odd_verb","_law_more","len","_law_odd_name","_law_odd_figures","int"]
theorem i9:ScF fm fB ["_law_verb","_law_names","_law_tail_here","_law_way","_law_cell"] (ae b6):=by walk_at "S"
def bH:Stmt:=top 48
abbrev dJ:List Str:=["_law_verb","_law_script","_law_j","_law_names","_law_k","_law_tail_here","_law_cell","_law_way","_law_longest"]
abbrev dN:List Str:=["range","_law_many_names","_law_cell_at","_law_name_by","_law_tail","_law_words_fit","len","_law_refused","_law_spoiled"]
theorem gD:ScF dJ dN ["_law_verb","_law_script","_law_j"] (ae bH):=by walk_at "S"
def jg:Stmt:=top 49
abbrev Dx:List Str:=["_law_script","_law_verbs","_law_j","_law_odd"]
abbrev Dz:List Str:=["range","_law_verb_fits","_law_cell_at","_law_refused"]
theorem Bv:ScF Dx Dz ["_law_script"] (ae jg):=by walk_at "S"
section
variable {X:Cx} {k:Nat} (hr:Room k X.A) (L:Lp X) (O:Own X)
include hr L O
theorem kC (P:Pl X fw fG) (hS:X.env.scope=ae cb)
  (m_str:X.mg "str"=none):SSs X (aC cb) cq:=by
 unfold cq
 exact (ak (P.set 2 (rN Fi ER (P.w 0) m_str boot_str (a1 (bu (P.v 0) (Fd ag ag)))))
 (ak (P.if_ (fK hr (bu (P.v 0) ag) ag) (aA (P.set 2 (kq qE PySem.F.slot_str_zfill PySem.F.type_str_zfill nL (P.v 2) (P.v 1)))) aT)
 (aA (P.ret (dD (P.v 2) aG (aF (P.v 1)))))))
theorem ky (P:Pl X fo fD) (hS:X.env.scope=ae b7)
  (m_len:X.mg "len"=none):SSs X (aC b7) cj:=by
 unfold cj
 exact (ak (P.set 1 ao)
 (aA (P.ret (nU (P.v 1) (bu (P.v 0) ↥27)))))
theorem pC (P:Pl X jN jP) (hS:X.env.scope=ae dP)
  (c_law_figures:Callee X "_law_figures" ba) (m_range:X.mg "range"=none) (c_law_sign_by:Callee X "_law_sign_by" aU):SSs X (aC dP) bN:=by
 unfold bN
 exact (ak (P.if_ (fK hr (P.v 0) ao) (aA (P.ret (dj (a2 (P.call 0 c_law_figures (a2 (P.v 1) ag)) (P.call 0 c_law_figures (a2 (P.v 2) ag))) ↥0))) aT)
 (ak (P.if_ (fK hr (P.v 0) ao) (aA (P.ret (dj (a1 (P.call 0 c_law_figures (a2 (P.v 1) ag))) ↥0))) aT)
 (ak (P.if_ (tX (P.v 0) (eG (a2 ao ao) ↥0)) (aA (P.ret (dj (a1 (kq bU PySem.F.slot_str_join PySem.F.type_str_join bo ao (nW L.calm P.sc (x:="_law_k") (ksn:=["_law_cell","_law_other"]) (G:=["_law_sign_by"]) (ks:=[1,2]) (by walk_at "C") rfl ↥0 (by rw [hS];decide +kernel) (nO (P.w 1) m_range (aE ag (bu (dU (P.v 2) ag) ag))) (fun C fp s H W S' G'=>(rL ⟨c_law_sign_by.ex⟩ (G' _ (mG 0)) (a1 (aE (fh S' 1 rfl) (mT (fh S' 0 rfl) (bu (fh S' 2 rfl) ag))))))))) ↥0))) aT)
 (aA (P.ret (dj dH ↥0))))))
theorem gI (P:Pl X dm dn) (hS:X.env.scope=ae bw)
  (m_int:X.mg "int"=none):SSs X (aC bw) ax:=by
 unfold ax
 exact (ak (P.if_ (tX (P.v 0) (eG (a3 ao ao ao) ↥0)) (aA (P.ret (aE ag (bu (P.v 1) ag)))) aT)
 (ak (P.if_ (fK hr (P.v 0) ao) (aA (P.ret (aE ag (mT ag (bu (P.v 1) ag))))) aT)
 (ak (P.if_ (tX (P.v 0) (eG (aj ao (aj ao (aj ao (aj ao dH)))) ↥0)) (aA (P.ret ag)) aT)
 (ak (P.if_ (fK hr (P.v 0) ao) (aA (P.ret ag)) aT)
 (ak (P.if_ (tX (P.v 0) (eG (aj ao (aj ao (aj ao (aj ao (aj ao dH))))) ↥0)) (aA (P.ret ag)) aT)
 (aA (P.ret (rN Dm Co (P.w 0) m_int PyProof.Rows.boot_int (a1 (Fg (P.v 0) (eG (a3 ao ao ao) ↥0)))))))))))
theorem sg (P:Pl X l3 l5) (hS:X.env.scope=ae eU) {C_NoRow:Addr}
  (gd_FORMS:GD X "FORMS" aH) (gd_NAME_ROWS:GD X "NAME_ROWS" au) (q_NoRow:X.mg "NoRow"=some (.ref  C_NoRow)) (xi_NoRow:PySem.W.excIn X.K C_NoRow bmV "ValueError.__new__"=true) (g_MOST_NAMES:∃ t,X.mg "MOST_NAMES"=some (.int 20 t)):SSs X (aC eU) cF:=by
 unfold cF
 exact (ak (P.if_ (Bn (P.w 0) gd_FORMS (P.v 0)) (aA (P.ret (rK (P.w 0) gd_FORMS (P.v 0)))) aT)
 (ak (P.if_ (tW (P.w 1) gd_NAME_ROWS (P.v 0)) ↥18 aT)
 (ak (P.set 2 (iO (P.v 1) ag))
 (ak (P.if_ (t_w (w_or (Fq (P.v 2) ag) (w_or (Bo (P.v 2) (nV (P.w 3) g_MOST_NAMES)) (sN (Bm hr (bu (P.v 2) (rK (P.w 1) gd_NAME_ROWS (P.v 0))) ag))))) ↥18 aT)
 (aA (P.ret (aE (eG (a1 ao) ↥0) (C8 (eG (a1 ao) ↥0) (P.v 2)))))))))
theorem sf (P:Pl X l0 l4) (hS:X.env.scope=ae eS)
  (m_len:X.mg "len"=none) (g_LONGEST_NAME:∃ t,X.mg "LONGEST_NAME"=some (.int 8 t)) (g_LETTERS:∃ t,X.mg "LETTERS"=some (.str "abcdefghijklmnopqrstuvwxyz" t)) (m_all:X.mg "all"=none):SSs X (aC eS) fe:=by
 unfold fe
 exact (ak (P.if_ (t_w (w_or (fK hr (P.v 0) ao) (sN (Bo ↥28 (nV (P.w 1) g_LONGEST_NAME))))) (aA (P.ret pj)) aT)
 (aA (P.ret (bV (Dn L.calm) Cp (P.w 2) m_all boot_all (a1 (nW L.calm P.sc (x:="letter") (ksn:=[]) (G:=["LETTERS"]) (ks:=[]) (by walk_at "C") rfl ↥0 (by rw [hS];decide +kernel) (CU (P.v 0)) (fun C fp s H W S' G'=>(Fg (fh S' 0 rfl) (wC (G' _ (mG 0)) g_LETTERS)))))))))
theorem kE (P:Pl X fA fI) (hS:X.env.scope=ae cg)
  (g_FIGURES:∃ t,X.mg "FIGURES"=some (.str "0123456789" t)) (m_all:X.mg "all"=none):SSs X (aC cg) cv:=by
 unfold cv
 exact (aA (P.ret (De (Hz hr (P.v 0) ao) (Dc (bV (Dn L.calm) Cp (P.w 0) m_all boot_all (a1 (nW L.calm P.sc (x:="sign") (ksn:=[]) (G:=["FIGURES"]) (ks:=[]) (by walk_at "C") rfl ↥0 (by rw [hS];decide +kernel) (CU (P.v 0)) (fun C fp s H W S' G'=>(Fg (fh S' 0 rfl) (wC (G' _ (mG 0)) g_FIGURES))))))))))
theorem Dr (P:Pl X wO wQ) (hS:X.env.scope=ae ny)
  (gd_LONGEST_FIGURES:GD X "LONGEST_FIGURES" ar) (c_all_figures:Callee X "all_figures" bI) (m_len:X.mg "len"=none) (c_is_name:Callee X "is_name" dw):SSs X (aC ny) nQ:=by
 unfold nQ
 exact (ak (P.if_ (fK hr (P.v 0) ao) (aA (P.ret (Hz hr (P.v 1) ao))) aT)
 (ak (P.if_ (Bn (P.w 0) gd_LONGEST_FIGURES (P.v 0)) (aA (P.ret (De (P.call 1 c_all_figures (a1 (P.v 1))) (Dc (J3 (bV eM eE (P.w 2) m_len PySem.boot_len (a1 (P.v 1))) (rK (P.w 0) gd_LONGEST_FIGURES (P.v 0))))))) aT)
 (aA (P.ret (P.call 3 c_is_name (a1 (P.v 1)))))))
theorem pB (P:Pl X fZ gf) (hS:X.env.scope=ae bp) {C_NoRow:Addr}
  (m_len:X.mg "len"=none) (g_LONGEST_ROW:∃ t,X.mg "LONGEST_ROW"=some (.int 600 t)) (q_NoRow:X.mg "NoRow"=some (.ref  C_NoRow)) (xi_NoRow:PySem.W.excIn X.K C_NoRow bmV "ValueError.__new__"=true) (c_form_of:Callee X "form_of" az) (m_zip:X.mg "zip"=none) (c_fits:Callee X "fits" dX):SSs X (aC bp) bj:=by
 unfold bj
 exact (ak (P.if_ (Bo ↥28 (nV (P.w 1) g_LONGEST_ROW)) ↥18 aT)
 (ak (iq P.toSx 1 rfl (P.sto _ (mG 1)) (rF (P.v 0) ao))
 (ak (vK P.toSx 2 rfl (P.sto _ (mG 2)) (P.call 3 c_form_of (a2 (P.y 1) (iO ↥27 ag))))
 (ak (t7 (Bm hr (bV eM eE (P.w 0) m_len PySem.boot_len (a1 (P.v 2))) (iO ↥27 ag)) ↥18 aT)
 (ak (qc L (vO L.calm (nj P.toSx 3 rfl (P.sto _ (mG 3)) (nj P.toSx 4 rfl (P.sto _ (mG 4)) A1))) (qh (is:=[3,4]) rfl) (wj L.calm (P.w 4) m_zip (a2 (P.v 2) (fT (P.v 1) (aF ag) aG))) (ia (gA (P.call 5 c_fits (a2 (P.v 3) (P.v 4))))) ↥18 nM)
 (aA (By P.toSx 1 rfl)))))))
theorem mX (P:Pl X fZ gf) (hS:X.env.scope=ae bp) {C_NoRow:Addr}
  (m_len:X.mg "len"=none) (g_LONGEST_ROW:∃ t,X.mg "LONGEST_ROW"=some (.int 600 t)) (q_NoRow:X.mg "NoRow"=some (.ref  C_NoRow)) (xi_NoRow:PySem.W.excIn X.K C_NoRow bmV "ValueError.__new__"=true) (c_form_of:Callee X "form_of" az) (m_zip:X.mg "zip"=none) (c_fits:Callee X "fits" dX):SSF X (aC bp) bj:=by
 unfold bj
 exact (lK (P.if_ (Bo ↥28 (nV (P.w 1) g_LONGEST_ROW)) ↥18 aT) (Cq j6 mz)
 (lK (iq P.toSx 1 rfl (P.sto _ (mG 1)) (rF (P.v 0) ao)) oP
 (lK (vK P.toSx 2 rfl (P.sto _ (mG 2)) (P.call 3 c_form_of (a2 (P.y 1) (iO ↥27 ag)))) oQ
 (lK (t7 (Bm hr (bV eM eE (P.w 0) m_len PySem.boot_len (a1 (P.v 2))) (iO ↥27 ag)) ↥18 aT) (zy j6 mz)
 (lK (qc L (vO L.calm (nj P.toSx 3 rfl (P.sto _ (mG 3)) (nj P.toSx 4 rfl (P.sto _ (mG 4)) A1))) (qh (is:=[3,4]) rfl) (wj L.calm (P.w 4) m_zip (a2 (P.v 2) (fT (P.v 1) (aF ag) aG))) (ia (gA (P.call 5 c_fits (a2 (P.v 3) (P.v 4))))) ↥18 nM) (zA j6)
 (C4 P.toSx 1 rfl))))))
theorem iU (P:Pl X dI dM) (hS:X.env.scope=ae bG)
  (cF_words_of:CalleeF X "words_of" av) (m_list:X.mg "list"=none) (isi_list:Isi X (.ty "list")) (hE:i7 X) (m_isinstance:X.mg "isinstance"=none) (m_len:X.mg "len"=none) (m_str:X.mg "str"=none) (isi_str:Isi X (.ty "str")) (c_words_of:Callee X "words_of" av):SSs X (aC bG) bK:=by
 unfold bK
 exact (ak (iq P.toSx 1 rfl (P.sto _ (mG 1)) (C5 cF_words_of (P.w 0) (a1 (kq bU PySem.F.slot_str_join PySem.F.type_str_join bo ao (P.v 0)))))
 (ak (t7 (t_w (w_or (ia (gA (vg isi_list hE (P.w 1) m_isinstance (P.v 1) (Fc (n:="list") (P.w 2) m_list boot_list)))) (sN (Bm hr (bV eM eE (P.w 3) m_len PySem.boot_len (a1 (P.v 1))) (bV eM eE (P.w 3) m_len PySem.boot_len (a1 (P.v 0))))))) (aA (P.ret pj)) aT)
 (ak (qc L (uf P.toSx 2 rfl (P.sto _ (mG 2))) uc (CW (P.v 1)) (ia (gA (vg isi_str hE (P.w 1) m_isinstance (P.v 2) (Fc (n:="str") (P.w 4) m_str boot_str)))) (aA (P.ret pj)) CD)
 (ak (t7 (Bm hr (P.v 1) (P.v 0)) (aA (P.ret pj)) aT)
 (ak (oJ P.toSx 1 rfl)
 (aA (P.ret (HA hr (P.call 0 c_words_of (a1 (kq bU PySem.F.slot_str_join PySem.F.type_str_join bo ao (P.v 0)))) (P.v 0)))))))))
theorem kA (P:Pl X ft fF) (hS:X.env.scope=ae b9)
  (m_range:X.mg "range"=none):SSs X (aC b9) cm:=by
 unfold cm
 exact (ak (P.if_ (fK hr (bu (P.v 0) ag) ag) (aA (P.ret (nU (dj (aj ao (aj ao (aj ao (aj ao (aj ao (aj ao dH)))))) ↥0) (bu (dU (P.v 0) ag) ag)))) aT)
 (ak (P.set 1 ao)
 (ak (P.set 2 (aE ag (bu (P.v 0) ag)))
 (aA (P.ret (kq bU PySem.F.slot_str_join PySem.F.type_str_join bo ao (nW L.calm P.sc (x:="_law_k") (ksn:=["_law_cell","_law_letters"]) (G:=[]) (ks:=[0,1]) (by walk_at "C") rfl ↥0 (by rw [hS];decide +kernel) (nO (P.w 0) m_range (P.v 2)) (fun C fp s H W S' G'=>(nU (fh S' 2 rfl) (bu (aE (dU (fh S' 1 rfl) ag) (mT (mT ag (fh S' 0 rfl)) (bu (dU (fh S' 1 rfl) ag) ag))) ag))))))))))
theorem kD (P:Pl X fz fH) (hS:X.env.scope=ae cf)
  (m_len:X.mg "len"=none):SSs X (aC cf) cu:=by
 unfold cu
 exact (ak (P.if_ (Fq (P.v 1) ↥28) (aA (P.ret (nU (P.v 0) (P.v 1)))) aT)
 (aA (P.ret ag)))
theorem mW (P:Pl X iY iZ) (hS:X.env.scope=ae cZ) {C_Empty C_NoBits C_NoFlags C_NoFraction C_NoLeft C_NoName C_NoParts C_NoRank C_NoRow C_NoSize C_NoText C_NoWay C_NotFinite C_Stopped C_Unlike:Addr}
  (q_NoRow:X.mg "NoRow"=some (.ref  C_NoRow)) (aP:Isi X (.cls "NoRow")) (hE:i7 X) (m_isinstance:X.mg "isinstance"=none) (m_ValueError:X.mg "ValueError"=none) (isi_ValueError:Isi X (.ty "ValueError")) (q_NoSize:X.mg "NoSize"=some (.ref  C_NoSize)) (q_NoBits:X.mg "NoBits"=some (.ref  C_NoBits)) (q_NoParts:X.mg "NoParts"=some (.ref  C_NoParts)) (q_NoRank:X.mg "NoRank"=some (.ref  C_NoRank)) (q_NotFinite:X.mg "NotFinite"=some (.ref  C_NotFinite)) (q_NoWay:X.mg "NoWay"=some (.ref  C_NoWay)) (q_NoFlags:X.mg "NoFlags"=some (.ref  C_NoFlags)) (isi_NoSize:Isi X (.cls "NoSize")) (isi_NoBits:Isi X (.cls "NoBits")) (isi_NoParts:Isi X (.cls "NoParts")) (isi_NoRank:Isi X (.cls "NoRank")) (isi_NotFinite:Isi X (.cls "NotFinite")) (isi_NoWay:Isi X (.cls "NoWay")) (isi_NoFlags:Isi X (.cls "NoFlags")) (q_NoFraction:X.mg "NoFraction"=some (.ref  C_NoFraction)) (q_Unlike:X.mg "Unlike"=some (.ref  C_Unlike)) (q_Empty:X.mg "Empty"=some (.ref  C_Empty)) (q_NoLeft:X.mg "NoLeft"=some (.ref  C_NoLeft)) (q_NoText:X.mg "NoText"=some (.ref  C_NoText)) (q_NoName:X.mg "NoName"=some (.ref  C_NoName)) (q_Stopped:X.mg "Stopped"=some (.ref  C_Stopped)) (isi_NoFraction:Isi X (.cls "NoFraction")) (isi_Unlike:Isi X (.cls "Unlike")) (isi_Empty:Isi X (.cls "Empty")) (isi_NoLeft:Isi X (.cls "NoLeft")) (isi_NoText:Isi X (.cls "NoText")) (isi_NoName:Isi X (.cls "NoName")) (isi_Stopped:Isi X (.cls "Stopped")):SSs X (aC cZ) dh:=by
 unfold dh
 exact (ak (P.if_ (t_w (w_or (ia (gA (vg aP hE (P.w 0) m_isinstance (P.v 0) (eI (x:="NoRow") (P.w 1) q_NoRow)))) (sN (ia (gA (vg isi_ValueError hE (P.w 0) m_isinstance (P.v 0) (Fc (n:="ValueError") (P.w 2) m_ValueError iS))))))) (aA (P.ret pj)) aT)
 (ak (P.if_ (gA (wB (cs:=[.cls "NoSize",.cls "NoBits",.cls "NoParts",.cls "NoRank",.cls "NotFinite",.cls "NoWay",.cls "NoFlags"]) ↥19 ↥19 (aY isi_NoSize (aY isi_NoBits (aY isi_NoParts (aY isi_NoRank (aY isi_NotFinite (aY isi_NoWay (aY isi_NoFlags nN))))))) hE (P.w 0) m_isinstance (P.v 0) (eG (aj (eI (x:="NoSize") (P.w 3) q_NoSize) (aj (eI (x:="NoBits") (P.w 4) q_NoBits) (aj (eI (x:="NoParts") (P.w 5) q_NoParts) (aj (eI (x:="NoRank") (P.w 6) q_NoRank) (aj (eI (x:="NotFinite") (P.w 7) q_NotFinite) (aj (eI (x:="NoWay") (P.w 8) q_NoWay) (aj (eI (x:="NoFlags") (P.w 9) q_NoFlags) dH))))))) ↥0))) (aA (P.ret pj)) aT)
 (aA (P.ret (Fe (wB (cs:=[.cls "NoFraction",.cls "Unlike",.cls "Empty",.cls "NoLeft",.cls "NoText",.cls "NoName",.cls "Stopped"]) ↥19 ↥19 (aY isi_NoFraction (aY isi_Unlike (aY isi_Empty (aY isi_NoLeft (aY isi_NoText (aY isi_NoName (aY isi_Stopped nN))))))) hE (P.w 0) m_isinstance (P.v 0) (eG (aj (eI (x:="NoFraction") (P.w 10) q_NoFraction) (aj (eI (x:="Unlike") (P.w 11) q_Unlike) (aj (eI (x:="Empty") (P.w 12) q_Empty) (aj (eI (x:="NoLeft") (P.w 13) q_NoLeft) (aj (eI (x:="NoText") (P.w 14) q_NoText) (aj (eI (x:="NoName") (P.w 15) q_NoName) (aj (eI (x:="Stopped") (P.w 16) q_Stopped) dH))))))) ↥0)))))))
theorem kz (P:Pl X fq fE) (hS:X.env.scope=ae b8) {C_MillError:Addr}
  (c_words_of:Callee X "words_of" av) (lc_2:X.env.scope.names.lookup ("e":Str)=some .local) (q_MillError:X.mg "MillError"=some (.ref  C_MillError)) (ct_MillError:m8 X "MillError" C_MillError) (c_law_alone:Callee X "_law_alone" cA):SSs X (aC b8) ck:=by
 unfold ck
 exact (ak (P.set 1 Ff)
 (ak (Er (cls:="MillError") P O 2 rfl lc_2 (P.w 1) q_MillError ct_MillError (fun pins W=>(aA (Bz (P.try pins W).toSx (rL ⟨c_words_of.ex⟩ ((P.try pins W).gb _ (mG 0)) (a1 (fh (P.try pins W).sc 0 rfl)))))) (fun ea=>(aA (Bw (P.inn ea).toSx 1 rfl ((P.inn ea).sto _ (mG 1)) (fh (P.inn ea).sc 2 rfl)))))
 (aA (P.ret (P.call 2 c_law_alone (a1 (P.v 1)))))))
theorem lZ (P:Pl X gy gz) (hS:X.env.scope=ae cI)
  (m_len:X.mg "len"=none):SSs X (aC cI) cJ:=by
 unfold cJ
 exact (ak (P.set 2 (kq bU PySem.F.slot_str_join PySem.F.type_str_join bo ao (P.v 0)))
 (ak (P.if_ (fK hr (bu (P.v 1) ag) ag) (aA (P.ret (aE ao (P.v 2)))) aT)
 (ak (P.if_ (fK hr (bu (P.v 1) ag) ag) (aA (P.ret (aE (P.v 2) ao))) aT)
 (ak (P.set 3 (aE ag (bu (dU (P.v 1) ag) ↥28)))
 (aA (P.ret (aE (aE (kq bU PySem.F.slot_str_join PySem.F.type_str_join bo ao (fT (P.v 0) aG (aF (P.v 3)))) ao) (kq bU PySem.F.slot_str_join PySem.F.type_str_join bo ao (fT (P.v 0) (aF (P.v 3)) aG)))))))))
theorem fV (P:Pl X cV cW) (hS:X.env.scope=ae bq)
  (m_len:X.mg "len"=none):SSs X (aC bq) bt:=by
 unfold bt
 exact (ak (P.set 3 (bu (dU (P.v 1) ag) ↥28))
 (ak (P.if_ (fK hr (bu (P.v 1) ag) ag) (aA (P.ret (aE (aE (dD (P.v 0) aG (aF (P.v 3))) (nU ao (bu (dU (P.v 1) ag) ag))) (dD (P.v 0) (aF (aE (P.v 3) ag)) aG)))) aT)
 (aA (P.ret (kq qE PySem.F.slot_str_zfill PySem.F.type_str_zfill nL (P.v 0) (nU (dj (a2 (aE (P.v 2) ag) ag) ↥0) (bu (dU (P.v 1) ag) ag)))))))
theorem pD (P:Pl X jO jQ) (hS:X.env.scope=ae dQ)
  (m_len:X.mg "len"=none):SSs X (aC dQ) cy:=by
 unfold cy
 exact (ak (P.if_ (tX (P.v 0) (eG (a3 ao ao ao) ↥0)) (aA (P.ret (aE (P.v 1) (C9 (fT (P.v 2) aG (aF ag)) (iO ag ↥27))))) aT)
 (ak (P.if_ (t_w (w_and (fK hr (P.v 0) ao) (js (fK hr (bu (P.v 3) ag) ag)))) (aA (P.ret (aE (P.v 1) (C9 (fT (P.v 2) aG (aF ag)) (iO ag ↥27))))) aT)
 (aA (P.ret (aE (P.v 1) (dj (a1 ao) ↥0))))))
theorem jl (P:Pl X d3 d5) (hS:X.env.scope=ae bP)
     : SSs X (aC bP) bR:=by
 unfold bR
 exact (ak (P.if_ (fK hr (bu (P.v 1) ag) ag) (aA (P.ret (aE (P.v 0) (nU ao (bu (dU (P.v 1) ag) ag))))) aT)
 (ak (P.if_ (fK hr (bu (P.v 1) ag) ag) (aA (P.ret (dD (P.v 0) aG (aF (Dd ag))))) aT)
 (aA (P.ret (aE (zV (dD (P.v 0) aG (aF ag))) (dD (P.v 0) (aF ag) aG))))))
theorem jm (P:Pl X d4 d6) (hS:X.env.scope=ae bQ)
  (m_len:X.mg "len"=none):SSs X (aC bQ) bS:=by
 unfold bS
 exact (ak (P.set 2 (bu (dU (P.v 1) ag) ↥28))
 (ak (P.if_ (fK hr (bu (P.v 1) ag) ag) (aA (P.ret (dD (aE (aE (P.v 0) (P.v 0)) ao) aG (aF ag)))) aT)
 (ak (P.if_ (fK hr (bu (P.v 1) ag) ag) (aA (P.ret (aE (aE (dD (P.v 0) aG (aF (P.v 2))) (nU ao (bu (dU (P.v 1) ag) ag))) (dD (P.v 0) (aF (aE (P.v 2) ag)) aG)))) aT)
 (aA (P.ret (aE (aE (dD (P.v 0) aG (aF (P.v 2))) (nU ao (bu (dU (P.v 1) ag) ag))) (dD (P.v 0) (aF (aE (P.v 2) ag)) aG)))))))
theorem kv (P:Pl X fm fB) (hS:X.env.scope=ae b6)
  (c_law_blanks:Callee X "_law_blanks" bB) (c_law_odd_verb:Callee X "_law_odd_verb" bf) (c_law_more:Callee X "_law_more" bh) (m_len:X.mg "len"=none) (c_law_odd_name:Callee X "_law_odd_name" bg) (c_law_odd_figures:Callee X "_law_odd_figures" aV) (m_int:X.mg "int"=none):SSs X (aC b6) aw:=by
 unfold aw
 exact (ak (P.set 5 (aE (aE (dj (a1 (P.v 0)) ↥0) (P.v 1)) (P.v 2)))
 (ak (P.if_ (fK hr (P.v 3) ag) (aA (P.ret (P.call 0 c_law_blanks (a2 (P.v 5) (P.v 4))))) aT)
 (ak (P.if_ (fK hr (P.v 3) ag) (aA (P.ret (kq bU PySem.F.slot_str_join PySem.F.type_str_join bo ao (aE (aE (dj (a1 (P.call 1 c_law_odd_verb (a2 (P.v 0) (P.v 4)))) ↥0) (P.v 1)) (P.v 2))))) aT)
 (ak (P.if_ (t_w (w_and (fK hr (P.v 3) ag) (js (tX (P.v 0) (eG (a3 ao ao ao) ↥0))))) (aA (P.ret (kq bU PySem.F.slot_str_join PySem.F.type_str_join bo ao (fT (P.v 5) aG (aF (aE ag (bu (P.v 4) ag))))))) aT)
 (ak (P.if_ (t_w (w_and (fK hr (P.v 3) ag) (w_and (fK hr (P.v 0) ao) (js (fK hr (bu (P.v 4) ag) ag))))) (aA (P.ret (kq bU PySem.F.slot_str_join PySem.F.type_str_join bo ao (fT (P.v 5) aG (aF ag))))) aT)
 (ak (P.if_ (fK hr (P.v 3) ag) (aA (P.ret (kq bU PySem.F.slot_str_join PySem.F.type_str_join bo ao (fT (P.v 5) aG (aF (Dd ag)))))) aT)
 (ak (P.if_ (fK hr (P.v 3) ag) (aA (P.ret (kq bU PySem.F.slot_str_join PySem.F.type_str_join bo ao (P.call 2 c_law_more (aj (P.v 0) (aj (P.v 5) (aj (P.v 1) (aj (P.v 4) dH)))))))) aT)
 (ak (P.if_ (t_w (w_and (fK hr (P.v 3) ag) (js (Bo (bV eM eE (P.w 3) m_len PySem.boot_len (a1 (P.v 1))) ag)))) (ak (P.set 6 (bu (P.v 4) (bV eM eE (P.w 3) m_len PySem.boot_len (a1 (P.v 1)))))
 (aA (P.ret (kq bU PySem.F.slot_str_join PySem.F.type_str_join bo ao (aE (aE (aE (aE (dj (a1 (P.v 0)) ↥0) (fT (P.v 1) aG (aF (P.v 6)))) (dj (a1 (P.call 4 c_law_odd_name (a2 (nU (P.v 1) (P.v 6)) (dU (P.v 4) ag)))) ↥0)) (fT (P.v 1) (aF (aE (P.v 6) ag)) aG)) (P.v 2)))))) aT)
 (ak (P.if_ (t_w (w_and (fK hr (P.v 3) ag) (js (tX (P.v 0) (eG (a2 ao ao) ↥0))))) (ak (P.set 6 (aE (aE (bV eM eE (P.w 3) m_len PySem.boot_len (a1 (P.v 1))) ag) (bu (P.v 4) (bV eM eE (P.w 3) m_len PySem.boot_len (a1 (P.v 2))))))
 (ak (P.set 7 (P.call 5 c_law_odd_figures (a3 (nU (P.v 5) (P.v 6)) (dU (P.v 4) ag) (nU (dj (a2 ag ag) ↥0) (rN Dm Co (P.w 6) m_int PyProof.Rows.boot_int (a1 (HA hr (P.v 0) ao)))))))
 (aA (P.ret (kq bU PySem.F.slot_str_join PySem.F.type_str_join bo ao (aE (aE (fT (P.v 5) aG (aF (P.v 6))) (dj (a1 (P.v 7)) ↥0)) (fT (P.v 5) (aF (aE (P.v 6) ag)) aG))))))) aT)
 (ak (P.if_ (t_w (w_and (fK hr (P.v 3) ag) (js (tX (P.v 0) (eG (a2 ao ao) ↥0))))) (aA (P.ret (aE (kq bU PySem.F.slot_str_join PySem.F.type_str_join bo ao (P.v 5)) (wA ao (iO ag (bV eM eE (P.w 3) m_len PySem.boot_len (a1 (kq bU PySem.F.slot_str_join PySem.F.type_str_join bo ao (P.v 5))))))))) aT)
 (aA (P.ret ao))))))))))))
theorem iV (P:Pl X dJ dN) (hS:X.env.scope=ae bH)
  (c_law_many_names:Callee X "_law_many_names" ah) (c_law_cell_at:Callee X "_law_cell_at" ai) (m_range:X.mg "range"=none) (c_law_name_by:Callee X "_law_name_by" a8) (c_law_tail:Callee X "_law_tail" aX) (c_law_words_fit:Callee X "_law_words_fit" aZ) (m_len:X.mg "len"=none) (c_law_refused:Callee X "_law_refused" aB) (c_law_spoiled:Callee X "_law_spoiled" aa):SSs X (aC bH) bL:=by
 unfold bL
 exact (ak (t5 P.toSx 3 rfl (P.sto _ (mG 3)))
 (ak (nv P.toSx L 4 rfl (P.sto _ (mG 4)) (nO (P.w 0) m_range (P.call 1 c_law_many_names (a2 (P.v 0) (aE (P.call 2 c_law_cell_at (a2 (P.v 1) ag)) (P.v 2))))) (aA (t6 P.toSx 3 rfl (P.call 3 c_law_name_by (a1 (aE (aE (P.call 2 c_law_cell_at (a2 (P.v 1) (aE ag (P.v 4)))) (mT ag (P.v 4))) (P.v 2)))))))
 (ak (Et 3 (P.set 5 (P.call 4 c_law_tail (a3 (P.v 0) (aE (P.call 2 c_law_cell_at (a2 (P.v 1) ag)) (mT ag (P.v 2))) (aE (P.call 2 c_law_cell_at (a2 (P.v 1) ag)) (dU (P.call 2 c_law_cell_at (a2 (P.v 1) ag)) ag))))))
 (ak (P.if_ (ia (gA (P.call 5 c_law_words_fit (a1 (aE (aE (dj (a1 (P.v 0)) ↥0) (P.v 3)) (P.v 5)))))) (aA (P.ret pj)) aT)
 (ak (P.if_ (tX (P.v 0) (eG (a2 ao ao) ↥0)) (ak (P.set 8 (aE (P.v 3) (dj (a1 (wA ao (iO (iO (iO ag (bV eM eE (P.w 6) m_len PySem.boot_len (a1 (P.v 0)))) (bV eM eE (P.w 6) m_len PySem.boot_len (a1 (kq bU PySem.F.slot_str_join PySem.F.type_str_join bo ao (P.v 3))))) (bV eM eE (P.w 6) m_len PySem.boot_len (a1 (P.v 3)))))) ↥0)))
 (aA (P.if_ (ia (gA (P.call 5 c_law_words_fit (a1 (aE (dj (a1 (P.v 0)) ↥0) (P.v 8)))))) (aA (P.ret pj)) aT))) aT)
 (ak (P.set 6 (aE (aE (P.call 2 c_law_cell_at (a2 (P.v 1) ag)) (dU (P.call 2 c_law_cell_at (a2 (P.v 1) ag)) ag)) (mT ag (P.v 2))))
 (ak (nv P.toSx L 7 rfl (P.sto _ (mG 7)) (CV (P.w 0) m_range ag ag) (aA (P.if_ (ia (gA (P.call 7 c_law_refused (a1 (P.call 8 c_law_spoiled (aj (P.v 0) (aj (P.v 3) (aj (P.v 5) (aj (P.v 7) (aj (aE (P.v 6) (P.v 7)) dH)))))))))) (aA (P.ret pj)) aT)))
 (aA (P.ret pj)))))))))
theorem Fn (P:Pl X Dx Dz) (hS:X.env.scope=ae jg)
  (m_range:X.mg "range"=none) (c_law_verb_fits:Callee X "_law_verb_fits" aW) (c_law_cell_at:Callee X "_law_cell_at" ai) (c_law_refused:Callee X "_law_refused" aB):SSs X (aC jg) u4:=by
 unfold u4
 exact (ak (P.set 1 (dj (aj ao (aj ao (aj ao (aj ao (aj ao (aj ao (aj ao (aj ao (aj ao (aj ao (aj ao (aj ao (aj ao dH))))))))))))) ↥0))
 (ak (P.set 1 (aE (P.v 1) (dj (aj ao (aj ao (aj ao (aj ao (aj ao (aj ao (aj ao (aj ao dH)))))))) ↥0)))
 (ak (nv P.toSx L 2 rfl (P.sto _ (mG 2)) (nO (P.w 0) m_range ag) (aA (P.if_ (ia (gA (P.call 1 c_law_verb_fits (a3 (nU (P.v 1) (P.v 2)) (P.v 0) (aE (bu (P.call 2 c_law_cell_at (a2 (P.v 0) ag)) ag) (P.v 2)))))) (aA (P.ret pj)) aT)))
 (ak (nv P.toSx L 3 rfl (P.sto _ (mG 3)) (CW (dj (aj ao (aj (aE ao (wz ao ag)) (aj ao (aj (aE ao (wz ao ag)) dH)))) ↥0)) (aA (P.if_ (ia (gA (P.call 3 c_law_refused (a1 (P.v 3))))) (aA (P.ret pj)) aT)))
 (aA (P.ret pj))))))
end
theorem all_mk {P:Program} {w:World} {K:PySem.W.Frag} {h:Heap} {mg:Str->Option Value} {fa:Addr} (KX:K.In h) (GG:h.Ns mainGlobals mg) (hfa:mg "law"=some (.ref fa))
  (q1:DA K "_law_figures" cb)
  (q2:DA K "_law_sign_by" b7)
  (q3:DA K "_law_tail" dP)
  (q4:DA K "_law_many_names" bw)
  (q5:DA K "form_of" eU)
  (q6:DA K "is_name" eS)
  (q7:DA K "all_figures" cg)
  (q8:DA K "fits" ny)
  {f9:Addr} {od9 an9:Option Addr} {sl9:Array ↥37} {oc9 kV9 dc9 pm9 cd9 ct9:Value}
  (a9:PySem.W.nsIn K mainGlobals "words_of"=some (some (.ref f9)))
  (l9:K.lookup f9=some ⟨oc9,od9,.func (PySem.W.fnOf "words_of" "words_of" (eJ bp) (aC bp) (ae bp) .none kV9 dc9 pm9 an9 cd9 ct9),sl9⟩)
  (e9:PySem.W.codeIn K cd9 "words_of"=true) (k9:PySem.W.keepIn K (.ref f9)=true)
  (q10:DA K "_law_words_fit" bG)
  (q11:DA K "_law_name_by" b9)
  (q12:DA K "_law_cell_at" cf)
  (q13:DA K "_law_alone" cZ)
  (q14:DA K "_law_refused" b8)
  (q15:DA K "_law_blanks" cI)
  (q16:DA K "_law_odd_figures" bq)
  (q17:DA K "_law_more" dQ)
  (q18:DA K "_law_odd_verb" bP)
  (q19:DA K "_law_odd_name" bQ)
  (q20:DA K "_law_spoiled" b6)
  (q21:DA K "_law_verb_fits" bH)
  {f22:Addr} {od22 an22:Option Addr} {sl22:Array ↥37} {oc22 kV22 dc22 pm22 cd22 ct22:Value}
  (a22:PySem.W.nsIn K mainGlobals "law"=some (some (.ref f22)))
  (l22:K.lookup f22=some ⟨oc22,od22,.func (PySem.W.fnOf "law" "law" (eJ jg) (aC jg) (ae jg) .none kV22 dc22 pm22 an22 cd22 ct22),sl22⟩)
  (e22:PySem.W.codeIn K cd22 "law"=true) (k22:PySem.W.keepIn K (.ref f22)=true)
  (z_str:PySem.W.nsIn K mainGlobals "str"=some none)
  (z_len:PySem.W.nsIn K mainGlobals "len"=some none)
  (z_range:PySem.W.nsIn K mainGlobals "range"=some none)
  (z_int:PySem.W.nsIn K mainGlobals "int"=some none)
  (z_all:PySem.W.nsIn K mainGlobals "all"=some none)
  (z_zip:PySem.W.nsIn K mainGlobals "zip"=some none)
  (z_list:PySem.W.nsIn K mainGlobals "list"=some none)
  (z_isinstance:PySem.W.nsIn K mainGlobals "isinstance"=some none)
  (z_ValueError:PySem.W.nsIn K mainGlobals "ValueError"=some none)
  {t_MOST_NAMES:Tok} (y_MOST_NAMES:PySem.W.nsIn K mainGlobals "MOST_NAMES"=some (some (.int 20 t_MOST_NAMES)))
  {t_LONGEST_NAME:Tok} (y_LONGEST_NAME:PySem.W.nsIn K mainGlobals "LONGEST_NAME"=some (some (.int 8 t_LONGEST_NAME)))
  {t_LETTERS:Tok} (y_LETTERS:PySem.W.nsIn K mainGlobals "LETTERS"=some (some (.str "abcdefghijklmnopqrstuvwxyz" t_LETTERS)))
  {t_FIGURES:Tok} (y_FIGURES:PySem.W.nsIn K mainGlobals "FIGURES"=some (some (.str "0123456789" t_FIGURES)))
  {t_LONGEST_ROW:Tok} (y_LONGEST_ROW:PySem.W.nsIn K mainGlobals "LONGEST_ROW"=some (some (.int 600 t_LONGEST_ROW)))
  {A_FORMS:Addr} {nn_FORMS:Nat} {t0_FORMS t1_FORMS t2_FORMS t3_FORMS t4_FORMS t5_FORMS t6_FORMS t7_FORMS t8_FORMS t9_FORMS t10_FORMS t11_FORMS t12_FORMS t13_FORMS t14_FORMS t15_FORMS t16_FORMS:Tok} (y_FORMS:PySem.W.nsIn K mainGlobals "FORMS"=some (some (.ref A_FORMS))) (ys_FORMS:(A_FORMS == sysModules)=false)
  {u0_FORMS u1_FORMS u2_FORMS u3_FORMS u4_FORMS u5_FORMS u6_FORMS u7_FORMS u8_FORMS u9_FORMS u10_FORMS u11_FORMS u12_FORMS u13_FORMS u14_FORMS u15_FORMS u16_FORMS:Addr}
  (yl_FORMS:K.lookup A_FORMS=some ⟨.type "dict",none,.dict #[⟨hashStr w "size",.str "size" t0_FORMS,.ref u0_FORMS⟩,⟨hashStr w "way",.str "way" t1_FORMS,.ref u1_FORMS⟩,⟨hashStr w "put",.str "put" t2_FORMS,.ref u2_FORMS⟩,⟨hashStr w "bits",.str "bits" t3_FORMS,.ref u3_FORMS⟩,⟨hashStr w "same",.str "same" t4_FORMS,.ref u4_FORMS⟩,⟨hashStr w "minus",.str "minus" t5_FORMS,.ref u5_FORMS⟩,⟨hashStr w "add",.str "add" t6_FORMS,.ref u6_FORMS⟩,⟨hashStr w "take",.str "take" t7_FORMS,.ref u7_FORMS⟩,⟨hashStr w "mul",.str "mul" t8_FORMS,.ref u8_FORMS⟩,⟨hashStr w "div",.str "div" t9_FORMS,.ref u9_FORMS⟩,⟨hashStr w "root",.str "root" t10_FORMS,.ref u10_FORMS⟩,⟨hashStr w "fuse",.str "fuse" t11_FORMS,.ref u11_FORMS⟩,⟨hashStr w "whole",.str "whole" t12_FORMS,.ref u12_FORMS⟩,⟨hashStr w "show",.str "show" t13_FORMS,.ref u13_FORMS⟩,⟨hashStr w "less",.str "less" t14_FORMS,.ref u14_FORMS⟩,⟨hashStr w "flags",.str "flags" t15_FORMS,.ref u15_FORMS⟩,⟨hashStr w "calm",.str "calm" t16_FORMS,.ref u16_FORMS⟩] nn_FORMS,#[]⟩)
  {d0_FORMS:Option Addr} {n0_FORMS:Nat} {l0_FORMS:Array ↥37} {s0_0_FORMS s1_0_FORMS:Tok} (yt0_FORMS:K.lookup u0_FORMS=some ⟨.type "tuple",d0_FORMS,.seq #[.str "measure" s0_0_FORMS,.str "measure" s1_0_FORMS] n0_FORMS,l0_FORMS⟩)
  {d1_FORMS:Option Addr} {n1_FORMS:Nat} {l1_FORMS:Array ↥37} {s0_1_FORMS:Tok} (yt1_FORMS:K.lookup u1_FORMS=some ⟨.type "tuple",d1_FORMS,.seq #[.str "text" s0_1_FORMS] n1_FORMS,l1_FORMS⟩)
  {d2_FORMS:Option Addr} {n2_FORMS:Nat} {l2_FORMS:Array ↥37} {s0_2_FORMS s1_2_FORMS:Tok} (yt2_FORMS:K.lookup u2_FORMS=some ⟨.type "tuple",d2_FORMS,.seq #[.str "new" s0_2_FORMS,.str "text" s1_2_FORMS] n2_FORMS,l2_FORMS⟩)
  {d3_FORMS:Option Addr} {n3_FORMS:Nat} {l3_FORMS:Array ↥37} {s0_3_FORMS s1_3_FORMS:Tok} (yt3_FORMS:K.lookup u3_FORMS=some ⟨.type "tuple",d3_FORMS,.seq #[.str "new" s0_3_FORMS,.str "bits" s1_3_FORMS] n3_FORMS,l3_FORMS⟩)
  {d4_FORMS:Option Addr} {n4_FORMS:Nat} {l4_FORMS:Array ↥37} {s0_4_FORMS s1_4_FORMS:Tok} (yt4_FORMS:K.lookup u4_FORMS=some ⟨.type "tuple",d4_FORMS,.seq #[.str "new" s0_4_FORMS,.str "old" s1_4_FORMS] n4_FORMS,l4_FORMS⟩)
  {d5_FORMS:Option Addr} {n5_FORMS:Nat} {l5_FORMS:Array ↥37} {s0_5_FORMS s1_5_FORMS:Tok} (yt5_FORMS:K.lookup u5_FORMS=some ⟨.type "tuple",d5_FORMS,.seq #[.str "new" s0_5_FORMS,.str "old" s1_5_FORMS] n5_FORMS,l5_FORMS⟩)
  {d6_FORMS:Option Addr} {n6_FORMS:Nat} {l6_FORMS:Array ↥37} {s0_6_FORMS s1_6_FORMS s2_6_FORMS:Tok} (yt6_FORMS:K.lookup u6_FORMS=some ⟨.type "tuple",d6_FORMS,.seq #[.str "new" s0_6_FORMS,.str "old" s1_6_FORMS,.str "old" s2_6_FORMS] n6_FORMS,l6_FORMS⟩)
  {d7_FORMS:Option Addr} {n7_FORMS:Nat} {l7_FORMS:Array ↥37} {s0_7_FORMS s1_7_FORMS s2_7_FORMS:Tok} (yt7_FORMS:K.lookup u7_FORMS=some ⟨.type "tuple",d7_FORMS,.seq #[.str "new" s0_7_FORMS,.str "old" s1_7_FORMS,.str "old" s2_7_FORMS] n7_FORMS,l7_FORMS⟩)
  {d8_FORMS:Option Addr} {n8_FORMS:Nat} {l8_FORMS:Array ↥37} {s0_8_FORMS s1_8_FORMS s2_8_FORMS:Tok} (yt8_FORMS:K.lookup u8_FORMS=some ⟨.type "tuple",d8_FORMS,.seq #[.str "new" s0_8_FORMS,.str "old" s1_8_FORMS,.str "old" s2_8_FORMS] n8_FORMS,l8_FORMS⟩)
  {d9_FORMS:Option Addr} {n9_FORMS:Nat} {l9_FORMS:Array ↥37} {s0_9_FORMS s1_9_FORMS s2_9_FORMS:Tok} (yt9_FORMS:K.lookup u9_FORMS=some ⟨.type "tuple",d9_FORMS,.seq #[.str "new" s0_9_FORMS,.str "old" s1_9_FORMS,.str "old" s2_9_FORMS] n9_FORMS,l9_FORMS⟩)
  {d10_FORMS:Option Addr} {n10_FORMS:Nat} {l10_FORMS:Array ↥37} {s0_10_FORMS s1_10_FORMS:Tok} (yt10_FORMS:K.lookup u10_FORMS=some ⟨.type "tuple",d10_FORMS,.seq #[.str "new" s0_10_FORMS,.str "old" s1_10_FORMS] n10_FORMS,l10_FORMS⟩)
  {d11_FORMS:Option Addr} {n11_FORMS:Nat} {l11_FORMS:Array ↥37} {s0_11_FORMS s1_11_FORMS s2_11_FORMS s3_11_FORMS:Tok} (yt11_FORMS:K.lookup u11_FORMS=some ⟨.type "tuple",d11_FORMS,.seq #[.str "new" s0_11_FORMS,.str "old" s1_11_FORMS,.str "old" s2_11_FORMS,.str "old" s3_11_FORMS] n11_FORMS,l11_FORMS⟩)
  {d12_FORMS:Option Addr} {n12_FORMS:Nat} {l12_FORMS:Array ↥37} {s0_12_FORMS s1_12_FORMS:Tok} (yt12_FORMS:K.lookup u12_FORMS=some ⟨.type "tuple",d12_FORMS,.seq #[.str "new" s0_12_FORMS,.str "old" s1_12_FORMS] n12_FORMS,l12_FORMS⟩)
  {d13_FORMS:Option Addr} {n13_FORMS:Nat} {l13_FORMS:Array ↥37} {s0_13_FORMS:Tok} (yt13_FORMS:K.lookup u13_FORMS=some ⟨.type "tuple",d13_FORMS,.seq #[.str "old" s0_13_FORMS] n13_FORMS,l13_FORMS⟩)
  {d14_FORMS:Option Addr} {n14_FORMS:Nat} {l14_FORMS:Array ↥37} {s0_14_FORMS s1_14_FORMS:Tok} (yt14_FORMS:K.lookup u14_FORMS=some ⟨.type "tuple",d14_FORMS,.seq #[.str "old" s0_14_FORMS,.str "old" s1_14_FORMS] n14_FORMS,l14_FORMS⟩)
  {d15_FORMS:Option Addr} {n15_FORMS:Nat} {l15_FORMS:Array ↥37} (yt15_FORMS:K.lookup u15_FORMS=some ⟨.type "tuple",d15_FORMS,.seq #[] n15_FORMS,l15_FORMS⟩)
  {d16_FORMS:Option Addr} {n16_FORMS:Nat} {l16_FORMS:Array ↥37} (yt16_FORMS:K.lookup u16_FORMS=some ⟨.type "tuple",d16_FORMS,.seq #[] n16_FORMS,l16_FORMS⟩)
  {A_NAME_ROWS:Addr} {nn_NAME_ROWS:Nat} {t0_NAME_ROWS t1_NAME_ROWS t2_NAME_ROWS t3_NAME_ROWS:Tok} (y_NAME_ROWS:PySem.W.nsIn K mainGlobals "NAME_ROWS"=some (some (.ref A_NAME_ROWS))) (ys_NAME_ROWS:(A_NAME_ROWS == sysModules)=false)
  {u0_NAME_ROWS u1_NAME_ROWS u2_NAME_ROWS u3_NAME_ROWS:Tok}
  (yl_NAME_ROWS:K.lookup A_NAME_ROWS=some ⟨.type "dict",none,.dict #[⟨hashStr w "sum",.str "sum" t0_NAME_ROWS,.int 1 u0_NAME_ROWS⟩,⟨hashStr w "turn",.str "turn" t1_NAME_ROWS,.int 1 u1_NAME_ROWS⟩,⟨hashStr w "halves",.str "halves" t2_NAME_ROWS,.int 1 u2_NAME_ROWS⟩,⟨hashStr w "dot",.str "dot" t3_NAME_ROWS,.int 2 u3_NAME_ROWS⟩] nn_NAME_ROWS,#[]⟩)
  {A_LONGEST_FIGURES:Addr} {nn_LONGEST_FIGURES:Nat} {t0_LONGEST_FIGURES t1_LONGEST_FIGURES:Tok} (y_LONGEST_FIGURES:PySem.W.nsIn K mainGlobals "LONGEST_FIGURES"=some (some (.ref A_LONGEST_FIGURES))) (ys_LONGEST_FIGURES:(A_LONGEST_FIGURES == sysModules)=false)
  {u0_LONGEST_FIGURES u1_LONGEST_FIGURES:Tok}
  (yl_LONGEST_FIGURES:K.lookup A_LONGEST_FIGURES=some ⟨.type "dict",none,.dict #[⟨hashStr w "measure",.str "measure" t0_LONGEST_FIGURES,.int 4 u0_LONGEST_FIGURES⟩,⟨hashStr w "bits",.str "bits" t1_LONGEST_FIGURES,.int 40 u1_LONGEST_FIGURES⟩] nn_LONGEST_FIGURES,#[]⟩)
  {C_MillError:Addr} (n_MillError:PySem.W.nsIn K mainGlobals "MillError"=some (some (.ref C_MillError)))
  {C_NoSize:Addr} (n_NoSize:PySem.W.nsIn K mainGlobals "NoSize"=some (some (.ref C_NoSize)))
  {C_NoBits:Addr} (n_NoBits:PySem.W.nsIn K mainGlobals "NoBits"=some (some (.ref C_NoBits)))
  {C_NoParts:Addr} (n_NoParts:PySem.W.nsIn K mainGlobals "NoParts"=some (some (.ref C_NoParts)))
  {C_NoRank:Addr} (n_NoRank:PySem.W.nsIn K mainGlobals "NoRank"=some (some (.ref C_NoRank)))
  {C_NotFinite:Addr} (n_NotFinite:PySem.W.nsIn K mainGlobals "NotFinite"=some (some (.ref C_NotFinite)))
  {C_NoWay:Addr} (n_NoWay:PySem.W.nsIn K mainGlobals "NoWay"=some (some (.ref C_NoWay)))
  {C_NoFlags:Addr} (n_NoFlags:PySem.W.nsIn K mainGlobals "NoFlags"=some (some (.ref C_NoFlags)))
  {C_NoFraction:Addr} (n_NoFraction:PySem.W.nsIn K mainGlobals "NoFraction"=some (some (.ref C_NoFraction)))
  {C_Unlike:Addr} (n_Unlike:PySem.W.nsIn K mainGlobals "Unlike"=some (some (.ref C_Unlike)))
  {C_Empty:Addr} (n_Empty:PySem.W.nsIn K mainGlobals "Empty"=some (some (.ref C_Empty)))
  {C_NoLeft:Addr} (n_NoLeft:PySem.W.nsIn K mainGlobals "NoLeft"=some (some (.ref C_NoLeft)))
  {C_NoText:Addr} (n_NoText:PySem.W.nsIn K mainGlobals "NoText"=some (some (.ref C_NoText)))
  {C_NoRow:Addr} (n_NoRow:PySem.W.nsIn K mainGlobals "NoRow"=some (some (.ref C_NoRow)))
  {C_NoName:Addr} (n_NoName:PySem.W.nsIn K mainGlobals "NoName"=some (some (.ref C_NoName)))
  {C_Stopped:Addr} (n_Stopped:PySem.W.nsIn K mainGlobals "Stopped"=some (some (.ref C_Stopped)))
  (xi_NoRow:PySem.W.excIn K C_NoRow bmV "ValueError.__new__"=true)
  (v_MillError:XCls K C_MillError)
  (v_NoSize:XCls K C_NoSize)
  (v_NoBits:XCls K C_NoBits)
  (v_NoParts:XCls K C_NoParts)
  (v_NoRank:XCls K C_NoRank)
  (v_NotFinite:XCls K C_NotFinite)
  (v_NoWay:XCls K C_NoWay)
  (v_NoFlags:XCls K C_NoFlags)
  (v_NoFraction:XCls K C_NoFraction)
  (v_Unlike:XCls K C_Unlike)
  (v_Empty:XCls K C_Empty)
  (v_NoLeft:XCls K C_NoLeft)
  (v_NoText:XCls K C_NoText)
  (v_NoRow:XCls K C_NoRow)
  (v_NoName:XCls K C_NoName)
  (v_Stopped:XCls K C_Stopped)
  (cb_MillError:CB K C_MillError)
  (r_MillError_MillError:PySem.W.mroIn K C_MillError (.ref C_MillError)=some true)
  (r_MillError_NoSize:PySem.W.mroIn K C_NoSize (.ref C_MillError)=some true)
  (r_MillError_NoBits:PySem.W.mroIn K C_NoBits (.ref C_MillError)=some true)
  (r_MillError_NoParts:PySem.W.mroIn K C_NoParts (.ref C_MillError)=some true)
  (r_MillError_NoRank:PySem.W.mroIn K C_NoRank (.ref C_MillError)=some true)
  (r_MillError_NotFinite:PySem.W.mroIn K C_NotFinite (.ref C_MillError)=some true)
  (r_MillError_NoWay:PySem.W.mroIn K C_NoWay (.ref C_MillError)=some true)
  (r_MillError_NoFlags:PySem.W.mroIn K C_NoFlags (.ref C_MillError)=some true)
  (r_MillError_NoFraction:PySem.W.mroIn K C_NoFraction (.ref C_MillError)=some true)
  (r_MillError_Unlike:PySem.W.mroIn K C_Unlike (.ref C_MillError)=some true)
  (r_MillError_Empty:PySem.W.mroIn K C_Empty (.ref C_MillError)=some true)
  (r_MillError_NoLeft:PySem.W.mroIn K C_NoLeft (.ref C_MillError)=some true)
  (r_MillError_NoText:PySem.W.mroIn K C_NoText (.ref C_MillError)=some true)
  (r_MillError_NoRow:PySem.W.mroIn K C_NoRow (.ref C_MillError)=some true)
  (r_MillError_NoName:PySem.W.mroIn K C_NoName (.ref C_MillError)=some true)
  (r_MillError_Stopped:PySem.W.mroIn K C_Stopped (.ref C_MillError)=some true)
  (itab:[("NoRow",C_NoRow),("NoSize",C_NoSize),("NoBits",C_NoBits),("NoParts",C_NoParts),("NoRank",C_NoRank),("NotFinite",C_NotFinite),("NoWay",C_NoWay),("NoFlags",C_NoFlags),("NoFraction",C_NoFraction),("Unlike",C_Unlike),("Empty",C_Empty),("NoLeft",C_NoLeft),("NoText",C_NoText),("NoName",C_NoName),("Stopped",C_Stopped)].all (tabI K [("MillError",C_MillError),("NoSize",C_NoSize),("NoBits",C_NoBits),("NoParts",C_NoParts),("NoRank",C_NoRank),("NotFinite",C_NotFinite),("NoWay",C_NoWay),("NoFlags",C_NoFlags),("NoFraction",C_NoFraction),("Unlike",C_Unlike),("Empty",C_Empty),("NoLeft",C_NoLeft),("NoText",C_NoText),("NoRow",C_NoRow),("NoName",C_NoName),("Stopped",C_Stopped)])=true)
  (i_list_NoneType:PySem.W.kitOne K (.type "NoneType") (.type "list")=some false)
  (i_list_bool:PySem.W.kitOne K (.type "bool") (.type "list")=some false)
  (i_list_int:PySem.W.kitOne K (.type "int") (.type "list")=some false)
  (i_list_str:PySem.W.kitOne K (.type "str") (.type "list")=some false)
  (i_list_tuple:PySem.W.kitOne K ↥11 (.type "list")=some false)
  (i_list_list:PySem.W.kitOne K (.type "list") (.type "list")=some true)
  (i_str_NoneType:PySem.W.kitOne K (.type "NoneType") (.type "str")=some false)
  (i_str_bool:PySem.W.kitOne K (.type "bool") (.type "str")=some false)
  (i_str_int:PySem.W.kitOne K (.type "int") (.type "str")=some false)
  (i_str_str:PySem.W.kitOne K (.type "str") (.type "str")=some true)
  (i_str_tuple:PySem.W.kitOne K ↥11 (.type "str")=some false)
  (i_str_list:PySem.W.kitOne K (.type "list") (.type "str")=some false)
  (i_VE_NoneType:PySem.W.kitOne K (.type "NoneType") ↥8=some false)
  (i_VE_bool:PySem.W.kitOne K (.type "bool") ↥8=some false)
  (i_VE_int:PySem.W.kitOne K (.type "int") ↥8=some false)
  (i_VE_str:PySem.W.kitOne K (.type "str") ↥8=some false)
  (i_VE_tuple:PySem.W.kitOne K ↥11 ↥8=some false)
  (i_VE_list:PySem.W.kitOne K (.type "list") ↥8=some false)
  (itav:Fp K [("MillError",C_MillError),("NoSize",C_NoSize),("NoBits",C_NoBits),("NoParts",C_NoParts),("NoRank",C_NoRank),("NotFinite",C_NotFinite),("NoWay",C_NoWay),("NoFlags",C_NoFlags),("NoFraction",C_NoFraction),("Unlike",C_Unlike),("Empty",C_Empty),("NoLeft",C_NoLeft),("NoText",C_NoText),("NoRow",C_NoRow),("NoName",C_NoName),("Stopped",C_Stopped)]=true)
  : ∃ fd:FuncData,(∀ (s:Shared) (v:Value),BindsTo s fd ⟨[v],[]⟩ [("_law_script",v)])/\∀ base:Heap,K.In base->base.Ns mainGlobals mg->FnOk P w K mg base (CXF P w) 6 fa fd ["_law_script"] (spP K mg ug):=by
 have e:=hfa.symm.trans (PySem.W.mg_of KX GG a22)
 cases e
 have m_str:=PySem.W.mg_none_of KX GG z_str
 have m_len:=PySem.W.mg_none_of KX GG z_len
 have m_range:=PySem.W.mg_none_of KX GG z_range
 have m_int:=PySem.W.mg_none_of KX GG z_int
 have m_all:=PySem.W.mg_none_of KX GG z_all
 have m_zip:=PySem.W.mg_none_of KX GG z_zip
 have m_list:=PySem.W.mg_none_of KX GG z_list
 have m_isinstance:=PySem.W.mg_none_of KX GG z_isinstance
 have m_ValueError:=PySem.W.mg_none_of KX GG z_ValueError
 have g_MOST_NAMES:∃ t,mg "MOST_NAMES"=some (.int 20 t):=⟨_,PySem.W.mg_of KX GG y_MOST_NAMES⟩
 have g_LONGEST_NAME:∃ t,mg "LONGEST_NAME"=some (.int 8 t):=⟨_,PySem.W.mg_of KX GG y_LONGEST_NAME⟩
 have g_LETTERS:∃ t,mg "LETTERS"=some (.str "abcdefghijklmnopqrstuvwxyz" t):=⟨_,PySem.W.mg_of KX GG y_LETTERS⟩
 have g_FIGURES:∃ t,mg "FIGURES"=some (.str "0123456789" t):=⟨_,PySem.W.mg_of KX GG y_FIGURES⟩
 have g_LONGEST_ROW:∃ t,mg "LONGEST_ROW"=some (.int 600 t):=⟨_,PySem.W.mg_of KX GG y_LONGEST_ROW⟩
 have q_MillError:=PySem.W.mg_of KX GG n_MillError
 have q_NoSize:=PySem.W.mg_of KX GG n_NoSize
 have q_NoBits:=PySem.W.mg_of KX GG n_NoBits
 have q_NoParts:=PySem.W.mg_of KX GG n_NoParts
 have q_NoRank:=PySem.W.mg_of KX GG n_NoRank
 have q_NotFinite:=PySem.W.mg_of KX GG n_NotFinite
 have q_NoWay:=PySem.W.mg_of KX GG n_NoWay
 have q_NoFlags:=PySem.W.mg_of KX GG n_NoFlags
 have q_NoFraction:=PySem.W.mg_of KX GG n_NoFraction
 have q_Unlike:=PySem.W.mg_of KX GG n_Unlike
 have q_Empty:=PySem.W.mg_of KX GG n_Empty
 have q_NoLeft:=PySem.W.mg_of KX GG n_NoLeft
 have q_NoText:=PySem.W.mg_of KX GG n_NoText
 have q_NoRow:=PySem.W.mg_of KX GG n_NoRow
 have q_NoName:=PySem.W.mg_of KX GG n_NoName
 have q_Stopped:=PySem.W.mg_of KX GG n_Stopped
 have hXF:∀ n∈af,XF K mg n:=Ap
  ⟨.inr ⟨_,q_MillError,v_MillError⟩⟩
  ⟨.inr ⟨_,q_NoSize,v_NoSize⟩⟩
  ⟨.inr ⟨_,q_NoBits,v_NoBits⟩⟩
  ⟨.inr ⟨_,q_NoParts,v_NoParts⟩⟩
  ⟨.inr ⟨_,q_NoRank,v_NoRank⟩⟩
  ⟨.inr ⟨_,q_NotFinite,v_NotFinite⟩⟩
  ⟨.inr ⟨_,q_NoWay,v_NoWay⟩⟩
  ⟨.inr ⟨_,q_NoFlags,v_NoFlags⟩⟩
  ⟨.inr ⟨_,q_NoFraction,v_NoFraction⟩⟩
  ⟨.inr ⟨_,q_Unlike,v_Unlike⟩⟩
  ⟨.inr ⟨_,q_Empty,v_Empty⟩⟩
  ⟨.inr ⟨_,q_NoLeft,v_NoLeft⟩⟩
  ⟨.inr ⟨_,q_NoText,v_NoText⟩⟩
  ⟨.inr ⟨_,q_NoRow,v_NoRow⟩⟩
  ⟨.inr ⟨_,q_NoName,v_NoName⟩⟩
  ⟨.inr ⟨_,q_Stopped,v_Stopped⟩⟩
 have hct_MillError:∀ n∈af,ko n "MillError"=true->CF K mg C_MillError n:=Ap (P:=fun n=>ko n "MillError"=true->CF K mg C_MillError n)
  (fun _=>⟨.inr ⟨_,q_MillError,r_MillError_MillError⟩⟩)
  (fun _=>⟨.inr ⟨_,q_NoSize,r_MillError_NoSize⟩⟩)
  (fun _=>⟨.inr ⟨_,q_NoBits,r_MillError_NoBits⟩⟩)
  (fun _=>⟨.inr ⟨_,q_NoParts,r_MillError_NoParts⟩⟩)
  (fun _=>⟨.inr ⟨_,q_NoRank,r_MillError_NoRank⟩⟩)
  (fun _=>⟨.inr ⟨_,q_NotFinite,r_MillError_NotFinite⟩⟩)
  (fun _=>⟨.inr ⟨_,q_NoWay,r_MillError_NoWay⟩⟩)
  (fun _=>⟨.inr ⟨_,q_NoFlags,r_MillError_NoFlags⟩⟩)
  (fun _=>⟨.inr ⟨_,q_NoFraction,r_MillError_NoFraction⟩⟩)
  (fun _=>⟨.inr ⟨_,q_Unlike,r_MillError_Unlike⟩⟩)
  (fun _=>⟨.inr ⟨_,q_Empty,r_MillError_Empty⟩⟩)
  (fun _=>⟨.inr ⟨_,q_NoLeft,r_MillError_NoLeft⟩⟩)
  (fun _=>⟨.inr ⟨_,q_NoText,r_MillError_NoText⟩⟩)
  (fun _=>⟨.inr ⟨_,q_NoRow,r_MillError_NoRow⟩⟩)
  (fun _=>⟨.inr ⟨_,q_NoName,r_MillError_NoName⟩⟩)
  (fun _=>⟨.inr ⟨_,q_Stopped,r_MillError_Stopped⟩⟩)
 have hCs:∀ x∈af,vD mg [("MillError",C_MillError),("NoSize",C_NoSize),("NoBits",C_NoBits),("NoParts",C_NoParts),("NoRank",C_NoRank),("NotFinite",C_NotFinite),("NoWay",C_NoWay),("NoFlags",C_NoFlags),("NoFraction",C_NoFraction),("Unlike",C_Unlike),("Empty",C_Empty),("NoLeft",C_NoLeft),("NoText",C_NoText),("NoRow",C_NoRow),("NoName",C_NoName),("Stopped",C_Stopped)] x:=Ap (P:=fun x=>vD mg [("MillError",C_MillError),("NoSize",C_NoSize),("NoBits",C_NoBits),("NoParts",C_NoParts),("NoRank",C_NoRank),("NotFinite",C_NotFinite),("NoWay",C_NoWay),("NoFlags",C_NoFlags),("NoFraction",C_NoFraction),("Unlike",C_Unlike),("Empty",C_Empty),("NoLeft",C_NoLeft),("NoText",C_NoText),("NoRow",C_NoRow),("NoName",C_NoName),("Stopped",C_Stopped)] x)
  (.inr ⟨_,q_MillError,mP 0⟩)
  (.inr ⟨_,q_NoSize,mP 1⟩)
  (.inr ⟨_,q_NoBits,mP 2⟩)
  (.inr ⟨_,q_NoParts,mP 3⟩)
  (.inr ⟨_,q_NoRank,mP 4⟩)
  (.inr ⟨_,q_NotFinite,mP 5⟩)
  (.inr ⟨_,q_NoWay,mP 6⟩)
  (.inr ⟨_,q_NoFlags,mP 7⟩)
  (.inr ⟨_,q_NoFraction,mP 8⟩)
  (.inr ⟨_,q_Unlike,mP 9⟩)
  (.inr ⟨_,q_Empty,mP 10⟩)
  (.inr ⟨_,q_NoLeft,mP 11⟩)
  (.inr ⟨_,q_NoText,mP 12⟩)
  (.inr ⟨_,q_NoRow,mP 13⟩)
  (.inr ⟨_,q_NoName,mP 14⟩)
  (.inr ⟨_,q_Stopped,mP 15⟩)
 have i0_NoRow:=bx itab (q:=("NoRow",C_NoRow)) (mP 0)
 have hisi_NoRow:=bz hCs itab (q:=("NoRow",C_NoRow)) (mP 0)
 have i0_NoSize:=bx itab (q:=("NoSize",C_NoSize)) (mP 1)
 have hisi_NoSize:=bz hCs itab (q:=("NoSize",C_NoSize)) (mP 1)
 have i0_NoBits:=bx itab (q:=("NoBits",C_NoBits)) (mP 2)
 have hisi_NoBits:=bz hCs itab (q:=("NoBits",C_NoBits)) (mP 2)
 have i0_NoParts:=bx itab (q:=("NoParts",C_NoParts)) (mP 3)
 have hisi_NoParts:=bz hCs itab (q:=("NoParts",C_NoParts)) (mP 3)
 have i0_NoRank:=bx itab (q:=("NoRank",C_NoRank)) (mP 4)
 have hisi_NoRank:=bz hCs itab (q:=("NoRank",C_NoRank)) (mP 4)
 have i0_NotFinite:=bx itab (q:=("NotFinite",C_NotFinite)) (mP 5)
 have hisi_NotFinite:=bz hCs itab (q:=("NotFinite",C_NotFinite)) (mP 5)
 have i0_NoWay:=bx itab (q:=("NoWay",C_NoWay)) (mP 6)
 have hisi_NoWay:=bz hCs itab (q:=("NoWay",C_NoWay)) (mP 6)
 have i0_NoFlags:=bx itab (q:=("NoFlags",C_NoFlags)) (mP 7)
 have hisi_NoFlags:=bz hCs itab (q:=("NoFlags",C_NoFlags)) (mP 7)
 have i0_NoFraction:=bx itab (q:=("NoFraction",C_NoFraction)) (mP 8)
 have hisi_NoFraction:=bz hCs itab (q:=("NoFraction",C_NoFraction)) (mP 8)
 have i0_Unlike:=bx itab (q:=("Unlike",C_Unlike)) (mP 9)
 have hisi_Unlike:=bz hCs itab (q:=("Unlike",C_Unlike)) (mP 9)
 have i0_Empty:=bx itab (q:=("Empty",C_Empty)) (mP 10)
 have hisi_Empty:=bz hCs itab (q:=("Empty",C_Empty)) (mP 10)
 have i0_NoLeft:=bx itab (q:=("NoLeft",C_NoLeft)) (mP 11)
 have hisi_NoLeft:=bz hCs itab (q:=("NoLeft",C_NoLeft)) (mP 11)
 have i0_NoText:=bx itab (q:=("NoText",C_NoText)) (mP 12)
 have hisi_NoText:=bz hCs itab (q:=("NoText",C_NoText)) (mP 12)
 have i0_NoName:=bx itab (q:=("NoName",C_NoName)) (mP 13)
 have hisi_NoName:=bz hCs itab (q:=("NoName",C_NoName)) (mP 13)
 have i0_Stopped:=bx itab (q:=("Stopped",C_Stopped)) (mP 14)
 have hisi_Stopped:=bz hCs itab (q:=("Stopped",C_Stopped)) (mP 14)
 have hisi_ValueError:=Bk hCs itav
 refine ⟨PySem.W.fnOf "law" "law" (eJ jg) (aC jg) (ae jg) .none kV22 dc22 pm22 an22 cd22 ct22,fun s v=>.of_eq rfl,fun base _ _ => ?_⟩
 have D1:FnP P w K mg base "_law_figures" 1 ba:=q1.fn KX GG jd rfl rfl (gq · rfl fun _ _ _ _ _ _ _ _=>rfl) fun X hr L O Pl hS =>
  kC (X:=at5 X P w K mg base) hr L O Pl hS m_str
 have D2:FnP P w K mg base "_law_sign_by" 1 aU:=q2.fn KX GG ja rfl rfl (gw · rfl fun _ _ _ _ _ _ _=>rfl) fun X hr L O Pl hS =>
  ky (X:=at5 X P w K mg base) hr L O Pl hS m_len
 have D3:FnP P w K mg base "_law_tail" 2 aX:=q3.fn KX GG ml rfl rfl (r9 · rfl fun _ _ _ _ _ _ _ _ _=>rfl) fun X hr L O Pl hS =>
  pC (X:=at5 X P w K mg base) hr L O Pl hS (D1.c hr) m_range (D2.c hr)
 have D4:FnP P w K mg base "_law_many_names" 1 ah:=q4.fn KX GG fM rfl rfl (gq · rfl fun _ _ _ _ _ _ _ _=>rfl) fun X hr L O Pl hS =>
  gI (X:=at5 X P w K mg base) hr L O Pl hS m_int
 have D5:FnP P w K mg base "form_of" 1 az:=q5.fn KX GG oI rfl rfl (gq · rfl fun _ _ _ _ _ _ _ _=>rfl) fun X hr L O Pl hS =>
  sg (X:=at5 X P w K mg base) hr L O Pl hS (zM (PySem.W.mg_of KX GG y_FORMS) ys_FORMS yl_FORMS (bW (ss:=["measure","measure"]) yt0_FORMS (aL (ts:=[s0_0_FORMS,s1_0_FORMS]) rfl rfl) ↥22 (bW (ss:=["text"]) yt1_FORMS (aL (ts:=[s0_1_FORMS]) rfl rfl) ↥22 (bW (ss:=["new","text"]) yt2_FORMS (aL (ts:=[s0_2_FORMS,s1_2_FORMS]) rfl rfl) ↥22 (bW (ss:=["new","bits"]) yt3_FORMS (aL (ts:=[s0_3_FORMS,s1_3_FORMS]) rfl rfl) ↥22 (bW (ss:=["new","old"]) yt4_FORMS (aL (ts:=[s0_4_FORMS,s1_4_FORMS]) rfl rfl) ↥22 (bW (ss:=["new","old"]) yt5_FORMS (aL (ts:=[s0_5_FORMS,s1_5_FORMS]) rfl rfl) ↥22 (bW (ss:=["new","old","old"]) yt6_FORMS (aL (ts:=[s0_6_FORMS,s1_6_FORMS,s2_6_FORMS]) rfl rfl) ↥22 (bW (ss:=["new","old","old"]) yt7_FORMS (aL (ts:=[s0_7_FORMS,s1_7_FORMS,s2_7_FORMS]) rfl rfl) ↥22 (bW (ss:=["new","old","old"]) yt8_FORMS (aL (ts:=[s0_8_FORMS,s1_8_FORMS,s2_8_FORMS]) rfl rfl) ↥22 (bW (ss:=["new","old","old"]) yt9_FORMS (aL (ts:=[s0_9_FORMS,s1_9_FORMS,s2_9_FORMS]) rfl rfl) ↥22 (bW (ss:=["new","old"]) yt10_FORMS (aL (ts:=[s0_10_FORMS,s1_10_FORMS]) rfl rfl) ↥22 (bW (ss:=["new","old","old","old"]) yt11_FORMS (aL (ts:=[s0_11_FORMS,s1_11_FORMS,s2_11_FORMS,s3_11_FORMS]) rfl rfl) ↥22 (bW (ss:=["new","old"]) yt12_FORMS (aL (ts:=[s0_12_FORMS,s1_12_FORMS]) rfl rfl) ↥22 (bW (ss:=["old"]) yt13_FORMS (aL (ts:=[s0_13_FORMS]) rfl rfl) ↥22 (bW (ss:=["old","old"]) yt14_FORMS (aL (ts:=[s0_14_FORMS,s1_14_FORMS]) rfl rfl) ↥22 (bW (ss:=[]) yt15_FORMS (aL (ts:=[]) rfl rfl) ↥22 (bW (ss:=[]) yt16_FORMS (aL (ts:=[]) rfl rfl) ↥22 .nil))))))))))))))))) ↥24) (zM (PySem.W.mg_of KX GG y_NAME_ROWS) ys_NAME_ROWS yl_NAME_ROWS (jL (jL (jL (jL .nil)))) ↥24) q_NoRow xi_NoRow g_MOST_NAMES
 have D6:FnP P w K mg base "is_name" 1 dw:=q6.fn KX GG oH rfl rfl (gw · rfl fun _ _ _ _ _ _ _=>rfl) fun X hr L O Pl hS =>
  sf (X:=at5 X P w K mg base) hr L O Pl hS m_len g_LONGEST_NAME g_LETTERS m_all
 have D7:FnP P w K mg base "all_figures" 1 bI:=q7.fn KX GG jf rfl rfl (gw · rfl fun _ _ _ _ _ _ _=>rfl) fun X hr L O Pl hS =>
  kE (X:=at5 X P w K mg base) hr L O Pl hS g_FIGURES m_all
 have D8:FnP P w K mg base "fits" 2 dX:=q8.fn KX GG yt rfl rfl (gq · rfl fun _ _ _ _ _ _ _ _=>rfl) fun X hr L O Pl hS =>
  Dr (X:=at5 X P w K mg base) hr L O Pl hS (zM (PySem.W.mg_of KX GG y_LONGEST_FIGURES) ys_LONGEST_FIGURES yl_LONGEST_FIGURES (jL (jL .nil)) ↥24) (D7.c hr) m_len (D6.c hr)
 have F9:=ro (st:=bp) l9 e9 k9
 have B9:=gw (ps:=["row"]) F9 rfl fun _ _ _ _ _ _ _=>rfl
 have D9:FnP P w K mg base "words_of" 3 av:=by
  refine wo (rB (k:=2) F9 ik rfl rfl fun X hr L O Pl hS => ?_) k9 (PySem.W.mg_of KX GG a9) B9
  exact pB (X:=at5 X P w K mg base) hr L O Pl hS m_len g_LONGEST_ROW q_NoRow xi_NoRow (D5.c hr) m_zip (D8.c hr)
 have DF9:FnF P w K mg base "words_of" 3 av:=⟨_,_,_,C1 (k:=2) F9 ik rfl rfl (fun X hr L O Pl hS=>mX (X:=at5 X P w K mg base) hr L O Pl hS m_len g_LONGEST_ROW q_NoRow xi_NoRow (D5.c hr) m_zip (D8.c hr)),PySem.W.mg_of KX GG a9,k9,B9⟩
 have D10:FnP P w K mg base "_law_words_fit" 4 aZ:=q10.fn KX GG gC rfl rfl (gw · rfl fun _ _ _ _ _ _ _=>rfl) fun X hr L O Pl hS =>
  iU (X:=at5 X P w K mg base) hr L O Pl hS (DF9.callee hr ↥0) m_list (we ↥0 i_list_NoneType i_list_bool i_list_int i_list_str i_list_tuple i_list_list) (lM (pO hXF)) m_isinstance m_len m_str (we ↥0 i_str_NoneType i_str_bool i_str_int i_str_str i_str_tuple i_str_list) (D9.c hr)
 have D11:FnP P w K mg base "_law_name_by" 1 a8:=q11.fn KX GG jc rfl rfl (gw · rfl fun _ _ _ _ _ _ _=>rfl) fun X hr L O Pl hS =>
  kA (X:=at5 X P w K mg base) hr L O Pl hS m_range
 have D12:FnP P w K mg base "_law_cell_at" 1 ai:=q12.fn KX GG je rfl rfl (gq · rfl fun _ _ _ _ _ _ _ _=>rfl) fun X hr L O Pl hS =>
  kD (X:=at5 X P w K mg base) hr L O Pl hS m_len
 have D13:FnP P w K mg base "_law_alone" 1 cA:=q13.fn KX GG kX rfl rfl (gw · rfl fun _ _ _ _ _ _ _=>rfl) fun X hr L O Pl hS =>
  mW (X:=at5 X P w K mg base) hr L O Pl hS q_NoRow (bA q_NoRow (bZ hXF) i0_NoRow hisi_NoRow) (lM (pO hXF)) m_isinstance m_ValueError (CP (fun _ _ _ _=>trivial) (bZ hXF) i_VE_NoneType i_VE_bool i_VE_int i_VE_str i_VE_tuple i_VE_list hisi_ValueError) q_NoSize q_NoBits q_NoParts q_NoRank q_NotFinite q_NoWay q_NoFlags (bA q_NoSize (bZ hXF) i0_NoSize hisi_NoSize) (bA q_NoBits (bZ hXF) i0_NoBits hisi_NoBits) (bA q_NoParts (bZ hXF) i0_NoParts hisi_NoParts) (bA q_NoRank (bZ hXF) i0_NoRank hisi_NoRank) (bA q_NotFinite (bZ hXF) i0_NotFinite hisi_NotFinite) (bA q_NoWay (bZ hXF) i0_NoWay hisi_NoWay) (bA q_NoFlags (bZ hXF) i0_NoFlags hisi_NoFlags) q_NoFraction q_Unlike q_Empty q_NoLeft q_NoText q_NoName q_Stopped (bA q_NoFraction (bZ hXF) i0_NoFraction hisi_NoFraction) (bA q_Unlike (bZ hXF) i0_Unlike hisi_Unlike) (bA q_Empty (bZ hXF) i0_Empty hisi_Empty) (bA q_NoLeft (bZ hXF) i0_NoLeft hisi_NoLeft) (bA q_NoText (bZ hXF) i0_NoText hisi_NoText) (bA q_NoName (bZ hXF) i0_NoName hisi_NoName) (bA q_Stopped (bZ hXF) i0_Stopped hisi_Stopped)
 have D14:FnP P w K mg base "_law_refused" 4 aB:=q14.fn KX GG jb rfl rfl (gw · rfl fun _ _ _ _ _ _ _=>rfl) fun X hr L O Pl hS =>
  kz (X:=at5 X P w K mg base) hr L O Pl hS (D9.c hr) (by rw [hS];decide +kernel) q_MillError (pz cb_MillError hct_MillError) (D13.c hr)
 have D15:FnP P w K mg base "_law_blanks" 1 bB:=q15.fn KX GG jW rfl rfl (gq · rfl fun _ _ _ _ _ _ _ _=>rfl) fun X hr L O Pl hS =>
  lZ (X:=at5 X P w K mg base) hr L O Pl hS m_len
 have D16:FnP P w K mg base "_law_odd_figures" 1 aV:=q16.fn KX GG eR rfl rfl (r9 · rfl fun _ _ _ _ _ _ _ _ _=>rfl) fun X hr L O Pl hS =>
  fV (X:=at5 X P w K mg base) hr L O Pl hS m_len
 have D17:FnP P w K mg base "_law_more" 1 bh:=q17.fn KX GG mm rfl rfl (Dq · rfl fun _ _ _ _ _ _ _ _ _ _=>rfl) fun X hr L O Pl hS =>
  pD (X:=at5 X P w K mg base) hr L O Pl hS m_len
 have D18:FnP P w K mg base "_law_odd_verb" 1 bf:=q18.fn KX GG il rfl rfl (gq · rfl fun _ _ _ _ _ _ _ _=>rfl) fun X hr L O Pl hS =>
  jl (X:=at5 X P w K mg base) hr L O Pl hS
 have D19:FnP P w K mg base "_law_odd_name" 1 bg:=q19.fn KX GG ip rfl rfl (gq · rfl fun _ _ _ _ _ _ _ _=>rfl) fun X hr L O Pl hS =>
  jm (X:=at5 X P w K mg base) hr L O Pl hS m_len
 have D20:FnP P w K mg base "_law_spoiled" 2 aa:=q20.fn KX GG i9 rfl rfl (Dp · rfl fun _ _ _ _ _ _ _ _ _ _ _=>rfl) fun X hr L O Pl hS =>
  kv (X:=at5 X P w K mg base) hr L O Pl hS (D15.c hr) (D18.c hr) (D17.c hr) m_len (D19.c hr) (D16.c hr) m_int
 have D21:FnP P w K mg base "_law_verb_fits" 5 aW:=q21.fn KX GG gD rfl rfl (r9 · rfl fun _ _ _ _ _ _ _ _ _=>rfl) fun X hr L O Pl hS =>
  iV (X:=at5 X P w K mg base) hr L O Pl hS (D4.c hr) (D12.c hr) m_range (D11.c hr) (D3.c hr) (D10.c hr) m_len (D14.c hr) (D20.c hr)
 have F22:=ro (st:=jg) l22 e22 k22
 ·refine rB (k:=5) F22 Bv rfl rfl fun X hr L O Pl hS => ?_
  exact Fn (X:=at5 X P w K mg base) hr L O Pl hS m_range (D21.c hr) (D12.c hr) (D14.c hr)
end T
namespace H
open PySem PySem.W PySem.Spec PyProof.Rows L2 EV ES
noncomputable section
abbrev vS (x:Str) (n:Nat):Value:=.str x n
abbrev vI (x:Int) (n:Nat):Value:=.int x n
abbrev r (n:Addr):Value:=.ref n
abbrev z (x:Int):Value:=.int x 0
abbrev c (n:Nat):Value:=.str "/claim/cut.py" n
abbrev en (P:Params) (x:Str) (n:Nat) (v:Value):DictEntry:=⟨PyData.keyHash P x,.str x n,v⟩
abbrev sqO (c:Value) (a:Array Value):Obj:=⟨c,none,.seq a 0,#[]⟩
abbrev fiO (c:Value) (a:Array Value):Obj:=⟨c,none,.fields a,#[]⟩
abbrev diO (c:Value) (a:Array DictEntry) (n:Nat):Obj:=⟨c,none,.dict a n,#[]⟩
abbrev fnO (c:Value) (x q:Str) (s:Stmt) (g:Addr) (cl:List (Str×Addr)) (d k dc m:Value) (an:Option Addr) (cd ct:Value) (b:Addr):Obj:=⟨c,none,.func ⟨x,q,eJ s,.stmts (aC s),ae s,g,cl,d,k,dc,m,an,cd,ct,b⟩,#[]⟩
abbrev cd (x:Str) (a b d:Nat) (l k:Int) (p:Addr) (w:Int) (q s t u:Addr) (m:Int) (e:Nat):Obj:=fiO (.type "code") #[vS x a,vS x b,c d,z l,z k,z 0,z 0,z 3,r p,.bool true,z w,r q,.none,r s,r t,r u,z m,z l,c e]
abbrev fu (x:Str) (n:Nat) (g:Addr) (m:Str) (b:Nat) (d:Addr):Obj:=fnO (.type "function") x x (T.top n) g [] .none .none .none (vS m b) none (r d) .none 0
abbrev fv (x:Str) (n:Nat):Obj:=fnO .none x x (T.top n) 0 [] .none .none .none .none none .none .none 0
abbrev N:BT:=.nil
abbrev L (o:Obj):BT:=.node o .nil .nil
abbrev B (o:Obj) (l r:BT):BT:=.node o l r
def cut (n:Nat) (t:BT):Nat->Nat->BT := @BT.rec (fun _=>Nat->Nat->BT) (fun _ _=>.nil) (fun v _ _ l r a b => @Bool.rec (fun _=>BT) .nil (.node v (l (Nat.mul 2 a) (Nat.add a b)) (r (Nat.mul 2 a) (Nat.add (Nat.mul 2 a) b))) (Nat.blt b n)) t
def o0:Obj:=sqO ↥11 #[]
def o1:Obj:=fiO .none #[]
def o2:Obj:=fiO (.type "code") #[(vS "<module>" 182),(vS "<module>" 183),(c 184),(z 1),(z 0),(z 0),(z 0),(z 0),(r 11),(.bool false),(z 181),(r 12),.none,.none,.none,.none,(z 185),(z 1),(c 186)]
def o3:Obj:=(Obj.mk (.type "frame") none Data.plain #[(some (r 13)),(some (r 3)),(some (r 3)),none,(some (vS "__main__" 164)),none,(some (r 0))])
def o4 (P:Params):Obj:=diO ↥21 #[(en P "__name__" 165 ↥2),(en P "__doc__" 166 .none),(en P "__package__" 167 .none),(en P "__loader__" 168 (.builtin "__main__.__loader__#opaque")),(en P "__spec__" 169 .none),(en P "__annotations__" 170 (r 6)),(en P "__builtins__" 171 (r 4)),(en P "__file__" 173 (c 172)),(en P "__cached__" 174 .none),(en P "MillError" 206 (r 24)),(en P "NoSize" 222 (r 37)),(en P "NoBits" 238 (r 49)),(en P "NoParts" 254 (r 61)),(en P "NoRank" 270 (r 73)),(en P "NotFinite" 286 (r 85))] 15
def o5:Obj:=fiO .none #[(z 2),(z 0),(r 20),(z 4),(z 0),(r 33),(z 6),(z 0),(r 45),(z 8),(z 0),(r 57),(z 10),(z 0),(r 69),(z 12),(z 0),(r 81)]
def o6:Obj:=sqO ↥11 #[↥8]
def o7:Obj:=fiO ↥12 #[(.builtin "type.__prepare__"),(.type "type")]
def o8 (P:Params):Obj:=diO ↥21 #[(en P "__module__" 196 ↥2),(en P "__qualname__" 198 (vS "MillError" 197)),(en P "__firstlineno__" 200 (vI 2 199)),(en P "__static_attributes__" 201 (r 22))] 4
def o9:Obj:=fiO (.type "code") #[(vS "MillError" 191),(vS "MillError" 192),(c 193),(z 2),(z 0),(z 0),(z 0),(z 0),(r 18),(.bool false),(z 181),(r 19),.none,.none,.none,.none,(z 194),(z 2),(c 195)]
def o10:Obj:=(Obj.mk (.type "frame") none Data.plain #[(some (r 20)),(some (r 3)),(some (r 17)),none,(some ↥2),none,(some (r 0))])
def o11 (P:Params):Obj:=diO ↥21 #[(en P "__module__" 196 ↥2),(en P "__firstlineno__" 200 (vI 2 199)),(en P "__static_attributes__" 201 (r 22)),(en P "__weakref__" 203 (r 25)),(en P "__doc__" 204 .none)] 3
def o12:Obj:=(Obj.mk (.type "type") none (Data.cls (ClassData.mk "MillError" [↥8] [(r 24),↥8,(.type "Exception"),↥17,↥39] 23 "MillError" true [] [(r 37),(r 49),(r 61),(r 73),(r 85)] false none false)) #[(some (r 15)),none,(some (vS "MillError" 189)),(some (vS "MillError" 197)),↥9,(some (.bool true))])
def o13:Obj:=fiO (.type "getset_descriptor") #[(vS "__weakref__" 202),(r 24),(.builtin "ExceptionGroup.__weakref__"),.none]
def o14:Obj:=fiO (.type "super") #[(r 24),(r 24),(r 24)]
def o15:Obj:=fiO ↥12 #[↥13,(r 24)]
def o16:Obj:=sqO ↥11 #[(r 24)]
def o17 (P:Params):Obj:=diO ↥21 #[(en P "__module__" 214 ↥2),(en P "__qualname__" 216 (vS "NoSize" 215)),(en P "__firstlineno__" 218 (vI 4 217)),(en P "__static_attributes__" 219 (r 35))] 4
def o18:Obj:=fiO (.type "code") #[(vS "NoSize" 209),(vS "NoSize" 210),(c 211),(z 4),(z 0),(z 0),(z 0),(z 0),(r 31),(.bool false),(z 181),(r 32),.none,.none,.none,.none,(z 212),(z 4),(c 213)]
def o19:Obj:=(Obj.mk (.type "frame") none Data.plain #[(some (r 33)),(some (r 3)),(some (r 30)),none,(some ↥2),none,(some (r 0))])
def o20 (P:Params):Obj:=diO ↥21 #[(en P "__module__" 214 ↥2),(en P "__firstlineno__" 218 (vI 4 217)),(en P "__static_attributes__" 219 (r 35)),(en P "__doc__" 220 .none)] 2
def o21:Obj:=(Obj.mk (.type "type") none (Data.cls (ClassData.mk "NoSize" [(r 24)] [(r 37),(r 24),↥8,(.type "Exception"),↥17,↥39] 36 "NoSize" true [] [] false none false)) #[(some (r 28)),none,(some (vS "NoSize" 207)),(some (vS "NoSize" 215)),↥9,(some (.bool true))])
def o22:Obj:=fiO (.type "super") #[(r 37),(r 37),(r 37)]
def o23:Obj:=fiO ↥12 #[↥13,(r 37)]
def o24 (P:Params):Obj:=diO ↥21 #[(en P "__module__" 230 ↥2),(en P "__qualname__" 232 (vS "NoBits" 231)),(en P "__firstlineno__" 234 (vI 6 233)),(en P "__static_attributes__" 235 (r 47))] 4
def o25:Obj:=fiO (.type "code") #[(vS "NoBits" 225),(vS "NoBits" 226),(c 227),(z 6),(z 0),(z 0),(z 0),(z 0),(r 43),(.bool false),(z 181),(r 44),.none,.none,.none,.none,(z 228),(z 6),(c 229)]
def o26:Obj:=(Obj.mk (.type "frame") none Data.plain #[(some (r 45)),(some (r 3)),(some (r 42)),none,(some ↥2),none,(some (r 0))])
def o27 (P:Params):Obj:=diO ↥21 #[(en P "__module__" 230 ↥2),(en P "__firstlineno__" 234 (vI 6 233)),(en P "__static_attributes__" 235 (r 47)),(en P "__doc__" 236 .none)] 2
def o28:Obj:=(Obj.mk (.type "type") none (Data.cls (ClassData.mk "NoBits" [(r 24)] [(r 49),(r 24),↥8,(.type "Exception"),↥17,↥39] 48 "NoBits" true [] [] false none false)) #[(some (r 40)),none,(some (vS "NoBits" 223)),(some (vS "NoBits" 231)),↥9,(some (.bool true))])
def o29:Obj:=fiO (.type "super") #[(r 49),(r 49),(r 49)]
def o30:Obj:=fiO ↥12 #[↥13,(r 49)]
def o31 (P:Params):Obj:=diO ↥21 #[(en P "__module__" 246 ↥2),(en P "__qualname__" 248 (vS "NoParts" 247)),(en P "__firstlineno__" 250 (vI 8 249)),(en P "__static_attributes__" 251 (r 59))] 4
def o32:Obj:=fiO (.type "code") #[(vS "NoParts" 241),(vS "NoParts" 242),(c 243),(z 8),(z 0),(z 0),(z 0),(z 0),(r 55),(.bool false),(z 181),(r 56),.none,.none,.none,.none,(z 244),(z 8),(c 245)]
def o33:Obj:=(Obj.mk (.type "frame") none Data.plain #[(some (r 57)),(some (r 3)),(some (r 54)),none,(some ↥2),none,(some (r 0))])
def o34 (P:Params):Obj:=diO ↥21 #[(en P "__module__" 246 ↥2),(en P "__firstlineno__" 250 (vI 8 249)),(en P "__static_attributes__" 251 (r 59)),(en P "__doc__" 252 .none)] 2
def o35:Obj:=(Obj.mk (.type "type") none (Data.cls (ClassData.mk "NoParts" [(r 24)] [(r 61),(r 24),↥8,(.type "Exception"),↥17,↥39] 60 "NoParts" true [] [] false none false)) #[(some (r 52)),none,(some (vS "NoParts" 239)),(some (vS "NoParts" 247)),↥9,(some (.bool true))])
def o36:Obj:=fiO (.type "super") #[(r 61),(r 61),(r 61)]
def o37:Obj:=fiO ↥12 #[↥13,(r 61)]
def o38 (P:Params):Obj:=diO ↥21 #[(en P "__module__" 262 ↥2),(en P "__qualname__" 264 (vS "NoRank" 263)),(en P "__firstlineno__" 266 (vI 10 265)),(en P "__static_attributes__" 267 (r 71))] 4
def o39:Obj:=fiO (.type "code") #[(vS "NoRank" 257),(vS "NoRank" 258),(c 259),(z 10),(z 0),(z 0),(z 0),(z 0),(r 67),(.bool false),(z 181),(r 68),.none,.none,.none,.none,(z 260),(z 10),(c 261)]
def o40:Obj:=(Obj.mk (.type "frame") none Data.plain #[(some (r 69)),(some (r 3)),(some (r 66)),none,(some ↥2),none,(some (r 0))])
def o41 (P:Params):Obj:=diO ↥21 #[(en P "__module__" 262 ↥2),(en P "__firstlineno__" 266 (vI 10 265)),(en P "__static_attributes__" 267 (r 71)),(en P "__doc__" 268 .none)] 2
def o42:Obj:=(Obj.mk (.type "type") none (Data.cls (ClassData.mk "NoRank" [(r 24)] [(r 73),(r 24),↥8,(.type "Exception"),↥17,↥39] 72 "NoRank" true [] [] false none false)) #[(some (r 64)),none,(some (vS "NoRank" 255)),(some (vS "NoRank" 263)),↥9,(some (.bool true))])
def o43:Obj:=fiO (.type "super") #[(r 73),(r 73),(r 73)]
def o44:Obj:=fiO ↥12 #[↥13,(r 73)]
def o45 (P:Params):Obj:=diO ↥21 #[(en P "__module__" 278 ↥2),(en P "__qualname__" 280 (vS "NotFinite" 279)),(en P "__firstlineno__" 282 (vI 12 281)),(en P "__static_attributes__" 283 (r 83))] 4
def o46:Obj:=fiO (.type "code") #[(vS "NotFinite" 273),(vS "NotFinite" 274),(c 275),(z 12),(z 0),(z 0),(z 0),(z 0),(r 79),(.bool false),(z 181),(r 80),.none,.none,.none,.none,(z 276),(z 12),(c 277)]
def o47:Obj:=(Obj.mk (.type "frame") none Data.plain #[(some (r 81)),(some (r 3)),(some (r 78)),none,(some ↥2),none,(some (r 0))])
def o48 (P:Params):Obj:=diO ↥21 #[(en P "__module__" 278 ↥2),(en P "__firstlineno__" 282 (vI 12 281)),(en P "__static_attributes__" 283 (r 83)),(en P "__doc__" 284 .none)] 2
def o49:Obj:=(Obj.mk (.type "type") none (Data.cls (ClassData.mk "NotFinite" [(r 24)] [(r 85),(r 24),↥8,(.type "Exception"),↥17,↥39] 84 "NotFinite" true [] [] false none false)) #[(some (r 76)),none,(some (vS "NotFinite" 271)),(some (vS "NotFinite" 279)),↥9,(some (.bool true))])
def o50:Obj:=fiO (.type "super") #[(r 85),(r 85),(r 85)]
def o51:Obj:=fiO ↥12 #[↥13,(r 85)]
def o52 (P:Params):Obj:=diO ↥21 #[(en P "__name__" 165 ↥2),(en P "__doc__" 166 .none),(en P "__package__" 167 .none),(en P "__loader__" 168 (.builtin "__main__.__loader__#opaque")),(en P "__spec__" 169 .none),(en P "__annotations__" 170 (r 6)),(en P "__builtins__" 171 (r 4)),(en P "__file__" 173 (c 172)),(en P "__cached__" 174 .none),(en P "MillError" 206 (r 24)),(en P "NoSize" 222 (r 37)),(en P "NoBits" 238 (r 49)),(en P "NoParts" 254 (r 61)),(en P "NoRank" 270 (r 73)),(en P "NotFinite" 286 (r 85)),(en P "NoWay" 302 (r 97)),(en P "NoFlags" 318 (r 109)),(en P "NoFraction" 334 (r 121)),(en P "Unlike" 350 (r 133)),(en P "Empty" 366 (r 145)),(en P "NoLeft" 382 (r 157))] 21
def o53:Obj:=fiO .none #[(z 2),(z 0),(r 20),(z 4),(z 0),(r 33),(z 6),(z 0),(r 45),(z 8),(z 0),(r 57),(z 10),(z 0),(r 69),(z 12),(z 0),(r 81),(z 14),(z 0),(r 93),(z 16),(z 0),(r 105),(z 18),(z 0),(r 117),(z 20),(z 0),(r 129),(z 22),(z 0),(r 141),(z 24),(z 0),(r 153)]
def o54:Obj:=(Obj.mk (.type "type") none (Data.cls (ClassData.mk "MillError" [↥8] [(r 24),↥8,(.type "Exception"),↥17,↥39] 23 "MillError" true [] [(r 37),(r 49),(r 61),(r 73),(r 85),(r 97),(r 109),(r 121),(r 133),(r 145),(r 157)] false none false)) #[(some (r 15)),none,(some (vS "MillError" 189)),(some (vS "MillError" 197)),↥9,(some (.bool true))])
def o55 (P:Params):Obj:=diO ↥21 #[(en P "__module__" 294 ↥2),(en P "__qualname__" 296 (vS "NoWay" 295)),(en P "__firstlineno__" 298 (vI 14 297)),(en P "__static_attributes__" 299 (r 95))] 4
def o56:Obj:=fiO (.type "code") #[(vS "NoWay" 289),(vS "NoWay" 290),(c 291),(z 14),(z 0),(z 0),(z 0),(z 0),(r 91),(.bool false),(z 181),(r 92),.none,.none,.none,.none,(z 292),(z 14),(c 293)]
def o57:Obj:=(Obj.mk (.type "frame") none Data.plain #[(some (r 93)),(some (r 3)),(some (r 90)),none,(some ↥2),none,(some (r 0))])
def o58 (P:Params):Obj:=diO ↥21 #[(en P "__module__" 294 ↥2),(en P "__firstlineno__" 298 (vI 14 297)),(en P "__static_attributes__" 299 (r 95)),(en P "__doc__" 300 .none)] 2
def o59:Obj:=(Obj.mk (.type "type") none (Data.cls (ClassData.mk "NoWay" [(r 24)] [(r 97),(r 24),↥8,(.type "Exception"),↥17,↥39] 96 "NoWay" true [] [] false none false)) #[(some (r 88)),none,(some (vS "NoWay" 287)),(some (vS "NoWay" 295)),↥9,(some (.bool true))])
def o60:Obj:=fiO (.type "super") #[(r 97),(r 97),(r 97)]
def o61:Obj:=fiO ↥12 #[↥13,(r 97)]
def o62 (P:Params):Obj:=diO ↥21 #[(en P "__module__" 310 ↥2),(en P "__qualname__" 312 (vS "NoFlags" 311)),(en P "__firstlineno__" 314 (vI 16 313)),(en P "__static_attributes__" 315 (r 107))] 4
def o63:Obj:=fiO (.type "code") #[(vS "NoFlags" 305),(vS "NoFlags" 306),(c 307),(z 16),(z 0),(z 0),(z 0),(z 0),(r 103),(.bool false),(z 181),(r 104),.none,.none,.none,.none,(z 308),(z 16),(c 309)]
def o64:Obj:=(Obj.mk (.type "frame") none Data.plain #[(some (r 105)),(some (r 3)),(some (r 102)),none,(some ↥2),none,(some (r 0))])
def o65 (P:Params):Obj:=diO ↥21 #[(en P "__module__" 310 ↥2),(en P "__firstlineno__" 314 (vI 16 313)),(en P "__static_attributes__" 315 (r 107)),(en P "__doc__" 316 .none)] 2
def o66:Obj:=(Obj.mk (.type "type") none (Data.cls (ClassData.mk "NoFlags" [(r 24)] [(r 109),(r 24),↥8,(.type "Exception"),↥17,↥39] 108 "NoFlags" true [] [] false none false)) #[(some (r 100)),none,(some (vS "NoFlags" 303)),(some (vS "NoFlags" 311)),↥9,(some (.bool true))])
def o67:Obj:=fiO (.type "super") #[(r 109),(r 109),(r 109)]
def o68:Obj:=fiO ↥12 #[↥13,(r 109)]
def o69 (P:Params):Obj:=diO ↥21 #[(en P "__module__" 326 ↥2),(en P "__qualname__" 328 (vS "NoFraction" 327)),(en P "__firstlineno__" 330 (vI 18 329)),(en P "__static_attributes__" 331 (r 119))] 4
def o70:Obj:=fiO (.type "code") #[(vS "NoFraction" 321),(vS "NoFraction" 322),(c 323),(z 18),(z 0),(z 0),(z 0),(z 0),(r 115),(.bool false),(z 181),(r 116),.none,.none,.none,.none,(z 324),(z 18),(c 325)]
def o71:Obj:=(Obj.mk (.type "frame") none Data.plain #[(some (r 117)),(some (r 3)),(some (r 114)),none,(some ↥2),none,(some (r 0))])
def o72 (P:Params):Obj:=diO ↥21 #[(en P "__module__" 326 ↥2),(en P "__firstlineno__" 330 (vI 18 329)),(en P "__static_attributes__" 331 (r 119)),(en P "__doc__" 332 .none)] 2
def o73:Obj:=(Obj.mk (.type "type") none (Data.cls (ClassData.mk "NoFraction" [(r 24)] [(r 121),(r 24),↥8,(.type "Exception"),↥17,↥39] 120 "NoFraction" true [] [] false none false)) #[(some (r 112)),none,(some (vS "NoFraction" 319)),(some (vS "NoFraction" 327)),↥9,(some (.bool true))])
def o74:Obj:=fiO (.type "super") #[(r 121),(r 121),(r 121)]
def o75:Obj:=fiO ↥12 #[↥13,(r 121)]
def o76 (P:Params):Obj:=diO ↥21 #[(en P "__module__" 342 ↥2),(en P "__qualname__" 344 (vS "Unlike" 343)),(en P "__firstlineno__" 346 (vI 20 345)),(en P "__static_attributes__" 347 (r 131))] 4
def o77:Obj:=fiO (.type "code") #[(vS "Unlike" 337),(vS "Unlike" 338),(c 339),(z 20),(z 0),(z 0),(z 0),(z 0),(r 127),(.bool false),(z 181),(r 128),.none,.none,.none,.none,(z 340),(z 20),(c 341)]
def o78:Obj:=(Obj.mk (.type "frame") none Data.plain #[(some (r 129)),(some (r 3)),(some (r 126)),none,(some ↥2),none,(some (r 0))])
def o79 (P:Params):Obj:=diO ↥21 #[(en P "__module__" 342 ↥2),(en P "__firstlineno__" 346 (vI 20 345)),(en P "__static_attributes__" 347 (r 131)),(en P "__doc__" 348 .none)] 2
def o80:Obj:=(Obj.mk (.type "type") none (Data.cls (ClassData.mk "Unlike" [(r 24)] [(r 133),(r 24),↥8,(.type "Exception"),↥17,↥39] 132 "Unlike" true [] [] false none false)) #[(some (r 124)),none,(some (vS "Unlike" 335)),(some (vS "Unlike" 343)),↥9,(some (.bool true))])
def o81:Obj:=fiO (.type "super") #[(r 133),(r 133),(r 133)]
def o82:Obj:=fiO ↥12 #[↥13,(r 133)]
def o83 (P:Params):Obj:=diO ↥21 #[(en P "__module__" 358 ↥2),(en P "__qualname__" 360 (vS "Empty" 359)),(en P "__firstlineno__" 362 (vI 22 361)),(en P "__static_attributes__" 363 (r 143))] 4
def o84:Obj:=fiO (.type "code") #[(vS "Empty" 353),(vS "Empty" 354),(c 355),(z 22),(z 0),(z 0),(z 0),(z 0),(r 139),(.bool false),(z 181),(r 140),.none,.none,.none,.none,(z 356),(z 22),(c 357)]
def o85:Obj:=(Obj.mk (.type "frame") none Data.plain #[(some (r 141)),(some (r 3)),(some (r 138)),none,(some ↥2),none,(some (r 0))])
def o86 (P:Params):Obj:=diO ↥21 #[(en P "__module__" 358 ↥2),(en P "__firstlineno__" 362 (vI 22 361)),(en P "__static_attributes__" 363 (r 143)),(en P "__doc__" 364 .none)] 2
def o87:Obj:=(Obj.mk (.type "type") none (Data.cls (ClassData.mk "Empty" [(r 24)] [(r 145),(r 24),↥8,(.type "Exception"),↥17,↥39] 144 "Empty" true [] [] false none false)) #[(some (r 136)),none,(some (vS "Empty" 351)),(some (vS "Empty" 359)),↥9,(some (.bool true))])
def o88:Obj:=fiO (.type "super") #[(r 145),(r 145),(r 145)]
def o89:Obj:=fiO ↥12 #[↥13,(r 145)]
def o90 (P:Params):Obj:=diO ↥21 #[(en P "__module__" 374 ↥2),(en P "__qualname__" 376 (vS "NoLeft" 375)),(en P "__firstlineno__" 378 (vI 24 377)),(en P "__static_attributes__" 379 (r 155))] 4
def o91:Obj:=fiO (.type "code") #[(vS "NoLeft" 369),(vS "NoLeft" 370),(c 371),(z 24),(z 0),(z 0),(z 0),(z 0),(r 151),(.bool false),(z 181),(r 152),.none,.none,.none,.none,(z 372),(z 24),(c 373)]
def o92:Obj:=(Obj.mk (.type "frame") none Data.plain #[(some (r 153)),(some (r 3)),(some (r 150)),none,(some ↥2),none,(some (r 0))])
def o93 (P:Params):Obj:=diO ↥21 #[(en P "__module__" 374 ↥2),(en P "__firstlineno__" 378 (vI 24 377)),(en P "__static_attributes__" 379 (r 155)),(en P "__doc__" 380 .none)] 2
def o94:Obj:=(Obj.mk (.type "type") none (Data.cls (ClassData.mk "NoLeft" [(r 24)] [(r 157),(r 24),↥8,(.type "Exception"),↥17,↥39] 156 "NoLeft" true [] [] false none false)) #[(some (r 148)),none,(some (vS "NoLeft" 367)),(some (vS "NoLeft" 375)),↥9,(some (.bool true))])
def o95:Obj:=fiO (.type "super") #[(r 157),(r 157),(r 157)]
def o96:Obj:=fiO ↥12 #[↥13,(r 157)]
def o97 (P:Params):Obj:=diO ↥21 #[(en P "__name__" 165 (vS "roundmill.words" 468)),(en P "__doc__" 166 .none),(en P "__package__" 167 .none),(en P "__loader__" 168 (.builtin "__main__.__loader__#opaque")),(en P "__spec__" 169 .none),(en P "__annotations__" 170 (r 6)),(en P "__builtins__" 171 (r 4)),(en P "__file__" 173 (c 172)),(en P "__cached__" 174 .none),(en P "MillError" 206 (r 24)),(en P "NoSize" 222 (r 37)),(en P "NoBits" 238 (r 49)),(en P "NoParts" 254 (r 61)),(en P "NoRank" 270 (r 73)),(en P "NotFinite" 286 (r 85)),(en P "NoWay" 302 (r 97)),(en P "NoFlags" 318 (r 109)),(en P "NoFraction" 334 (r 121)),(en P "Unlike" 350 (r 133)),(en P "Empty" 366 (r 145)),(en P "NoLeft" 382 (r 157)),(en P "NoText" 398 (r 169)),(en P "NoRow" 414 (r 181)),(en P "NoName" 430 (r 193)),(en P "Stopped" 457 (r 212)),(en P "FIGURES" 461 (vS "0123456789" 460)),(en P "all_figures" 467 (r 219)),(en P "LONGEST_ROW" 471 (vI 600 470)),(en P "LONGEST_NAME" 473 (vI 8 472)),(en P "LETTERS" 475 (vS "abcdefghijklmnopqrstuvwxyz" 474)),(en P "FORMS" 544 (r 220))] 31
def o98:Obj:=fiO .none #[(z 2),(z 0),(r 20),(z 4),(z 0),(r 33),(z 6),(z 0),(r 45),(z 8),(z 0),(r 57),(z 10),(z 0),(r 69),(z 12),(z 0),(r 81),(z 14),(z 0),(r 93),(z 16),(z 0),(r 105),(z 18),(z 0),(r 117),(z 20),(z 0),(r 129),(z 22),(z 0),(r 141),(z 24),(z 0),(r 153),(z 26),(z 0),(r 165),(z 28),(z 0),(r 177),(z 30),(z 0),(r 189),(z 32),(z 0),(r 201),(z 40),(z 0),(r 218)]
def o99:Obj:=(Obj.mk (.type "type") none (Data.cls (ClassData.mk "MillError" [↥8] [(r 24),↥8,(.type "Exception"),↥17,↥39] 23 "MillError" true [] [(r 37),(r 49),(r 61),(r 73),(r 85),(r 97),(r 109),(r 121),(r 133),(r 145),(r 157),(r 169),(r 181),(r 193),(r 212)] false none false)) #[(some (r 15)),none,(some (vS "MillError" 189)),(some (vS "MillError" 197)),↥9,(some (.bool true))])
def Js (P:Params):Obj:=diO ↥21 #[(en P "__module__" 390 ↥2),(en P "__qualname__" 392 (vS "NoText" 391)),(en P "__firstlineno__" 394 (vI 26 393)),(en P "__static_attributes__" 395 (r 167))] 4
def Jr:Obj:=fiO (.type "code") #[(vS "NoText" 385),(vS "NoText" 386),(c 387),(z 26),(z 0),(z 0),(z 0),(z 0),(r 163),(.bool false),(z 181),(r 164),.none,.none,.none,.none,(z 388),(z 26),(c 389)]
def Jq:Obj:=(Obj.mk (.type "frame") none Data.plain #[(some (r 165)),(some (r 3)),(some (r 162)),none,(some ↥2),none,(some (r 0))])
def Hs (P:Params):Obj:=diO ↥21 #[(en P "__module__" 390 ↥2),(en P "__firstlineno__" 394 (vI 26 393)),(en P "__static_attributes__" 395 (r 167)),(en P "__doc__" 396 .none)] 2
def Hr:Obj:=(Obj.mk (.type "type") none (Data.cls (ClassData.mk "NoText" [(r 24)] [(r 169),(r 24),↥8,(.type "Exception"),↥17,↥39] 168 "NoText" true [] [] false none false)) #[(some (r 160)),none,(some (vS "NoText" 383)),(some (vS "NoText" 391)),↥9,(some (.bool true))])
def Jp:Obj:=fiO (.type "super") #[(r 169),(r 169),(r 169)]
def Jo:Obj:=fiO ↥12 #[↥13,(r 169)]
def Jn (P:Params):Obj:=diO ↥21 #[(en P "__module__" 406 ↥2),(en P "__qualname__" 408 (vS "NoRow" 407)),(en P "__firstlineno__" 410 (vI 28 409)),(en P "__static_attributes__" 411 (r 179))] 4
def Jm:Obj:=fiO (.type "code") #[(vS "NoRow" 401),(vS "NoRow" 402),(c 403),(z 28),(z 0),(z 0),(z 0),(z 0),(r 175),(.bool false),(z 181),(r 176),.none,.none,.none,.none,(z 404),(z 28),(c 405)]
def Jl:Obj:=(Obj.mk (.type "frame") none Data.plain #[(some (r 177)),(some (r 3)),(some (r 174)),none,(some ↥2),none,(some (r 0))])
def Ho (P:Params):Obj:=diO ↥21 #[(en P "__module__" 406 ↥2),(en P "__firstlineno__" 410 (vI 28 409)),(en P "__static_attributes__" 411 (r 179)),(en P "__doc__" 412 .none)] 2
def Hn:Obj:=(Obj.mk (.type "type") none (Data.cls (ClassData.mk "NoRow" [(r 24)] [(r 181),(r 24),↥8,(.type "Exception"),↥17,↥39] 180 "NoRow" true [] [] false none false)) #[(some (r 172)),none,(some (vS "NoRow" 399)),(some (vS "NoRow" 407)),↥9,(some (.bool true))])
def Jk:Obj:=fiO (.type "super") #[(r 181),(r 181),(r 181)]
def Jj:Obj:=fiO ↥12 #[↥13,(r 181)]
def Ji (P:Params):Obj:=diO ↥21 #[(en P "__module__" 422 ↥2),(en P "__qualname__" 424 (vS "NoName" 423)),(en P "__firstlineno__" 426 (vI 30 425)),(en P "__static_attributes__" 427 (r 191))] 4
def Jh:Obj:=fiO (.type "code") #[(vS "NoName" 417),(vS "NoName" 418),(c 419),(z 30),(z 0),(z 0),(z 0),(z 0),(r 187),(.bool false),(z 181),(r 188),.none,.none,.none,.none,(z 420),(z 30),(c 421)]
def Jg:Obj:=(Obj.mk (.type "frame") none Data.plain #[(some (r 189)),(some (r 3)),(some (r 186)),none,(some ↥2),none,(some (r 0))])
def Hm (P:Params):Obj:=diO ↥21 #[(en P "__module__" 422 ↥2),(en P "__firstlineno__" 426 (vI 30 425)),(en P "__static_attributes__" 427 (r 191)),(en P "__doc__" 428 .none)] 2
def Hl:Obj:=(Obj.mk (.type "type") none (Data.cls (ClassData.mk "NoName" [(r 24)] [(r 193),(r 24),↥8,(.type "Exception"),↥17,↥39] 192 "NoName" true [] [] false none false)) #[(some (r 184)),none,(some (vS "NoName" 415)),(some (vS "NoName" 423)),↥9,(some (.bool true))])
def Jf:Obj:=fiO (.type "super") #[(r 193),(r 193),(r 193)]
def Je:Obj:=fiO ↥12 #[↥13,(r 193)]
def Jd (P:Params):Obj:=diO ↥21 #[(en P "__module__" 438 ↥2),(en P "__qualname__" 440 (vS "Stopped" 439)),(en P "__firstlineno__" 442 (vI 32 441)),(en P "__init__" 451 (r 209)),(en P "__static_attributes__" 454 (r 210))] 5
def Jc:Obj:=fiO .none #[(z 34),(z 4),(r 208)]
def Jb:Obj:=fiO (.type "code") #[(vS "Stopped" 433),(vS "Stopped" 434),(c 435),(z 32),(z 0),(z 0),(z 0),(z 0),(r 199),(.bool false),(z 181),(r 200),.none,.none,.none,.none,(z 436),(z 32),(c 437)]
def Ja:Obj:=(Obj.mk (.type "frame") none Data.plain #[(some (r 201)),(some (r 3)),(some (r 198)),none,(some ↥2),none,(some (r 0))])
def Hk:Obj:=sqO ↥11 #[(vS "self" 446),(vS "at" 447),(vS "told" 448)]
def IZ:Obj:=fnO .none "__init__" "Stopped.__init__" ((rT (T.top 16)).getD 0 (.Pass ⟨0,0,0,0⟩)) 0 [] .none .none .none .none none .none .none 0
def Hj:Obj:=fiO (.type "code") #[(vS "__init__" 443),(vS "Stopped.__init__" 444),(c 445),(z 34),(z 3),(z 0),(z 0),(z 3),(r 203),(.bool true),(z 181),(r 204),.none,(r 205),(r 206),(r 207),(z 449),(z 34),(c 450)]
def Hi:Obj:=fnO (.type "function") "__init__" "Stopped.__init__" ((rT (T.top 16)).getD 0 (.Pass ⟨0,0,0,0⟩)) 3 [] .none .none .none ↥2 none (r 208) .none 0
def Hh:Obj:=sqO ↥11 #[(vS "at" 452),(vS "told" 453)]
def Hg (P:Params):Obj:=diO ↥21 #[(en P "__module__" 438 ↥2),(en P "__firstlineno__" 442 (vI 32 441)),(en P "__init__" 451 (r 209)),(en P "__static_attributes__" 454 (r 210)),(en P "__doc__" 455 .none)] 2
def Hf:Obj:=(Obj.mk (.type "type") none (Data.cls (ClassData.mk "Stopped" [(r 24)] [(r 212),(r 24),↥8,(.type "Exception"),↥17,↥39] 211 "Stopped" true [] [] false none false)) #[(some (r 196)),none,(some (vS "Stopped" 431)),(some (vS "Stopped" 439)),↥9,(some (.bool true))])
def IY:Obj:=fiO (.type "super") #[(r 212),(r 212),(r 212)]
def IW:Obj:=fiO ↥12 #[↥13,(r 212)]
def IV:Obj:=fv "all_figures" 19
def He:Obj:=fiO (.type "code") #[(vS "all_figures" 462),(vS "all_figures" 463),(c 464),(z 40),(z 1),(z 0),(z 0),(z 3),(r 215),(.bool true),(z 181),(r 216),.none,.none,.none,(r 217),(z 465),(z 40),(c 466)]
def Hd:Obj:=fu "all_figures" 19 3 "roundmill.reading" 458 218
def Hb (P:Params):Obj:=diO ↥21 #[(en P "size" 476 (r 221)),(en P "way" 480 (r 222)),(en P "put" 483 (r 223)),(en P "bits" 487 (r 224)),(en P "same" 491 (r 225)),(en P "minus" 495 (r 226)),(en P "add" 499 (r 227)),(en P "take" 504 (r 228)),(en P "mul" 509 (r 229)),(en P "div" 514 (r 230)),(en P "root" 519 (r 231)),(en P "fuse" 523 (r 232)),(en P "whole" 529 (r 233)),(en P "show" 533 (r 234)),(en P "less" 536 (r 235)),(en P "flags" 540 (r 236)),(en P "calm" 542 (r 237))] 17
def Ha:Obj:=sqO ↥11 #[(vS "measure" 477),(vS "measure" 478)]
def G9:Obj:=sqO ↥11 #[(vS "text" 481)]
def G8:Obj:=sqO ↥11 #[(vS "new" 484),(vS "text" 485)]
def G7:Obj:=sqO ↥11 #[(vS "new" 488),(vS "bits" 489)]
def G6:Obj:=sqO ↥11 #[(vS "new" 492),(vS "old" 493)]
def G5:Obj:=sqO ↥11 #[(vS "new" 496),(vS "old" 497)]
def G3:Obj:=sqO ↥11 #[(vS "new" 500),(vS "old" 501),(vS "old" 502)]
def G2:Obj:=sqO ↥11 #[(vS "new" 505),(vS "old" 506),(vS "old" 507)]
def G1:Obj:=sqO ↥11 #[(vS "new" 510),(vS "old" 511),(vS "old" 512)]
def G0:Obj:=sqO ↥11 #[(vS "new" 515),(vS "old" 516),(vS "old" 517)]
def GZ:Obj:=sqO ↥11 #[(vS "new" 520),(vS "old" 521)]
def GY:Obj:=sqO ↥11 #[(vS "new" 524),(vS "old" 525),(vS "old" 526),(vS "old" 527)]
def GX:Obj:=sqO ↥11 #[(vS "new" 530),(vS "old" 531)]
def GW:Obj:=sqO ↥11 #[(vS "old" 534)]
def GV:Obj:=sqO ↥11 #[(vS "old" 537),(vS "old" 538)]
def GU (P:Params):Obj:=diO ↥21 #[(en P "__name__" 165 (vS "law_roundmill_k66_words_of" 601)),(en P "__doc__" 166 .none),(en P "__package__" 167 .none),(en P "__loader__" 168 (.builtin "__main__.__loader__#opaque")),(en P "__spec__" 169 .none),(en P "__annotations__" 170 (r 6)),(en P "__builtins__" 171 (r 4)),(en P "__file__" 173 (c 172)),(en P "__cached__" 174 .none),(en P "MillError" 206 (r 24)),(en P "NoSize" 222 (r 37)),(en P "NoBits" 238 (r 49)),(en P "NoParts" 254 (r 61)),(en P "NoRank" 270 (r 73)),(en P "NotFinite" 286 (r 85)),(en P "NoWay" 302 (r 97)),(en P "NoFlags" 318 (r 109)),(en P "NoFraction" 334 (r 121)),(en P "Unlike" 350 (r 133)),(en P "Empty" 366 (r 145)),(en P "NoLeft" 382 (r 157)),(en P "NoText" 398 (r 169)),(en P "NoRow" 414 (r 181)),(en P "NoName" 430 (r 193)),(en P "Stopped" 457 (r 212)),(en P "FIGURES" 461 (vS "0123456789" 460)),(en P "all_figures" 467 (r 219)),(en P "LONGEST_ROW" 471 (vI 600 470)),(en P "LONGEST_NAME" 473 (vI 8 472)),(en P "LETTERS" 475 (vS "abcdefghijklmnopqrstuvwxyz" 474)),(en P "FORMS" 544 (r 220)),(en P "NAME_ROWS" 557 (r 238)),(en P "MOST_NAMES" 559 (vI 20 558)),(en P "LONGEST_FIGURES" 566 (r 239)),(en P "is_name" 572 (r 244)),(en P "fits" 580 (r 251)),(en P "form_of" 589 (r 258)),(en P "words_of" 600 (r 265)),(en P "_law_cell_at" 610 (r 272)),(en P "_law_name_by" 616 (r 277)),(en P "_law_sign_by" 624 (r 284)),(en P "_law_many_names" 632 (r 291)),(en P "_law_figures" 641 (r 298)),(en P "_law_tail" 647 (r 303)),(en P "_law_blanks" 657 (r 310)),(en P "_law_odd_verb" 665 (r 317)),(en P "_law_odd_name" 674 (r 324)),(en P "_law_odd_figures" 684 (r 331)),(en P "_law_more" 694 (r 338)),(en P "_law_spoiled" 708 (r 345)),(en P "_law_alone" 715 (r 352)),(en P "_law_refused" 724 (r 359)),(en P "_law_words_fit" 733 (r 366)),(en P "_law_verb_fits" 748 (r 373)),(en P "law" 758 (r 380))] 55
def IU:Obj:=fiO .none #[(z 2),(z 0),(r 20),(z 4),(z 0),(r 33),(z 6),(z 0),(r 45),(z 8),(z 0),(r 57),(z 10),(z 0),(r 69),(z 12),(z 0),(r 81),(z 14),(z 0),(r 93),(z 16),(z 0),(r 105),(z 18),(z 0),(r 117),(z 20),(z 0),(r 129),(z 22),(z 0),(r 141),(z 24),(z 0),(r 153),(z 26),(z 0),(r 165),(z 28),(z 0),(r 177),(z 30),(z 0),(r 189),(z 32),(z 0),(r 201),(z 40),(z 0),(r 218),(z 50),(z 0),(r 243),(z 54),(z 0),(r 250),(z 60),(z 0),(r 257),(z 69),(z 0),(r 264),(z 81),(z 0),(r 271),(z 85),(z 0),(r 276),(z 91),(z 0),(r 283),(z 94),(z 0),(r 290),(z 106),(z 0),(r 297),(z 111),(z 0),(r 302),(z 119),(z 0),(r 309),(z 127),(z 0),(r 316),(z 133),(z 0),(r 323),(z 140),(z 0),(r 330),(z 145),(z 0),(r 337),(z 151),(z 0),(r 344),(z 175),(z 0),(r 351),(z 181),(z 0),(r 358),(z 188),(z 0),(r 365),(z 199),(z 0),(r 372),(z 215),(z 0),(r 379)]
def GS (P:Params):Obj:=diO ↥21 #[(en P "sum" 545 (vI 1 546)),(en P "turn" 547 (vI 1 548)),(en P "halves" 549 (vI 1 550)),(en P "dot" 551 (vI 2 552))] 4
def GR (P:Params):Obj:=diO ↥21 #[(en P "measure" 560 (vI 4 561)),(en P "bits" 562 (vI 40 563))] 2
def IS:Obj:=fv "is_name" 28
def GQ:Obj:=fiO (.type "code") #[(vS "is_name" 567),(vS "is_name" 568),(c 569),(z 50),(z 1),(z 0),(z 0),(z 3),(r 240),(.bool true),(z 181),(r 241),.none,.none,.none,(r 242),(z 570),(z 50),(c 571)]
def GP:Obj:=fu "is_name" 28 3 "roundmill.words" 468 243
def GO:Obj:=sqO ↥11 #[(vS "sort" 576),(vS "word" 577)]
def IQ:Obj:=fv "fits" 29
def GN:Obj:=cd "fits" 573 574 575 54 2 245 181 246 247 248 249 578 579
def GL:Obj:=fu "fits" 29 3 "roundmill.words" 468 250
def GK:Obj:=sqO ↥11 #[(vS "verb" 584),(vS "count" 585),(vS "names" 586)]
def IP:Obj:=fv "form_of" 30
def GJ:Obj:=cd "form_of" 581 582 583 60 2 252 181 253 254 255 256 587 588
def GI:Obj:=fu "form_of" 30 3 "roundmill.words" 468 257
def GH:Obj:=sqO ↥11 #[(vS "row" 593),(vS "words" 594),(vS "form" 595),(vS "sort" 596),(vS "word" 597)]
def IM:Obj:=fv "words_of" 31
def GF:Obj:=cd "words_of" 590 591 592 69 1 259 181 260 261 262 263 598 599
def GB:Obj:=fu "words_of" 31 3 "roundmill.words" 468 264
def GA:Obj:=sqO ↥11 #[(vS "_law_script" 606),(vS "_law_k" 607)]
def IL:Obj:=fv "_law_cell_at" 33
def Gz:Obj:=cd "_law_cell_at" 603 604 605 81 2 266 181 267 268 269 270 608 609
def Gy:Obj:=fu "_law_cell_at" 33 3 "law_roundmill_k66_words_of" 601 271
def IK:Obj:=fv "_law_name_by" 34
def Gx:Obj:=fiO (.type "code") #[(vS "_law_name_by" 611),(vS "_law_name_by" 612),(c 613),(z 85),(z 1),(z 0),(z 0),(z 3),(r 273),(.bool true),(z 181),(r 274),.none,.none,.none,(r 275),(z 614),(z 85),(c 615)]
def Gw:Obj:=fu "_law_name_by" 34 3 "law_roundmill_k66_words_of" 601 276
def Gv:Obj:=sqO ↥11 #[(vS "_law_cell" 620),(vS "_law_some" 621)]
def IJ:Obj:=fv "_law_sign_by" 35
def Gu:Obj:=cd "_law_sign_by" 617 618 619 91 1 278 181 279 280 281 282 622 623
def Gs:Obj:=fu "_law_sign_by" 35 3 "law_roundmill_k66_words_of" 601 283
def Gr:Obj:=sqO ↥11 #[(vS "_law_verb" 628),(vS "_law_cell" 629)]
def II:Obj:=fv "_law_many_names" 36
def Gq:Obj:=cd "_law_many_names" 625 626 627 94 2 285 181 286 287 288 289 630 631
def Gp:Obj:=fu "_law_many_names" 36 3 "law_roundmill_k66_words_of" 601 290
def Gn:Obj:=sqO ↥11 #[(vS "_law_cell" 636),(vS "_law_most" 637),(vS "_law_word" 638)]
def IH:Obj:=fv "_law_figures" 37
def Gm:Obj:=cd "_law_figures" 633 634 635 106 2 292 181 293 294 295 296 639 640
def Gk:Obj:=fu "_law_figures" 37 3 "law_roundmill_k66_words_of" 601 297
def IG:Obj:=fv "_law_tail" 38
def Gj:Obj:=fiO (.type "code") #[(vS "_law_tail" 642),(vS "_law_tail" 643),(c 644),(z 111),(z 3),(z 0),(z 0),(z 3),(r 299),(.bool true),(z 181),(r 300),.none,.none,.none,(r 301),(z 645),(z 111),(c 646)]
def Gi:Obj:=fu "_law_tail" 38 3 "law_roundmill_k66_words_of" 601 302
def Gh:Obj:=sqO ↥11 #[(vS "_law_words" 651),(vS "_law_cell" 652),(vS "_law_row" 653),(vS "_law_at" 654)]
def IE:Obj:=fv "_law_blanks" 39
def Gg:Obj:=cd "_law_blanks" 648 649 650 119 2 304 181 305 306 307 308 655 656
def Gf:Obj:=fu "_law_blanks" 39 3 "law_roundmill_k66_words_of" 601 309
def Ge:Obj:=sqO ↥11 #[(vS "_law_verb" 661),(vS "_law_cell" 662)]
def ID:Obj:=fv "_law_odd_verb" 40
def Gd:Obj:=cd "_law_odd_verb" 658 659 660 127 2 311 181 312 313 314 315 663 664
def Ga:Obj:=fu "_law_odd_verb" 40 3 "law_roundmill_k66_words_of" 601 316
def F8:Obj:=sqO ↥11 #[(vS "_law_name" 669),(vS "_law_cell" 670),(vS "_law_at" 671)]
def IC:Obj:=fv "_law_odd_name" 41
def F7:Obj:=cd "_law_odd_name" 666 667 668 133 2 318 181 319 320 321 322 672 673
def F6:Obj:=fu "_law_odd_name" 41 3 "law_roundmill_k66_words_of" 601 323
def F5:Obj:=sqO ↥11 #[(vS "_law_word" 678),(vS "_law_cell" 679),(vS "_law_most" 680),(vS "_law_at" 681)]
def IB:Obj:=fv "_law_odd_figures" 42
def F4:Obj:=cd "_law_odd_figures" 675 676 677 140 3 325 181 326 327 328 329 682 683
def F3:Obj:=fu "_law_odd_figures" 42 3 "law_roundmill_k66_words_of" 601 330
def F2:Obj:=sqO ↥11 #[(vS "_law_verb" 688),(vS "_law_words" 689),(vS "_law_names" 690),(vS "_law_cell" 691)]
def IA:Obj:=fv "_law_more" 43
def F0:Obj:=cd "_law_more" 685 686 687 145 4 332 181 333 334 335 336 692 693
def FZ:Obj:=fu "_law_more" 43 3 "law_roundmill_k66_words_of" 601 337
def FY:Obj:=sqO ↥11 #[(vS "_law_verb" 698),(vS "_law_names" 699),(vS "_law_tail_here" 700),(vS "_law_way" 701),(vS "_law_cell" 702),(vS "_law_words" 703),(vS "_law_at" 704),(vS "_law_odd" 705)]
def Iz:Obj:=fv "_law_spoiled" 44
def FW:Obj:=cd "_law_spoiled" 695 696 697 151 5 339 181 340 341 342 343 706 707
def FV:Obj:=fu "_law_spoiled" 44 3 "law_roundmill_k66_words_of" 601 344
def FU:Obj:=sqO ↥11 #[(vS "_law_caught" 712)]
def Iw:Obj:=fv "_law_alone" 45
def FR:Obj:=cd "_law_alone" 709 710 711 175 1 346 181 347 348 349 350 713 714
def FP:Obj:=fu "_law_alone" 45 3 "law_roundmill_k66_words_of" 601 351
def FO:Obj:=sqO ↥11 #[(vS "_law_row" 719),(vS "_law_caught" 720),(vS "e" 721)]
def Iv:Obj:=fv "_law_refused" 46
def FN:Obj:=cd "_law_refused" 716 717 718 181 1 353 181 354 355 356 357 722 723
def FL:Obj:=fu "_law_refused" 46 3 "law_roundmill_k66_words_of" 601 358
def FK:Obj:=sqO ↥11 #[(vS "_law_words" 728),(vS "_law_found" 729),(vS "_law_word" 730)]
def Iu:Obj:=fv "_law_words_fit" 47
def FJ:Obj:=cd "_law_words_fit" 725 726 727 188 1 360 181 361 362 363 364 731 732
def FH:Obj:=fu "_law_words_fit" 47 3 "law_roundmill_k66_words_of" 601 365
def FG:Obj:=sqO ↥11 #[(vS "_law_verb" 737),(vS "_law_script" 738),(vS "_law_j" 739),(vS "_law_names" 740),(vS "_law_k" 741),(vS "_law_tail_here" 742),(vS "_law_longest" 743),(vS "_law_cell" 744),(vS "_law_way" 745)]
def Ir:Obj:=fv "_law_verb_fits" 48
def FF:Obj:=cd "_law_verb_fits" 734 735 736 199 3 367 181 368 369 370 371 746 747
def FD:Obj:=fu "_law_verb_fits" 48 3 "law_roundmill_k66_words_of" 601 372
def FC:Obj:=sqO ↥11 #[(vS "_law_script" 752),(vS "_law_verbs" 753),(vS "_law_j" 754),(vS "_law_odd" 755)]
def Iq:Obj:=fv "law" 49
def FA:Obj:=cd "law" 749 750 751 215 1 374 181 375 376 377 378 756 757
def Fz:Obj:=fu "law" 49 3 "law_roundmill_k66_words_of" 601 379
def full (P:Params):BT:=(B (boot_o_0 P) (B (boot_o_1 P) (B (GU P) (B (boot_o_7 P) (B o6 (B o0 (B o37 (B o0 (L o0) N) (B o0 (L o1) N)) (B o0 (B o96 (L Gr) N) (B G8 (L FR) N))) (B o0 (B o0 (B o0 (L Gz) N) (B IZ (L o0) N)) (B o68 (B o0 (L Gi) N) (B (GR P) (L o0) N)))) (B (o11 P) (B o23 (B o0 (B o82 (L IM) N) (B o0 (L F5) N)) (B o0 (B o0 (L o0) N) (B GZ (L FL) N))) (B o0 (B o51 (B o0 (L o1) N) (B o0 (L Iz) N)) (B o0 (B Jj (L o0) N) (B GO (L o1) N))))) (B o0 (B o1 (B o0 (B o0 (B o0 (L o0) N) (B Je (L F7) N)) (B o61 (B o0 (L Gp) N) (B G3 (L FO) N))) (B o30 (B o0 (B o89 (L IK) N) (B (Hg P) (L o0) N)) (B o0 (B o0 (L o0) N) (B GQ (L Ir) N)))) (B o15 (B o0 (B o44 (B o0 (L o1) N) (B o0 (L F3) N)) (B o0 (B Jo (L o0) N) (B GV (L o0) N))) (B o0 (B o0 (B o0 (L Gu) N) (B Hd (L o1) N)) (B o75 (B o0 (L ID) N) (B GL (L FA) N)))))) (B (boot_o_5 P) (B (boot_o_9 P) (B (o8 P) (B o18 (B o7 (B o77 (L GJ) N) (B Hl (L o0) N)) (B o59 (B o7 (L II) N) (B G6 (L o0) N))) (B o28 (B o46 (B o87 (L o0) N) (B Hi (L F0) N)) (B o7 (B Jm (L o1) N) (B o1 (L FG) N)))) (B o13 (B o7 (B o42 (B o7 (L GB) N) (B Jb (L IB) N)) (B o63 (B Hr (L Gm) N) (B GX (L o1) N))) (B o32 (B o7 (B o91 (L o0) N) (B IV (L FV) N)) (B o73 (B o7 (L Ge) N) (B IQ (L o0) N))))) (B o2 (B o10 (B o21 (B o39 (B o80 (L GH) N) (B o7 (L o0) N)) (B o7 (B Jr (L o1) N) (B G1 (L Iv) N))) (B o7 (B o49 (B o7 (L Gw) N) (B IY (L FY) N)) (B o70 (B Hn (L Gg) N) (B o0 (L FD) N)))) (B o7 (B o25 (B o7 (B o84 (L o0) N) (B Hk (L o1) N)) (B o66 (B o7 (L IG) N) (B o0 (L FJ) N))) (B o35 (B o56 (B o94 (L o0) N) (B Ha (L o0) N)) (B o7 (B Jh (L Ga) N) (L o1))))))) (B (boot_o_2 P) (B (boot_o_4 P) (B (boot_o_8 P) (B o7 (B o1 (B o16 (B o1 (L IP) N) (B (Hm P) (L F8) N)) (B (o58 P) (B o16 (L o0) N) (B G7 (L FP) N))) (B (o27 P) (B o1 (B (o86 P) (L Gy) N) (B Hj (L IA) N)) (B o16 (B o1 (L o0) N) (B o0 (L o1) N)))) (B o99 (B o16 (B (o41 P) (B o16 (L GF) N) (B Jc (L o0) N)) (B o1 (B (Hs P) (L IH) N) (B GY (L o0) N))) (B o1 (B o16 (B o1 (L Gv) N) (B o1 (L FW) N)) (B (o72 P) (B o16 (L o1) N) (B o0 (L FC) N))))) (B IU (B o9 (B (o20 P) (B o1 (B (o79 P) (L o1) N) (B o16 (L F6) N)) (B o16 (B o1 (L o0) N) (B G2 (L o0) N))) (B o16 (B (o48 P) (B o16 (L Gx) N) (B Hf (L o1) N)) (B o1 (B (Ho P) (L IE) N) (B GP (L FF) N)))) (B o16 (B o1 (B o16 (B o1 (L GA) N) (B o1 (L o0) N)) (B (o65 P) (B o16 (L o1) N) (B o0 (L Iu) N))) (B (o34 P) (B o1 (B (o93 P) (L Gs) N) (B (Hb P) (L FU) N)) (B o16 (B o1 (L Gd) N) (B o0 (L Fz) N)))))) (B (boot_o_6 P) (B (boot_o_10 P) (B o0 (B o19 (B (o38 P) (B o78 (L GI) N) (B Jf (L IC) N)) (B o60 (B (Js P) (L Gq) N) (B G5 (L o1) N))) (B o29 (B o47 (B o88 (L o1) N) (B Hh (L FZ) N)) (B (o69 P) (B Jl (L Gh) N) (B IS (L o0) N)))) (B o14 (B (o24 P) (B o43 (B (o83 P) (L o0) N) (B Ja (L F4) N)) (B o64 (B Jp (L Gk) N) (B GW (L FK) N))) (B o33 (B (o55 P) (B o92 (L IJ) N) (B He (L o0) N)) (B o74 (B (Ji P) (L o0) N) (B GN (L Iq) N))))) (B o3 (B o0 (B o22 (B o40 (B o81 (L o0) N) (B (Jd P) (L o1) N)) (B (o62 P) (B Jq (L Gn) N) (B G0 (L FN) N))) (B (o31 P) (B o50 (B (o90 P) (L o0) N) (B IW (L o0) N)) (B o71 (B Jk (L Gf) N) (B o1 (L o0) N)))) (B (o17 P) (B o26 (B (o45 P) (B o85 (L IL) N) (B o0 (L F2) N)) (B o67 (B (Jn P) (L Gj) N) (B (GS P) (L FH) N))) (B o36 (B o57 (B o95 (L o1) N) (B G9 (L Iw) N)) (B (o76 P) (B Jg (L o0) N) (L GK))))))))
def t_0 (P:Params):BT:=(((cut 15 (full P) 1 0).ins 3 (boot_o_3 P)).ins 12 (o1))
def t_1 (P:Params):BT:=((((cut 88 (full P) 1 0).ins 3 (o4 P)).ins 12 (o5)).ins 24 (o12))
def t_2 (P:Params):BT:=((((cut 160 (full P) 1 0).ins 3 (o52 P)).ins 12 (o53)).ins 24 (o54))
def t_3 (P:Params):BT:=(((cut 238 (full P) 1 0).ins 3 (o97 P)).ins 12 (o98))
def t_4 (P:Params):BT:=(cut 381 (full P) 1 0)
def ha (P:Params):Heap:=⟨⟨[boot_o_0 P,boot_o_1 P,boot_o_2 P,boot_o_3 P,boot_o_4 P,boot_o_5 P,boot_o_6 P,boot_o_7 P,boot_o_8 P,boot_o_9 P,boot_o_10 P,o0,o1,o2,o3]⟩,↥1⟩
def hf (P:Params):Heap:=absHeap (full P) 381 ↥1
def K (P:Params):Frag:=(nat_lit 2,boot_o_2 P)::(nat_lit 3,GU P)::(nat_lit 15,o6)::(nat_lit 22,o0)::(nat_lit 23,o11 P)::(nat_lit 24,o99)::(nat_lit 25,o13)::(nat_lit 28,o16)::(nat_lit 35,o0)::(nat_lit 36,o20 P)::(nat_lit 37,o21)::(nat_lit 40,o16)::(nat_lit 47,o0)::(nat_lit 48,o27 P)::(nat_lit 49,o28)::(nat_lit 52,o16)::(nat_lit 59,o0)::(nat_lit 60,o34 P)::(nat_lit 61,o35)::(nat_lit 64,o16)::(nat_lit 71,o0)::(nat_lit 72,o41 P)::(nat_lit 73,o42)::(nat_lit 76,o16)::(nat_lit 83,o0)::(nat_lit 84,o48 P)::(nat_lit 85,o49)::(nat_lit 88,o16)::(nat_lit 95,o0)::(nat_lit 96,o58 P)::(nat_lit 97,o59)::(nat_lit 100,o16)::(nat_lit 107,o0)::(nat_lit 108,o65 P)::(nat_lit 109,o66)::(nat_lit 112,o16)::(nat_lit 119,o0)::(nat_lit 120,o72 P)::(nat_lit 121,o73)::(nat_lit 124,o16)::(nat_lit 131,o0)::(nat_lit 132,o79 P)::(nat_lit 133,o80)::(nat_lit 136,o16)::(nat_lit 143,o0)::(nat_lit 144,o86 P)::(nat_lit 145,o87)::(nat_lit 148,o16)::(nat_lit 155,o0)::(nat_lit 156,o93 P)::(nat_lit 157,o94)::(nat_lit 160,o16)::(nat_lit 167,o0)::(nat_lit 168,Hs P)::(nat_lit 169,Hr)::(nat_lit 172,o16)::(nat_lit 179,o0)::(nat_lit 180,Ho P)::(nat_lit 181,Hn)::(nat_lit 184,o16)::(nat_lit 191,o0)::(nat_lit 192,Hm P)::(nat_lit 193,Hl)::(nat_lit 196,o16)::(nat_lit 203,o0)::(nat_lit 205,Hk)::(nat_lit 206,o0)::(nat_lit 208,Hj)::(nat_lit 209,Hi)::(nat_lit 210,Hh)::(nat_lit 211,Hg P)::(nat_lit 212,Hf)::(nat_lit 215,o0)::(nat_lit 218,He)::(nat_lit 219,Hd)::(nat_lit 220,Hb P)::(nat_lit 221,Ha)::(nat_lit 222,G9)::(nat_lit 223,G8)::(nat_lit 224,G7)::(nat_lit 225,G6)::(nat_lit 226,G5)::(nat_lit 227,G3)::(nat_lit 228,G2)::(nat_lit 229,G1)::(nat_lit 230,G0)::(nat_lit 231,GZ)::(nat_lit 232,GY)::(nat_lit 233,GX)::(nat_lit 234,GW)::(nat_lit 235,GV)::(nat_lit 236,o0)::(nat_lit 237,o0)::(nat_lit 238,GS P)::(nat_lit 239,GR P)::(nat_lit 240,o0)::(nat_lit 243,GQ)::(nat_lit 244,GP)::(nat_lit 245,o0)::(nat_lit 247,GO)::(nat_lit 248,o0)::(nat_lit 250,GN)::(nat_lit 251,GL)::(nat_lit 252,o0)::(nat_lit 254,GK)::(nat_lit 255,o0)::(nat_lit 257,GJ)::(nat_lit 258,GI)::(nat_lit 259,o0)::(nat_lit 261,GH)::(nat_lit 262,o0)::(nat_lit 264,GF)::(nat_lit 265,GB)::(nat_lit 266,o0)::(nat_lit 268,GA)::(nat_lit 269,o0)::(nat_lit 271,Gz)::(nat_lit 272,Gy)::(nat_lit 273,o0)::(nat_lit 276,Gx)::(nat_lit 277,Gw)::(nat_lit 278,o0)::(nat_lit 280,Gv)::(nat_lit 281,o0)::(nat_lit 283,Gu)::(nat_lit 284,Gs)::(nat_lit 285,o0)::(nat_lit 287,Gr)::(nat_lit 288,o0)::(nat_lit 290,Gq)::(nat_lit 291,Gp)::(nat_lit 292,o0)::(nat_lit 294,Gn)::(nat_lit 295,o0)::(nat_lit 297,Gm)::(nat_lit 298,Gk)::(nat_lit 299,o0)::(nat_lit 302,Gj)::(nat_lit 303,Gi)::(nat_lit 304,o0)::(nat_lit 306,Gh)::(nat_lit 307,o0)::(nat_lit 309,Gg)::(nat_lit 310,Gf)::(nat_lit 311,o0)::(nat_lit 313,Ge)::(nat_lit 314,o0)::(nat_lit 316,Gd)::(nat_lit 317,Ga)::(nat_lit 318,o0)::(nat_lit 320,F8)::(nat_lit 321,o0)::(nat_lit 323,F7)::(nat_lit 324,F6)::(nat_lit 325,o0)::(nat_lit 327,F5)::(nat_lit 328,o0)::(nat_lit 330,F4)::(nat_lit 331,F3)::(nat_lit 332,o0)::(nat_lit 334,F2)::(nat_lit 335,o0)::(nat_lit 337,F0)::(nat_lit 338,FZ)::(nat_lit 339,o0)::(nat_lit 341,FY)::(nat_lit 342,o0)::(nat_lit 344,FW)::(nat_lit 345,FV)::(nat_lit 346,o0)::(nat_lit 348,FU)::(nat_lit 349,o0)::(nat_lit 351,FR)::(nat_lit 352,FP)::(nat_lit 353,o0)::(nat_lit 355,FO)::(nat_lit 356,o0)::(nat_lit 358,FN)::(nat_lit 359,FL)::(nat_lit 360,o0)::(nat_lit 362,FK)::(nat_lit 363,o0)::(nat_lit 365,FJ)::(nat_lit 366,FH)::(nat_lit 367,o0)::(nat_lit 369,FG)::(nat_lit 370,o0)::(nat_lit 372,FF)::(nat_lit 373,FD)::(nat_lit 374,o0)::(nat_lit 376,FC)::(nat_lit 377,o0)::(nat_lit 379,FA)::(nat_lit 380,Fz)::[]
def as:List Addr:=[2,3,15,22,23,24,25,28,35,36,37,40,47,48,49,52,59,60,61,64,71,72,73,76,83,84,85,88,95,96,97,100,107,108,109,112,119,120,121,124,131,132,133,136,143,144,145,148,155,156,157,160,167,168,169,172,179,180,181,184,191,192,193,196,203,205,206,208,209,210,211,212,215,218,219,220,221,222,223,224,225,226,227,228,229,230,231,232,233,234,235,236,237,238,239,240,243,244,245,247,248,250,251,252,254,255,257,258,259,261,262,264,265,266,268,269,271,272,273,276,277,278,280,281,283,284,285,287,288,290,291,292,294,295,297,298,299,302,303,304,306,307,309,310,311,313,314,316,317,318,320,321,323,324,325,327,328,330,331,332,334,335,337,338,339,341,342,344,345,346,348,349,351,352,353,355,356,358,359,360,362,363,365,366,367,369,370,372,373,374,376,377,379,380]
def env:Env:={ scope:=PySem.Challenge.pw_roundmill_k66_words_of.main.scope,locals:=mainNs,globals:=mainNs,cells:=[],code:=(.ref 13),frame:=some 14 }
def yi:List Stmt:=[T.top 0,T.top 1,T.top 2,T.top 3,T.top 4,T.top 5,T.top 6]
def yh:List Stmt:=[T.top 7,T.top 8,T.top 9,T.top 10,T.top 11,T.top 12]
def yg:List Stmt:=[T.top 13,T.top 14,T.top 15,T.top 16,T.top 17,T.top 18,T.top 19,T.top 20,T.top 21,T.top 22,T.top 23,T.top 24]
def yf:List Stmt:=[T.top 25,T.top 26,T.top 27,T.top 28,T.top 29,T.top 30,T.top 31,T.top 32,T.top 33,T.top 34,T.top 35,T.top 36,T.top 37,T.top 38,T.top 39,T.top 40,T.top 41,T.top 42,T.top 43,T.top 44,T.top 45,T.top 46,T.top 47,T.top 48,T.top 49]
def q:Program:=PySem.W.view PySem.Challenge.pw_roundmill_k66_words_of [1,2,3,4,5,6,7,8,9,10,11,12,13,14,15,16,18,19,21,22,23,24,25,26,27,28,29,30,31,33,34,35,36,37,38,39,40,41,42,43,44,45,46,47,48,49]
end
end H
namespace H
open PySem PySem.W PySem.Calls PySem.Spec PyProof.Rows L2 EV ES
noncomputable section
def cB:Code:=Code.body (behindTheImports PySem.Challenge.pw_roundmill_k66_words_of) env
def row:RowW:=OpenRow.toRowW (OpenLaw.row PySem.Challenge.rw_roundmill_k66_words_of)
def Xt (s:Shared):Bool:=xlAt q [] s&&recOk (RowW.records row) s
end
theorem HB:(fun (_:Program) (_:Program) (_:Env) (_:Code) (_:Shared->Bool)=>true) PySem.Challenge.pw_roundmill_k66_words_of q env cB Xt=true:=by k_qdec
set_option maxHeartbeats 0 in
theorem Eg:∀ w:World,(fun os:OsState=>topGo treeTable PySem.Challenge.pw_roundmill_k66_words_of w 11 (some (.ref 6)) 12 (Shared.mk (boot_heap w.params) (Array.mk []) boot_drawn boot_toks os) (topStub PySem.Challenge.pw_roundmill_k66_words_of))=fun os:OsState=>some ((Shared.mk (ha w.params) ⟨[]⟩ (Drawn.mk 0 0 0 0) 187 os),Thread.mk (denote treeTable cB) cB (Pos.mk 0 0 0 0) [topFrame (Pos.mk 0 0 0 0)]):=by
 rewrite [PySem.W.Fast.te15667345088766844465,PySem.W.Fast.te14364793385576792824,PySem.W.Fast.te17007393464986913914,PySem.W.Fast.te11892475500146522536,PySem.W.Fast.te2060423359788512156]
 intro w
 kernel_rfl
set_option maxHeartbeats 0 in
theorem yc:∀ w:World,(fun os:OsState=>segRun treeTable PySem.Challenge.pw_roundmill_k66_words_of w 11 (some (.ref 6)) 1 1 (Shared.mk (ha w.params) ⟨[]⟩ (Drawn.mk 0 0 0 0) 187 os) (blockOf (behindTheImports PySem.Challenge.pw_roundmill_k66_words_of) env cB (Pos.mk 0 0 0 0) [topFrame (Pos.mk 0 0 0 0)]))=fun os:OsState=>some (Flow.next,(SharedT.abs (SharedT.mk (t_0 w.params) 15 ↥1 ⟨[]⟩ (Drawn.mk 0 0 0 0) 187 os)),cB,(Pos.mk 0 0 0 0)):=by
 rewrite [PySem.W.Fast.te14374325043358763698,PySem.W.Fast.te14364793385576792824,PySem.W.Fast.te17007393464986913914,PySem.W.Fast.te2060423359788512156]
 intro w
 kernel_rfl
set_option maxHeartbeats 0 in
theorem HS:∀ w:World,(fun os:OsState=>segRunT treeTable PySem.Challenge.pw_roundmill_k66_words_of w 11 (some (.ref 6)) 1 1261 (SharedT.mk (t_0 w.params) 15 ↥1 ⟨[]⟩ (Drawn.mk 0 0 0 0) 187 os) (piecesOf yi env cB (Pos.mk 0 0 0 0) [topFrame (Pos.mk 0 0 0 0)]))=fun os:OsState=>some (Flow.next,(SharedT.mk (t_1 w.params) 88 ↥1 ⟨[]⟩ (Drawn.mk 0 0 0 0) 287 os),cB,(Pos.mk 12 0 13 8)):=by
 rewrite [PySem.W.Fast.te10110043849684766642,PySem.W.Fast.te14364793385576792824,PySem.W.Fast.te17007393464986913914,PySem.W.Fast.te2060423359788512156]
 intro w
 kernel_rfl
set_option maxHeartbeats 0 in
theorem HR:∀ w:World,(fun os:OsState=>segRunT treeTable PySem.Challenge.pw_roundmill_k66_words_of w 11 (some (.ref 6)) 1 1279 (SharedT.mk (t_1 w.params) 88 ↥1 ⟨[]⟩ (Drawn.mk 0 0 0 0) 287 os) (piecesOf yh env cB (Pos.mk 12 0 13 8) [topFrame (Pos.mk 0 0 0 0)]))=fun os:OsState=>some (Flow.next,(SharedT.mk (t_2 w.params) 160 ↥1 ⟨[]⟩ (Drawn.mk 0 0 0 0) 383 os),cB,(Pos.mk 24 0 25 8)):=by
 rewrite [PySem.W.Fast.te10110043849684766642,PySem.W.Fast.te14364793385576792824,PySem.W.Fast.te17007393464986913914,PySem.W.Fast.te2060423359788512156]
 intro w
 kernel_rfl
set_option maxHeartbeats 0 in
theorem HQ:∀ w:World,(fun os:OsState=>segRunT treeTable PySem.Challenge.pw_roundmill_k66_words_of w 11 (some (.ref 6)) 1 1284 (SharedT.mk (t_2 w.params) 160 ↥1 ⟨[]⟩ (Drawn.mk 0 0 0 0) 383 os) (piecesOf yg env cB (Pos.mk 24 0 25 8) [topFrame (Pos.mk 0 0 0 0)]))=fun os:OsState=>some (Flow.next,(SharedT.mk (t_3 w.params) 238 ↥1 ⟨[]⟩ (Drawn.mk 0 0 0 0) 545 os),cB,(Pos.mk 46 0 46 5)):=by
 rewrite [PySem.W.Fast.te10110043849684766642,PySem.W.Fast.te14364793385576792824,PySem.W.Fast.te17007393464986913914,PySem.W.Fast.te2060423359788512156]
 refine byRow2 "special-get-raises" ?_ ?_<;>(intro w;kernel_rfl)
set_option maxHeartbeats 0 in
theorem HP:∀ w:World,(fun os:OsState=>segRunT treeTable PySem.Challenge.pw_roundmill_k66_words_of w 11 (some (.ref 6)) 1 775 (SharedT.mk (t_3 w.params) 238 ↥1 ⟨[]⟩ (Drawn.mk 0 0 0 0) 545 os) (piecesOf yf env cB (Pos.mk 46 0 46 5) [topFrame (Pos.mk 0 0 0 0)]))=fun os:OsState=>some (Flow.next,(SharedT.mk (t_4 w.params) 381 ↥1 ⟨[]⟩ (Drawn.mk 0 0 0 0) 759 os),cB,(Pos.mk 215 0 224 15)):=by
 rewrite [PySem.W.Fast.te10110043849684766642,PySem.W.Fast.te14364793385576792824,PySem.W.Fast.te17007393464986913914,PySem.W.Fast.te2060423359788512156]
 refine byRow2 "special-get-raises" ?_ ?_<;>(intro w;kernel_rfl)
set_option maxHeartbeats 0 in
theorem Eh:∀ w:World,(fun os:OsState=>topRun treeTable PySem.Challenge.pw_roundmill_k66_words_of w 11 (some (.ref 6)) 2 (SharedT.abs (SharedT.mk (t_4 w.params) 381 ↥1 ⟨[]⟩ (Drawn.mk 0 0 0 0) 759 os)) (Thread.mk (doneF Flow.next) cB (Pos.mk 215 0 224 15) [topFrame (Pos.mk 0 0 0 0)]))=fun os:OsState=>some ↥5:=by
 rewrite [PySem.W.Fast.te14082659384304107361,PySem.W.Fast.te14364793385576792824,PySem.W.Fast.te17007393464986913914,PySem.W.Fast.te2060423359788512156]
 intro w
 kernel_rfl
set_option maxHeartbeats 0 in
theorem Bl:∀ w:World,((boot_heap w.params).isNs mainGlobals&&(Array.mk []:Array GenState).size == 0,(boot_heap w.params).objs.size,(boot_heap w.params).nsMap mainGlobals "__annotations__")=(true,11,(some (.ref 6))):=by
 rewrite [PySem.W.Fast.te8920871248978507458]
 intro w
 kernel_rfl
set_option maxHeartbeats 0 in
theorem l_1:∀ w:World,(fun os:OsState=>staticsOk ↥6 (boot_heap w.params) (hf w.params)&&namesBound PySem.Challenge.pw_roundmill_k66_words_of (hf w.params)&&gensDone ↥5&&laidKept (boot_heap w.params) (hf w.params))=fun os:OsState=>true:=by
 rewrite [PySem.W.Fast.te5923862056798008813,PySem.W.Fast.te17007393464986913914]
 intro w
 kernel_rfl
set_option maxHeartbeats 0 in
theorem JI:∀ w:World,(fun os:OsState=>(openSeen q ["FORMS","NAME_ROWS","LONGEST_FIGURES"] ↥6 Xt true ↥5).1)=fun os:OsState=>(openGood q ["FORMS","NAME_ROWS","LONGEST_FIGURES"]).1:=by
 unfold openSeen openGood
 dsimp only
 rewrite [PySem.W.Fast.te5160383126252970620,PySem.W.R.mapR_eq,PySem.W.Fast.te3399658132070893891,PySem.W.Fast.te5991557255702980513]
 intro w
 kernel_rfl
set_option maxHeartbeats 0 in
theorem JH:∀ w:World,(fun os:OsState=>(openSeen q ["FORMS","NAME_ROWS","LONGEST_FIGURES"] ↥6 Xt true ↥5).2.1)=fun os:OsState=>(openGood q ["FORMS","NAME_ROWS","LONGEST_FIGURES"]).2.1:=by
 unfold openSeen openGood
 dsimp only
 intro w
 kernel_rfl
set_option maxHeartbeats 0 in
theorem JG:∀ w:World,(fun os:OsState=>(openSeen q ["FORMS","NAME_ROWS","LONGEST_FIGURES"] ↥6 Xt true ↥5).2.2.1)=fun os:OsState=>(openGood q ["FORMS","NAME_ROWS","LONGEST_FIGURES"]).2.2.1:=by
 unfold openSeen openGood
 dsimp only
 rewrite [PySem.W.Fast.te10880121769531294198,PySem.W.Fast.te821141287760084731,PySem.W.R.mapR_eq,PySem.W.Fast.te3399658132070893891,PySem.W.Fast.te7409074990110511671,PySem.W.Fast.te13664370479719496447,PySem.W.Fast.te14722251495701143533,PySem.W.Fast.te5923862056798008813,PySem.W.Fast.te17007393464986913914,PySem.W.Fast.te10994771534591457954,PySem.W.Fast.te18408535023408442824]
 intro w
 kernel_rfl
set_option maxHeartbeats 0 in
theorem JF:∀ w:World,(fun os:OsState=>(openSeen q ["FORMS","NAME_ROWS","LONGEST_FIGURES"] ↥6 Xt true ↥5).2.2.2.1)=fun os:OsState=>(openGood q ["FORMS","NAME_ROWS","LONGEST_FIGURES"]).2.2.2.1:=by
 unfold openSeen openGood
 dsimp only
 rewrite [PySem.W.Fast.te479339242167458305]
 intro w
 kernel_rfl
set_option maxHeartbeats 0 in
theorem JE:∀ w:World,(fun os:OsState=>(openSeen q ["FORMS","NAME_ROWS","LONGEST_FIGURES"] ↥6 Xt true ↥5).2.2.2.2.1)=fun os:OsState=>(openGood q ["FORMS","NAME_ROWS","LONGEST_FIGURES"]).2.2.2.2.1:=by
 unfold openSeen openGood
 dsimp only
 rewrite [PySem.W.Fast.te16090120013241838585,PySem.W.Fast.te3247288618530077131]
 intro w
 kernel_rfl
set_option maxHeartbeats 0 in
theorem JD:∀ w:World,(fun os:OsState=>(openSeen q ["FORMS","NAME_ROWS","LONGEST_FIGURES"] ↥6 Xt true ↥5).2.2.2.2.2.1)=fun os:OsState=>(openGood q ["FORMS","NAME_ROWS","LONGEST_FIGURES"]).2.2.2.2.2.1:=by
 unfold openSeen openGood
 dsimp only
 rewrite [PySem.W.Fast.te2386780881361962483,PySem.W.Fast.te821141287760084731]
 intro w
 kernel_rfl
set_option maxHeartbeats 0 in
theorem JC:∀ w:World,(fun os:OsState=>(openSeen q ["FORMS","NAME_ROWS","LONGEST_FIGURES"] ↥6 Xt true ↥5).2.2.2.2.2.2.1)=fun os:OsState=>(openGood q ["FORMS","NAME_ROWS","LONGEST_FIGURES"]).2.2.2.2.2.2.1:=by
 unfold openSeen openGood
 dsimp only
 rewrite [PySem.W.Fast.te11698064438423848299]
 intro w
 kernel_rfl
set_option maxHeartbeats 0 in
theorem JB:∀ w:World,(fun os:OsState=>(openSeen q ["FORMS","NAME_ROWS","LONGEST_FIGURES"] ↥6 Xt true ↥5).2.2.2.2.2.2.2.1)=fun os:OsState=>(openGood q ["FORMS","NAME_ROWS","LONGEST_FIGURES"]).2.2.2.2.2.2.2.1:=by
 unfold openSeen openGood
 dsimp only
 rewrite [PySem.W.Fast.te7317090234206586261]
 intro w
 kernel_rfl
set_option maxHeartbeats 0 in
theorem JA:∀ w:World,(fun os:OsState=>(openSeen q ["FORMS","NAME_ROWS","LONGEST_FIGURES"] ↥6 Xt true ↥5).2.2.2.2.2.2.2.2)=fun os:OsState=>(openGood q ["FORMS","NAME_ROWS","LONGEST_FIGURES"]).2.2.2.2.2.2.2.2:=by
 unfold openSeen openGood
 dsimp only
 rewrite [PySem.W.Fast.te7369524293546568484]
 intro w
 kernel_rfl
set_option maxHeartbeats 0 in
theorem l_k:∀ w:World,(fun os:OsState=>as.map (Shared.heap ↥5).get?)=fun os:OsState=>(K w.params).map fun x=>some x.2:=by
 rewrite [PySem.W.R.mapR_eq]
 intro w
 kernel_rfl
theorem h_b:behindTheImports PySem.Challenge.pw_roundmill_k66_words_of=yi++(yh++(yg++(yf++[]))):=by kernel_rfl
theorem Ex (w:World) (os:OsState):topRun treeTable PySem.Challenge.pw_roundmill_k66_words_of w 11 (some (.ref 6)) (1261+(1279+(1284+(775+(2))))) (SharedT.abs (SharedT.mk (t_0 w.params) 15 ↥1 ⟨[]⟩ (Drawn.mk 0 0 0 0) 187 os)) (restOf (yi++(yh++(yg++(yf++[])))) env cB (Pos.mk 0 0 0 0) [topFrame (Pos.mk 0 0 0 0)])=some ↥5 :=
 piece_app (segRun_of (congrFun (HS w) os)) (piece_app (segRun_of (congrFun (HR w) os)) (piece_app (segRun_of (congrFun (HQ w) os)) (piece_app (segRun_of (congrFun (HP w) os)) (piece_nil (congrFun (Eh w) os)))))
theorem run (w:World) (os:OsState):topRun treeTable PySem.Challenge.pw_roundmill_k66_words_of w 11 (some (.ref 6)) (12+(1+(1261+(1279+(1284+(775+(2))))))) (Shared.mk (boot_heap w.params) (Array.mk []) boot_drawn boot_toks os) (topStub PySem.Challenge.pw_roundmill_k66_words_of)=some ↥5 :=
 go_top (congrFun (Eg w) os) (piece_block (congrFun (yc w) os) ((congrArg (fun b=>topRun treeTable PySem.Challenge.pw_roundmill_k66_words_of w 11 (some (.ref 6)) (1261+(1279+(1284+(775+(2))))) (SharedT.abs (SharedT.mk (t_0 w.params) 15 ↥1 ⟨[]⟩ (Drawn.mk 0 0 0 0) 187 os)) (restOf b env cB (Pos.mk 0 0 0 0) [topFrame (Pos.mk 0 0 0 0)])) h_b).trans (Ex w os)))
theorem opened:∀ w:World,(fencedOpening treeTable PySem.Challenge.pw_roundmill_k66_words_of w 9316).map (fun s=>(s.heap,s.gens,s.drawn,s.toks))=some (boot_heap w.params,Array.mk [],boot_drawn,boot_toks):=boot_open (by kernel_rfl) ↥0 (fun s=>by kernel_rfl)
theorem he:∀ P,as=(K P).map (·.1):=fun _=>by kernel_rfl
theorem left:LeftO PySem.Challenge.pw_roundmill_k66_words_of q ["FORMS","NAME_ROWS","LONGEST_FIGURES"] Xt (kHook K as he).obs (kHook K as he).val 9316 :=
 LeftO.of_pieces opened Bl run ↥0 fun w=>funext fun os=>Prod.ext (congrFun (l_1 w) os) (Prod.ext (Prod.ext (congrFun (JI w) os) (Prod.ext (congrFun (JH w) os) (Prod.ext (congrFun (JG w) os) (Prod.ext (congrFun (JF w) os) (Prod.ext (congrFun (JE w) os) (Prod.ext (congrFun (JD w) os) (Prod.ext (congrFun (JC w) os) (Prod.ext (congrFun (JB w) os) (congrFun (JA w) os))))))))) (congrFun (l_k w) os))
end H
namespace EV
open PySem (Str)
theorem BK (k:Int):0<pw k:=Int.pow_pos ↥0
theorem eX:nb i<=k↔i.natAbs<2^k:=by
 unfold nb
 by_cases h:i=0
 ·subst h
  simp
  exact Nat.two_pow_pos k
 ·rw [if_neg h]
  have h0:i.natAbs≠0:=⋯
  rw [<- Nat.log2_lt h0]
  omega
theorem oW (i:Int):i.natAbs<2^nb i:=eX.mp ↥30
theorem kd (h:i.natAbs<=j.natAbs):nb i<=nb j:=eX.mpr (Nat.lt_of_le_of_lt h (oW j))
theorem v3 (hi:nb i<=a) (hj:nb j<=b):nb (i+j)<=max a b+1:=by
 rw [eX] at hi hj ⊢
 have h1:2^a<=2^max a b:=Nat.pow_le_pow_right ↥0 (Nat.le_max_left a b)
 have h2:2^b<=2^max a b:=Nat.pow_le_pow_right ↥0 (Nat.le_max_right a b)
 rw [Nat.pow_succ]
 omega
theorem vX (i:Int):nb (-i)=nb i:=Nat.le_antisymm (kd ⋯) (kd ⋯)
theorem Ct (hi:nb i<=a) (hj:nb j<=b):nb (i - j)<=max a b+1:=by
 rw [Int.sub_eq_add_neg]
 exact v3 hi (by rw [vX];exact hj)
theorem vY (hi:nb i<=a) (hj:nb j<=b):nb (i*j)<=a+b:=by
 rw [eX] at hi hj ⊢
 rw [Int.natAbs_mul,Nat.pow_add]
 rcases Nat.eq_zero_or_pos i.natAbs with h0 | h0
 ·rw [h0,Nat.zero_mul];exact Nat.mul_pos (Nat.two_pow_pos a) (Nat.two_pow_pos b)
 ·exact Nat.lt_of_lt_of_le (Nat.mul_lt_mul_of_pos_left hj h0) (Nat.mul_le_mul_right _ (Nat.le_of_lt hi))
theorem vZ (h:0<j) (hj:nb j<=b):nb (i%j)<=b:=by
 refine Nat.le_trans (kd ?_) hj
 have h1:=Int.emod_nonneg i (by omega:j≠0)
 have h2:=Int.emod_lt_of_pos i h
 omega
theorem oX {i j:Int} (h:0<j):(i / j).natAbs<=i.natAbs:=by
 have h3:i=j*(i / j)+i%j:=(Int.mul_ediv_add_emod i j).symm
 have h1:=Int.emod_nonneg i (by omega:j≠0)
 have h2:=Int.emod_lt_of_pos i h
 by_cases hi:0<=i
 ·have:=Int.ediv_nonneg hi (by omega:(0:Int)<=j)
  have:=Int.ediv_le_self j hi
  omega
 ·have h4:i / j<0:=Int.ediv_neg_of_neg_of_pos ⋯ h
  have h5:(j - 1)*(i / j)<=(j - 1)*(-1):=Int.mul_le_mul_of_nonneg_left ⋯ ⋯
  rw [Int.sub_mul,Int.one_mul] at h5
  generalize j*(i / j)=z at *
  omega
theorem Cy {i j:Int} {a:Nat} (h:0<j) (hi:nb i<=a):nb (i / j)<=a:=Nat.le_trans (kd (oX h)) hi
theorem MulOk.of (hi:nb i<=a) (hj:nb j<=b) (h:a+b<=134217728):MulOk i j:=by
 unfold MulOk
 omega
theorem l6.small (h:0<j) (hj:nb j<=9000):l6 i j:=⟨h,.inl hj⟩
theorem zC:nb i<=nb i:=Nat.le_refl _
theorem qS (h:nb i<=a):nb (-i)<=a:=by rw [vX];exact h
theorem Cv (hi:nb i<=a) (hj:nb j<=b):nb (max i j)<=max a b:=by
 rcases Int.le_total i j with h | h
 ·rw [Int.max_eq_right h];exact Nat.le_trans hj (Nat.le_max_right a b)
 ·rw [Int.max_eq_left h];exact Nat.le_trans hi (Nat.le_max_left a b)
theorem Cu (hi:nb i<=a) (hj:nb j<=b):nb (min i j)<=max a b:=by
 rcases Int.le_total i j with h | h
 ·rw [Int.min_eq_left h];exact Nat.le_trans hi (Nat.le_max_left a b)
 ·rw [Int.min_eq_right h];exact Nat.le_trans hj (Nat.le_max_right a b)
theorem Cw [Decidable p] (hi:nb i<=a) (hj:nb j<=b):nb (if p then i else j)<=max a b:=by
 split
 ·exact Nat.le_trans hi (Nat.le_max_left a b)
 ·exact Nat.le_trans hj (Nat.le_max_right a b)
theorem uL (h:nb i<=a) (h2:a<=b):nb i<=b:=Nat.le_trans h h2
theorem eC (h:MulOk i j):gm (.int i) (.int j)=.ok (.int (i*j)):=by unfold gm;simp only;rw [if_pos h]
theorem zw (h:l6 i j):oDiv (.int i) (.int j)=.ok (.int (i / j)):=by unfold oDiv;simp only;rw [if_pos h]
theorem da {i j:Int} (h:0<j):oMod (.int i) (.int j)=.ok (.int (i%j)):=by unfold oMod;simp only;rw [if_pos h]
theorem uE {i j:Int} (h:0<j) (h2:j<18446744073709551616):oDiv (.int i) (.int j)=.ok (.int (i / j)):=zw (l6.small h (by
 have:nb j<=64:=eX.mpr ⋯
 omega))
theorem zj {i j:Int} (h:0<=j):Fy (.int i) (.int j)=.ok (.int (i / pw j)):=by unfold Fy;simp only;rw [if_pos h]
theorem zk (h:0<=j) (h2:(nb i:Int)*j<=134217728):uo (.int i) (.int j)=.ok (.int (i^j.toNat)):=by unfold uo;simp only;rw [if_pos ⟨h,h2⟩]
section
variable {α β:Type} {d d':D} {δ:Dt} {C:String} {f:α->R β} {c:Option D}
theorem Ab (a:α):(R.ok a).bind f=f a:=rfl
theorem Ac:(R.ex C:R α).bind f=.ex C:=rfl
theorem vp:(R.bad:R α).bind f=.bad:=rfl
theorem vo {p:Prop} [Decidable p] (x y:R α):(if p then x else y).bind f=if p then x.bind f else y.bind f:=by split<;>rfl
theorem xU {s:S}:(O.nx δ).then s=s δ:=rfl
theorem xT {s:S}:(O.rt d).then s=.rt d:=rfl
theorem xX {s:S}:(O.ex C δ).then s=.ex C δ:=rfl
theorem xV {s:S}:(O.mk C δ).then s=.mk C δ:=rfl
theorem xW {s:S}:(O.hx C δ).then s=.hx C δ:=rfl
theorem xZ {s:S}:(O.bk δ).then s=.bk δ:=rfl
theorem xY {s:S}:(O.ct δ).then s=.ct δ:=rfl
theorem tV {s:S}:(O.bad).then s=.bad:=rfl
theorem tU {p:Prop} [Decidable p] (x y:O) {s:S}:(if p then x else y).then s=if p then x.then s else y.then s:=by split<;>rfl
theorem BE:(O.rt d).res=.ok d:=rfl
theorem BF:(O.nx δ).res=.ok .non:=rfl
theorem BI:(O.ex C δ).res=.ex C:=rfl
theorem BG:(O.mk C δ).res=.ex C:=rfl
theorem BH:(O.hx C δ).res=.ex C:=rfl
theorem yy:O.bad.res=.bad:=rfl
theorem yx {p:Prop} [Decidable p] (x y:O):(if p then x else y).res=if p then x.res else y.res:=by split<;>rfl
theorem Du {i:Nat}:asg i δ (.ok d)=.nx (δ.set i (some d)):=rfl
theorem Dv {i:Nat}:asg i δ (.ex C)=.ex C (noOwn δ):=rfl
theorem Ah {i:Nat} {p:Prop} [Decidable p] (x y:R D):asg i δ (if p then x else y)=if p then asg i δ x else asg i δ y:=by split<;>rfl
theorem AN:xpr δ (.ok d)=.nx δ:=rfl
theorem AO:xpr δ (.ex C)=.ex C (noOwn δ):=rfl
theorem xm {p:Prop} [Decidable p] (x y:R D):xpr δ (if p then x else y)=if p then xpr δ x else xpr δ y:=by split<;>rfl
theorem BC:rtn δ (.ok d)=.rt d:=rfl
theorem BD:rtn δ (.ex C)=.ex C (noOwn δ):=rfl
theorem yv {p:Prop} [Decidable p] (x y:R D):rtn δ (if p then x else y)=if p then rtn δ x else rtn δ y:=by split<;>rfl
theorem CT {b:Bool} {x y:O}:ifO δ (.ok (.bl b)) x y=if b=true then x else y:=by cases b<;>rfl
theorem CS {x y:O}:ifO δ (.ex C) x y=.ex C (noOwn δ):=rfl
theorem zK {p:Prop} [Decidable p] (u v:R D) {x y:O}:ifO δ (if p then u else v) x y=if p then ifO δ u x y else ifO δ v x y:=by split<;>rfl
theorem tR {b:Bool} {x y:R β}:truth (.bl b) x y=if b=true then x else y:=by cases b<;>rfl
theorem CL {p:Prop} [Decidable p] {a b:Bool}:(if p then R.ok (D.bl a) else R.ok (D.bl b))=R.ok (D.bl (if p then a else b)):=by split<;>rfl
theorem ite_int {p:Prop} [Decidable p] {a b:Int}:(if p then R.ok (D.int a) else R.ok (D.int b))=R.ok (D.int (if p then a else b)):=by split<;>rfl
theorem CO {p:Prop} [Decidable p] {b:Bool}:((if p then b else false)=true)=(p/\b=true):=by by_cases h:p<;>simp [h]
theorem CN {p:Prop} [Decidable p] {b:Bool}:((if p then true else b)=true)=(p\/b=true):=by by_cases h:p<;>simp [h]
theorem CM {p:Prop} [Decidable p]:((if p then false else true)=true)=¬ p:=by by_cases h:p<;>simp [h]
theorem AV:var 0 (none::δ)=.bad:=rfl
theorem xE {i:Int}:var 0 (some (.int i)::δ)=.ok (.int i):=rfl
theorem AU {b:Bool}:var 0 (some (.bl b)::δ)=.ok (.bl b):=rfl
theorem xA {x:PySem.Str}:var 0 (some (.str x)::δ)=.ok (.str x):=rfl
theorem xC:var 0 (some .non::δ)=.ok .non:=rfl
theorem xy {ds:List D}:var 0 (some (.tup ds)::δ)=.ok (.tup ds):=rfl
theorem xD {ds:List D}:var 0 (some (.lst ds)::δ)=.ok (.lst ds):=rfl
theorem xB {ds:List D}:var 0 (some (.own ds)::δ)=.bad:=rfl
theorem xG:var 0 (some (.exc C)::δ)=.ok (.exc C):=rfl
theorem xH:var 0 (some (.cls C)::δ)=.ok (.cls C):=rfl
theorem xF {fs:List (String×D)}:var 0 (some (.ins C fs)::δ)=.ok (.ins C fs):=rfl
theorem tD {n:Nat}:var (n+1) (c::δ)=var n δ:=rfl
theorem zT:evs [] δ=.ok []:=rfl
theorem vf {e:E} {es:List E}:evs (e::es) δ=(e δ).bind fun d=>(evs es δ).bind fun ds=>.ok (d::ds):=rfl
theorem uF {i j:Int}:aR (.int i) (.int j)=.ok (.int (i+j)):=rfl
theorem uk {i j:Int}:my (.int i) (.int j)=.ok (.int (i - j)):=rfl
theorem gQ {i:Int}:Ce (.int i)=.ok (.int (-i)):=rfl
theorem zp {i j:Int}:oLt (.int i) (.int j)=.ok (.bl (decide (i<j))):=rfl
theorem zq {i j:Int}:oLe (.int i) (.int j)=.ok (.bl (decide (i<=j))):=rfl
theorem zr {i j:Int}:oGt (.int i) (.int j)=.ok (.bl (decide (j<i))):=rfl
theorem zt {i j:Int}:oGe (.int i) (.int j)=.ok (.bl (decide (j<=i))):=rfl
theorem zv {i j:Int}:oEq (.int i) (.int j)=.ok (.bl (decide (i=j))):=by simp [oEq,D.cmp,D.sc,D.beq,Bool.beq_eq_decide_eq]
theorem zo {i j:Int}:oNe (.int i) (.int j)=.ok (.bl (decide (i≠j))):=by simp [oNe,D.cmp,D.sc,D.beq,Bool.beq_eq_decide_eq]
theorem zu {i j:PySem.Str}:oEq (.str i) (.str j)=.ok (.bl (decide (i=j))):=by simp [oEq,D.cmp,D.sc,D.beq,Bool.beq_eq_decide_eq]
theorem zm {i j:PySem.Str}:oNe (.str i) (.str j)=.ok (.bl (decide (i≠j))):=by simp [oNe,D.cmp,D.sc,D.beq,Bool.beq_eq_decide_eq]
theorem Ci {i j:Bool}:oEq (.bl i) (.bl j)=.ok (.bl (decide (i=j))):=by simp [oEq,D.cmp,D.sc,D.beq,Bool.beq_eq_decide_eq]
theorem ux:Au .non=.ok ↥34:=rfl
theorem qA:oO .non=.ok ↥14:=rfl
theorem uA:Au (.exc C)=.ok ↥14:=rfl
theorem qD:oO (.exc C)=.ok ↥34:=rfl
theorem uz {i:Int}:Au (.int i)=.ok ↥14:=rfl
theorem qC {i:Int}:oO (.int i)=.ok ↥34:=rfl
theorem vt {i j:Int}:HD [.int i,.int j]=.ok (.int (max i j)):=by
 unfold HD;simp only;congr 2;omega
theorem vq {i j:Int}:HC [.int i,.int j]=.ok (.int (min i j)):=by
 unfold HC;simp only;congr 2;omega
theorem vy {i:Int}:J4 [.int i]=.ok (.int (if i<0 then -i else i)):=rfl
theorem fj {ds:List D}:b5 [.lst ds]=.ok (.int ds.length):=rfl
theorem vv {ds:List D}:b5 [.tup ds]=.ok (.int ds.length):=rfl
theorem vx {i:Int}:sG [.int i]=.ok (.int i):=rfl
theorem Af {k:Bool}:sG [.bl k]=.ok (.int (if k then 1 else 0)):=rfl
theorem mY {i:Int}:Ag [.int i]=.ok (.int (nb i)):=rfl
theorem si {ds:List D}:Ds [.lst ds]=.ok (.lst ds):=rfl
theorem sh {ds:List D}:Ds [.tup ds]=.ok (.lst ds):=rfl
theorem mJ {i:Int}:gJ [.int i,.ty "int"]=.ok ↥34:=rfl
theorem lD {i:Int}:gJ [.int i,.ty "bool"]=.ok ↥14:=rfl
theorem mH {ds:List D}:gJ [.tup ds,.ty "tuple"]=.ok ↥34:=rfl
theorem iF {ds:List D}:gJ [.lst ds,.ty "list"]=.ok ↥34:=rfl
theorem jF:gJ [.exc C,.ty "ValueError"]=if af.contains C then .ok ↥34 else .bad:=by
 show (if (af.contains C&&("ValueError" == "ValueError"))=true then _ else _)=_
 rw [show ("ValueError" == "ValueError")=true from rfl,Bool.and_true]
theorem iG {B:String}:gJ [.exc C,.cls B]=if af.contains C&&af.contains B then .ok (.bl (C == B||B == "MillError")) else .bad:=rfl
theorem mI {B:String}:gJ [.non,.cls B]=if af.contains B then .ok ↥14 else .bad:=rfl
theorem Be {k:S}:trn (.nx δ) k=k δ:=rfl
theorem Bi {k:S}:trn (.ct δ) k=k δ:=rfl
theorem Bj {k:S}:trn (.bk δ) k=.nx δ:=rfl
theorem Bd {k:S}:trn (.rt d) k=.rt d:=rfl
theorem Bh {k:S}:trn (.ex C δ) k=.ex C δ:=rfl
theorem Bf {k:S}:trn (.mk C δ) k=.mk C δ:=rfl
theorem Bg {k:S}:trn (.hx C δ) k=.hx C δ:=rfl
theorem xS {p:Prop} [Decidable p] (x y:O) {k:S}:trn (if p then x else y) k=if p then trn x k else trn y k:=by split<;>rfl
theorem u7:forL i b [] δ=.nx δ:=rfl
theorem iL:forL i b (d::ds) δ=trn (b (δ.set i (some d))) (forL i b ds):=rfl
theorem B3 {ds:List D} {k:List D->O}:ovL δ (.ok (.lst ds)) k=k ds:=rfl
theorem B2 {ds:List D} {k:List D->O}:ovT δ (.ok (.tup ds)) k=k ds:=rfl
theorem xQ {B:String} {i:Nat} {s:S}:vG (.nx δ) B i s=.nx δ:=rfl
theorem xR {B:String} {i:Nat} {s:S}:vG (.ex C δ) B i s=if ko C B then forget i (s ((noOwn δ).set i (some (.exc C)))) else .bad:=rfl
theorem tQ {p:Prop} [Decidable p] (x y:O) {B:String} {i:Nat} {s:S}:vG (if p then x else y) B i s=if p then vG x B i s else vG y B i s:=by split<;>rfl
theorem rA {i:Nat}:forget i (.nx δ)=.nx (δ.set i none):=rfl
theorem qK:noOwn []=[]:=rfl
theorem oR:noOwn (none::δ)=none::noOwn δ:=rfl
theorem qM {i:Int}:noOwn (some (.int i)::δ)=some (.int i)::noOwn δ:=rfl
theorem uK {i:Bool}:noOwn (some (.bl i)::δ)=some (.bl i)::noOwn δ:=rfl
theorem qH {i:PySem.Str}:noOwn (some (.str i)::δ)=some (.str i)::noOwn δ:=rfl
theorem qJ:noOwn (some .non::δ)=some .non::noOwn δ:=rfl
theorem qF {ds:List D}:noOwn (some (.tup ds)::δ)=some (.tup ds)::noOwn δ:=rfl
theorem qL {ds:List D}:noOwn (some (.lst ds)::δ)=some (.lst ds)::noOwn δ:=rfl
theorem qO:noOwn (some (.exc C)::δ)=some (.exc C)::noOwn δ:=rfl
theorem jK {C:String}:ko C "MillError"=af.contains C:=by simp [ko]
end
theorem jD {ds:List D} {k:Nat} {d:D} (h:ds[k]? = some d):oIx (.tup ds) (.int k)=.ok d:=by
 obtain ⟨hk,he⟩:=List.getElem?_eq_some_iff.mp h
 unfold oIx ixN
 simp [he,hk]
theorem lC {k:Nat} (h:ds[k]? = some d):oIx (.lst ds) (.int k)=.ok d:=by
 obtain ⟨hk,he⟩:=List.getElem?_eq_some_iff.mp h
 unfold oIx ixN
 simp [he,hk]
section
variable {a b c d e:D} {r:List D}
theorem ix0:oIx (.tup (a::r)) (.int 0)=.ok a:=jD (k:=0) rfl
theorem ix1:oIx (.tup (a::b::r)) (.int 1)=.ok b:=jD (k:=1) rfl
theorem ix2:oIx (.tup (a::b::c::r)) (.int 2)=.ok c:=jD (k:=2) rfl
theorem ix3:oIx (.tup (a::b::c::d::r)) (.int 3)=.ok d:=jD (k:=3) rfl
theorem JM:oIx (.lst (a::r)) (.int 0)=.ok a:=lC (k:=0) rfl
theorem JL:oIx (.lst (a::b::r)) (.int 1)=.ok b:=lC (k:=1) rfl
theorem JK:oIx (.lst (a::b::c::r)) (.int 2)=.ok c:=lC (k:=2) rfl
end
theorem J1 {m:Nat} {gg:S}:fn 0 m gg []=(gg (List.replicate m none)).res:=rfl
theorem J0 {m:Nat} {gg:S} {a:D}:fn 1 m gg [a]=(gg (some a::List.replicate (m - 1) none)).res:=rfl
theorem JZ {m:Nat} {gg:S} {a b:D}:fn 2 m gg [a,b]=(gg (some a::some b::List.replicate (m - 2) none)).res:=rfl
theorem JY {m:Nat} {gg:S} {a b c:D}:fn 3 m gg [a,b,c]=(gg (some a::some b::some c::List.replicate (m - 3) none)).res:=rfl
theorem JX {m:Nat} {gg:S} {a b c d:D}:fn 4 m gg [a,b,c,d]=(gg (some a::some b::some c::some d::List.replicate (m - 4) none)).res:=rfl
theorem JW {m:Nat} {gg:S} {a b c d e:D}:fn 5 m gg [a,b,c,d,e]=(gg (some a::some b::some c::some d::some e::List.replicate (m - 5) none)).res:=rfl
theorem JV {m:Nat} {gg:S} {a b c d e f:D}:fn 6 m gg [a,b,c,d,e,f]=(gg (some a::some b::some c::some d::some e::some f::List.replicate (m - 6) none)).res:=rfl
theorem JU {m:Nat} {gg:S} {a b c d e f g:D}:fn 7 m gg [a,b,c,d,e,f,g]=(gg (some a::some b::some c::some d::some e::some f::some g::List.replicate (m - 7) none)).res:=rfl
theorem JT {m:Nat} {gg:S} {a b c d e f g h:D}:fn 8 m gg [a,b,c,d,e,f,g,h]=(gg (some a::some b::some c::some d::some e::some f::some g::some h::List.replicate (m - 8) none)).res:=rfl
section
variable {α β:Type} {a:α} {l:List α} {n:Nat} {p:Prop} {x y:α}
theorem ou:(a::l).length=l.length+1:=rfl
theorem pL:([]:List α).length=0:=rfl
theorem pM {f:α->β}:(l.map f).length=l.length:=List.length_map f
theorem oq {f:α->β}:(a::l).map f=f a::l.map f:=rfl
theorem pK {f:α->β}:([]:List α).map f=[]:=rfl
theorem wW:(a::l).set 0 x=x::l:=rfl
theorem wV:(a::l).set (n+1) x=a::l.set n x:=rfl
theorem wY:List.replicate 0 a=[]:=rfl
theorem wX:List.replicate (n+1) a=a::List.replicate n a:=rfl
theorem AI:0+n=n:=Nat.zero_add n
theorem AF:(if True then x else y)=x:=if_pos trivial
theorem AG:(if False then x else y)=y:=if_neg id
theorem HJ:(false=true)=False:=by simp
theorem HG:(true=true)=True:=by simp
theorem wZ:(!true)=false:=rfl
theorem xa:(!false)=true:=rfl
theorem DM [Decidable p]:(decide p=true)=p:=decide_eq_true_eq
theorem xc [Decidable True]:decide True=true:=by simp
theorem xf [Decidable False]:decide False=false:=by simp
theorem xg:(p/\True)=p:=by simp
theorem wU:(True/\p)=p:=by simp
theorem xh:(p/\False)=False:=by simp
theorem xb:(False/\p)=False:=by simp
theorem AD:(p\/True)=True:=by simp
theorem AB:(True\/p)=True:=by simp
theorem AE:(p\/False)=p:=by simp
theorem AH:(False\/p)=p:=by simp
theorem HH:(¬ True)=False:=by simp
theorem HI:(¬ False)=True:=by simp
end
section
variable {a b c:E} {s t:S} {δ:Dt} {i:Nat} {f h:D->D->R D} {k:D->R D} {es:List E} {F:List D->R D} {d:D} {C:String}
theorem DR:seq s t δ=(s δ).then t:=rfl
theorem tN:assign i a δ=asg i δ (a δ):=rfl
theorem DS:ret a δ=rtn δ (a δ):=rfl
theorem AY:DF a δ=rtn δ (a (view δ)):=rfl
theorem DY:ifs a s t δ=ifO δ (a δ) (s δ) (t δ):=rfl
theorem A8:expr a δ=xpr δ (a δ):=rfl
theorem xI:raise C δ=.mk C δ:=rfl
theorem A0:aK δ=.nx δ:=rfl
theorem AZ:Ij δ=.rt .non:=rfl
theorem Eb:brk δ=.bk δ:=rfl
theorem A9:cont δ=.ct δ:=rfl
theorem Ea:con d δ=.ok d:=rfl
theorem Ec:bin f a b δ=(a δ).bind fun x=>(b δ).bind fun y=>f x y:=rfl
theorem HL:un k a δ=(a δ).bind k:=rfl
theorem Ed:pH a b δ=(a δ).bind fun d=>truth d (b δ) (.ok ↥14):=rfl
theorem HM:or_ a b δ=(a δ).bind fun d=>truth d (.ok ↥34) (b δ):=rfl
theorem DT:gR a δ=(a δ).bind fun d=>truth d (.ok ↥14) (.ok ↥34):=rfl
theorem DZ:ife c a b δ=(c δ).bind fun d=>truth d (a δ) (b δ):=rfl
theorem xN:chain f h a b c δ=(a δ).bind fun x=>(b δ).bind fun y=>(f x y).bind fun d=>truth d ((c δ).bind fun z=>h y z) (.ok ↥14):=rfl
theorem DP:kF es δ=(evs es δ).bind fun ds=>.ok (.tup ds):=rfl
theorem DV:iD es δ=(evs es δ).bind fun ds=>.ok (.lst ds):=rfl
theorem Bc:call F es δ=(evs es δ).bind F:=rfl
theorem DQ:DB s C i t δ=vG (s δ) C i t:=rfl
theorem xK:E8 i a s δ=ovL δ (a δ) fun ds=>forL i s ds δ:=rfl
theorem xJ:E7 i a s δ=ovT δ (a δ) fun ds=>forL i s ds δ:=rfl
theorem xM:E9 i a s δ=ovR δ (a δ) fun ds=>forL i s ds δ:=rfl
end
theorem kN:af.contains "MillError"=true:=by decide
theorem kI:af.contains "NoSize"=true:=by decide
theorem kM:af.contains "NoBits"=true:=by decide
theorem jq:af.contains "NoParts"=true:=by decide
theorem kJ:af.contains "NoRank"=true:=by decide
theorem gh:af.contains "NotFinite"=true:=by decide
theorem nc:af.contains "NoWay"=true:=by decide
theorem jr:af.contains "NoFlags"=true:=by decide
theorem eP:af.contains "NoFraction"=true:=by decide
theorem kG:af.contains "Unlike"=true:=by decide
theorem ng:af.contains "Empty"=true:=by decide
theorem kL:af.contains "NoLeft"=true:=by decide
theorem kH:af.contains "NoText"=true:=by decide
theorem eO:af.contains "NoRow"=true:=by decide
theorem kK:af.contains "NoName"=true:=by decide
theorem jo:af.contains "Stopped"=true:=by decide
section
variable {α:Type} {b:Bool} {ds es:List D} {i:Nat} {it:IT} {g h:E} {s:S} {δ:Dt} {C:String} {ks:List Nat} {k:List D->O} {x:D} {fs:List (String×D)} {F:List D->R D} {gs:List E} {cn m f:String}
theorem xk:(b&&true)=b:=by simp
theorem xi:(true&&b)=b:=by simp
theorem xj:(false&&b)=false:=by simp
theorem xl:(b&&false)=false:=by simp
theorem AL:(b||false)=b:=by simp
theorem AM:(false||b)=b:=by simp
theorem AJ:(true||b)=true:=by simp
theorem AK:(b||true)=true:=by simp
theorem vE:u9 i it s δ=ovI δ (it δ) fun ds=>forL i s ds δ:=rfl
theorem nH:ovI δ (.ok ds) k=k ds:=rfl
theorem B4:ovI δ (.ex C) k=.ex C (noOwn δ):=rfl
theorem DX:itL g δ=(g δ).bind asL:=rfl
theorem DW:itT g δ=(g δ).bind asT:=rfl
theorem A6:pF g δ=(g δ).bind Aj:=rfl
theorem A5:Ay g h δ=(evs [g,h] δ).bind Az:=rfl
theorem Ak:asL (.lst ds)=.ok ds:=rfl
theorem Ai:asT (.tup ds)=.ok ds:=rfl
theorem fk {n:Int} (h0 : -4611686018427387904<=n) (h1:n<4611686018427387904):Aj (.int n)=.ok (d9 0 n):=by unfold Aj;simp only;rw [if_pos ⟨h0,h1⟩]
theorem om {n m:Int} (h0 : -4611686018427387904<=n) (h1:n<4611686018427387904) (h2 : -4611686018427387904<=m) (h3:m<4611686018427387904):Az [.int n,.int m]=.ok (d9 n m):=by unfold Az;simp only;rw [if_pos ⟨h0,h1,h2,h3⟩]
theorem Bb:comp it ks g δ=(it δ).bind fun ds=>if ds.length<=100000 then (runC (stC (con ↥34) g ks δ) ds).bind gH else .bad:=rfl
theorem tM:dF it ks g h δ=(it δ).bind fun ds=>if ds.length<=100000 then (runC (stC g h ks δ) ds).bind gH else .bad:=rfl
theorem A2:Jz cn m F g gs δ=(g δ).bind fun d=>if jG cn m d then (evs gs δ).bind fun ds=>F (d::ds) else .bad:=rfl
theorem DU:mk1 cn f [x]=.ok (.ins cn [(f,x)]):=rfl
theorem J2:DH cn f (.ins cn ((f,x)::fs))=.ok x:=by simp [DH]
theorem im1:jG cn m (.ins cn [(f,x)])=(m != f):=by
 have:jG cn m (.ins cn [(f,x)])=((cn == cn)&&(List.lookup m [(f,x)]).isNone):=rfl
 rw [this,List.lookup_cons]
 cases e:(m == f)<;>simp [e,bne]
theorem qN:noOwn (some (.ins C fs)::δ)=some (.ins C fs)::noOwn δ:=rfl
theorem sj {d:D}:vw [d,.tup ds]=cE d ds:=rfl
theorem pd {d:D}:cE d []=.ok ↥14:=rfl
theorem mK {d c:D}:cE d (c::ds)=(gJ [d,c]).bind fun x=>truth x (.ok ↥34) (cE d ds):=rfl
theorem pb {n:String}:gJ [.non,.ty n]=if ["int","bool","str","tuple","list","ValueError"].contains n then .ok ↥14 else .bad:=rfl
theorem uv:Au (.tup ds)=.ok ↥14:=rfl
theorem qy:oO (.tup ds)=.ok ↥34:=rfl
theorem uy:Au (.lst ds)=.ok ↥14:=rfl
theorem qB:oO (.lst ds)=.ok ↥34:=rfl
theorem uw {z:PySem.Str}:Au (.str z)=.ok ↥14:=rfl
theorem qz {z:PySem.Str}:oO (.str z)=.ok ↥34:=rfl
end
theorem lq {x y:String} (h:(PySem.Str.ofString x)=PySem.Str.ofString y):x=y:=by
 rw [PySem.Str.ofString_eq_toList,PySem.Str.ofString_eq_toList] at h
 have h1:(x.toList.map Char.toNat).toArray=(y.toList.map Char.toNat).toArray:=congrArg PySem.Str.cps h
 have h2:x.toList.map Char.toNat=y.toList.map Char.toNat:=by simpa using h1
 have h3:∀ (l m:List Char),l.map Char.toNat=m.map Char.toNat->l=m:=by
  intro l
  induction l with
  | nil=>intro m e;cases m with | nil=>rfl | cons _ _=>cases e
  | cons c r ih =>
   intro m e
   cases m with
   | nil=>cases e
   | cons c' r' =>
    rw [List.map_cons,List.map_cons,List.cons.injEq] at e
    rw [Char.ext (UInt32.toNat_inj.mp e.1),ih r' e.2]
 exact String.toList_inj.mp (h3 _ _ h2)
theorem uh {x y:String}:((PySem.Str.ofString x)=PySem.Str.ofString y)=(x=y):=propext ⟨lq,fun e=>by rw [e]⟩
theorem uD {a b c d:Int}:oEq (.tup [.int a,.int b]) (.tup [.int c,.int d])=.ok (.bl (decide (a=c/\b=d))):=by
 simp [oEq,D.cmp,D.sc,D.pl,D.beq,D.beqs,Bool.beq_eq_decide_eq]
theorem uu {a b c d:Int}:oNe (.tup [.int a,.int b]) (.tup [.int c,.int d])=.ok (.bl (!decide (a=c/\b=d))):=by
 simp [oNe,D.cmp,D.sc,D.pl,D.beq,D.beqs,Bool.beq_eq_decide_eq]
theorem uC {a b c d e f:Int}:oEq (.tup [.int a,.int b,.int e]) (.tup [.int c,.int d,.int f])=.ok (.bl (decide (a=c/\b=d/\e=f))):=by
 simp [oEq,D.cmp,D.sc,D.pl,D.beq,D.beqs,Bool.beq_eq_decide_eq]
theorem ur {a b c d e f:Int}:oNe (.tup [.int a,.int b,.int e]) (.tup [.int c,.int d,.int f])=.ok (.bl (!decide (a=c/\b=d/\e=f))):=by
 simp [oNe,D.cmp,D.sc,D.pl,D.beq,D.beqs,Bool.beq_eq_decide_eq]
theorem zB {p:Prop} [Decidable p]:((!decide p)=true)=¬ p:=by simp
theorem A7 {g:E} {δ:Dt}:itA g δ=(g δ).bind asA:=rfl
theorem sr {ds:List D}:asA (.lst ds)=.ok ds:=rfl
theorem Al {ds:List D}:asA (.tup ds)=.ok ds:=rfl
theorem hU {a:E} {lo hi:Option E} {δ:Dt}:slc a lo hi δ=(a δ).bind fun d=>(part lo δ).bind fun l=>(part hi δ).bind fun h=>oSl d l h:=rfl
theorem aJ {δ:Dt}:part none δ=.ok none:=rfl
theorem nG {i:Int} {δ:Dt}:part (some (con (.int i))) δ=.ok (some i):=rfl
theorem cC {ds:List D} {lo hi:Option Int}:oSl (.lst ds) lo hi=.ok (.lst (cut ds lo hi)):=rfl
theorem iE {x:PySem.Str}:gJ [.str x,.ty "str"]=.ok ↥34:=rfl
theorem uq {a b c x y z:Int}:oNe (.tup [.int a,.int b,.int c]) (.tup [.int x,.int y,.int z])=.ok (.bl (decide (¬ (a=x/\b=y/\c=z)))):=by
 unfold oNe
 rw [if_pos (show D.cmp _ _=true from rfl)]
 congr 2
 simp only [D.beq,D.beqs]
 by_cases h1:a=x<;>by_cases h2:b=y<;>by_cases h3:c=z<;>simp [h1,h2,h3]
theorem uB {a b c x y z:Int}:oEq (.tup [.int a,.int b,.int c]) (.tup [.int x,.int y,.int z])=.ok (.bl (decide (a=x/\b=y/\c=z))):=by
 unfold oEq
 rw [if_pos (show D.cmp _ _=true from rfl)]
 congr 2
 simp only [D.beq,D.beqs]
 by_cases h1:a=x<;>by_cases h2:b=y<;>by_cases h3:c=z<;>simp [h1,h2,h3]
theorem zh {a b:String}:(PySem.Str.ofString a=PySem.Str.ofString b)=(a=b):=by
 apply propext
 constructor
 ·intro h
  rw [PySem.Str.ofString_eq_toList,PySem.Str.ofString_eq_toList] at h
  have h1:a.toList.map Char.toNat=b.toList.map Char.toNat:=by
   have:=congrArg (fun z:PySem.Str=>z.cps.toList) h
   simpa using this
  have h2:a.toList=b.toList:=by
   refine List.map_inj_right (f:=Char.toNat) (fun x y e => ?_) |>.mp h1
   exact Char.toNat_inj.mp e
  exact String.toList_inj.mp h2
 ·intro h;rw [h]
theorem Cg {cn f:String} {d:D}:DH cn f (.ins cn [(f,d)])=.ok d:=by simp [DH,List.lookup]
theorem uX {cn m f:String} {d:D}:jG cn m (.ins cn [(f,d)]) = !(m == f):=by
 unfold jG
 cases h:m == f<;>simp [List.lookup,h]
theorem CC {cn f:String} {d:D}:mk1 cn f [d]=.ok (.ins cn [(f,d)]):=rfl
theorem uW:(!false)=true:=rfl
theorem A4 {g h k:E}:JO g h k δ=(evs [g,h,k] δ).bind DJ:=rfl
theorem vA {n m c:Int} (h : -1099511627776<=n/\n<1099511627776 /\ -1099511627776<=m/\m<1099511627776) (h0:0<c) (h1:c<1048576):DJ [.int n,.int m,.int c]=.ok (Fu n m c):=by unfold DJ;simp only;rw [if_pos ⟨h,h0,h1⟩]
theorem tK {i:Nat}:qs i δ=.nx (δ.set i (some (.own []))):=rfl
theorem tL {i:Nat} {g:E}:iw i g δ=eB i δ fun ds=>wM i δ ds (g (view δ)):=rfl
theorem tJ {i:Nat}:B1 i δ=eB i δ fun ds=>.nx (δ.set i (some (.own ds.reverse))):=rfl
theorem ze {ds:List D} {l:Dt} {f:List D->O}:eB 0 (some (.own ds)::l) f=f ds:=rfl
theorem zd {i:Nat} {c:Option D} {l:Dt} {f:List D->O}:eB (i+1) (c::l) f=eB i l f:=rfl
theorem su {i:Nat} {ds:List D} {d:D} (h:D.flat d=true) (h2:ds.length<100000):wM i δ ds (.ok d)=.nx (δ.set i (some (.own (ds++[d])))):=by unfold wM;simp only;rw [if_pos ⟨h,h2⟩]
theorem Am {i:Nat} {ds:List D}:wM i δ ds (.ex C)=.ex C (noOwn δ):=rfl
theorem pU {i:Nat} {s:S}:ED i s δ=s (pub i δ):=rfl
theorem yD {ds:List D} {l:Dt}:pub 0 (some (.own ds)::l)=some (.lst ds)::l:=rfl
theorem yC {i:Nat} {c:Option D} {l:Dt}:pub (i+1) (c::l)=c::pub i l:=by
 unfold pub
 rw [List.getElem?_cons_succ]
 split<;>rename_i q
 ·rw [q];rfl
 ·rfl
theorem qI {ds:List D}:noOwn (some (.own ds)::δ)=none::noOwn δ:=rfl
theorem tf:view []=[]:=rfl
theorem pS:view (none::δ)=none::view δ:=rfl
theorem jT {ds:List D}:view (some (.own ds)::δ)=some (.lst ds)::view δ:=rfl
theorem tm {i:Int}:view (some (.int i)::δ)=some (.int i)::view δ:=rfl
theorem xw {i:Bool}:view (some (.bl i)::δ)=some (.bl i)::view δ:=rfl
theorem sZ {i:PySem.Str}:view (some (.str i)::δ)=some (.str i)::view δ:=rfl
theorem td  : view (some (.non)::δ)=some (.non)::view δ:=rfl
theorem sY {ds:List D}:view (some (.tup ds)::δ)=some (.tup ds)::view δ:=rfl
theorem tj {ds:List D}:view (some (.lst ds)::δ)=some (.lst ds)::view δ:=rfl
theorem tu  : view (some (.exc C)::δ)=some (.exc C)::view δ:=rfl
theorem tq {fs:List (String×D)}:view (some (.ins C fs)::δ)=some (.ins C fs)::view δ:=rfl
theorem dq {i:Nat} {g:E}:fW i g δ=wL i δ (g (view δ)):=rfl
theorem vz {i:Nat} {n:Int}:wL i δ (.ok (.int n))=.nx (δ.set i (some (.int n))):=rfl
theorem hV {c:E} {a b:S}:mL c a b δ=ifO δ (c (view δ)) (a δ) (b δ):=rfl
theorem pV {i:Nat} {g:E}:yO i g δ=yb i δ (g (view δ)):=rfl
theorem dO {i:Nat} {rs:List D}:yb i δ (.ok (.lst rs))=.nx (δ.set i (some (.own rs))):=rfl
theorem tH {i:Nat} {a b:E}:B0 i a b δ=eB i δ fun ds=>DC i δ ds (b (view δ)) (a (view δ)):=rfl
theorem yr {i:Nat} {ds:List D} {d:D} {k:Int} (h:D.flat d=true) (h0:0<=k) (h1:k<ds.length):DC i δ ds (.ok d) (.ok (.int k))=.nx (δ.set i (some (.own (ds.set k.toNat d)))):=by unfold DC;simp only;rw [if_pos ⟨h,h0,h1⟩]
theorem cO {i:Nat} {g:E}:eA i g δ=yb i δ (g δ):=rfl
theorem aI {a b:Prop} (x:a) (y:b):a/\b:=⟨x,y⟩
def EvS:=aI @da<|aI @uE<|aI @zj<|aI @Ac<|aI @vp<|aI @vo<|aI @xU<|aI @xT<|aI @xX<|aI @xV<|aI @xW<|aI @xZ<|aI @xY<|aI @tV<|aI @tU<|aI @BE<|aI @BF<|aI @BI<|aI @BG<|aI @BH<|aI @yy<|aI @yx<|aI @Dv<|aI @Ah<|aI @AN<|aI @AO<|aI @xm<|aI @BC<|aI @BD<|aI @yv<|aI @CT<|aI @CS<|aI @zK<|aI @tR<|aI @CL<|aI @ite_int<|aI @CO<|aI @CN<|aI @CM<|aI @AV<|aI @xB<|aI @xG<|aI @xH<|aI @xF<|aI @uF<|aI @uk<|aI @gQ<|aI @zp<|aI @zq<|aI @zr<|aI @zt<|aI @zv<|aI @zo<|aI @zu<|aI @zm<|aI @Ci<|aI @ux<|aI @qA<|aI @uA<|aI @qD<|aI @uz<|aI @qC<|aI @vt<|aI @vq<|aI @vy<|aI @fj<|aI @vv<|aI @vx<|aI @Af<|aI @mY<|aI @si<|aI @sh<|aI @mJ<|aI @lD<|aI @mH<|aI @iF<|aI @jF<|aI @iG<|aI @mI<|aI @Be<|aI @Bi<|aI @Bj<|aI @Bd<|aI @Bh<|aI @Bf<|aI @Bg<|aI @xS<|aI @B3<|aI @B2<|aI @xQ<|aI @xR<|aI @tQ<|aI @rA<|aI @qK<|aI @oR<|aI @qM<|aI @uK<|aI @qH<|aI @qJ<|aI @qF<|aI @qL<|aI @qO<|aI @jK<|aI @ix0<|aI @ix1<|aI @ix2<|aI @ix3<|aI @JM<|aI @JL<|aI @JK<|aI @ou<|aI @pL<|aI @pM<|aI @wY<|aI @wX<|aI @AI<|aI @AF<|aI @AG<|aI @HJ<|aI @HG<|aI @wZ<|aI @xa<|aI @DM<|aI @xc<|aI @xf<|aI @xg<|aI @wU<|aI @xh<|aI @xb<|aI @AD<|aI @AB<|aI @AE<|aI @AH<|aI @HH<|aI @HI<|aI @DS<|aI @AY<|aI @DY<|aI @A8<|aI @xI<|aI @A0<|aI @AZ<|aI @Eb<|aI @A9<|aI @Ed<|aI @HM<|aI @DT<|aI @DZ<|aI @xN<|aI @DP<|aI @DV<|aI @Bc<|aI @DQ<|aI @xK<|aI @xJ<|aI @xM<|aI @kN<|aI @kI<|aI @kM<|aI @jq<|aI @kJ<|aI @gh<|aI @nc<|aI @jr<|aI @eP<|aI @kG<|aI @ng<|aI @kL<|aI @kH<|aI @eO<|aI @kK<|aI @jo<|aI @xk<|aI @xi<|aI @xj<|aI @xl<|aI @AL<|aI @AM<|aI @AJ<|aI @AK<|aI @vE<|aI @nH<|aI @B4<|aI @DX<|aI @DW<|aI @A6<|aI @A5<|aI @Ak<|aI @Ai<|aI @fk<|aI @om<|aI @Bb<|aI @tM<|aI @A2<|aI @DU<|aI @J2<|aI @im1<|aI @qN<|aI @sj<|aI @pd<|aI @mK<|aI @pb<|aI @uv<|aI @qy<|aI @uy<|aI @qB<|aI @uw<|aI @qz<|aI @uh<|aI @uD<|aI @uu<|aI @uC<|aI @ur<|aI @zB<|aI @A7<|aI @sr<|aI @Al<|aI @hU<|aI @aJ<|aI @nG<|aI @cC<|aI @iE<|aI @uq<|aI @uB<|aI @zh<|aI @Cg<|aI @uX<|aI @CC<|aI @uW<|aI @A4<|aI @vA<|aI @tK<|aI @tL<|aI @tJ<|aI @ze<|aI @zd<|aI @su<|aI @Am<|aI @pU<|aI @yD<|aI @yC<|aI @qI<|aI @tf<|aI @pS<|aI @jT<|aI @tm<|aI @xw<|aI @sZ<|aI @td<|aI @sY<|aI @tj<|aI @tu<|aI @tq<|aI @dq<|aI @vz<|aI @hV<|aI @pV<|aI @dO<|aI @tH<|aI @yr <| @cO
theorem kj (I:Dt->Prop):∀ (ds:List D),(∀ d∈ds,∀ δ,I δ->∃ δ',(body (δ.set i (some d))=.nx δ'\/body (δ.set i (some d))=.ct δ')/\I δ')->∀ δ,I δ->∃ δ',forL i body ds δ=.nx δ'/\I δ'
 | [],_,δ,h=>⟨δ,rfl,h⟩
 | d::ds,hs,δ,h=>by
  obtain ⟨δ1,e1,h1⟩:=hs d (.head _) δ h
  obtain ⟨δ2,e2,h2⟩:=kj I ds (fun d hd=>hs d (.tail _ hd)) δ1 h1
  refine ⟨δ2,?_,h2⟩
  rw [iL]
  rcases e1 with e1 | e1<;>rw [e1]<;>exact e2
theorem eW (h:xs.length+ys.length<=100000):aR (.lst xs) (.lst ys)=.ok (.lst (xs++ys)):=by unfold aR;simp only;rw [if_pos h]
end EV
local macro_rules | `(tactic| walk_at "pos")=>`(tactic| first | (with_reducible assumption) | decide +kernel | (with_reducible exact EV.BK _) | omega)
local macro_rules | `(tactic| walk_at "nb")=>`(tactic| first
 | (with_reducible assumption)
 | ((with_reducible apply EV.v3)<;>walk_at "nb")
 | ((with_reducible apply EV.Ct)<;>walk_at "nb")
 | ((with_reducible apply EV.vY)<;>walk_at "nb")
 | ((with_reducible apply EV.qS)<;>walk_at "nb")
 | ((with_reducible apply EV.vZ);(walk_at "pos");(walk_at "nb"))
 | ((with_reducible apply EV.Cy);(walk_at "pos");(walk_at "nb"))
 | ((with_reducible apply EV.Cv)<;>walk_at "nb")
 | ((with_reducible apply EV.Cu)<;>walk_at "nb")
 | ((with_reducible apply EV.Cw)<;>walk_at "nb")
 | exact EV.zC)
/- nb e<=a number -/
local macro_rules | `(tactic| walk_at "nbk")=>`(tactic| exact EV.uL (by walk_at "nb") ↥24)
local macro_rules | `(tactic| walk_at "mul")=>`(tactic| exact EV.MulOk.of (by walk_at "nb") (by walk_at "nb") ↥24)
local macro_rules | `(tactic| simp_arith [$ls,*])=>`(tactic| simp only [EV.EvS,EV.tD,EV.wV,EV.xE,EV.AU,EV.xA,EV.xC,EV.xy,EV.xD,EV.wW,EV.Ea,EV.zT,EV.vf,EV.Ec,EV.HL,EV.Ab,EV.DR,EV.tN,EV.Du,EV.oq,EV.pK,EV.J1,EV.J0,EV.JZ,EV.JY,EV.JX,EV.JW,EV.JV,EV.JU,EV.JT,reduceIte,Nat.reduceAdd,Nat.reduceSub,Int.reduceAdd,Int.reduceSub,Int.reduceMul,Int.reduceNeg,Int.reducePow,Int.reduceLT,Int.reduceLE,Int.reduceGT,Int.reduceGE,Int.reduceEq,Int.reduceNe,Int.reduceDiv,Int.reduceMod,Int.reduceToNat,String.reduceEq,String.reduceBEq,Nat.reduceLeDiff,Int.cast_ofNat_Int,Int.natCast_one,Int.natCast_zero,List.cons_append,List.nil_append,ne_eq,$ls,*])
namespace EV
open PySem (Str)
def Sz (E F:Int):Prop:=2<=E/\E<=15/\1<=F/\F<=112
theorem u3 {ns:List Int} {j:Int} (h0:0<=j) (h:¬ j<(ns.length:Int)):ns.getD j.toNat 0=0:=by
 rw [List.getD_eq_getElem?_getD,List.getElem?_eq_none ⋯]
 rfl
def In (E F b:Int):Prop:=0<=b/\b<pw (E+F+1)
def jn (E F s f g:Int):Int:=s*pw (E+F)+f*pw F+g
def wh (F f g:Int):Int:=if f=0 then g else pw F+g
def lo (E F:Int):Int:=2 - pw (E - 1) - F
def po (E F f:Int):Int:=if f=0 then lo E F else lo E F+f - 1
end EV
namespace EV
def st (l:List Nat):PySem.Str:=⟨l.toArray⟩
def dg (n:Nat):List Nat:=(Nat.toDigits 10 n).map Char.toNat
theorem kr {n:Nat} (h:n<10):dg n=[48+n]:=by
 unfold dg
 rw [Nat.toDigits_of_lt_base h]
 rcases (show n=0\/n=1\/n=2\/n=3\/n=4\/n=5\/n=6\/n=7\/n=8\/n=9 by omega) with e | e | e | e | e | e | e | e | e | e<;>subst e<;>rfl
theorem wD {n d:Nat} (h:0<n) (hd:d<10):dg (10*n+d)=dg n++dg d:=by
 unfold dg
 rw [<- Nat.toDigits_append_toDigits ↥0 h hd,List.map_append]
theorem Dg {n k:Nat} (hk:0<k):(dg n).length<=k↔n<10^k:=by
 unfold dg
 rw [List.length_map]
 exact Nat.length_toDigits_le_iff ↥0 hk
theorem Df (n:Nat):0<(dg n).length:=by
 by_cases h:n<10
 ·rw [kr h,List.length_singleton];decide
 ·rw [show n=10*(n / 10)+n%10 by omega,wD ⋯ ⋯,kr (show n%10<10 by omega),List.length_append,List.length_singleton]
  omega
theorem zX:∀ (n:Nat),∀ c∈dg n,48<=c/\c<=57:=by
 intro n
 induction n using Nat.strongRecOn with
 | ind n ih =>
  intro c hc
  by_cases h:n<10
  ·rw [kr h,List.mem_singleton] at hc
   omega
  ·rw [show n=10*(n / 10)+n%10 by omega,wD ⋯ ⋯,List.mem_append] at hc
   rcases hc with z | z
   ·exact ih _ ⋯ c z
   ·exact ih _ ⋯ c z
theorem str_is {i:Int} (h:0<=i):((toString i:String):PySem.Str)=st (dg i.toNat):=by
 obtain ⟨n,rfl⟩:=Int.eq_ofNat_of_zero_le h
 show PySem.Str.ofString (Nat.repr n)=_
 rw [PySem.Str.ofString_eq_toList]
 unfold Nat.repr st dg
 rw [String.toList_ofList]
 rfl
theorem Cr (k:Nat):nb ((10:Int)^k)<=4*k+1:=by
 induction k with
 | zero=>decide
 | succ k ih =>
  have e:(10:Int)^(k+1)=10^k*10:=Int.pow_succ _ _
  have:=vY ih (show nb (10:Int)<=4 by decide)
  rw [e]
  omega
theorem bM {a b:List Nat} (h:a.length+b.length<=1000000):aR (.str (st a)) (.str (st b))=.ok (.str (st (a++b))):=by
 unfold aR st
 simp only [List.size_toArray]
 rw [if_pos h]
 simp
theorem bO {a:List Nat} (h:a.length<=1000000):b5 [.str (st a)]=.ok (.int a.length):=by
 unfold b5 st
 simp only [List.size_toArray]
 rw [if_pos h]
theorem Ae {i:Int} (h:0<=i) (hn:nb i<=1900):wJ [.int i]=.ok (.str (st (dg i.toNat))):=by
 unfold wJ
 simp only
 rw [if_pos hn,str_is h]
theorem Ep {a:List Nat} {k:Int} (h0:0<=k) (h1:k<=a.length) (h:a.length<=1000000):iz (.str (st a)) none (some k)=.ok (.str (st (a.take k.toNat))):=by
 rw [um (by unfold st;simpa using h)]
 unfold wG EV.cut sIx st
 simp only [if_neg (show ¬ k<0 by omega),List.drop_zero,Nat.sub_zero]
 congr 3
 rw [show min k.toNat a.toArray.toList.length=k.toNat by simp;omega]
end EV
namespace EV
theorem bE {l:List Nat}:(st l).cps.toList=l:=by unfold st;simp
theorem cz {l:List Nat}:(st l).cps.size=l.length:=by unfold st;simp
theorem ju {a b:List Nat}:(st a=st b)=(a=b):=by
 apply propext
 constructor
 ·intro h
  have:=congrArg (fun x=>x.cps.toList) h
  simpa [bE] using this
 ·intro h;rw [h]
theorem rg {c:Nat}:oIn (.str ⟨#[c]⟩) (.str "0123456789")=.ok (.bl (decide (48<=c/\c<=57))):=by
 unfold oIn
 simp only
 congr 2
 have:(PySem.Str.ofString "0123456789").cps.toList=[48,49,50,51,52,53,54,55,56,57]:=by decide
 show decide (c∈(PySem.Str.ofString "0123456789").cps.toList)=_
 rw [this]
 apply decide_eq_decide.mpr
 simp only [List.mem_cons,List.not_mem_nil,or_false]
 omega
theorem lU {α:Type} (f:α->Bool):∀ l:List α,boolsOf (l.map fun x=>D.bl (f x))=some (l.map f)
 | []=>rfl
 | a::r=>by rw [List.map_cons];unfold boolsOf;rw [lU f r];rfl
theorem km {α:Type} (f:α->Bool):∀ l:List α,D.flats (l.map fun x=>D.bl (f x))=true
 | []=>by unfold D.flats;rfl
 | a::r=>by rw [List.map_cons];unfold D.flats D.flat;rw [km f r];rfl
theorem fU {l:List Nat} {g:E} {δ:Dt} {f:Nat->Bool} (hg:∀ c,g [some (.str ⟨#[c]⟩)]=.ok (.bl (f c))):∀ l:List Nat,runC (stC (con ↥34) g [] δ) (l.map fun c=>D.str ⟨#[c]⟩)=.ok (l.map fun c=>D.bl (f c))
 | []=>rfl
 | c::r=>by
  have e:stC (con ↥34) g [] δ (.str ⟨#[c]⟩)=.ok (some (.bl (f c))):=by
   unfold stC inC
   rw [List.map_nil,hg c]
   rfl
  rw [List.map_cons]
  unfold runC
  rw [e,fU (l:=r) hg r]
  rfl
def bare (l:List Nat):List Nat:=Fh (#[32]:Array Nat).contains true true l
def fS (l:List Nat):Bool:=pf l&&decide (l≠[])
theorem ve {a b:List Nat}:pf (a++b)=(pf a&&pf b):=by unfold pf;rw [List.all_append]
theorem cK {l:List Nat}:fS l=true↔pf l=true/\l≠[]:=by unfold fS;simp
theorem wN {l:List Nat} {f:Nat->Bool}:wK [.lst (l.map fun c=>.bl (f c))]=.ok (.bl (l.all f)):=by
 unfold wK
 simp only
 rw [lU]
 simp only
 congr 2
 rw [List.all_map]
 rfl
theorem di {l:List Nat}:pf l=true↔∀ c∈l,48<=c/\c<=57:=by
 unfold pf
 rw [List.all_eq_true]
 constructor
 ·intro h c hc;exact of_decide_eq_true (h c hc)
 ·intro h c hc;exact decide_eq_true (h c hc)
theorem zP (n:Nat):pf (dg n)=true:=di.mpr (zX n)
theorem vc {a b:List Nat} (h:∀ c∈a,c∈b) (hb:pf b=true):pf a=true:=di.mpr fun c hc=>di.mp hb c (h c hc)
theorem vd (k:Nat):pf (List.replicate k 48)=true:=di.mpr fun c hc=>by
 have:=List.eq_of_mem_replicate hc
 omega
theorem qg {l:List Nat} {n:Int} (h0:0<=n) (h1:n<=1000) (h2:l.length<=100):iA ↥36 (.int n)=.ok (.str (st (List.replicate n.toNat l).flatten)):=by
 unfold iA
 simp only [bE,cz]
 have:l.length*n.toNat<=100*1000:=Nat.mul_le_mul h2 ⋯
 rw [if_pos ⟨this,⋯,⋯,⋯⟩]
 rfl
def Mk (m:List Nat) (s:Int):Prop:=(m=[]/\s=0)\/(m=[45]/\s=1)\/(m=[43]/\s=0)
theorem zQ (n:Nat):fS (dg n)=true:=cK.mpr ⟨zP n,fun z=>by have:=Df n;rw [z] at this;simp at this⟩
def nch (c:Nat):Bool:=decide (48<=c/\c<=57)||c == 46||c == 101||c == 43||c == 45
theorem wc {x:PySem.Str} {i:Int} (h0:0<=i) (h1:i<x.cps.size) (h2:x.cps.size<=1000000):∃ c,oIx (.str x) (.int i)=.ok (.str (st [c])):=by
 have h:i.toNat<x.cps.toList.length:=by simp;omega
 refine ⟨x.cps.toList[i.toNat],?_⟩
 unfold oIx ixN
 simp only
 rw [if_pos h2,if_pos h0,if_pos (by simpa using h1)]
 simp only [Option.bind_some]
 rw [List.getElem?_eq_getElem h]
 rfl
end EV
namespace EV
open PySem (Str)
def Wl (ws:List ↥31):List D:=ws.map fun w=>.str (st w)
def Wd (w:List Nat):Prop:=(∀ c∈w,33<=c/\c<128)/\w.length<=700
theorem Wd.nb {w:List Nat} (h:Wd w):32∉w:=fun z=>by have:=h.1 32 z;omega
theorem kO:Wd []:=⟨fun c h=>(nomatch h),by decide⟩
theorem md:∀ ws:List ↥31,xO (Wl ws)=some (ws.map st)
 | []=>rfl
 | w::ws=>by
  have ih:=md ws
  show (xO (Wl ws)).map _=_
  rw [ih]
  rfl
theorem df (c:Nat) {m:Nat}:∀ ws:List ↥31,(∀ w∈ws,w.length<=m)->(aq c ws).length<=ws.length*(m+1)
 | [],_=>by simp [aq]
 | [a],h=>by
  have:=h a ↥19
  show a.length<=1*(m+1)
  omega
 | a::b::r,h=>by
  have h1:=h a ↥19
  have h2:=df c (b::r) fun w z=>h w (List.mem_cons_of_mem _ z)
  show (a++c::aq c (b::r)).length<=(r.length+1+1)*(m+1)
  rw [List.length_append,List.length_cons]
  rw [Nat.add_mul (r.length+1)]
  have:(b::r).length*(m+1)=(r.length+1)*(m+1):=rfl
  omega
theorem mf:∀ {ws:List ↥31} {m:Nat},(∀ w∈ws,w.length<=m)->(ws.map fun w=>w.length).sum<=ws.length*m
 | [],_,_=>by simp
 | a::r,m,h=>by
  have h1:=h a ↥19
  have h2:=mf (ws:=r) fun w z=>h w (List.mem_cons_of_mem _ z)
  rw [List.map_cons,List.sum_cons,List.length_cons,Nat.add_mul]
  omega
theorem cD {c:Nat} {ws:List ↥31} (h:ws.length<=1000) (hw:∀ w∈ws,w.length<=700):bJ (st [c]) (.lst (Wl ws))=.ok (.str (st (aq c ws))):=by
 have hs:((ws.map st).map (·.length)).sum=(ws.map fun w=>w.length).sum:=by
  rw [List.map_map]
  refine congrArg List.sum (List.map_congr_left fun w _ => ?_)
  show (st w).cps.size=w.length
  rw [cz]
 have h2:=mf hw
 have h3:ws.length*700<=1000*700:=Nat.mul_le_mul_right _ h
 have e:PySem.Str.join (st [c]) (ws.map st)=st (aq c ws):=by
  have q:=ke c (ws.map st)
  have e1:(ws.map st).map (fun y=>y.cps.toList)=ws:=by
   rw [List.map_map]
   conv=>rhs;rw [<- List.map_id ws]
   refine List.map_congr_left fun w _ => ?_
   exact bE
  rw [e1] at q
  show PySem.Str.join ⟨#[c]⟩ _=_
  cases hj:PySem.Str.join ⟨#[c]⟩ (ws.map st) with
  | mk cs =>
   rw [hj] at q
   unfold st
   congr 1
   rw [<- q]
 unfold bJ
 simp only [md]
 rw [if_pos (by
  rw [hs,List.length_map]
  have:(st [c]).length=1:=rfl
  rw [this]
  omega),e]
theorem dA {c:Nat}:∀ {a b:List ↥31},a≠[]->b≠[]->aq c (a++b)=aq c a++c::aq c b
 | [],_,h,_=>absurd rfl h
 | [x],b,_,hb=>by
  cases b with
  | nil=>exact absurd rfl hb
  | cons y r=>rfl
 | x::y::r,b,_,hb=>by
  have ih:=dA (c:=c) (a:=y::r) (b:=b) ↥19 hb
  show x++c::aq c (y::r++b)=(x++c::aq c (y::r))++_
  rw [ih]
  simp
theorem gM {l:List Nat} (h:l.length<=100000):cT (st l) (.str (st [32]))=.ok (.lst (Wl (bF 32 l))):=by
 unfold cT
 simp only [bE]
 rw [if_pos (by show (st l).cps.size<=_;rw [cz];exact h)]
 rfl
theorem bD {ws:List ↥31}:(Wl ws).length=ws.length:=by unfold Wl;rw [List.length_map]
theorem eQ:∀ ws:List ↥31,D.flats (Wl ws)=true
 | []=>rfl
 | w::ws=>by
  have ih:=eQ ws
  show D.flats (D.str (st w)::Wl ws)=true
  simp [D.flats,D.flat,ih]
theorem nh {a b:List ↥31}:Wl a++Wl b=Wl (a++b):=by unfold Wl;rw [List.map_append]
theorem AR {ws:List ↥31} (h:∀ w∈ws,Wd w):D.pl 8 (.lst (Wl ws))=true:=by
 show (Wl ws).all (D.pl 7)=true
 rw [List.all_eq_true]
 intro d hd
 obtain ⟨w,hw,rfl⟩:=List.mem_map.mp hd
 show (st w).cps.all (· < 0x110000)=true
 rw [Array.all_eq_true_iff_forall_mem]
 intro c hc
 have:c∈w:=by
  have:=Array.mem_toList_iff.mpr hc
  rw [bE] at this
  exact this
 have:=(h w hw).1 c this
 simp
 omega
theorem iT:∀ ws:List ↥31,D.beqs (Wl ws) (Wl ws)=true
 | []=>rfl
 | w::ws=>by
  have ih:=iT ws
  show (D.beq (.str (st w)) (.str (st w))&&D.beqs (Wl ws) (Wl ws))=true
  rw [ih]
  simp [D.beq]
theorem Cj {ws:List ↥31} (h:∀ w∈ws,Wd w):oEq (.lst (Wl ws)) (.lst (Wl ws))=.ok ↥34:=by
 unfold oEq D.cmp
 rw [AR h,if_pos ↥19]
 show R.ok (D.bl (D.beqs _ _))=_
 rw [iT]
theorem Cf {ws:List ↥31} (h:∀ w∈ws,Wd w):oNe (.lst (Wl ws)) (.lst (Wl ws))=.ok ↥14:=by
 unfold oNe D.cmp
 rw [AR h,if_pos ↥19]
 show R.ok (D.bl (!D.beqs _ _))=_
 rw [iT]
 rfl
theorem lP {α:Type} {xs:List α} {k:Int} (h:0<=k):cut xs (some k) none=xs.drop k.toNat:=by
 unfold cut sIx
 simp only
 rw [if_neg ⋯]
 rw [List.take_of_length_le (by rw [List.length_drop];omega)]
 by_cases h2:k.toNat<=xs.length
 ·rw [Nat.min_eq_left h2]
 ·rw [Nat.min_eq_right ⋯,List.drop_of_length_le ↥30,List.drop_of_length_le ⋯]
theorem gn {α:Type} {xs:List α} {k:Int} (h:0<=k):cut xs none (some k)=xs.take k.toNat:=by
 unfold cut sIx
 simp only
 rw [if_neg ⋯,List.drop_zero,Nat.sub_zero]
 by_cases h2:k.toNat<=xs.length
 ·rw [Nat.min_eq_left h2]
 ·rw [Nat.min_eq_right ⋯,List.take_of_length_le ↥30,List.take_of_length_le ⋯]
theorem Dj {α:Type} {xs:List α}:cut xs none (some (-1))=xs.dropLast:=by
 unfold cut sIx
 simp only
 rw [if_pos ↥0,List.drop_zero,Nat.sub_zero,List.dropLast_eq_take]
 congr 1
 omega
theorem l8 {ws:List ↥31} {k:Nat}:(Wl ws).drop k=Wl (ws.drop k):=by unfold Wl;rw [List.map_drop]
theorem d7 {ws:List ↥31} {k:Nat}:(Wl ws).take k=Wl (ws.take k):=by unfold Wl;rw [List.map_take]
theorem l7 {ws:List ↥31}:(Wl ws).dropLast=Wl ws.dropLast:=by unfold Wl;rw [List.map_dropLast]
theorem mF {ws:List ↥31} {k:Int} {w:List Nat} (h0:0<=k) (h:ws[k.toNat]? = some w):oIx (.lst (Wl ws)) (.int k)=.ok (.str (st w)):=by
 obtain ⟨n,rfl⟩:=Int.eq_ofNat_of_zero_le h0
 refine lC ?_
 unfold Wl
 rw [List.getElem?_map]
 rw [show ((n:Int)).toNat=n by omega] at h
 rw [h]
 rfl
def isN (w:List Nat):Bool:=decide (w≠[]/\w.length<=8)&&w.all fun c=>decide (97<=c/\c<=122)
theorem dB {w:List Nat}:isN w=true↔(w≠[]/\w.length<=8)/\∀ c∈w,97<=c/\c<=122:=by
 unfold isN
 simp [List.all_eq_true]
def cU (s:Str) (w:List Nat):Bool:=if s="text" then decide (w≠[]) else if s="measure" then fS w&&decide (w.length<=4) else if s="bits" then fS w&&decide (w.length<=40) else isN w
theorem vb (s:Str):cU s []=false:=by
 unfold cU
 split
 ·rfl
 ·split
  ·rfl
  ·split<;>rfl
theorem lE {c:Nat}:oIn (.str ⟨#[c]⟩) (.str "abcdefghijklmnopqrstuvwxyz")=.ok (.bl (decide (97<=c/\c<=122))):=by
 have e:(PySem.Str.ofString "abcdefghijklmnopqrstuvwxyz").cps.toList=[97,98,99,100,101,102,103,104,105,106,107,108,109,110,111,112,113,114,115,116,117,118,119,120,121,122]:=by decide
 show R.ok (D.bl (decide (c∈(PySem.Str.ofString "abcdefghijklmnopqrstuvwxyz").cps.toList)))=_
 rw [e]
 congr 2
 apply decide_eq_decide.mpr
 simp only [List.mem_cons,List.not_mem_nil,or_false]
 omega
theorem nY:∀ {tab:List (Str×D)} {x:Str},(∀ p∈tab,p.1≠x)->bC tab x=none
 | [],_,_=>rfl
 | p::r,x,h=>by
  show (if p.1=x then _ else _)=_
  rw [if_neg (h p (.head _))]
  exact nY fun q hq=>h q (.tail _ hq)
theorem lI {i:Nat} {body:S} (I:Nat->Dt->Prop):∀ (ds:List D) (n:Nat) (δ:Dt),(∀ d∈ds,∀ m δ,m<n+ds.length->I m δ->∃ δ',body (δ.set i (some d))=.nx δ'/\I (m+1) δ')->I n δ->∃ δ',forL i body ds δ=.nx δ'/\I (n+ds.length) δ'
 | [],n,δ,_,h=>⟨δ,rfl,h⟩
 | d::ds,n,δ,hs,h=>by
  obtain ⟨δ1,e1,h1⟩:=hs d (.head _) n δ (by rw [List.length_cons];omega) h
  obtain ⟨δ2,e2,h2⟩:=lI I ds (n+1) δ1 (fun d hd m δ hm=>hs d (.tail _ hd) m δ (by rw [List.length_cons];omega)) h1
  refine ⟨δ2,?_,by rw [List.length_cons,show n+(ds.length+1)=n+1+ds.length by omega];exact h2⟩
  rw [iL,e1]
  exact e2
theorem iM {put:Dt->D->Option Dt} {c:E} {l:S} (I:Dt->Prop):∀ (ds:List D),(∀ d∈ds,∀ δ,I δ->∃ δ',put δ d=some δ'/\c (view δ')=.ok ↥14/\I δ')->∀ δ,I δ->∃ δ',ji put (mL c l aK) ds δ=.nx δ'/\I δ'
 | [],_,δ,h=>⟨δ,rfl,h⟩
 | d::ds,hs,δ,h=>by
  obtain ⟨δ1,e1,e2,h1⟩:=hs d (.head _) δ h
  obtain ⟨δ2,e3,h2⟩:=iM I ds (fun d hd=>hs d (.tail _ hd)) δ1 h1
  refine ⟨δ2,?_,h2⟩
  unfold ji
  rw [e1]
  simp only
  rw [hV,e2]
  exact e3
theorem jH {put:Dt->D->Option Dt} {c:E} {C:String} (I:Dt->Prop) (f:D->Bool):∀ (ds:List D),(∀ d∈ds,∀ δ,I δ->∃ δ',put δ d=some δ'/\c (view δ')=.ok (.bl (f d))/\I δ')->(∃ d∈ds,f d=true)->∀ δ,I δ->∃ δ',ji put (mL c (raise C) aK) ds δ=.mk C δ'
 | [],_,⟨d,h,_⟩,_,_=>nomatch h
 | d::ds,hs,hx,δ,h=>by
  obtain ⟨δ1,e1,e2,h1⟩:=hs d (.head _) δ h
  unfold ji
  rw [e1]
  simp only
  rw [hV,e2]
  cases hf:f d with
  | true=>exact ⟨δ1,rfl⟩
  | false =>
   obtain ⟨d',hd',hq⟩:=hx
   rcases List.mem_cons.mp hd' with rfl | hm
   ·rw [hf] at hq;cases hq
   ·exact jH I f ds (fun d hd=>hs d (.tail _ hd)) ⟨d',hm,hq⟩ δ1 h1
theorem p9 {a:List Nat} {k:Int} (h0:0<=k) (h:a.length<=1000000):iz (.str (st a)) none (some k)=.ok (.str (st (a.take k.toNat))):=by
 by_cases h1:k<=a.length
 ·exact Ep h0 h1 h
 ·unfold iz
  simp only
  rw [if_pos (by rw [cz];exact h)]
  unfold wG
  rw [bE,gn h0]
  rfl
theorem mi {a:List Nat} {k:Int} (h0:0<=k) (h:a.length<=1000000):iz (.str (st a)) (some k) none=.ok (.str (st (a.drop k.toNat))):=by
 unfold iz
 simp only
 rw [if_pos (by rw [cz];exact h)]
 unfold wG
 rw [bE,lP h0]
 rfl
theorem yp {a:List Nat} (h:a.length<=1000000):iz (.str (st a)) none (some (-1))=.ok (.str (st a.dropLast)):=by
 unfold iz
 simp only
 rw [if_pos (by rw [cz];exact h)]
 unfold wG
 rw [bE,Dj]
 rfl
theorem pJ {w:List Nat} {k:Int} (hw:fS w=true) (h0:0<=k) (h1:k<=100000):∃ w',fb (st w) (.int k)=.ok (.str (st w'))/\fS w'=true/\(w'.length:Int)=max (w.length:Int) k:=by
 obtain ⟨hf,hn⟩:=cK.mp hw
 obtain ⟨c,r,rfl⟩:∃ c r,w=c::r:=by cases w with | nil=>exact absurd rfl hn | cons c r=>exact ⟨c,r,rfl⟩
 have hc:=di.mp hf c (.head _)
 have e:(st (c::r)).cps[0]? = some c:=rfl
 have hz:fb (st (c::r)) (.int k)=.ok (.str (zf (st (c::r)) k)):=by
  unfold fb
  simp only
  rw [if_pos ⟨h0,h1,by rw [e];simp;omega,by rw [e];simp;omega⟩]
 rw [hz]
 unfold zf
 rw [cz]
 by_cases g:k<=((c::r).length:Nat)
 ·rw [if_pos g]
  exact ⟨_,rfl,hw,⋯⟩
 ·rw [if_neg g]
  refine ⟨List.replicate (k.toNat - (c::r).length) 48++(c::r),?_,?_,?_⟩
  ·congr 2
   unfold st
   congr 1
   simp
  ·refine cK.mpr ⟨?_,by simp⟩
   rw [ve,vd,hf]
   rfl
  ·rw [List.length_append,List.length_replicate]
   omega
theorem jE {l:List Nat} {i:Int} (h0:0<=i) (h1:i<l.length) (h2:l.length<=1000000):∃ c,c∈l/\oIx ↥36 (.int i)=.ok (.str (st [c])):=by
 obtain ⟨n,rfl⟩:=Int.eq_ofNat_of_zero_le h0
 have hn:n<l.length:=⋯
 refine ⟨l[n],List.getElem_mem hn,?_⟩
 unfold oIx ixN
 simp only
 rw [if_pos (by rw [cz];exact h2),bE,if_pos h0,if_pos h1]
 simp only [Option.bind_some,Int.toNat_natCast,List.getElem?_eq_getElem hn]
 rfl
theorem fN {f:D->R (Option D)} {P:Nat->Prop}:∀ {ds:List D},(∀ d∈ds,∃ c,P c/\f d=.ok (some (.str (st [c]))))->∃ cs:List Nat,runC f ds=.ok (Wl (cs.map fun c=>[c]))/\cs.length=ds.length/\∀ c∈cs,P c
 | [],_=>⟨[],rfl,rfl,fun c h=>(nomatch h)⟩
 | d::ds,h=>by
  obtain ⟨c,hc,e⟩:=h d (.head _)
  obtain ⟨cs,e2,hl,hP⟩:=fN (ds:=ds) fun d hd=>h d (.tail _ hd)
  refine ⟨c::cs,?_,by rw [List.length_cons,List.length_cons,hl],fun x hx => ?_⟩
  ·unfold runC
   rw [e,e2]
   rfl
  ·rcases List.mem_cons.mp hx with rfl | hx
   ·exact hc
   ·exact hP x hx
theorem join_nil:∀ ls:List ↥31,PySem.Str.join (st []) (ls.map st)=st ls.flatten
 | []=>rfl
 | [a]=>by simp [PySem.Str.join]
 | a::b::r=>by
  have ih:=join_nil (b::r)
  have e:PySem.Str.join (st []) ((a::b::r).map st)=st a++st []++PySem.Str.join (st []) ((b::r).map st):=rfl
  rw [e,ih]
  show PySem.Str.mk ((st a).cps++(st []).cps++(st (b::r).flatten).cps)=_
  unfold st
  congr 1
  simp
theorem jC {cs:List Nat} (h:cs.length<=10000):bJ (st []) (.lst (Wl (cs.map fun c=>[c])))=.ok (.str (st cs)):=by
 have e:(cs.map fun c=>[c]).flatten=cs:=by
  induction cs with
  | nil=>rfl
  | cons c r ih=>rw [List.map_cons,List.flatten_cons,ih (by rw [List.length_cons] at h;omega)];rfl
 have h2:=mf (ws:=cs.map fun c=>[c]) (m:=1) fun w hw=>by
  obtain ⟨c,_,rfl⟩:=List.mem_map.mp hw
  exact Nat.le_refl 1
 have hs:(((cs.map fun c=>[c]).map st).map (·.length)).sum=((cs.map fun c=>[c]).map fun w=>w.length).sum:=by
  rw [List.map_map]
  refine congrArg List.sum (List.map_congr_left fun w _ => ?_)
  show (st w).cps.size=w.length
  rw [cz]
 unfold bJ
 simp only [md]
 rw [if_pos (by
  rw [hs]
  have:(st []).length=0:=rfl
  rw [this,Nat.mul_zero]
  rw [List.length_map] at h2
  omega),join_nil,e]
end EV
namespace T
open EV
theorem eK {ns:List Int} {j:Int} (h0:0<=j):ai [.lst (ns.map .int),.int j]=.ok (.int (ns.getD j.toNat 0)):=by
 unfold ai cu
 by_cases h:j<(ns.length:Int)
 ·have e:oIx (.lst (ns.map D.int)) (.int j)=.ok (.int (ns.getD j.toNat 0)):=by
   obtain ⟨k,rfl⟩:=Int.eq_ofNat_of_zero_le h0
   have hk:k<ns.length:=⋯
   refine lC ?_
   simp [List.getElem?_map,List.getElem?_eq_getElem hk,List.getD_eq_getElem?_getD]
  simp_arith [h,e]
 ·simp_arith [h,u3 h0 h]
theorem d32:PySem.Str.ofString " "=st [32]:=by decide
theorem d0:PySem.Str.ofString ""=st []:=by decide
theorem dS {l:List Nat} (h:l.length<=100000):bI [.str (st l)]=.ok (.bl (fS l)):=by
 have hi:itS (var 0) [some ↥36]=.ok (l.map fun c=>D.str ⟨#[c]⟩):=by
  show asS ↥36=_
  rw [sk (by rw [cz];exact h),bE]
 have hc:comp (itS (var 0)) [] (bin oIn (var 0) (con (.str "0123456789"))) [some ↥36]=.ok (.lst (l.map fun c=>D.bl (decide (48<=c/\c<=57)))):=by
  unfold comp dF
  rw [hi]
  show (if (l.map fun c=>D.str ⟨#[c]⟩).length<=100000 then _ else _)=_
  rw [if_pos (by rw [List.length_map];exact h),fU (l:=l) (f:=fun c=>decide (48<=c/\c<=57)) (fun c=>rg)]
  show gH _=_
  unfold gH
  rw [if_pos (km _ l)]
 have ha:=wN (l:=l) (f:=fun c=>decide (48<=c/\c<=57))
 unfold bI cv
 generalize comp (itS (var 0)) [] (bin oIn (var 0) (con (.str "0123456789")))=C at *
 unfold fS pf
 by_cases g:l=[]
 ·subst g
  simp_arith [d0,ju]
  try rfl
 ·simp_arith [d0,ju,g,hc,ha]
  try simp
theorem zD {l:List Nat} (h:l.length<=100000):dw [.str (st l)]=.ok (.bl (isN l)):=by
 have hi:itS (var 0) [some ↥36]=.ok (l.map fun c=>D.str ⟨#[c]⟩):=by
  show asS ↥36=_
  rw [sk (by rw [cz];exact h),bE]
 have hc:comp (itS (var 0)) [] (bin oIn (var 0) (con (.str "abcdefghijklmnopqrstuvwxyz"))) [some ↥36]=.ok (.lst (l.map fun c=>D.bl (decide (97<=c/\c<=122)))):=by
  unfold comp dF
  rw [hi]
  show (if (l.map fun c=>D.str ⟨#[c]⟩).length<=100000 then _ else _)=_
  rw [if_pos (by rw [List.length_map];exact h),fU (l:=l) (f:=fun c=>decide (97<=c/\c<=122)) (fun c=>lE)]
  show gH _=_
  unfold gH
  rw [if_pos (km _ l)]
 have ha:=wN (l:=l) (f:=fun c=>decide (97<=c/\c<=122))
 have hl:b5 [.str (st l)]=.ok (.int l.length):=bO ⋯
 unfold dw fe
 generalize comp (itS (var 0)) [] (bin oIn (var 0) (con (.str "abcdefghijklmnopqrstuvwxyz")))=C at *
 unfold isN
 by_cases g:l=[]
 ·subst g
  simp_arith [d0,ju]
  try rfl
 ·by_cases g2:l.length<=8
  ·simp_arith [d0,ju,g,hl,hc,ha,show ¬ (8:Int)<l.length by omega]
   simp [g,g2]
  ·simp_arith [d0,ju,g,hl,show (8:Int)<l.length by omega]
   simp [g2]
theorem zO {s:PySem.Str} {l:List Nat} (h:l.length<=100000):dX [.str s,.str (st l)]=.ok (.bl (cU s l)):=by
 have hl:b5 [.str (st l)]=.ok (.int l.length):=bO ⋯
 unfold dX nQ cU
 by_cases g1:s="text"
 ·subst g1
  simp_arith [d0,ju]
  try simp
 rw [if_neg g1]
 by_cases g2:s="measure"
 ·subst g2
  have e:dIn ar (.str "measure")=.ok ↥34:=rfl
  have e2:nX ar (.str "measure")=.ok (.int 4):=rfl
  rw [if_pos rfl]
  by_cases g:fS l=true
  ·simp_arith [g1,e,e2,dS h,g,hl]
   congr 2
   apply decide_eq_decide.mpr
   omega
  ·rw [Bool.not_eq_true] at g
   simp_arith [g1,e,e2,dS h,g,hl]
 rw [if_neg g2]
 by_cases g3:s="bits"
 ·subst g3
  have e:dIn ar (.str "bits")=.ok ↥34:=rfl
  have e2:nX ar (.str "bits")=.ok (.int 40):=rfl
  rw [if_pos rfl]
  by_cases g:fS l=true
  ·simp_arith [g1,e,e2,dS h,g,hl]
   congr 2
   apply decide_eq_decide.mpr
   omega
  ·rw [Bool.not_eq_true] at g
   simp_arith [g1,e,e2,dS h,g,hl]
 rw [if_neg g3]
 have e:dIn ar (.str s)=.ok ↥14:=by
  show R.ok (D.bl (bC ar s).isSome)=_
  rw [nY (fun p hp=>by
   simp only [ar,List.mem_cons,List.not_mem_nil,or_false] at hp
   rcases hp with rfl | rfl
   ·exact fun z=>g2 z.symm
   ·exact fun z=>g3 z.symm)]
  rfl
 simp_arith [g1,e,zD h]
theorem cw {v:PySem.Str} {n:Int} {f:D} (h:bC aH v=some f):az [.str v,.int n]=.ok f:=by
 have e:dIn aH (.str v)=.ok ↥34:=by unfold dIn;simp only;rw [h];rfl
 have e2:nX aH (.str v)=.ok f:=by unfold nX;simp only;rw [h]
 unfold az cF
 simp_arith [e,e2]
theorem mM {v:PySem.Str} {n:Int} (h:bC aH v=none) (h2:bC au v=none):az [.str v,.int n]=.ex "NoRow":=by
 have e:dIn aH (.str v)=.ok ↥14:=by unfold dIn;simp only;rw [h];rfl
 have e2:fi au (.str v)=.ok ↥34:=by unfold fi;simp only;rw [h2];rfl
 unfold az cF
 simp_arith [e,e2]
theorem nR {v:PySem.Str} {n k:Int} (h:bC aH v=none) (h2:bC au v=some (.int k)) (hk:0<k) (hn:n - 1<1\/20<n - 1\/(n - 1)%k≠0):az [.str v,.int n]=.ex "NoRow":=by
 have e:dIn aH (.str v)=.ok ↥14:=by unfold dIn;simp only;rw [h];rfl
 have e2:fi au (.str v)=.ok ↥14:=by unfold fi;simp only;rw [h2];rfl
 have e3:nX au (.str v)=.ok (.int k):=by unfold nX;simp only;rw [h2]
 have e4:oMod (.int (n - 1)) (.int k)=.ok (.int ((n - 1)%k)):=da hk
 unfold az cF
 by_cases g1:n - 1<1
 ·simp_arith [e,e2,g1]
 ·by_cases g2:20<n - 1
  ·simp_arith [e,e2,g1,g2]
  ·have g3:¬ (n - 1)%k=0:=⋯
   simp_arith [e,e2,g1,g2,e3,e4,g3]
theorem ub {k:Int} (h1:1<=k) (h2:k<=1000):lr (.tup [.str "old"]) (.int k)=.ok (.tup (List.replicate k.toNat (.str "old"))):=by
 unfold lr
 simp only
 have e:(List.replicate k.toNat [D.str "old"]).flatten=List.replicate k.toNat (.str "old"):=by
  generalize k.toNat=m
  induction m with
  | zero=>rfl
  | succ m ih=>rw [List.replicate_succ,List.flatten_cons,ih,List.replicate_succ];rfl
 rw [if_pos ⟨by simp,h1,h2,by
  show 1*k.toNat<=100000
  omega⟩,e]
theorem lH {v:PySem.Str} {n k:Int} (h:bC aH v=none) (h2:bC au v=some (.int k)) (hk:0<k) (n1:1<=n - 1) (n2:n - 1<=20) (n3:(n - 1)%k=0):az [.str v,.int n]=.ok (.tup (.str "new"::List.replicate (n - 1).toNat (.str "old"))):=by
 have e:dIn aH (.str v)=.ok ↥14:=by unfold dIn;simp only;rw [h];rfl
 have e2:fi au (.str v)=.ok ↥14:=by unfold fi;simp only;rw [h2];rfl
 have e3:nX au (.str v)=.ok (.int k):=by unfold nX;simp only;rw [h2]
 have e4:oMod (.int (n - 1)) (.int k)=.ok (.int ((n - 1)%k)):=da hk
 have e5:aR (.tup [.str "new"]) (.tup (List.replicate (n - 1).toNat (.str "old")))=.ok (.tup (.str "new"::List.replicate (n - 1).toNat (.str "old"))):=by
  unfold aR
  simp only
  rw [if_pos ⟨by simp,by
   have:[D.str "new"].length=1:=rfl
   rw [List.length_replicate,this]
   omega⟩]
  rfl
 have g1:¬ n - 1<1:=⋯
 have g2:¬ 20<n - 1:=⋯
 unfold az cF
 simp_arith [e,e2,g1,g2,e3,e4,n3,ub n1 (by omega:n - 1<=1000),e5]
def Fs (fs:List PySem.Str):D:=.tup (fs.map .str)
theorem pe:∀ p∈aH,∃ fs,p.2=Fs fs:=by
 intro p hp
 have:∀ p∈aH,∃ ss:List String,p.2=.tup (ss.map fun s=>.str (PySem.Str.ofString s)):=by
  intro p hp
  simp only [aH,List.mem_cons,List.not_mem_nil,or_false] at hp
  rcases hp with rfl | rfl | rfl | rfl | rfl | rfl | rfl | rfl | rfl | rfl | rfl | rfl | rfl | rfl | rfl | rfl | rfl
  ·exact ⟨["measure","measure"],rfl⟩
  ·exact ⟨["text"],rfl⟩
  ·exact ⟨["new","text"],rfl⟩
  ·exact ⟨["new","bits"],rfl⟩
  ·exact ⟨["new","old"],rfl⟩
  ·exact ⟨["new","old"],rfl⟩
  ·exact ⟨["new","old","old"],rfl⟩
  ·exact ⟨["new","old","old"],rfl⟩
  ·exact ⟨["new","old","old"],rfl⟩
  ·exact ⟨["new","old","old"],rfl⟩
  ·exact ⟨["new","old"],rfl⟩
  ·exact ⟨["new","old","old","old"],rfl⟩
  ·exact ⟨["new","old"],rfl⟩
  ·exact ⟨["old"],rfl⟩
  ·exact ⟨["old","old"],rfl⟩
  ·exact ⟨[],rfl⟩
  ·exact ⟨[],rfl⟩
 obtain ⟨ss,e⟩:=this p hp
 exact ⟨ss.map PySem.Str.ofString,by rw [e];unfold Fs;rw [List.map_map];rfl⟩
theorem iP:∀ {tab:List (PySem.Str×D)} {x:PySem.Str} {d:D},bC tab x=some d->∃ p∈tab,p.2=d
 | [],_,_,h=>nomatch h
 | p::r,x,d,h=>by
  unfold bC at h
  split at h
  ·cases h;exact ⟨p,.head _,rfl⟩
  ·obtain ⟨q,hq,e⟩:=iP h
   exact ⟨q,.tail _ hq,e⟩
theorem qf:∀ p∈au,∃ k:Int,0<k/\p.2=.int k:=by
 intro p hp
 simp only [au,List.mem_cons,List.not_mem_nil,or_false] at hp
 rcases hp with rfl | rfl | rfl | rfl
 ·exact ⟨1,by decide,rfl⟩
 ·exact ⟨1,by decide,rfl⟩
 ·exact ⟨1,by decide,rfl⟩
 ·exact ⟨2,by decide,rfl⟩
theorem u5 (v:PySem.Str) (n:Int):az [.str v,.int n]=.ex "NoRow"\/∃ fs,az [.str v,.int n]=.ok (Fs fs):=by
 cases h:bC aH v with
 | some f =>
  obtain ⟨p,hp,e⟩:=iP h
  obtain ⟨fs,e2⟩:=pe p hp
  exact .inr ⟨fs,by rw [cw h,<-e,e2]⟩
 | none =>
  cases h2:bC au v with
  | none=>exact .inl (mM h h2)
  | some d =>
   obtain ⟨p,hp,e⟩:=iP h2
   obtain ⟨k,hk,e2⟩:=qf p hp
   rw [<- e,e2] at h2
   by_cases g:n - 1<1\/20<n - 1\/(n - 1)%k≠0
   ·exact .inl (nR h h2 hk g)
   ·refine .inr ⟨"new"::List.replicate (n - 1).toNat "old",?_⟩
    rw [lH h h2 hk ⋯ ⋯ ⋯]
    unfold Fs
    rw [List.map_cons,List.map_replicate]
theorem m9:∀ {fs:List PySem.Str} {as:List ↥31},List.zipWith (fun x y=>D.tup [x,y]) (fs.map D.str) (Wl as)=(fs.zip as).map fun p=>D.tup [.str p.1,.str (st p.2)]
 | [],_=>rfl
 | _::_,[]=>rfl
 | s::fs,a::as=>by
  have ih:=m9 (fs:=fs) (as:=as)
  show D.tup [.str s,.str (st a)]::List.zipWith (fun x y=>D.tup [x,y]) (fs.map D.str) (Wl as)=_
  rw [ih]
  rfl
theorem jR:∀ {ps:List (PySem.Str×List Nat)},D.flats (ps.map fun p=>D.tup [.str p.1,.str (st p.2)])=true
 | []=>rfl
 | p::ps=>by
  have ih:=jR (ps:=ps)
  show (D.flat (.tup [.str p.1,.str (st p.2)])&&D.flats _)=true
  rw [ih]
  simp [D.flat,D.flats]
def Bad (l:List Nat):Prop:=av [.str (st l)]=.ex "NoRow"
theorem rq {fs:List PySem.Str}:b5 [Fs fs]=.ok (.int fs.length):=by
 show R.ok (D.int ((fs.map D.str).length:Nat))=_
 rw [List.length_map]
theorem ki:∀ {fs:List PySem.Str},D.flat (Fs fs)=true
 | []=>rfl
 | s::fs=>by
  have ih:=ki (fs:=fs)
  have e1:D.flat (Fs fs)=D.flats (fs.map .str):=rfl
  have e2:D.flat (Fs (s::fs))=(D.flat (.str s)&&D.flats (fs.map .str)):=rfl
  rw [e2,<-e1,ih]
  rfl
theorem hG {l:List Nat} (h:600<l.length) (h2:l.length<=100000):Bad l:=by
 have hl:b5 [.str (st l)]=.ok (.int l.length):=bO ⋯
 unfold Bad av bj
 simp_arith [hl,show (600:Int)<l.length by omega]
section
variable {l v:List Nat} {as:List ↥31} {fs:List PySem.Str}
theorem oK (h2:l.length<=100000) (hs:bF 32 l=v::as) (hf:az [.str (st v),.int as.length]=.ex "NoRow"):Bad l:=by
 by_cases h:600<l.length
 ·exact hG h h2
 have hl:b5 [.str (st l)]=.ok (.int l.length):=bO ⋯
 have e0:cT (st l) (.str (st [32]))=.ok (.lst (Wl (v::as))):=by rw [gM h2,hs]
 have e1:oIx (.lst (Wl (v::as))) (.int 0)=.ok ↥23:=mF (Int.le_refl 0) rfl
 have e2:b5 [.lst (Wl (v::as))]=.ok (.int (as.length+1:Nat)):=by rw [fj,bD];rfl
 unfold Bad av bj
 simp_arith [hl,show ¬ (600:Int)<l.length by omega,gK,d32,e0,cO,dO,dq,e1,e2,show ((as.length+1:Nat):Int) - 1=as.length by omega,hf]
 rfl
theorem kY (h2:l.length<=100000) (hs:bF 32 l=v::as) (hf:az [.str (st v),.int as.length]=.ok (Fs fs)) (hc:fs.length≠as.length):Bad l:=by
 by_cases h:600<l.length
 ·exact hG h h2
 have hl:b5 [.str (st l)]=.ok (.int l.length):=bO ⋯
 have e0:cT (st l) (.str (st [32]))=.ok (.lst (Wl (v::as))):=by rw [gM h2,hs]
 have e1:oIx (.lst (Wl (v::as))) (.int 0)=.ok ↥23:=mF (Int.le_refl 0) rfl
 have e2:b5 [.lst (Wl (v::as))]=.ok (.int (as.length+1:Nat)):=by rw [fj,bD];rfl
 have e3:∀ {i:Nat} {δ:Dt},wL i δ (.ok (Fs fs))=.nx (δ.set i (some (Fs fs))):=fun {i δ}=>if_pos ki
 have e4:∀ {δ:Dt},var 0 (some (Fs fs)::δ)=.ok (Fs fs):=rfl
 have e5:∀ {δ:Dt},view (some (Fs fs)::δ)=some (Fs fs)::view δ:=rfl
 unfold Bad av bj
 simp_arith [hl,show ¬ (600:Int)<l.length by omega,gK,d32,e0,cO,dO,dq,e1,e2,show ((as.length+1:Nat):Int) - 1=as.length by omega,hf,e3,e4,e5,hV,rq,show ¬ (fs.length:Int)=as.length by omega]
theorem qX (hc:fs.length=as.length) (ha:as.length<=1000):Ax (var 2) (slc (var 1) (some ⇑1) none) (view [some ↥36,some (.own (Wl (v::as))),some (Fs fs),none,none])=.ok ((fs.zip as).map fun p=>D.tup [.str p.1,.str (st p.2)]):=by
 have e:cut (Wl (v::as)) (some 1) none=Wl as:=by rw [lP ↥0];rfl
 have e4:∀ {δ:Dt},var 0 (some (Fs fs)::δ)=.ok (Fs fs):=rfl
 have e5:∀ {δ:Dt},view (some (Fs fs)::δ)=some (Fs fs)::view δ:=rfl
 have e6:Ar [Fs fs,.lst (Wl as)]=.ok ((fs.zip as).map fun p=>D.tup [.str p.1,.str (st p.2)]):=by
  rw [<- m9]
  exact wR (by rw [List.length_map];omega) (by rw [bD];omega)
 rw [A3]
 simp_arith [e4,e5,hU,nG,aJ,cC,e,e6]
theorem lA (hw:∀ w∈as,w.length<=100000):∀ d∈(fs.zip as).map (fun p=>D.tup [.str p.1,.str (st p.2)]),∀ δ,(∃ z z',δ=[some ↥36,some (.own (Wl (v::as))),some (Fs fs),z,z']) ->
  ∃ δ',oZ [3,4] δ d=some δ'/\gR (call dX [var 3,var 4]) (view δ')=.ok (.bl (match d with | .tup [.str s,.str w] => !cU s w.cps.toList | _=>false))/\∃ z z',δ'=[some ↥36,some (.own (Wl (v::as))),some (Fs fs),z,z']:=by
 intro d hd δ ⟨z,z',e⟩
 obtain ⟨⟨s,w⟩,hp,rfl⟩:=List.mem_map.mp hd
 subst e
 have e5:∀ {δ:Dt},view (some (Fs fs)::δ)=some (Fs fs)::view δ:=rfl
 refine ⟨[some ↥36,some (.own (Wl (v::as))),some (Fs fs),some (.str s),some (.str (st w))],rfl,?_,_,_,rfl⟩
 have hf:=zO (s:=s) (hw w (List.of_mem_zip hp).2)
 simp only [bE]
 cases g:cU s w with
 | true=>simp_arith [e5,hf,g]
 | false=>simp_arith [e5,hf,g]
theorem qd (h2:l.length<=100000) (hs:bF 32 l=v::as) (hf:az [.str (st v),.int as.length]=.ok (Fs fs)) (hc:fs.length=as.length) (ha:as.length<=1000) (hw:∀ w∈as,w.length<=100000)
  (hx:∃ p∈fs.zip as,cU p.1 p.2=false):Bad l:=by
 by_cases h:600<l.length
 ·exact hG h h2
 have hl:b5 [.str (st l)]=.ok (.int l.length):=bO ⋯
 have e0:cT (st l) (.str (st [32]))=.ok (.lst (Wl (v::as))):=by rw [gM h2,hs]
 have e1:oIx (.lst (Wl (v::as))) (.int 0)=.ok ↥23:=mF (Int.le_refl 0) rfl
 have e2:b5 [.lst (Wl (v::as))]=.ok (.int (as.length+1:Nat)):=by rw [fj,bD];rfl
 have e3:∀ {i:Nat} {δ:Dt},wL i δ (.ok (Fs fs))=.nx (δ.set i (some (Fs fs))):=fun {i δ}=>if_pos ki
 have e4:∀ {δ:Dt},var 0 (some (Fs fs)::δ)=.ok (Fs fs):=rfl
 have e5:∀ {δ:Dt},view (some (Fs fs)::δ)=some (Fs fs)::view δ:=rfl
 obtain ⟨⟨s,w⟩,hp,hq⟩:=hx
 obtain ⟨δ',hL⟩:=jH (C:="NoRow") (fun δ=>∃ z z',δ=[some ↥36,some (.own (Wl (v::as))),some (Fs fs),z,z']) _ _ (lA (l:=l) (v:=v) (fs:=fs) hw) ⟨_,List.mem_map.mpr ⟨(s,w),hp,rfl⟩,by simp only [bE];rw [hq];rfl⟩ _ ⟨none,none,rfl⟩
 have hQ:pG (oZ [3,4]) (Ax (var 2) (slc (var 1) (some ⇑1) none)) (gR (call dX [var 3,var 4])) (raise "NoRow") [some ↥36,some (.own (Wl (v::as))),some (Fs fs),none,none]=.mk "NoRow" δ':=by
  unfold pG
  rw [qX hc ha,nH,if_pos jR]
  exact hL
 unfold Bad av bj
 simp_arith [hl,show ¬ (600:Int)<l.length by omega,gK,d32,e0,cO,dO,dq,e1,e2,show ((as.length+1:Nat):Int) - 1=as.length by omega,hf,e3,e4,e5,hV,rq,show (fs.length:Int)=as.length by omega,hQ]
theorem t8 (h:l.length<=600) (hs:bF 32 l=v::as) (hf:az [.str (st v),.int as.length]=.ok (Fs fs)) (hc:fs.length=as.length) (ha:as.length<=1000) (hw:∀ w∈as,w.length<=100000)
  (hx:∀ p∈fs.zip as,cU p.1 p.2=true):av [.str (st l)]=.ok (.lst (Wl (v::as))):=by
 have hl:b5 [.str (st l)]=.ok (.int l.length):=bO ⋯
 have e0:cT (st l) (.str (st [32]))=.ok (.lst (Wl (v::as))):=by rw [gM ⋯,hs]
 have e1:oIx (.lst (Wl (v::as))) (.int 0)=.ok ↥23:=mF (Int.le_refl 0) rfl
 have e2:b5 [.lst (Wl (v::as))]=.ok (.int (as.length+1:Nat)):=by rw [fj,bD];rfl
 have e3:∀ {i:Nat} {δ:Dt},wL i δ (.ok (Fs fs))=.nx (δ.set i (some (Fs fs))):=fun {i δ}=>if_pos ki
 have e4:∀ {δ:Dt},var 0 (some (Fs fs)::δ)=.ok (Fs fs):=rfl
 have e5:∀ {δ:Dt},view (some (Fs fs)::δ)=some (Fs fs)::view δ:=rfl
 obtain ⟨δ',hL,z,z',rfl⟩:=iM (c:=gR (call dX [var 3,var 4])) (l:=raise "NoRow") (fun δ=>∃ z z',δ=[some ↥36,some (.own (Wl (v::as))),some (Fs fs),z,z']) ((fs.zip as).map fun p=>D.tup [.str p.1,.str (st p.2)]) (fun d hd δ hδ=>by
  obtain ⟨δ',a1,a2,a3⟩:=lA (l:=l) (v:=v) (fs:=fs) hw d hd δ hδ
  refine ⟨δ',a1,?_,a3⟩
  obtain ⟨⟨s,w⟩,hp,rfl⟩:=List.mem_map.mp hd
  rw [a2]
  simp only [bE]
  rw [hx _ hp]
  rfl) _ ⟨none,none,rfl⟩
 have hQ:pG (oZ [3,4]) (Ax (var 2) (slc (var 1) (some ⇑1) none)) (gR (call dX [var 3,var 4])) (raise "NoRow") [some ↥36,some (.own (Wl (v::as))),some (Fs fs),none,none]=.nx [some ↥36,some (.own (Wl (v::as))),some (Fs fs),z,z']:=by
  unfold pG
  rw [qX hc ha,nH,if_pos jR]
  exact hL
 have hR:As 1 [some ↥36,some (.own (Wl (v::as))),some (Fs fs),z,z']=.rt (.lst (Wl (v::as))):=if_pos (eQ _)
 unfold av bj
 simp_arith [hl,show ¬ (600:Int)<l.length by omega,gK,d32,e0,cO,dO,dq,e1,e2,show ((as.length+1:Nat):Int) - 1=as.length by omega,hf,e3,e4,e5,hV,rq,show (fs.length:Int)=as.length by omega,hQ,hR]
end
def Dw (v:List Nat) (as:List ↥31):Prop:=az [.str (st v),.int as.length]=.ex "NoRow"\/∃ fs,az [.str (st v),.int as.length]=.ok (Fs fs)/\(fs.length≠as.length\/∃ p∈fs.zip as,cU p.1 p.2=false)
theorem gx {v:List Nat} {as:List ↥31} (hw:∀ w∈v::as,Wd w) (hz:(v::as).length<=100) (h:Dw v as):Bad (aq 32 (v::as)):=by
 have hs:=cX (c:=32) (v::as) ↥19 fun w m=>(hw w m).nb
 have hl:=df 32 (m:=700) (v::as) fun w m=>(hw w m).2
 have h2:(aq 32 (v::as)).length<=100000:=by
  have:(v::as).length*(700+1)<=100*701:=Nat.mul_le_mul_right _ hz
  omega
 have ha:as.length<=1000:=by rw [List.length_cons] at hz;omega
 have hw':∀ w∈as,w.length<=100000:=fun w m=>by have:=(hw w (.tail _ m)).2;omega
 rcases h with h | ⟨fs,h,hc | hx⟩
 ·exact oK h2 hs h
 ·exact kY h2 hs h hc
 ·by_cases hc:fs.length=as.length
  ·exact qd h2 hs h hc ha hw' hx
  ·exact kY h2 hs h hc
theorem rm {v:List Nat} {as:List ↥31} {fs:List PySem.Str} (hw:∀ w∈v::as,Wd w) (hz:(v::as).length<=100) (hl:(aq 32 (v::as)).length<=600) (hf:az [.str (st v),.int as.length]=.ok (Fs fs)) (hc:fs.length=as.length) (hx:∀ p∈fs.zip as,cU p.1 p.2=true) :
  av [.str (st (aq 32 (v::as)))]=.ok (.lst (Wl (v::as))) :=
 t8 hl (cX (c:=32) (v::as) ↥19 fun w m=>(hw w m).nb) hf hc (by rw [List.length_cons] at hz;omega) (fun w m=>by have:=(hw w (.tail _ m)).2;omega) hx
theorem ma {v:List Nat} {as:List ↥31} (h:[]∈v::as):Dw v as:=by
 rcases List.mem_cons.mp h with h | h
 ·subst h
  exact .inl (mM ↥0 ↥0)
 ·rcases u5 (st v) as.length with e | ⟨fs,e⟩
  ·exact .inl e
  ·refine .inr ⟨fs,e,?_⟩
   by_cases hc:fs.length=as.length
   ·right
    obtain ⟨i,hi,ei⟩:=List.getElem_of_mem h
    have hi':i<fs.length:=⋯
    refine ⟨(fs[i],as[i]),List.mem_of_getElem? (i:=i) (by rw [List.getElem?_zip_eq_some];exact ⟨List.getElem?_eq_getElem hi',List.getElem?_eq_getElem hi⟩),?_⟩
    rw [ei]
    exact vb _
   ·exact .inl hc
theorem aP {B:String} (h:af.contains B=true):gJ [.exc "NoRow",.cls B]=.ok (.bl ("NoRow" == B||B == "MillError")):=by
 rw [iG,eO,h]
 rfl
theorem vC:cA [.exc "NoRow"]=.ok ↥34:=by
 unfold cA dh
 simp_arith [aP eO,aP kI,aP kM,aP jq,aP kJ,aP gh,aP nc,aP jr,aP eP,aP kG,aP ng,aP kL,aP kH,aP kK,aP jo,jF,eO]
theorem cP {l:List Nat} (h:Bad l):aB [.str (st l)]=.ok ↥34:=by
 have h':av [.str (st l)]=.ex "NoRow":=h
 unfold aB ck
 simp_arith [h',jK,eO,vC]
theorem oa {ws:List ↥31} (hw:∀ w∈ws,Wd w) (hz:ws.length<=100) (h:av [.str (st (aq 32 ws))]=.ok (.lst (Wl ws))):aZ [.lst (Wl ws)]=.ok ↥34:=by
 have hj:bJ (st [32]) (.lst (Wl ws))=.ok (.str (st (aq 32 ws))):=cD ⋯ fun w m=>(hw w m).2
 obtain ⟨δ',hL,z,rfl⟩:=iM (put:=putN 2) (c:=gR (call gJ [var 2,con (.ty "str")])) (l:=ret (con ↥14)) (fun δ=>∃ z,δ=[some (.lst (Wl ws)),some (.own (Wl ws)),z]) (Wl ws) (fun d hd δ ⟨z,hδ⟩=>by
  subst hδ
  obtain ⟨w,_,rfl⟩:=List.mem_map.mp hd
  refine ⟨[some (.lst (Wl ws)),some (.own (Wl ws)),some (.str (st w))],rfl,?_,_,rfl⟩
  simp_arith [iE]) [some (.lst (Wl ws)),some (.own (Wl ws)),none] ⟨none,rfl⟩
 have hQ:pG (putN 2) (itA (var 1)) (gR (call gJ [var 2,con (.ty "str")])) (ret (con ↥14)) [some (.lst (Wl ws)),some (.own (Wl ws)),none]=.nx [some (.lst (Wl ws)),some (.own (Wl ws)),z]:=by
  have e:itA (var 1) (view [some (.lst (Wl ws)),some (.own (Wl ws)),none])=.ok (Wl ws):=rfl
  unfold pG
  rw [e,nH,if_pos (eQ ws)]
  exact hL
 have hC:gP 1 [some (.lst (Wl ws)),some (.own (Wl ws)),z]=.nx [some (.lst (Wl ws)),some (.own []),z]:=rfl
 have e1:∀ {δ:Dt},(bin oNe (var 1) (var 0)) (some (.lst (Wl ws))::some (.lst (Wl ws))::δ)=.ok ↥14:=fun {δ}=>Cf hw
 have e2:∀ {z:Option D},(bin oEq (call av [mS bJ (con (.str " ")) (var 0)]) (var 0)) [some (.lst (Wl ws)),some (.own []),z]=.ok ↥34:=fun {z}=>by
  simp_arith [gK,d32,hj,h,Cj hw]
 unfold aZ bK
 generalize hX:bin oEq (call av [mS bJ (con (.str " ")) (var 0)]) (var 0)=X at *
 generalize hY:bin oNe (var 1) (var 0)=Y at *
 simp_arith [gK,d32,hj,h,cO,dO,hV,iF,hQ,hC,e1,e2]
theorem mO {c m:Int} (hm:m=4\/m=40):∃ w,ba [.int c,.int m]=.ok (.str (st w))/\fS w=true/\(w.length:Int)<=m:=by
 have hp:uo (.int 10) (.int 40)=.ok (.int 10000000000000000000000000000000000000000):=by rw [zk ↥0 ↥0];rfl
 have hr:oMod (.int c) (.int 10000000000000000000000000000000000000000)=.ok (.int (c%10000000000000000000000000000000000000000)):=da ↥0
 have r0:0<=c%10000000000000000000000000000000000000000:=Int.emod_nonneg _ ↥0
 have r1:c%10000000000000000000000000000000000000000<10000000000000000000000000000000000000000:=Int.emod_lt_of_pos _ ↥0
 have hs:wJ [.int (c%10000000000000000000000000000000000000000)]=.ok (.str (st (dg (c%10000000000000000000000000000000000000000).toNat))):=Ae r0 (Nat.le_trans (vZ ↥0 (show nb 10000000000000000000000000000000000000000<=4*40+1 from Cr 40)) ↥0)
 have hf:=zQ (c%10000000000000000000000000000000000000000).toNat
 have hl:(dg (c%10000000000000000000000000000000000000000).toNat).length<=40:=(Dg ↥0).mpr ⋯
 generalize dg (c%10000000000000000000000000000000000000000).toNat=w0 at *
 obtain ⟨w1,hz,hf1,hl1⟩:=pJ hf (k:=m) ⋯ ⋯
 have cutw:∀ w:List Nat,fS w=true->w.length<=100->iz (.str (st w)) none (some m)=.ok (.str (st (w.take m.toNat)))/\fS (w.take m.toNat)=true/\((w.take m.toNat).length:Int)<=m:=fun w h h2=>by
  obtain ⟨h3,h4⟩:=cK.mp h
  refine ⟨p9 ⋯ ⋯,cK.mpr ⟨vc (fun c hc=>List.mem_of_mem_take hc) h3,?_⟩,?_⟩
  ·cases w with
   | nil=>exact absurd rfl h4
   | cons a r=>rcases hm with rfl | rfl<;>simp
  ·rw [List.length_take]
   omega
 have pv:∀ {δ:Dt} {z:Option D},part (some (var 1)) [z,some (.int m),some (.str (st w0))]=.ok (some m):=fun {δ z}=>rfl
 unfold ba cq
 by_cases g:c%3=0
 ·obtain ⟨a1,a2,a3⟩:=cutw w1 hf1 ⋯
  refine ⟨_,?_,a2,a3⟩
  simp_arith [hp,hr,hs,g,gK,hz,gi,aJ,aN,a1]
 ·obtain ⟨a1,a2,a3⟩:=cutw w0 hf ⋯
  refine ⟨_,?_,a2,a3⟩
  simp_arith [hp,hr,hs,g,gK,hz,gi,aJ,aN,a1]
def cM:List Nat:=[97,98,99,100,101,102,103,104,105,106,107,108,109,110,111,112,113,114,115,116,117,118,119,120,121,122]
theorem lO:PySem.Str.ofString "abcdefghijklmnopqrstuvwxyz"=st cM:=by decide
theorem jA:∀ c∈cM,97<=c/\c<=122:=by decide
theorem xn {c:Int}:∃ w,a8 [.int c]=.ok (.str (st w))/\isN w=true:=by
 have m6:=Int.emod_nonneg c (by decide:(6:Int)≠0)
 unfold a8 cm
 by_cases g:c%6=5
 ·have k0:0<=c / 6%6:=Int.emod_nonneg _ ↥0
  have k1:c / 6%6<6:=Int.emod_lt_of_pos _ ↥0
  have:∃ w,oIx (.lst [.str "add",.str "sum",.str "flags",.str "calm",.str "size",.str "halves"]) (.int (c / 6%6))=.ok (.str (st w))/\isN w=true:=by
   have h6:c / 6%6=0\/c / 6%6=1\/c / 6%6=2\/c / 6%6=3\/c / 6%6=4\/c / 6%6=5:=⋯
   rcases h6 with h | h | h | h | h | h<;>rw [h]
   ·exact ⟨[97,100,100],rfl,rfl⟩
   ·exact ⟨[115,117,109],rfl,rfl⟩
   ·exact ⟨[102,108,97,103,115],rfl,rfl⟩
   ·exact ⟨[99,97,108,109],rfl,rfl⟩
   ·exact ⟨[115,105,122,101],rfl,rfl⟩
   ·exact ⟨[104,97,108,118,101,115],rfl,rfl⟩
  obtain ⟨w,e,hw⟩:=this
  refine ⟨w,?_,hw⟩
  simp_arith [g,e]
 ·have s0:0<=c%8:=Int.emod_nonneg _ ↥0
  have s1:c%8<8:=Int.emod_lt_of_pos _ ↥0
  have two:c / 3%2=0\/c / 3%2=1:=⋯
  have hc:∃ cs:List Nat,comp (pF (var 2)) [0,1] ↥16 [some (.int c),some (.str (st cM)),some (.int (1+c%8))]=.ok (.lst (Wl (cs.map fun c=>[c])))/\(cs.length:Int)=1+c%8/\∀ x∈cs,97<=x/\x<=122:=by
   have hi:pF (var 2) [some (.int c),some (.str (st cM)),some (.int (1+c%8))]=.ok (d9 0 (1+c%8)):=fk ⋯ ⋯
   obtain ⟨cs,e,hl,hP⟩:=fN (P:=fun x=>97<=x/\x<=122) (ds:=d9 0 (1+c%8)) (f:=stC (con ↥34) ↥16 [0,1] [some (.int c),some (.str (st cM)),some (.int (1+c%8))]) (fun d hd=>by
    obtain ⟨k,hk,rfl⟩:=List.mem_map.mp hd
    have hk':=List.mem_range.mp hk
    have q0:gm (.int 7) (.int (0+k))=.ok (.int (7*(0+k))):=eC (MulOk.of (a:=3) (b:=64) ↥0 (eX.mpr ⋯) ↥0)
    have q1:gm (.int (7*(0+k))) (.int (c / 3%2))=.ok (.int (7*(0+k)*(c / 3%2))):=eC (MulOk.of (a:=64) (b:=64) (eX.mpr ⋯) (eX.mpr ⋯) ↥0)
    have i0:0<=(c / 8+7*(0+(k:Int))*(c / 3%2))%26:=Int.emod_nonneg _ ↥0
    have i1:(c / 8+7*(0+(k:Int))*(c / 3%2))%26<26:=Int.emod_lt_of_pos _ ↥0
    obtain ⟨x,hx,ex⟩:=jE (l:=cM) i0 (by show _<((26:Nat):Int);omega) ↥0
    refine ⟨x,jA x hx,?_⟩
    have e:↥16 (inC [0,1] [some (.int c),some (.str (st cM)),some (.int (1+c%8))] (.int (0+k)))=.ok (.str (st [x])):=by
     show (bin oIx (var 2) _) [some (.int (0+k)),some (.int c),some (.str (st cM))]=_
     simp_arith [q0,q1,ex]
    unfold stC
    rw [e]
    rfl)
   refine ⟨cs,?_,?_,hP⟩
   ·unfold comp dF
    rw [hi]
    show (if (d9 0 (1+c%8)).length<=100000 then _ else _)=_
    have hlen:(d9 0 (1+c%8)).length=(1+c%8 - 0).toNat:=by simp [d9]
    rw [if_pos (by rw [hlen];omega),e]
    show gH _=_
    unfold gH
    rw [if_pos (eQ _)]
   ·have hlen:(d9 0 (1+c%8)).length=(1+c%8 - 0).toNat:=by simp [d9]
    rw [hl,hlen]
    omega
  obtain ⟨cs,e,hl,hP⟩:=hc
  refine ⟨cs,?_,dB.mpr ⟨⟨fun z=>by rw [z] at hl;simp at hl;omega,⋯⟩,hP⟩⟩
  generalize comp (pF (var 2)) [0,1] _=C at *
  simp_arith [g,lO,gK,d0,e,jC (show cs.length<=10000 by omega)]
def oF:List Nat:=(PySem.Str.ofString "!\"#$&'()*+,-./0123456789:;<=>?@ABCDEFGHIJKLMNOPQRSTUVWXYZ[\\]^_`abcdefghijklmnopqrstuvwxyz{|}~").cps.toList
theorem Di:PySem.Str.ofString "!\"#$&'()*+,-./0123456789:;<=>?@ABCDEFGHIJKLMNOPQRSTUVWXYZ[\\]^_`abcdefghijklmnopqrstuvwxyz{|}~"=st oF:=by unfold oF st;simp
theorem yn:∀ c∈oF,33<=c/\c<128:=by decide +kernel
theorem gN:oF.length=93:=by decide +kernel
theorem yq {x:Int}:∃ c,aU [.int x]=.ok (.str (st [c]))/\33<=c/\c<128:=by
 have hl:b5 [.str (st oF)]=.ok (.int 93):=by rw [bO (by rw [gN];decide),gN];rfl
 have i0:0<=x%93:=Int.emod_nonneg _ ↥0
 have i1:x%93<93:=Int.emod_lt_of_pos _ ↥0
 obtain ⟨c,hc,e⟩:=jE (l:=oF) i0 (by rw [gN];exact i1) (by rw [gN];decide)
 refine ⟨c,?_,yn c hc⟩
 unfold aU cj
 simp_arith [Di,hl,e]
theorem ya {v:PySem.Str} {c o:Int} (h1:¬ v="size") (h2:¬ v="bits") (h3:oIn (.str v) (.tup [.str "way",.str "put"])=.ok ↥34):∃ cs:List Nat,aX [.str v,.int c,.int o]=.ok (.lst (Wl [cs]))/\1<=cs.length/\cs.length<=40/\∀ x∈cs,33<=x/\x<128:=by
 have m0:0<=o / 90%40:=Int.emod_nonneg _ ↥0
 have m1:o / 90%40<40:=Int.emod_lt_of_pos _ ↥0
 have n0:0<=o%90:=Int.emod_nonneg _ ↥0
 have n1:o%90<90:=Int.emod_lt_of_pos _ ↥0
 have hc:∃ cs:List Nat,comp (pF (bin aR ⇑1 (bin oMod (bin oDiv (var 2) ⇑90) ⇑40))) [1,2] (call aU [bin aR (var 1) (bin gm (var 0) (bin oMod (var 2) ⇑90))]) [some (.str v),some (.int c),some (.int o)]=.ok (.lst (Wl (cs.map fun c=>[c])))/\(cs.length:Int)=1+o / 90%40/\∀ x∈cs,33<=x/\x<128:=by
  have hi:pF (bin aR ⇑1 (bin oMod (bin oDiv (var 2) ⇑90) ⇑40)) [some (.str v),some (.int c),some (.int o)]=.ok (d9 0 (1+o / 90%40)):=by
   simp_arith [fk (show -4611686018427387904<=1+o / 90%40 by omega) ⋯]
  obtain ⟨cs,e,hl,hP⟩:=fN (P:=fun x=>33<=x/\x<128) (ds:=d9 0 (1+o / 90%40)) (f:=stC (con ↥34) (call aU [bin aR (var 1) (bin gm (var 0) (bin oMod (var 2) ⇑90))]) [1,2] [some (.str v),some (.int c),some (.int o)]) (fun d hd=>by
   obtain ⟨k,hk,rfl⟩:=List.mem_map.mp hd
   have hk':=List.mem_range.mp hk
   have q0:gm (.int (0+k)) (.int (o%90))=.ok (.int ((0+k)*(o%90))):=eC (MulOk.of (a:=64) (b:=64) (eX.mpr ⋯) (eX.mpr ⋯) ↥0)
   obtain ⟨x,ex,hx⟩:=yq (x:=c+(0+k)*(o%90))
   refine ⟨x,hx,?_⟩
   have e:(call aU [bin aR (var 1) (bin gm (var 0) (bin oMod (var 2) ⇑90))]) (inC [1,2] [some (.str v),some (.int c),some (.int o)] (.int (0+k)))=.ok (.str (st [x])):=by
    show (call aU _) [some (.int (0+k)),some (.int c),some (.int o)]=_
    simp_arith [q0,ex]
   unfold stC
   rw [e]
   rfl)
  have hlen:(d9 0 (1+o / 90%40)).length=(1+o / 90%40 - 0).toNat:=by simp [d9]
  refine ⟨cs,?_,?_,hP⟩
  ·unfold comp dF
   rw [hi]
   show (if (d9 0 (1+o / 90%40)).length<=100000 then _ else _)=_
   rw [if_pos (by rw [hlen];omega),e]
   show gH _=_
   unfold gH
   rw [if_pos (eQ _)]
  ·rw [hl,hlen]
   omega
 obtain ⟨cs,e,hl,hP⟩:=hc
 refine ⟨cs,?_,⋯,⋯,hP⟩
 unfold aX bN
 generalize comp (pF _) [1,2] _=C at *
 simp_arith [h1,h2,h3,gK,d0,e,jC (show cs.length<=10000 by omega)]
 rfl
theorem pZ {c o:Int}:∃ w1 w2,aX [.str "size",.int c,.int o]=.ok (.lst (Wl [w1,w2]))/\(fS w1=true/\w1.length<=4)/\fS w2=true/\w2.length<=4:=by
 obtain ⟨w1,e1,f1,l1⟩:=mO (c:=c) (m:=4) (.inl rfl)
 obtain ⟨w2,e2,f2,l2⟩:=mO (c:=o) (m:=4) (.inl rfl)
 refine ⟨w1,w2,?_,⟨f1,⋯⟩,f2,⋯⟩
 unfold aX bN
 simp_arith [e1,e2]
 rfl
theorem p0 {c o:Int}:∃ w1,aX [.str "bits",.int c,.int o]=.ok (.lst (Wl [w1]))/\fS w1=true/\w1.length<=40:=by
 obtain ⟨w1,e1,f1,l1⟩:=mO (c:=c) (m:=40) (.inr rfl)
 refine ⟨w1,?_,f1,⋯⟩
 have h1:¬ PySem.Str.ofString "bits"=PySem.Str.ofString "size":=by decide
 unfold aX bN
 simp_arith [h1,e1]
 rfl
theorem hZ {v:PySem.Str} {c o:Int} (h1:¬ v="size") (h2:¬ v="bits") (h3:oIn (.str v) (.tup [.str "way",.str "put"])=.ok ↥14):aX [.str v,.int c,.int o]=.ok (.lst (Wl [])):=by
 unfold aX bN
 simp_arith [h1,h2,h3]
 rfl
theorem dG {ws:List ↥31} (hw:∀ w∈ws,Wd w) (hz:ws.length<=100) (h:[]∈ws):Bad (aq 32 ws):=by
 cases ws with
 | nil=>cases h
 | cons v as=>exact gx hw hz (ma h)
theorem gW {ws:List ↥31} (hw:∀ w∈ws,Wd w) (hz:ws.length<=100):(aq 32 ws).length<=100000:=by
 have hl:=df 32 (m:=700) ws fun w m=>(hw w m).2
 have:ws.length*(700+1)<=100*701:=Nat.mul_le_mul_right _ hz
 omega
theorem rZ {ws:List ↥31} {c:Int} (hw:∀ w∈ws,Wd w) (h0:ws≠[]) (hz:ws.length<=50):∃ l,bB [.lst (Wl ws),.int c]=.ok ↥36/\Bad l:=by
 have hj:∀ {us:List ↥31},(∀ w∈us,w∈ws)->us.length<=50->bJ (st [32]) (.lst (Wl us))=.ok (.str (st (aq 32 us))):=fun {us} h h2=>cD ⋯ fun w m=>(hw w (h w m)).2
 have hl:=gW hw ⋯
 have pos:0<ws.length:=List.length_pos_iff.mpr h0
 have d2:PySem.Str.ofString "  "=st [32,32]:=by decide
 unfold bB cJ
 by_cases g0:c%3=0
 ·refine ⟨aq 32 ([]::ws),?_,dG (fun w m=>by rcases List.mem_cons.mp m with rfl | m;exact kO;exact hw w m) (by rw [List.length_cons];omega) (.head _)⟩
  have e:aq 32 ([]::ws)=[32]++aq 32 ws:=by cases ws with | nil=>exact absurd rfl h0 | cons a r=>rfl
  rw [e]
  simp_arith [gK,d32,hj (fun w m=>m) hz,g0,bM (show ([32]:List Nat).length+(aq 32 ws).length<=1000000 by show 1+_<=_;omega)]
 ·by_cases g1:c%3=1
  ·refine ⟨aq 32 (ws++[[]]),?_,dG (fun w m=>by rcases List.mem_append.mp m with m | m;exact hw w m;rw [List.mem_singleton.mp m];exact kO) (by rw [List.length_append];show _+1<=_;omega) ↥19⟩
   rw [dA h0 ↥19]
   simp_arith [gK,d32,hj (fun w m=>m) hz,g0,g1,bM (show (aq 32 ws).length+([32]:List Nat).length<=1000000 by show _+1<=_;omega)]
   rfl
  ·have k0:0<=c / 3%ws.length:=Int.emod_nonneg _ ⋯
   have k1:c / 3%ws.length<ws.length:=Int.emod_lt_of_pos _ ⋯
   obtain ⟨k,hk⟩:=Int.eq_ofNat_of_zero_le k0
   have em:oMod (.int (c / 3)) (.int ws.length)=.ok (.int k):=by rw [da ⋯,hk]
   have et:cut (Wl ws) none (some (1+(k:Int)))=Wl (ws.take (k+1)):=by rw [gn ⋯,d7,show (1+(k:Int)).toNat=k+1 by omega]
   have ed:cut (Wl ws) (some (1+(k:Int))) none=Wl (ws.drop (k+1)):=by rw [lP ⋯,l8,show (1+(k:Int)).toNat=k+1 by omega]
   have lt:(ws.take (k+1)).length<=50:=by rw [List.length_take];omega
   have ld:(ws.drop (k+1)).length<=50:=by rw [List.length_drop];omega
   have j1:=hj (us:=ws.take (k+1)) (fun w m=>List.mem_of_mem_take m) lt
   have j2:=hj (us:=ws.drop (k+1)) (fun w m=>List.mem_of_mem_drop m) ld
   have w1:∀ w∈ws.take (k+1),Wd w:=fun w m=>hw w (List.mem_of_mem_take m)
   have w2:∀ w∈ws.drop (k+1),Wd w:=fun w m=>hw w (List.mem_of_mem_drop m)
   have l1:=gW w1 ⋯
   have l2:=gW w2 ⋯
   have a1:=bM (a:=aq 32 (ws.take (k+1))) (b:=[32,32]) (by show _+2<=_;omega)
   have a2:=bM (a:=aq 32 (ws.take (k+1))++[32,32]) (b:=aq 32 (ws.drop (k+1))) (by rw [List.length_append];show _+2+_<=_;omega)
   refine ⟨aq 32 (ws.take (k+1))++[32,32]++aq 32 (ws.drop (k+1)),by simp_arith [gK,d32,d2,hj (fun w m=>m) hz,g0,g1,bD,em,hU,aJ,aN,cC,et,ed,j1,j2,a1,a2],?_⟩
   have nt:ws.take (k+1)≠[]:=by
    intro z
    have:=congrArg List.length z
    rw [List.length_take,List.length_nil] at this
    omega
   by_cases gd:ws.drop (k+1)=[]
   ·rw [gd]
    have e:aq 32 (ws.take (k+1))++[32,32]++aq 32 []=aq 32 (ws.take (k+1)++[[],[]]):=by
     rw [dA nt ↥19]
     simp [aq]
    rw [e]
    exact dG (fun w m=>by rcases List.mem_append.mp m with m | m;exact w1 w m;simp at m;subst m;exact kO) (by rw [List.length_append];show _+2<=_;omega) ↥19
   ·have e:aq 32 (ws.take (k+1))++[32,32]++aq 32 (ws.drop (k+1))=aq 32 (ws.take (k+1)++([]::ws.drop (k+1))):=by
     rw [dA nt ↥19]
     cases hd:ws.drop (k+1) with
     | nil=>exact absurd hd gd
     | cons a r=>simp [aq]
    rw [e]
    exact dG (fun w m=>by rcases List.mem_append.mp m with m | m;exact w1 w m;rcases List.mem_cons.mp m with rfl | m;exact kO;exact w2 w m) (by rw [List.length_append,List.length_cons,List.length_take,List.length_drop];omega) ↥19
def oU (v:List Nat):Bool := !(bC aH (st v)).isSome && !(bC au (st v)).isSome
def zi (v:List Nat):Bool:=cM.all (fun x=>oU (v++[x]))&&oU v.dropLast&&oU ((v.headD 0 - 32)::v.tail)
def qW (v:List Nat):Bool:=decide (v≠[]/\v.length<=6)&&v.all fun c=>decide (97<=c/\c<=122)
theorem none_of {o:Option D} (h:(!o.isSome)=true):o=none:=by cases o with | none=>rfl | some _=>cases h
theorem oS {v:List Nat} (h:oU v=true) {n:Int}:az [.str (st v),.int n]=.ex "NoRow":=by
 unfold oU at h
 rw [Bool.and_eq_true] at h
 exact mM (none_of h.1) (none_of h.2)
theorem bX {v:List Nat} (h:qW v=true):Wd v/\v≠[]/\v.length<=6/\∀ c∈v,97<=c/\c<=122:=by
 unfold qW at h
 simp only [Bool.and_eq_true,decide_eq_true_eq,List.all_eq_true] at h
 exact ⟨⟨fun c hc=>by have:=h.2 c hc;omega,⋯⟩,h.1.1,h.1.2,h.2⟩
theorem tx {v:List Nat} {c:Int} (hl:qW v=true) (ho:zi v=true):∃ v',bf [.str (st v),.int c]=.ok (.str (st v'))/\Wd v'/\oU v'=true:=by
 obtain ⟨wd,hn,h6,hc⟩:=bX hl
 unfold zi at ho
 simp only [Bool.and_eq_true,List.all_eq_true] at ho
 obtain ⟨⟨o1,o2⟩,o3⟩:=ho
 unfold bf bR
 by_cases g0:c%3=0
 ·have i0:0<=c / 3%26:=Int.emod_nonneg _ ↥0
  have i1:c / 3%26<26:=Int.emod_lt_of_pos _ ↥0
  obtain ⟨x,hx,ex⟩:=jE (l:=cM) i0 (by show _<((26:Nat):Int);omega) ↥0
  have a1:=bM (a:=v) (b:=[x]) (by show _+1<=_;omega)
  have:=jA x hx
  refine ⟨v++[x],?_,⟨fun c m => ?_,by rw [List.length_append];show _+1<=_;omega⟩,o1 x hx⟩
  ·simp_arith [g0,lO,ex,a1]
  ·rcases List.mem_append.mp m with m | m
   ·exact wd.1 c m
   ·rw [List.mem_singleton.mp m];omega
 ·by_cases g1:c%3=1
  ·refine ⟨v.dropLast,?_,⟨fun c m=>wd.1 c ((List.dropLast_sublist v).subset m),by rw [List.length_dropLast];omega⟩,o2⟩
   simp_arith [g0,g1,gi,aJ,aN,gQ,yp (show v.length<=1000000 by omega)]
  ·obtain ⟨x,r,rfl⟩:∃ x r,v=x::r:=by cases v with | nil=>exact absurd rfl hn | cons x r=>exact ⟨x,r,rfl⟩
   have hx:=hc x (.head _)
   have s1:iz (.str (st (x::r))) none (some 1)=.ok (.str (st [x])):=by rw [p9 ↥0 ⋯];rfl
   have s2:iz (.str (st (x::r))) (some 1) none=.ok (.str (st r)):=by rw [mi ↥0 ⋯];rfl
   have u1:mUp (.str (st [x]))=.ok (.str (st [x - 32])):=by
    show (if 97<=x/\x<=122 then _ else _)=_
    rw [if_pos hx]
    rfl
   rw [List.length_cons] at h6
   have a1:=bM (a:=[x - 32]) (b:=r) (by show 1+_<=_;omega)
   refine ⟨(x - 32)::r,?_,⟨fun c m => ?_,by rw [List.length_cons];omega⟩,o3⟩
   ·simp_arith [g0,g1,gi,aJ,aN,s1,s2,u1,a1]
   ·rcases List.mem_cons.mp m with rfl | m
    ·omega
    ·exact wd.1 c (.tail _ m)
theorem dY {w:List Nat} (h:isN w=true):Wd w:=by
 obtain ⟨h1,h2⟩:=dB.mp h
 exact ⟨fun c m=>by have:=h2 c m;omega,⋯⟩
theorem nJ {w:List Nat} {k x:Nat} (hk:k<w.length) (hx:x<97\/122<x):isN (w.take k++[x]++w.drop (k+1))=false:=by
 cases h:isN (w.take k++[x]++w.drop (k+1)) with
 | false=>rfl
 | true =>
  have:=(dB.mp h).2 x ↥19
  omega
def uppers:List Nat:=(PySem.Str.ofString "ABCDEFGHIJKLMNOPQRSTUVWXYZ").cps.toList
def others:List Nat:=(PySem.Str.ofString "0123456789-_.,'`{\x40[").cps.toList
theorem vj:PySem.Str.ofString "ABCDEFGHIJKLMNOPQRSTUVWXYZ"=st uppers:=by unfold uppers st;simp
theorem vk:PySem.Str.ofString "0123456789-_.,'`{\x40["=st others:=by unfold others st;simp
theorem pT:∀ c∈uppers,33<=c/\c<97:=by decide +kernel
theorem qt:∀ c∈others,33<=c/\c<128/\(c<97\/122<c):=by decide +kernel
theorem jt:uppers.length=26:=by decide +kernel
theorem jz:others.length=19:=by decide +kernel
theorem j3 {w:List Nat} {k x:Nat} (hw:w.length<=100):aR (.str (st (w.take k))) (.str (st [x]))=.ok (.str (st (w.take k++[x])))/\aR (.str (st (w.take k++[x]))) (.str (st (w.drop (k+1))))=.ok (.str (st (w.take k++[x]++w.drop (k+1)))):=by
 have h1:(w.take k).length<=100:=by rw [List.length_take];omega
 have h2:(w.drop (k+1)).length<=100:=by rw [List.length_drop];omega
 exact ⟨bM (by show _+1<=_;omega),bM (by rw [List.length_append];show _+1+_<=_;omega)⟩
theorem mj {w:List Nat} {k x:Nat} (hw:Wd w) (hx:33<=x/\x<128) (hl:w.length<=100):Wd (w.take k++[x]++w.drop (k+1)):=by
 refine ⟨fun c m => ?_,by rw [List.length_append,List.length_append,List.length_take,List.length_drop];show _+1+_<=_;omega⟩
 simp only [List.append_assoc,List.mem_append,List.mem_singleton] at m
 rcases m with m | rfl | m
 ·exact hw.1 c (List.mem_of_mem_take m)
 ·exact hx
 ·exact hw.1 c (List.mem_of_mem_drop m)
theorem uO {w:List Nat} {c:Int} (h:isN w=true):∃ w',bg [.str (st w),.int c]=.ok (.str (st w'))/\Wd w'/\isN w'=false:=by
 obtain ⟨⟨hn,h8⟩,hc⟩:=dB.mp h
 have hp:0<w.length:=List.length_pos_iff.mpr hn
 have hl:b5 [.str (st w)]=.ok (.int w.length):=bO ⋯
 have k0:0<=c / 4%w.length:=Int.emod_nonneg _ ⋯
 have k1:c / 4%w.length<w.length:=Int.emod_lt_of_pos _ ⋯
 obtain ⟨k,hk⟩:=Int.eq_ofNat_of_zero_le k0
 have em:oMod (.int (c / 4)) (.int w.length)=.ok (.int k):=by rw [da ⋯,hk]
 have s1:iz (.str (st w)) none (some (k:Int))=.ok (.str (st (w.take k))):=by rw [p9 ⋯ ⋯];rfl
 have s2:iz (.str (st w)) (some ((k:Int)+1)) none=.ok (.str (st (w.drop (k+1)))):=by rw [mi ⋯ ⋯,show ((k:Int)+1).toNat=k+1 by omega]
 unfold bg bS
 by_cases g0:c%4=0
 ·have d8:PySem.Str.ofString "abcdefgh"=st [97,98,99,100,101,102,103,104]:=by decide
  have a1:=bM (a:=w) (b:=w) ⋯
  have a2:=bM (a:=w++w) (b:=[97,98,99,100,101,102,103,104]) (by rw [List.length_append];show _+8<=_;omega)
  have s9:iz (.str (st (w++w++[97,98,99,100,101,102,103,104]))) none (some 9)=.ok (.str (st ((w++w++[97,98,99,100,101,102,103,104]).take 9))):=by rw [p9 ↥0 (by rw [List.length_append,List.length_append];show _+8<=_;omega)];rfl
  have l9:((w++w++[97,98,99,100,101,102,103,104]).take 9).length=9:=by rw [List.length_take,List.length_append,List.length_append];show min 9 (_+8)=9;omega
  refine ⟨_,by simp_arith [hl,em,g0,d8,a1,a2,gi,aJ,aN,s9];rfl,⟨fun c m => ?_,⋯⟩,?_⟩
  ·have m':=List.mem_of_mem_take m
   rcases List.mem_append.mp m' with m' | m'
   ·rcases List.mem_append.mp m' with m' | m'<;>(have:=hc c m';omega)
   ·simp at m';omega
  ·cases z:isN ((w++w++[97,98,99,100,101,102,103,104]).take 9) with
   | false=>rfl
   | true=>have:=(dB.mp z).1.2;omega
 ·by_cases g1:c%4=1
  ·have i0:0<=c / 40%26:=Int.emod_nonneg _ ↥0
   have i1:c / 40%26<26:=Int.emod_lt_of_pos _ ↥0
   obtain ⟨x,hx,ex⟩:=jE (l:=uppers) i0 (by rw [jt];exact i1) (by rw [jt];decide)
   obtain ⟨a1,a2⟩:=j3 (w:=w) (k:=k) (x:=x) ⋯
   have:=pT x hx
   refine ⟨w.take k++[x]++w.drop (k+1),?_,mj (dY h) ⋯ ⋯,nJ ⋯ ⋯⟩
   simp_arith [hl,em,g0,g1,gi,aJ,aN,s1,s2,vj,ex,a1,a2]
  ·have i0:0<=c / 40%19:=Int.emod_nonneg _ ↥0
   have i1:c / 40%19<19:=Int.emod_lt_of_pos _ ↥0
   obtain ⟨x,hx,ex⟩:=jE (l:=others) i0 (by rw [jz];exact i1) (by rw [jz];decide)
   obtain ⟨a1,a2⟩:=j3 (w:=w) (k:=k) (x:=x) ⋯
   have:=qt x hx
   refine ⟨w.take k++[x]++w.drop (k+1),?_,mj (dY h) ⋯ ⋯,nJ ⋯ ⋯⟩
   simp_arith [hl,em,g0,g1,gi,aJ,aN,s1,s2,vk,ex,a1,a2]
def marks:List Nat:=(PySem.Str.ofString "+-.eaO x,_").cps.toList
theorem zY:PySem.Str.ofString "+-.eaO x,_"=st marks:=by unfold marks st;simp
theorem uS:∀ c∈marks,c=32\/(33<=c/\c<128/\(c<48\/57<c)):=by decide +kernel
theorem lz:marks.length=10:=by decide +kernel
theorem iN {w:List Nat} (h:fS w=true) (hl:w.length<=700):Wd w:=⟨fun c m=>by have:=di.mp (cK.mp h).1 c m;omega,hl⟩
theorem kn {w:List Nat} {c m:Int} (h:fS w=true) (hm:m=4\/m=40) (hl:(w.length:Int)<=m):∃ w',aV [.str (st w),.int c,.int m]=.ok (.str (st w'))/\w'.length<=100 /\
  ((Wd w'/\(fS w'=false\/m<w'.length))\/∃ a b,w'=a++32::b/\Wd a/\Wd b):=by
 obtain ⟨hf,hn⟩:=cK.mp h
 have hp:0<w.length:=List.length_pos_iff.mpr hn
 have hL:b5 [.str (st w)]=.ok (.int w.length):=bO ⋯
 have k0:0<=c / 3%w.length:=Int.emod_nonneg _ ⋯
 have k1:c / 3%w.length<w.length:=Int.emod_lt_of_pos _ ⋯
 obtain ⟨k,hk⟩:=Int.eq_ofNat_of_zero_le k0
 have em:oMod (.int (c / 3)) (.int w.length)=.ok (.int k):=by rw [da ⋯,hk]
 have s1:iz (.str (st w)) none (some (k:Int))=.ok (.str (st (w.take k))):=by rw [p9 ⋯ ⋯];rfl
 have s2:iz (.str (st w)) (some ((k:Int)+1)) none=.ok (.str (st (w.drop (k+1)))):=by rw [mi ⋯ ⋯,show ((k:Int)+1).toNat=k+1 by omega]
 have wd:=iN h ⋯
 unfold aV bt
 by_cases g0:c%3=0
 ·have i0:0<=c / 120%10:=Int.emod_nonneg _ ↥0
  have i1:c / 120%10<10:=Int.emod_lt_of_pos _ ↥0
  obtain ⟨x,hx,ex⟩:=jE (l:=marks) i0 (by rw [lz];exact i1) (by rw [lz];decide)
  obtain ⟨a1,a2⟩:=j3 (w:=w) (k:=k) (x:=x) ⋯
  refine ⟨w.take k++[x]++w.drop (k+1),by simp_arith [hL,em,g0,gi,aJ,aN,s1,s2,zY,ex,a1,a2],by rw [List.length_append,List.length_append,List.length_take,List.length_drop];show _+1+_<=_;omega,?_⟩
  rcases uS x hx with rfl | hx
  ·exact .inr ⟨w.take k,w.drop (k+1),by simp,⟨fun c m=>wd.1 c (List.mem_of_mem_take m),by rw [List.length_take];omega⟩,⟨fun c m=>wd.1 c (List.mem_of_mem_drop m),by rw [List.length_drop];omega⟩⟩
  ·refine .inl ⟨mj wd ⋯ ⋯,.inl ?_⟩
   cases z:fS (w.take k++[x]++w.drop (k+1)) with
   | false=>rfl
   | true =>
    have:=di.mp (cK.mp z).1 x ↥19
    omega
 ·have two:c / 3%2=0\/c / 3%2=1:=⋯
  have:∃ n:Int,oIx (.lst [.int (m+1),.int 41]) (.int (c / 3%2))=.ok (.int n)/\m<n/\n<=41:=by
   rcases two with e | e<;>rw [e]
   ·exact ⟨m+1,rfl,⋯,⋯⟩
   ·exact ⟨41,rfl,⋯,⋯⟩
  obtain ⟨n,ei,n1,n2⟩:=this
  obtain ⟨w',ez,hf',hl'⟩:=pJ h (k:=n) ⋯ ⋯
  refine ⟨w',by simp_arith [hL,em,g0,ei,gK,ez],⋯,.inl ⟨iN hf' ⋯,.inr ⋯⟩⟩
theorem eF {c:Nat} {a b:List Nat} {post:List ↥31}:∀ pre:List ↥31,aq c (pre++(a++c::b)::post)=aq c (pre++a::b::post)
 | []=>by
  cases post with
  | nil=>rfl
  | cons p r=>show (a++c::b)++c::aq c (p::r)=a++c::(b++c::aq c (p::r));simp
 | [p]=>by
  have ih:=eF (c:=c) (a:=a) (b:=b) (post:=post) []
  show p++c::aq c ([]++(a++c::b)::post)=p++c::aq c ([]++a::b::post)
  rw [ih]
 | p::q::r=>by
  have ih:=eF (c:=c) (a:=a) (b:=b) (post:=post) (q::r)
  show p++c::aq c (q::r++(a++c::b)::post)=p++c::aq c (q::r++a::b::post)
  rw [ih]
section
variable {v:List Nat} {nm tl:List ↥31} {c:Int}
theorem la (h:nm.length<=100):aR (.lst [.str (st v)]) (.lst (Wl nm))=.ok (.lst (Wl (v::nm))):=by rw [eW (by rw [bD];show 1+_<=_;omega)];rfl
theorem put2 {a b:List ↥31} (h:a.length<=200) (h2:b.length<=200):aR (.lst (Wl a)) (.lst (Wl b))=.ok (.lst (Wl (a++b))):=by rw [eW (by rw [bD,bD];omega),nh]
theorem eu (h:nm.length<=100) (h2:tl.length<=100):aR (.lst (Wl (v::nm))) (.lst (Wl tl))=.ok (.lst (Wl (v::↥25))):=put2 (by rw [List.length_cons];omega) ⋯
theorem Bt {l:List Nat} (h:nm.length<=100) (h2:tl.length<=100) (hb:bB [.lst (Wl (v::↥25)),.int c]=.ok ↥36) :
  aa [.str (st v),.lst (Wl nm),.lst (Wl tl),.int 1,.int c]=.ok ↥36:=by
 unfold aa aw
 simp_arith [la h,eu h h2,hb]
theorem Bs {v':List Nat} (h:nm.length<=100) (h2:tl.length<=100) (hw:∀ w∈v'::↥25,Wd w) (ho:bf [.str (st v),.int c]=.ok (.str (st v'))) :
  aa [.str (st v),.lst (Wl nm),.lst (Wl tl),.int 2,.int c]=.ok (.str (st (aq 32 (v'::↥25)))):=by
 have hj:=cD (c:=32) (ws:=v'::↥25) (by rw [List.length_cons,List.length_append];omega) fun w m=>(hw w m).2
 unfold aa aw
 simp_arith [la h,eu h h2,ho,la (v:=v') h,eu (v:=v') h h2,gK,d32,hj]
theorem yk (h:nm.length<=100) (h2:tl.length<=100) (hw:∀ w∈v::↥25,Wd w) (i1:oIn ↥23 ↥29=.ok ↥34) :
  aa [.str (st v),.lst (Wl nm),.lst (Wl tl),.int 3,.int c]=.ok (.str (st (aq 32 ((v::↥25).take (1+c%2).toNat)))):=by
 have hj:=cD (c:=32) (ws:=(v::↥25).take (1+c%2).toNat) (by rw [List.length_take,List.length_cons,List.length_append];omega) fun w m=>(hw w (List.mem_of_mem_take m)).2
 have et:cut (Wl (v::↥25)) none (some (1+c%2))=Wl ((v::↥25).take (1+c%2).toNat):=by rw [gn ⋯,d7]
 unfold aa aw
 simp_arith [la h,eu h h2,i1,gK,d32,hU,aJ,aN,cC,et,hj]
theorem ym (h:nm.length<=100) (h2:tl.length<=100) (hw:∀ w∈v::↥25,Wd w) (i1:oIn ↥23 ↥29=.ok ↥14) (hd:st v="dot") (hc:c%2=0) :
  aa [.str (st v),.lst (Wl nm),.lst (Wl tl),.int 3,.int c]=.ok (.str (st (aq 32 ((v::↥25).take 2)))):=by
 have hj:=cD (c:=32) (ws:=(v::↥25).take 2) (by rw [List.length_take,List.length_cons,List.length_append];omega) fun w m=>(hw w (List.mem_of_mem_take m)).2
 have et:cut (Wl (v::↥25)) none (some 2)=Wl ((v::↥25).take 2):=by rw [gn ⋯,d7];rfl
 unfold aa aw
 simp_arith [la h,eu h h2,i1,eq_true hd,hc,gK,d32,hU,aJ,aN,cC,et,hj]
theorem vH (h:nm.length<=100) (h2:tl.length<=100) (hw:∀ w∈v::↥25,Wd w) (i1:oIn ↥23 ↥29=.ok ↥14) (hd:¬ st v="dot"\/¬ c%2=0) :
  aa [.str (st v),.lst (Wl nm),.lst (Wl tl),.int 3,.int c]=.ok (.str (st (aq 32 (v::↥25).dropLast))):=by
 have hj:=cD (c:=32) (ws:=(v::↥25).dropLast) (by rw [List.length_dropLast,List.length_cons,List.length_append];omega) fun w m=>(hw w ((List.dropLast_sublist _).subset m)).2
 have et:cut (Wl (v::↥25)) none (some (-1))=Wl (v::↥25).dropLast:=by rw [Dj,l7]
 unfold aa aw
 by_cases g:st v="dot"
 ·have g2:¬ c%2=0:=by rcases hd with hd | hd;exact absurd g hd;exact hd
  simp_arith [la h,eu h h2,i1,eq_true g,g2,gK,d32,hU,aJ,aN,gQ,cC,et,hj]
 ·simp_arith [la h,eu h h2,i1,g,gK,d32,hU,aJ,aN,gQ,cC,et,hj]
theorem nu {us:List ↥31} (h:nm.length<=100) (h2:tl.length<=100) (hu:us.length<=100) (hw:∀ w∈us,Wd w) (hm:bh [.str (st v),.lst (Wl (v::↥25)),.lst (Wl nm),.int c]=.ok (.lst (Wl us))) :
  aa [.str (st v),.lst (Wl nm),.lst (Wl tl),.int 4,.int c]=.ok (.str (st (aq 32 us))):=by
 have hj:=cD (c:=32) (ws:=us) ⋯ fun w m=>(hw w m).2
 unfold aa aw
 simp_arith [la h,eu h h2,hm,gK,d32,hj]
theorem Cz {ws:List ↥31} {n:List Nat} {r:List ↥31} (hl:ws.length<=23) (i1:oIn ↥23 ↥29=.ok ↥34) :
  bh [.str (st v),.lst (Wl ws),.lst (Wl (n::r)),.int c]=.ok (.lst (Wl (ws++List.replicate (23 - ws.length) n))):=by
 have et:cut (Wl (n::r)) none (some 1)=Wl [n]:=by rw [gn ⋯,d7];rfl
 have er:qx (.lst (Wl [n])) (.int (23 - (ws.length:Int)))=.ok (.lst (Wl (List.replicate (23 - ws.length) n))):=by
  unfold qx
  simp only
  rw [if_pos ⟨⋯,⋯,by show 1*_<=_;omega⟩,show (23 - (ws.length:Int)).toNat=23 - ws.length by omega]
  generalize 23 - ws.length=k
  congr 2
  induction k with
  | zero=>rfl
  | succ k ih=>rw [List.replicate_succ,List.flatten_cons,ih];rfl
 have ea:=put2 (a:=ws) (b:=List.replicate (23 - ws.length) n) ⋯ (by rw [List.length_replicate];omega)
 unfold bh cy
 simp_arith [i1,hU,aJ,aN,cC,et,bD,er,ea]
theorem CA {ws:List ↥31} {n:List Nat} {r:List ↥31} (hl:ws.length<=24) (i1:oIn ↥23 ↥29=.ok ↥14) (hd:st v="dot") (hc:c%2=0) :
  bh [.str (st v),.lst (Wl ws),.lst (Wl (n::r)),.int c]=.ok (.lst (Wl (ws++List.replicate (24 - ws.length) n))):=by
 have et:cut (Wl (n::r)) none (some 1)=Wl [n]:=by rw [gn ⋯,d7];rfl
 have er:qx (.lst (Wl [n])) (.int (24 - (ws.length:Int)))=.ok (.lst (Wl (List.replicate (24 - ws.length) n))):=by
  unfold qx
  simp only
  rw [if_pos ⟨⋯,⋯,by show 1*_<=_;omega⟩,show (24 - (ws.length:Int)).toNat=24 - ws.length by omega]
  generalize 24 - ws.length=k
  congr 2
  induction k with
  | zero=>rfl
  | succ k ih=>rw [List.replicate_succ,List.flatten_cons,ih];rfl
 have ea:=put2 (a:=ws) (b:=List.replicate (24 - ws.length) n) ⋯ (by rw [List.length_replicate];omega)
 unfold bh cy
 simp_arith [i1,eq_true hd,hc,hU,aJ,aN,cC,et,bD,er,ea]
theorem wa {ws ns:List ↥31} (hl:ws.length<=50) (i1:oIn ↥23 ↥29=.ok ↥14) (hd:¬ st v="dot"\/¬ c%2=0) :
  bh [.str (st v),.lst (Wl ws),.lst (Wl ns),.int c]=.ok (.lst (Wl (ws++[[97]]))):=by
 have d97:PySem.Str.ofString "a"=st [97]:=by decide
 have ea:aR (.lst (Wl ws)) (.lst [.str (st [97])])=.ok (.lst (Wl (ws++[[97]]))):=put2 (a:=ws) (b:=[[97]]) ⋯ ↥0
 unfold bh cy
 by_cases g:st v="dot"
 ·have g2:¬ c%2=0:=by rcases hd with hd | hd;exact absurd g hd;exact hd
  simp_arith [i1,eq_true g,g2,d97,ea]
 ·simp_arith [i1,g,d97,ea]
theorem p7 (h2:tl.length<=100):aa [.str (st v),.lst (Wl []),.lst (Wl tl),.int 5,.int c]=.ok (.str (st [])):=by
 have e0:b5 [.lst (Wl [])]=.ok (.int 0):=rfl
 unfold aa aw
 simp_arith [la (nm:=[]) (v:=v) ↥0,eu (nm:=[]) (v:=v) ↥0 h2,e0,d0]
theorem Br {k:Nat} {w w':List Nat} (h:nm.length<=100) (h2:tl.length<=100) (hp:0<nm.length) (hk:c%nm.length=k) (hg:nm[k]? = some w) (ho:bg [.str (st w),.int (c / 21)]=.ok (.str (st w'))) (hv:Wd v) (hn:∀ w∈nm,Wd w) (ht:∀ w∈tl,Wd w) (hw':Wd w') :
  aa [.str (st v),.lst (Wl nm),.lst (Wl tl),.int 5,.int c]=.ok (.str (st (aq 32 (v::(nm.take k++w'::(nm.drop (k+1)++tl)))))):=by
 have lt:(nm.take k).length<=100:=by rw [List.length_take];omega
 have ld:(nm.drop (k+1)).length<=100:=by rw [List.length_drop];omega
 have hj:=cD (c:=32) (ws:=v::(nm.take k++w'::(nm.drop (k+1)++tl))) (by rw [List.length_cons,List.length_append,List.length_cons,List.length_append];omega) fun w m=>by
  rcases List.mem_cons.mp m with rfl | m
  ·exact hv.2
  ·rcases List.mem_append.mp m with m | m
   ·exact (hn w (List.mem_of_mem_take m)).2
   ·rcases List.mem_cons.mp m with rfl | m
    ·exact hw'.2
    ·rcases List.mem_append.mp m with m | m
     ·exact (hn w (List.mem_of_mem_drop m)).2
     ·exact (ht w m).2
 have em:oMod (.int c) (.int nm.length)=.ok (.int k):=by rw [da ⋯,hk]
 have e1:cut (Wl nm) none (some (k:Int))=Wl (nm.take k):=by rw [gn ⋯,d7];rfl
 have e2:cut (Wl nm) (some ((k:Int)+1)) none=Wl (nm.drop (k+1)):=by rw [lP ⋯,l8,show ((k:Int)+1).toNat=k+1 by omega]
 have e3:oIx (.lst (Wl nm)) (.int k)=.ok (.str (st w)):=mF ⋯ hg
 have q1:=la (v:=v) (nm:=nm.take k) lt
 have q2:aR (.lst (Wl (v::nm.take k))) (.lst [.str (st w')])=.ok (.lst (Wl (v::(nm.take k++[w'])))):=put2 (a:=v::nm.take k) (b:=[w']) (by rw [List.length_cons];omega) (by show 1<=200;decide)
 have q3:aR (.lst (Wl (v::(nm.take k++[w'])))) (.lst (Wl (nm.drop (k+1))))=.ok (.lst (Wl (v::(nm.take k++[w']++nm.drop (k+1))))):=put2 (a:=v::(nm.take k++[w'])) (by rw [List.length_cons,List.length_append];show _+1+1<=_;omega) ⋯
 have q4:aR (.lst (Wl (v::(nm.take k++[w']++nm.drop (k+1))))) (.lst (Wl tl))=.ok (.lst (Wl (v::(nm.take k++w'::(nm.drop (k+1)++tl))))):=by
  rw [put2 (by rw [List.length_cons,List.length_append,List.length_append,List.length_take,List.length_drop];show _+1+_+1<=_;omega) ⋯]
  congr 3
  simp
 unfold aa aw
 simp_arith [la h,eu h h2,bD,show (0:Int)<nm.length by omega,em,gK,d32,hU,aJ,aN,cC,e1,e2,e3,ho,q1,q2,q3,q4,hj]
theorem mh (h:nm.length<=100) (h2:tl.length<=100) (i:oIn ↥23 (.tup [.str "size",.str "bits"])=.ok ↥14):aa [.str (st v),.lst (Wl nm),.lst (Wl tl),.int 6,.int c]=.ok (.str (st [])):=by
 unfold aa aw
 simp_arith [la h,eu h h2,i,d0]
theorem jU (h:nm.length<=100) (h2:tl.length<=100) (i:oIn ↥23 (.tup [.str "way",.str "put"])=.ok ↥14):aa [.str (st v),.lst (Wl nm),.lst (Wl tl),.int 7,.int c]=.ok (.str (st [])):=by
 unfold aa aw
 simp_arith [la h,eu h h2,i,d0]
theorem vJ {n:Int} (h0 : -100000<=n) (h1:n<=100000):jh (.str "7") (.int n)=.ok (.str (st (List.replicate n.toNat 55))):=by
 unfold jh
 simp only
 rw [if_pos ⟨rfl,h0,h1⟩]
 rfl
theorem Bq (h:nm.length<=100) (h2:tl.length<=100) (hw:∀ w∈v::↥25,Wd w) (hl:(aq 32 (v::↥25)).length<=600) (i:oIn ↥23 (.tup [.str "way",.str "put"])=.ok ↥34) :
  aa [.str (st v),.lst (Wl nm),.lst (Wl tl),.int 7,.int c]=.ok (.str (st (aq 32 (v::↥25)++List.replicate (601 - (aq 32 (v::↥25)).length) 55))):=by
 have hj:=cD (c:=32) (ws:=v::↥25) (by rw [List.length_cons,List.length_append];omega) fun w m=>(hw w m).2
 have hL:b5 [.str (st (aq 32 (v::↥25)))]=.ok (.int (aq 32 (v::↥25)).length):=bO ⋯
 have hs:=vJ (n:=601 - ((aq 32 (v::↥25)).length:Int)) ⋯ ⋯
 rw [show (601 - ((aq 32 (v::↥25)).length:Int)).toNat=601 - (aq 32 (v::↥25)).length by omega] at hs
 have ha:=bM (a:=aq 32 (v::↥25)) (b:=List.replicate (601 - (aq 32 (v::↥25)).length) 55) (by rw [List.length_replicate];omega)
 unfold aa aw
 simp_arith [la h,eu h h2,i,gK,d32,hj,hL,hs,ha]
end
def sev (v:List Nat) (nm:List ↥31):List Nat:=List.replicate (599 - (v.length:Int) - (aq 32 nm).length - nm.length).toNat 55
structure RowOk (v:List Nat) (nm tl:List ↥31):Prop where
 wd:∀ w∈tl,Wd w
 few:tl.length<=2
 good:av [.str (st (aq 32 (v::↥25)))]=.ok (.lst (Wl (v::↥25)))
 long:oIn ↥23 (.tup [.str "way",.str "put"])=.ok ↥14\/(oIn ↥23 (.tup [.str "way",.str "put"])=.ok ↥34/\av [.str (st (aq 32 (v::(nm++[sev v nm]))))]=.ok (.lst (Wl (v::(nm++[sev v nm])))))
 bad:∀ (k:Int) (c:Int),3<=k->k<=7->∃ l,aa [.str (st v),.lst (Wl nm),.lst (Wl tl),.int k,.int c]=.ok ↥36/\Bad l
structure VOk (v:List Nat):Prop where
 low:qW v=true
 odd:zi v=true
 row:∀ c:Int,∃ n:Nat,ah [.str (st v),.int c]=.ok (.int n)/\n<=21/\∀ c o:Int,∃ tl,aX [.str (st v),.int c,.int o]=.ok (.lst (Wl tl))/\∀ nm,nm.length=n->(∀ w∈nm,isN w=true)->RowOk v nm tl
theorem cN:Bad []:=dG (ws:=[[]]) (fun w m=>by rw [List.mem_singleton.mp m];exact kO) ↥0 (.head _)
theorem oE {v:List Nat} {nm tl:List ↥31} (hl:qW v=true) (ho:zi v=true) (hn:∀ w∈nm,isN w=true) (h21:nm.length<=21) (R:RowOk v nm tl) (k c:Int) (h1:1<=k) (h7:k<=7) :
  ∃ l,aa [.str (st v),.lst (Wl nm),.lst (Wl tl),.int k,.int c]=.ok ↥36/\Bad l:=by
 have wv:=(bX hl).1
 have few:=R.few
 have wr:∀ w∈nm++tl,Wd w:=fun w m=>by
  rcases List.mem_append.mp m with m | m
  ·exact dY (hn w m)
  ·exact R.wd w m
 have hL:(v::↥25).length<=50:=by rw [List.length_cons,List.length_append];omega
 by_cases g1:k=1
 ·subst g1
  obtain ⟨l,e,hb⟩:=rZ (ws:=v::↥25) (c:=c) (fun w m=>by rcases List.mem_cons.mp m with rfl | m;exact wv;exact wr w m) ↥19 hL
  exact ⟨l,Bt ⋯ ⋯ e,hb⟩
 ·by_cases g2:k=2
  ·subst g2
   obtain ⟨v',e,w',nk⟩:=tx (c:=c) hl ho
   have hw:∀ w∈v'::↥25,Wd w:=fun w m=>by rcases List.mem_cons.mp m with rfl | m;exact w';exact wr w m
   exact ⟨_,Bs ⋯ ⋯ hw e,gx hw (by rw [List.length_cons] at hL ⊢;omega) (.inl (oS nk))⟩
  ·exact R.bad k c ⋯ h7
theorem uN {v:List Nat} {ns:List Int} {j:Int} {n:Nat} (h21:n<=21):∃ (nm:List ↥31) (z:Option D),forL 4 (iw 3 (call a8 [bin aR (bin aR (call ai [var 1,bin aR ⇑2 (var 4)]) (bin gm ⇑11 (var 4))) (var 2)])) (d9 0 n) [some ↥23,some (.lst (ns.map .int)),some (.int j),some (.own []),none,none,none,none,none]=.nx [some ↥23,some (.lst (ns.map .int)),some (.int j),some (.own (Wl nm)),z,none,none,none,none]/\nm.length=n/\∀ w∈nm,isN w=true:=by
 have hlen:(d9 0 n).length=n:=by simp [d9]
 obtain ⟨δ',e,nm,z,rfl,hl,hn⟩:=lI (i:=4) (body:=iw 3 (call a8 [bin aR (bin aR (call ai [var 1,bin aR ⇑2 (var 4)]) (bin gm ⇑11 (var 4))) (var 2)])) (fun m δ=>∃ (nm:List ↥31) (z:Option D),δ=[some ↥23,some (.lst (ns.map .int)),some (.int j),some (.own (Wl nm)),z,none,none,none,none]/\nm.length=m/\(∀ w∈nm,isN w=true)) (d9 0 n) 0 [some ↥23,some (.lst (ns.map .int)),some (.int j),some (.own (Wl [])),none,none,none,none,none]
  (fun d hd m δ hm ⟨nm,z,e,hl,hn⟩=>by
   subst e
   obtain ⟨k,hk,rfl⟩:=List.mem_map.mp hd
   have hk':=List.mem_range.mp hk
   have e1:ai [.lst (ns.map .int),.int (2+(0+(k:Int)))]=.ok (.int (ns.getD (2+(0+(k:Int))).toNat 0)):=eK ⋯
   have e2:gm (.int 11) (.int (0+(k:Int)))=.ok (.int (11*(0+(k:Int)))):=eC (MulOk.of (a:=4) (b:=64) ↥0 (eX.mpr ⋯) ↥0)
   obtain ⟨w,ew,hw⟩:=xn (c:=ns.getD (2+(0+(k:Int))).toNat 0+11*(0+(k:Int))+j)
   have ea:∀ {δ:Dt},wM 3 δ (Wl nm) (.ok (.str (st w)))=.nx (δ.set 3 (some (.own (Wl (nm++[w]))))):=fun {δ}=>by
    rw [su rfl (by rw [bD];omega),<-nh]
    rfl
   refine ⟨[some ↥23,some (.lst (ns.map .int)),some (.int j),some (.own (Wl (nm++[w]))),some (.int (0+k)),none,none,none,none],?_,nm++[w],_,rfl,by rw [List.length_append,hl];rfl,fun x hx => ?_⟩
   ·simp_arith [e1,e2,ew,ea]
   ·rcases List.mem_append.mp hx with hx | hx
    ·exact hn x hx
    ·rw [List.mem_singleton.mp hx];exact hw) ⟨[],none,rfl,rfl,fun w h=>(nomatch h)⟩
 exact ⟨nm,z,e,by rw [hl,hlen,Nat.zero_add],hn⟩
theorem tO {v:List Nat} {nm tl:List ↥31} {x1 x2 z4 z8:Option D} {cc:Int} (hs:∀ k c:Int,1<=k->k<=7->∃ l,aa [.str (st v),.lst (Wl nm),.lst (Wl tl),.int k,.int c]=.ok ↥36/\Bad l) :
  ∃ z,u9 7 (Ay ⇑1 ⇑8) (ifs (gR (call aB [call aa [var 0,var 3,var 5,var 7,bin aR (var 6) (var 7)]])) (ret (con ↥14)) (aK)) [some ↥23,x1,x2,some (.lst (Wl nm)),z4,some (.lst (Wl tl)),some (.int cc),none,z8]=.nx [some ↥23,x1,x2,some (.lst (Wl nm)),z4,some (.lst (Wl tl)),some (.int cc),z,z8]:=by
 obtain ⟨δ',e,z,rfl⟩:=kj (i:=7) (body:=ifs (gR (call aB [call aa [var 0,var 3,var 5,var 7,bin aR (var 6) (var 7)]])) (ret (con ↥14)) (aK)) (fun δ=>∃ z,δ=[some ↥23,x1,x2,some (.lst (Wl nm)),z4,some (.lst (Wl tl)),some (.int cc),z,z8]) (d9 1 8) (fun d hd δ ⟨z,e⟩=>by
  subst e
  obtain ⟨k,hk,rfl⟩:=List.mem_map.mp hd
  have hk':=List.mem_range.mp hk
  obtain ⟨l,el,hb⟩:=hs (1+(k:Int)) (cc+(1+(k:Int))) ⋯ ⋯
  refine ⟨[some ↥23,x1,x2,some (.lst (Wl nm)),z4,some (.lst (Wl tl)),some (.int cc),some (.int (1+k)),z8],.inl ?_,_,rfl⟩
  simp_arith [el,cP hb]) _ ⟨none,rfl⟩
 refine ⟨z,?_⟩
 rw [vE]
 have:Ay ⇑1 ⇑8 [some ↥23,x1,x2,some (.lst (Wl nm)),z4,some (.lst (Wl tl)),some (.int cc),none,z8]=.ok (d9 1 8):=by
  show Az [.int 1,.int 8]=_
  exact om ↥0 ↥0 ↥0 ↥0
 rw [this]
 exact e
theorem xx {v:List Nat} (V:VOk v) {ns:List Int} {j:Int} (j0:0<=j) (j1:j<=100):aW [.str (st v),.lst (ns.map .int),.int j]=.ok ↥34:=by
 obtain ⟨n,en,n21,ht⟩:=V.row (ns.getD 1 0+j)
 obtain ⟨tl,et,hr⟩:=ht (ns.getD 24 0+7*j) (ns.getD 25 0+ns.getD 1 0 / 21)
 obtain ⟨wv,vn,v6,_⟩:=bX V.low
 have e0:ai [.lst (ns.map .int),.int 0]=.ok (.int (ns.getD 0 0)):=eK ↥0
 have e1:ai [.lst (ns.map .int),.int 1]=.ok (.int (ns.getD 1 0)):=eK ↥0
 have e24:ai [.lst (ns.map .int),.int 24]=.ok (.int (ns.getD 24 0)):=eK ↥0
 have e25:ai [.lst (ns.map .int),.int 25]=.ok (.int (ns.getD 25 0)):=eK ↥0
 have e26:ai [.lst (ns.map .int),.int 26]=.ok (.int (ns.getD 26 0)):=eK ↥0
 have m7:gm (.int 7) (.int j)=.ok (.int (7*j)):=eC (MulOk.of (a:=3) (b:=64) ↥0 (eX.mpr ⋯) ↥0)
 have m13:gm (.int 13) (.int j)=.ok (.int (13*j)):=eC (MulOk.of (a:=4) (b:=64) ↥0 (eX.mpr ⋯) ↥0)
 obtain ⟨nm,z,eL,hl,hn⟩:=uN (v:=v) (ns:=ns) (j:=j) n21
 have R:=hr nm hl hn
 have few:=R.few
 have hi:Aj (.int n)=.ok (d9 0 n):=fk ⋯ ⋯
 obtain ⟨N,hNn⟩:∃ N:Int,N=n:=⟨_,rfl⟩
 rw [<- hNn] at en hi eL
 have wn:∀ w∈nm,Wd w:=fun w m=>dY (hn w m)
 have wr:∀ w∈v::↥25,Wd w:=fun w m=>by
  rcases List.mem_cons.mp m with rfl | m
  ·exact wv
  ·rcases List.mem_append.mp m with m | m
   ·exact wn w m
   ·exact R.wd w m
 have fit:=oa wr (by rw [List.length_cons,List.length_append];omega) R.good
 have q1:=la (v:=v) (nm:=nm) ⋯
 have q2:=eu (v:=v) (nm:=nm) (tl:=tl) ⋯ ⋯
 have sp:∀ k c:Int,1<=k->k<=7->∃ l,aa [.str (st v),.lst (Wl nm),.lst (Wl tl),.int k,.int c]=.ok ↥36/\Bad l:=fun k c=>oE V.low V.odd hn ⋯ R k c
 unfold aW bL
 generalize hN:u9 7 (Ay ⇑1 ⇑8) _=T7 at *
 generalize hA:iw 3 _=A at *
 have turn:∀ {cc:Int} {z8:Option D},∃ z',T7 [some ↥23,some (.lst (ns.map .int)),some (.int j),some (.lst (Wl nm)),z,some (.lst (Wl tl)),some (.int cc),none,z8]=.nx [some ↥23,some (.lst (ns.map .int)),some (.int j),some (.lst (Wl nm)),z,some (.lst (Wl tl)),some (.int cc),z',z8]:=fun {cc z8}=>by
  rw [<- hN]
  exact tO sp
 rcases R.long with hw | ⟨hw,hg⟩
 ·obtain ⟨z',eT⟩:=turn (cc:=ns.getD 26 0+ns.getD 0 0 / 21+13*j) (z8:=none)
  simp_arith [e1,en,hi,eL,pU,yC,yD,e24,e25,m7,et,q1,q2,fit,hw,e26,e0,m13,eT]
 ·obtain ⟨z',eT⟩:=turn (cc:=ns.getD 26 0+ns.getD 0 0 / 21+13*j) (z8:=some (.lst (Wl (nm++[sev v nm]))))
  have lj:=gW wn ⋯
  have hj:=cD (c:=32) (ws:=nm) ⋯ fun w m=>(wn w m).2
  have b1:b5 [.str (st v)]=.ok (.int v.length):=bO ⋯
  have b2:b5 [.str (st (aq 32 nm))]=.ok (.int (aq 32 nm).length):=bO ⋯
  have sv:=vJ (n:=599 - (v.length:Int) - (aq 32 nm).length - nm.length) ⋯ ⋯
  have wsv:Wd (sev v nm):=⟨fun c m=>by rw [List.eq_of_mem_replicate m];decide,by unfold sev;rw [List.length_replicate];omega⟩
  have p1:aR (.lst (Wl nm)) (.lst [.str (st (sev v nm))])=.ok (.lst (Wl (nm++[sev v nm]))):=put2 (a:=nm) (b:=[sev v nm]) ⋯ (by show 1<=200;decide)
  have p2:aR (.lst [.str (st v)]) (.lst (Wl (nm++[sev v nm])))=.ok (.lst (Wl (v::(nm++[sev v nm])))):=la (by rw [List.length_append];show _+1<=_;omega)
  have fit2:=oa (ws:=v::(nm++[sev v nm])) (fun w m=>by
   rcases List.mem_cons.mp m with rfl | m
   ·exact wv
   ·rcases List.mem_append.mp m with m | m
    ·exact wn w m
    ·rw [List.mem_singleton.mp m];exact wsv) (by rw [List.length_cons,List.length_append];show _+1+1<=_;omega) hg
  have sv':jh (.str "7") (.int (599 - (v.length:Int) - (aq 32 nm).length - nm.length))=.ok (.str (st (sev v nm))):=sv
  simp_arith [e1,en,hi,eL,pU,yC,yD,e24,e25,m7,et,q1,q2,fit,hw,gK,d32,hj,b1,b2,bD,sv',p1,p2,fit2,e26,e0,m13,eT]
def gG (s:PySem.Str):Prop:=¬ s="text"/\¬ s="measure"/\¬ s="bits"
theorem cR {s:PySem.Str} (h:gG s) (w:List Nat):cU s w=isN w:=by unfold cU;rw [if_neg h.1,if_neg h.2.1,if_neg h.2.2]
theorem eY:gG "new":=by unfold gG;decide
theorem lx:gG "old":=by unfold gG;decide
structure Fx (v:List Nat) (fs:List PySem.Str):Prop where
 low:qW v=true
 form:bC aH (st v)=some (Fs fs)
 i1:oIn ↥23 ↥29=.ok ↥14
 nd:¬ st v="dot"
section
variable {v:List Nat} {fs:List PySem.Str} {nm tl:List ↥31} {c:Int}
theorem dW (hv:qW v=true) (hn:∀ w∈nm,isN w=true) (ht:∀ w∈tl,Wd w):∀ w∈v::↥25,Wd w:=fun w m=>by
 rcases List.mem_cons.mp m with rfl | m
 ·exact (bX hv).1
 ·rcases List.mem_append.mp m with m | m
  ·exact dY (hn w m)
  ·exact ht w m
theorem iK (F:Fx v fs) (hn:∀ w∈nm,isN w=true) (h21:nm.length<=21) (ht:∀ w∈tl,Wd w) (h2:tl.length<=2) (hl:(aq 32 (v::↥25)).length<=600) (hc:fs.length=nm.length+tl.length) (hx:∀ p∈fs.zip ↥25,cU p.1 p.2=true) :
  av [.str (st (aq 32 (v::↥25)))]=.ok (.lst (Wl (v::↥25))) :=
 rm (dW F.low hn ht) (by rw [List.length_cons,List.length_append];omega) hl (cw F.form) (by rw [List.length_append];omega) hx
theorem kh (F:Fx v fs) (hn:∀ w∈nm,isN w=true) (h21:nm.length<=21) (ht:∀ w∈tl,Wd w) (h2:tl.length<=2) (hc:fs.length=nm.length+tl.length) :
  ∃ l,aa [.str (st v),.lst (Wl nm),.lst (Wl tl),.int 3,.int c]=.ok ↥36/\Bad l:=by
 have wr:=dW F.low hn ht
 refine ⟨_,vH ⋯ ⋯ wr F.i1 (.inl F.nd),?_⟩
 by_cases g:nm++tl=[]
 ·rw [g]
  exact cN
 ·have e:(v::↥25).dropLast=v::(nm++tl).dropLast:=by
   cases h:nm++tl with
   | nil=>exact absurd h g
   | cons a r=>rfl
  have hp:0<(nm++tl).length:=List.length_pos_iff.mpr g
  rw [e]
  refine gx (fun w m=>wr w ?_) (by rw [List.length_cons,List.length_dropLast,List.length_append];omega) (.inr ⟨fs,cw F.form,.inl (by rw [List.length_dropLast];rw [List.length_append] at hp ⊢;omega)⟩)
  rcases List.mem_cons.mp m with rfl | m
  ·exact .head _
  ·exact .tail _ ((List.dropLast_sublist _).subset m)
theorem kg (F:Fx v fs) (hn:∀ w∈nm,isN w=true) (h21:nm.length<=21) (ht:∀ w∈tl,Wd w) (h2:tl.length<=2) (hc:fs.length=nm.length+tl.length) :
  ∃ l,aa [.str (st v),.lst (Wl nm),.lst (Wl tl),.int 4,.int c]=.ok ↥36/\Bad l:=by
 have wr:=dW F.low hn ht
 have wu:∀ w∈v::(nm++tl++[[97]]),Wd w:=fun w m=>by
  rcases List.mem_cons.mp m with rfl | m
  ·exact wr _ (.head _)
  ·rcases List.mem_append.mp m with m | m
   ·exact wr w (.tail _ m)
   ·rw [List.mem_singleton.mp m];exact ⟨by decide,by decide⟩
 have hm:=wa (v:=v) (c:=c) (ws:=v::↥25) (ns:=nm) (by rw [List.length_cons,List.length_append];omega) F.i1 (.inl F.nd)
 refine ⟨_,nu (us:=v::(nm++tl++[[97]])) ⋯ ⋯ (by rw [List.length_cons,List.length_append,List.length_append];show _+1+1<=_;omega) wu hm,?_⟩
 exact gx wu (by rw [List.length_cons,List.length_append,List.length_append];show _+1+1<=_;omega) (.inr ⟨fs,cw F.form,.inl (by rw [List.length_append,List.length_append];show _≠_+1;omega)⟩)
theorem gU {fs:List PySem.Str} (hv:qW v=true) (hf:az [.str (st v),.int (nm.length+tl.length:Nat)]=.ok (Fs fs)) (hn:∀ w∈nm,isN w=true) (h21:nm.length<=21) (ht:∀ w∈tl,Wd w) (h2:tl.length<=2) (hs:∀ k<nm.length,∃ s,fs[k]? = some s/\gG s) :
  ∃ l,aa [.str (st v),.lst (Wl nm),.lst (Wl tl),.int 5,.int c]=.ok ↥36/\Bad l:=by
 by_cases g:nm.length=0
 ·rw [List.length_eq_zero_iff.mp g]
  exact ⟨_,p7 ⋯,cN⟩
 ·have k0:0<=c%nm.length:=Int.emod_nonneg _ ⋯
  have k1:c%nm.length<nm.length:=Int.emod_lt_of_pos _ ⋯
  obtain ⟨k,hk⟩:=Int.eq_ofNat_of_zero_le k0
  have kl:k<nm.length:=⋯
  obtain ⟨w',e,ww,hw⟩:=uO (w:=nm[k]) (c:=c / 21) (hn _ (List.getElem_mem kl))
  refine ⟨_,Br ⋯ ⋯ ⋯ hk (List.getElem?_eq_getElem kl) e (bX hv).1 (fun w m=>dY (hn w m)) ht ww,?_⟩
  have len:(nm.take k++w'::(nm.drop (k+1)++tl)).length=nm.length+tl.length:=by rw [List.length_append,List.length_cons,List.length_append,List.length_take,List.length_drop];omega
  refine gx (fun w m => ?_) (by rw [List.length_cons,len];omega) (.inr ⟨fs,by rw [len];exact hf,.inr ?_⟩)
  ·rcases List.mem_cons.mp m with rfl | m
   ·exact (bX hv).1
   ·rcases List.mem_append.mp m with m | m
    ·exact dY (hn w (List.mem_of_mem_take m))
    ·rcases List.mem_cons.mp m with rfl | m
     ·exact ww
     ·rcases List.mem_append.mp m with m | m
      ·exact dY (hn w (List.mem_of_mem_drop m))
      ·exact ht w m
  ·obtain ⟨s,es,hS⟩:=hs k kl
   refine ⟨(s,w'),List.mem_of_getElem? (i:=k) ?_,by rw [cR hS];exact hw⟩
   rw [List.getElem?_zip_eq_some]
   refine ⟨es,?_⟩
   rw [List.getElem?_append_right (by rw [List.length_take];omega),List.length_take,Nat.min_eq_left ⋯,Nat.sub_self]
   rfl
theorem du {m:Nat} (hv:qW v=true) (hn:∀ w∈nm,isN w=true) (h21:nm.length<=21) (ht:∀ w∈tl,w.length<=40) (h2:tl.length<=2):(aq 32 (v::↥25)).length<=600:=by
 by_cases g:tl=[]
 ·subst g
  rw [List.append_nil]
  have:=df 32 (m:=8) (v::nm) (fun w z=>by
   rcases List.mem_cons.mp z with rfl | z
   ·have:=(bX hv).2.2.1;omega
   ·exact (dB.mp (hn w z)).1.2)
  rw [List.length_cons] at this
  have h3:(nm.length+1)*(8+1)<=22*9:=Nat.mul_le_mul_right _ ⋯
  omega
 ·have e:v::↥25=(v::nm)++tl:=rfl
  rw [e,dA ↥19 g,List.length_append,List.length_cons]
  have q1:=df 32 (m:=8) (v::nm) (fun w z=>by
   rcases List.mem_cons.mp z with rfl | z
   ·have:=(bX hv).2.2.1;omega
   ·exact (dB.mp (hn w z)).1.2)
  have q2:=df 32 (m:=40) tl ht
  rw [List.length_cons] at q1
  have h3:(nm.length+1)*(8+1)<=22*9:=Nat.mul_le_mul_right _ ⋯
  have h4:tl.length*(40+1)<=2*41:=Nat.mul_le_mul_right _ h2
  omega
end
theorem AS {P:Int->Prop} (h3:P 3) (h4:P 4) (h5:P 5) (h6:P 6) (h7:P 7) (k:Int) (a:3<=k) (b:k<=7):P k:=by
 have:k=3\/k=4\/k=5\/k=6\/k=7:=⋯
 rcases this with rfl | rfl | rfl | rfl | rfl
 ·exact h3
 ·exact h4
 ·exact h5
 ·exact h6
 ·exact h7
section
variable {v:List Nat} {fs:List PySem.Str}
theorem m3 {ss:List PySem.Str} (hs:∀ s∈ss,gG s):∀ k<ss.length,∀ r:List PySem.Str,∃ s,(ss++r)[k]? = some s/\gG s:=fun k hk r=>⟨ss[k],by rw [List.getElem?_append_left hk,List.getElem?_eq_getElem hk],hs _ (List.getElem_mem hk)⟩
theorem ox (F:Fx v fs) (ho:zi v=true) (hs:∀ s∈fs,gG s) (h6:oIn ↥23 (.tup [.str "size",.str "bits"])=.ok ↥14) (h7:oIn ↥23 (.tup [.str "way",.str "put"])=.ok ↥14)
  (n1:¬ st v="size") (n2:¬ st v="bits") (hm:∀ c,ah [.str (st v),.int c]=.ok (.int fs.length)) (hle:fs.length<=21):VOk v :=
 ⟨F.low,ho,fun c=>⟨fs.length,hm c,hle,fun c o=>⟨[],hZ n1 n2 h7,fun nm hl hn=>by
  have hc:fs.length=nm.length+([]:List ↥31).length:=by rw [hl];rfl
  have ht:∀ w∈([]:List ↥31),Wd w:=fun w m=>(nomatch m)
  refine ⟨ht,by decide,iK F hn ⋯ ht ↥0 (du (m:=0) F.low hn ⋯ (fun w m=>(nomatch m)) ↥0) hc fun p hp => ?_,.inl h7,fun k c a b=>AS (P:=fun k=>∃ l,aa [.str (st v),.lst (Wl nm),.lst (Wl []),.int k,.int c]=.ok ↥36/\Bad l) (kh F hn ⋯ ht ↥0 hc) (kg F hn ⋯ ht ↥0 hc)
   (gU F.low (cw F.form) hn ⋯ ht ↥0 fun k hk=>by
    have:=m3 hs k ⋯ []
    rw [List.append_nil] at this
    exact this) ⟨_,mh ⋯ ↥0 h6,cN⟩ ⟨_,jU ⋯ ↥0 h7,cN⟩ k a b⟩
  obtain ⟨m1,m2⟩:=List.of_mem_zip (a:=p.1) (b:=p.2) hp
  rw [cR (hs _ m1)]
  rw [List.append_nil] at m2
  exact hn _ m2⟩⟩⟩
structure Mx (v:List Nat) (q:Int):Prop where
 low:qW v=true
 odd:zi v=true
 form:bC aH (st v)=none
 rows:bC au (st v)=some (.int q)
 pos:0<q
 h6:oIn ↥23 (.tup [.str "size",.str "bits"])=.ok ↥14
 h7:oIn ↥23 (.tup [.str "way",.str "put"])=.ok ↥14
 n1:¬ st v="size"
 n2:¬ st v="bits"
theorem zE {q:Int} (M:Mx v q) {n:Nat} (h2:2<=n) (h21:n<=21) (hq:((n:Int) - 1)%q=0):az [.str (st v),.int n]=.ok (Fs ("new"::List.replicate (n - 1) "old")):=by
 rw [lH M.form M.rows M.pos ⋯ ⋯ hq]
 unfold Fs
 rw [List.map_cons,List.map_replicate,show ((n:Int) - 1).toNat=n - 1 by omega]
theorem nK {n:Nat}:∀ s∈PySem.Str.ofString "new"::List.replicate (n - 1) (PySem.Str.ofString "old"),gG s:=fun s m=>by
 rcases List.mem_cons.mp m with rfl | m
 ·exact eY
 ·rw [List.eq_of_mem_replicate m];exact lx
theorem v7 {q:Int} (M:Mx v q) {nm:List ↥31} (h2:2<=nm.length) (h21:nm.length<=21) (hq:((nm.length:Int) - 1)%q=0) (hn:∀ w∈nm,isN w=true)
  (b3:∀ c:Int,∃ l,aa [.str (st v),.lst (Wl nm),.lst (Wl []),.int 3,.int c]=.ok ↥36/\Bad l) (b4:∀ c:Int,∃ l,aa [.str (st v),.lst (Wl nm),.lst (Wl []),.int 4,.int c]=.ok ↥36/\Bad l):RowOk v nm []:=by
 have ht:∀ w∈([]:List ↥31),Wd w:=fun w m=>(nomatch m)
 have hf:=zE M h2 h21 hq
 have hlen:(PySem.Str.ofString "new"::List.replicate (nm.length - 1) (PySem.Str.ofString "old")).length=nm.length:=by rw [List.length_cons,List.length_replicate];omega
 refine ⟨ht,by decide,rm (dW M.low hn ht) (by rw [List.append_nil,List.length_cons];omega) (du (m:=0) M.low hn h21 (fun w m=>(nomatch m)) ↥0) (by rw [List.append_nil];exact hf) (by rw [List.append_nil];exact hlen) fun p hp => ?_,.inl M.h7,fun k c a b=>AS (P:=fun k=>∃ l,aa [.str (st v),.lst (Wl nm),.lst (Wl []),.int k,.int c]=.ok ↥36/\Bad l) (b3 c) (b4 c)
  (gU M.low (fs:="new"::List.replicate (nm.length - 1) "old") hf hn h21 ht ↥0 fun k hk=>by
   have:=m3 (nK (n:=nm.length)) k ⋯ []
   rw [List.append_nil] at this
   exact this) ⟨_,mh ⋯ ↥0 M.h6,cN⟩ ⟨_,jU ⋯ ↥0 M.h7,cN⟩ k a b⟩
 obtain ⟨m1,m2⟩:=List.of_mem_zip (a:=p.1) (b:=p.2) hp
 rw [cR (nK _ m1)]
 rw [List.append_nil] at m2
 exact hn _ m2
theorem dC {q:Int} (M:Mx v q) {as:List ↥31} (hw:∀ w∈v::as,Wd w) (hz:(v::as).length<=100) (h:(as.length:Int) - 1<1\/20<(as.length:Int) - 1\/((as.length:Int) - 1)%q≠0):Bad (aq 32 (v::as)) :=
 gx hw hz (.inl (nR M.form M.rows M.pos h))
theorem iC {nm:List ↥31} {ws:List ↥31} (hv:qW v=true) (hn:∀ w∈nm,isN w=true) (h:∀ w∈ws,w=v\/w∈nm\/w=[97]):∀ w∈ws,Wd w:=fun w m=>by
 rcases h w m with rfl | h | rfl
 ·exact (bX hv).1
 ·exact dY (hn w h)
 ·exact ⟨by decide,by decide⟩
theorem DO (M:Mx v 1) (i1:oIn ↥23 ↥29=.ok ↥34):VOk v :=
 ⟨M.low,M.odd,fun c=>by
  have m0:0<=c%20:=Int.emod_nonneg _ ↥0
  have m1:c%20<20:=Int.emod_lt_of_pos _ ↥0
  obtain ⟨r,hr⟩:=Int.eq_ofNat_of_zero_le m0
  refine ⟨2+r,?_,⋯,fun c o=>⟨[],hZ M.n1 M.n2 M.h7,fun nm hl hn=>v7 M ⋯ ⋯ ⋯ hn (fun c => ?_) (fun c => ?_)⟩⟩
  ·unfold ah ax
   simp_arith [i1,hr]
   rfl
  ·have ht:∀ w∈([]:List ↥31),Wd w:=fun w m=>(nomatch m)
   refine ⟨_,yk ⋯ ↥0 (dW M.low hn ht) i1,?_⟩
   have two:c%2=0\/c%2=1:=⋯
   rw [List.append_nil]
   rcases two with e | e<;>rw [e]
   ·exact dC M (as:=[]) (iC M.low hn fun w m=>.inl (List.mem_singleton.mp m)) (by show 1<=100;decide) (.inl ↥0)
   ·obtain ⟨a,s,rfl⟩:∃ a s,nm=a::s:=by cases nm with | nil=>simp at hl;omega | cons a s=>exact ⟨a,s,rfl⟩
    exact dC M (as:=[a]) (iC M.low hn fun w m=>by
     rcases List.mem_cons.mp m with rfl | m
     ·exact .inl rfl
     ·rw [List.mem_singleton.mp m];exact .inr (.inl (.head _))) (by show 2<=100;decide) (.inl (by show ((1:Nat):Int) - 1<1;decide))
  ·obtain ⟨a,s,rfl⟩:∃ a s,nm=a::s:=by cases nm with | nil=>simp at hl;omega | cons a s=>exact ⟨a,s,rfl⟩
   have hm:=Cz (v:=v) (c:=c) (ws:=v::(a::s++[])) (n:=a) (r:=s) (by rw [List.append_nil,List.length_cons];omega) i1
   have wu:∀ w∈v::(a::s++[]++List.replicate (23 - (v::(a::s++[])).length) a),Wd w:=iC M.low hn fun w m=>by
    rcases List.mem_cons.mp m with rfl | m
    ·exact .inl rfl
    ·rcases List.mem_append.mp m with m | m
     ·rw [List.append_nil] at m;exact .inr (.inl m)
     ·rw [List.eq_of_mem_replicate m];exact .inr (.inl (.head _))
   have len:(a::s++[]++List.replicate (23 - (v::(a::s++[])).length) a).length=22:=by
    rw [List.length_append,List.length_replicate,List.append_nil,List.length_cons (a:=v)]
    omega
   exact ⟨_,nu (us:=v::(a::s++[]++List.replicate (23 - (v::(a::s++[])).length) a)) ⋯ ↥0 (by rw [List.length_cons,len];decide) wu hm,dC M wu (by rw [List.length_cons,len];decide) (.inr (.inl (by rw [len];decide)))⟩⟩
theorem HK (M:Mx v 2) (i1:oIn ↥23 ↥29=.ok ↥14) (hd:st v="dot"):VOk v :=
 ⟨M.low,M.odd,fun c=>by
  have m0:0<=c%10:=Int.emod_nonneg _ ↥0
  have m1:c%10<10:=Int.emod_lt_of_pos _ ↥0
  obtain ⟨r,hr⟩:=Int.eq_ofNat_of_zero_le m0
  refine ⟨3+2*r,?_,⋯,fun c o=>⟨[],hZ M.n1 M.n2 M.h7,fun nm hl hn=>v7 M ⋯ ⋯ ⋯ hn (fun c => ?_) (fun c => ?_)⟩⟩
  ·have em:gm (.int 2) (.int (c%10))=.ok (.int (2*(c%10))):=eC (MulOk.of (a:=2) (b:=64) ↥0 (eX.mpr ⋯) ↥0)
   unfold ah ax
   simp_arith [i1,eq_true hd,em]
   rw [hr]
   rfl
  ·have ht:∀ w∈([]:List ↥31),Wd w:=fun w m=>(nomatch m)
   obtain ⟨a,s,rfl⟩:∃ a s,nm=a::s:=by cases nm with | nil=>simp at hl;omega | cons a s=>exact ⟨a,s,rfl⟩
   by_cases g:c%2=0
   ·refine ⟨_,ym ⋯ ↥0 (dW M.low hn ht) i1 hd g,?_⟩
    exact dC M (as:=[a]) (iC M.low hn fun w m=>by
     rcases List.mem_cons.mp m with rfl | m
     ·exact .inl rfl
     ·rw [List.mem_singleton.mp m];exact .inr (.inl (.head _))) (by show 2<=100;decide) (.inl (by show ((1:Nat):Int) - 1<1;decide))
   ·refine ⟨_,vH ⋯ ↥0 (dW M.low hn ht) i1 (.inr g),?_⟩
    have e:(v::(a::s++[])).dropLast=v::(a::s).dropLast:=by rw [List.append_nil];rfl
    have len:(a::s).dropLast.length=(a::s).length - 1:=List.length_dropLast
    rw [e]
    exact dC M (iC M.low hn fun w m=>by
     rcases List.mem_cons.mp m with rfl | m
     ·exact .inl rfl
     ·exact .inr (.inl ((List.dropLast_sublist _).subset m))) (by rw [List.length_cons,len];omega) (.inr (.inr (by rw [len];omega)))
  ·obtain ⟨a,s,rfl⟩:∃ a s,nm=a::s:=by cases nm with | nil=>simp at hl;omega | cons a s=>exact ⟨a,s,rfl⟩
   by_cases g:c%2=0
   ·have hm:=CA (v:=v) (c:=c) (ws:=v::(a::s++[])) (n:=a) (r:=s) (by rw [List.append_nil,List.length_cons];omega) i1 hd g
    have wu:∀ w∈v::(a::s++[]++List.replicate (24 - (v::(a::s++[])).length) a),Wd w:=iC M.low hn fun w m=>by
     rcases List.mem_cons.mp m with rfl | m
     ·exact .inl rfl
     ·rcases List.mem_append.mp m with m | m
      ·rw [List.append_nil] at m;exact .inr (.inl m)
      ·rw [List.eq_of_mem_replicate m];exact .inr (.inl (.head _))
    have len:(a::s++[]++List.replicate (24 - (v::(a::s++[])).length) a).length=23:=by
     rw [List.length_append,List.length_replicate,List.append_nil,List.length_cons (a:=v)]
     omega
    exact ⟨_,nu (us:=v::(a::s++[]++List.replicate (24 - (v::(a::s++[])).length) a)) ⋯ ↥0 (by rw [List.length_cons,len];decide) wu hm,dC M wu (by rw [List.length_cons,len];decide) (.inr (.inl (by rw [len];decide)))⟩
   ·have hm:=wa (v:=v) (c:=c) (ws:=v::(a::s++[])) (ns:=a::s) (by rw [List.append_nil,List.length_cons];omega) i1 (.inr g)
    have wu:∀ w∈v::(a::s++[]++[[97]]),Wd w:=iC M.low hn fun w m=>by
     rcases List.mem_cons.mp m with rfl | m
     ·exact .inl rfl
     ·rcases List.mem_append.mp m with m | m
      ·rw [List.append_nil] at m;exact .inr (.inl m)
      ·exact .inr (.inr (List.mem_singleton.mp m))
    have len:(a::s++[]++[[97]]).length=(a::s).length+1:=by rw [List.length_append,List.append_nil];rfl
    exact ⟨_,nu (us:=v::(a::s++[]++[[97]])) ⋯ ↥0 (by rw [List.length_cons,len];omega) wu hm,dC M wu (by rw [List.length_cons,len];omega) (.inr (.inr (by rw [len];omega)))⟩⟩
theorem Fo {ss:List PySem.Str} (F:Fx v (ss++[PySem.Str.ofString "text"])) (ho:zi v=true) (hs:∀ s∈ss,gG s) (h6:oIn ↥23 (.tup [.str "size",.str "bits"])=.ok ↥14) (h7:oIn ↥23 (.tup [.str "way",.str "put"])=.ok ↥34)
  (n1:¬ st v="size") (n2:¬ st v="bits") (hm:∀ c,ah [.str (st v),.int c]=.ok (.int ss.length)) (hle:ss.length<=1):VOk v :=
 ⟨F.low,ho,fun c=>⟨ss.length,hm c,⋯,fun c o=>by
  obtain ⟨cs,et,c1,c40,hcs⟩:=ya (c:=c) (o:=o) n1 n2 h7
  refine ⟨[cs],et,fun nm hl hn => ?_⟩
  have v6:=(bX F.low).2.2.1
  have ht:∀ w∈[cs],Wd w:=fun w m=>by rw [List.mem_singleton.mp m];exact ⟨hcs,⋯⟩
  have hc:(ss++[PySem.Str.ofString "text"]).length=nm.length+[cs].length:=by rw [List.length_append,hl];rfl
  have len1:[cs].length=1:=rfl
  have short:=du (m:=0) (tl:=[cs]) F.low hn ⋯ (fun w m=>by rw [List.mem_singleton.mp m];exact c40) (by show 1<=2;decide)
  have fits:∀ w:List Nat,w≠[]->∀ p∈(ss++[PySem.Str.ofString "text"]).zip (nm++[w]),cU p.1 p.2=true:=fun w hw p hp=>by
   rw [List.zip_append ⋯] at hp
   rcases List.mem_append.mp hp with hp | hp
   ·obtain ⟨m1,m2⟩:=List.of_mem_zip (a:=p.1) (b:=p.2) hp
    rw [cR (hs _ m1)]
    exact hn _ m2
   ·rw [List.mem_singleton.mp hp]
    show (if (PySem.Str.ofString "text")="text" then decide (w≠[]) else _)=true
    rw [if_pos rfl]
    exact decide_eq_true hw
  refine ⟨ht,by show 1<=2;decide,iK F hn ⋯ ht (by show 1<=2;decide) short hc (fits cs fun z=>by rw [z] at c1;simp at c1),.inr ⟨h7,?_⟩,fun k c a b=>AS (P:=fun k=>∃ l,aa [.str (st v),.lst (Wl nm),.lst (Wl [cs]),.int k,.int c]=.ok ↥36/\Bad l) (kh F hn ⋯ ht (by show 1<=2;decide) hc) (kg F hn ⋯ ht (by show 1<=2;decide) hc)
   (gU F.low (cw F.form) hn ⋯ ht (by show 1<=2;decide) fun k hk=>m3 hs k ⋯ _) ⟨_,mh ⋯ (by show 1<=100;decide) h6,cN⟩
   ⟨_,Bq ⋯ (by show 1<=100;decide) (dW F.low hn ht) short h7,hG (by rw [List.length_append,List.length_replicate];omega) (by rw [List.length_append,List.length_replicate];omega)⟩ k a b⟩
  have jn:=df 32 (m:=8) nm fun w m=>(dB.mp (hn w m)).1.2
  have jn2:nm.length*(8+1)<=1*9:=Nat.mul_le_mul_right _ ⋯
  have hsv:(sev v nm).length=(599 - (v.length:Int) - (aq 32 nm).length - nm.length).toNat:=by unfold sev;rw [List.length_replicate]
  have wsv:Wd (sev v nm):=⟨fun c m=>by rw [List.eq_of_mem_replicate m];decide,⋯⟩
  have ht2:∀ w∈[sev v nm],Wd w:=fun w m=>by rw [List.mem_singleton.mp m];exact wsv
  refine iK F hn ⋯ ht2 (by show 1<=2;decide) ?_ (by rw [List.length_append,hl];rfl) (fits _ fun z=>by rw [z] at hsv;rw [List.length_nil] at hsv;omega)
  cases nm with
  | nil =>
   show (v++32::sev v []).length<=600
   rw [List.length_append,List.length_cons,hsv]
   have:(aq 32 []).length=0:=rfl
   have:([]:List ↥31).length=0:=rfl
   omega
  | cons a r =>
   cases r with
   | cons b r=>rw [List.length_cons,List.length_cons] at hl;omega
   | nil =>
    show (v++32::(a++32::sev v [a])).length<=600
    rw [List.length_append,List.length_cons,List.length_append,List.length_cons,hsv]
    have:(aq 32 [a]).length=a.length:=rfl
    have:[a].length=1:=rfl
    omega⟩⟩
theorem mQ {nm pre post:List ↥31} {w:List Nat} {m c:Int} {s:PySem.Str} {k:Nat} (F:Fx v fs) (hw:fS w=true) (hm:m=4\/m=40) (hl:(w.length:Int)<=m) (hpre:∀ w∈pre,Wd w) (hpost:∀ w∈post,Wd w) (hz:pre.length+post.length<=20)
  (hf:fs.length=pre.length+1+post.length) (hs:fs[pre.length]? = some s) (hS:∀ u,cU s u=(fS u&&decide ((u.length:Int)<=m)))
  {w':List Nat} (h:((Wd w'/\(fS w'=false\/m<w'.length))\/∃ a b,w'=a++32::b/\Wd a/\Wd b)):Bad (aq 32 (v::(pre++w'::post))):=by
 have wv:=(bX F.low).1
 have mem:∀ {us:List ↥31},(∀ u∈us,Wd u)->∀ u∈v::(pre++(us++post)),Wd u:=fun {us} hu u m=>by
  rcases List.mem_cons.mp m with rfl | m
  ·exact wv
  ·rcases List.mem_append.mp m with m | m
   ·exact hpre u m
   ·rcases List.mem_append.mp m with m | m
    ·exact hu u m
    ·exact hpost u m
 rcases h with ⟨hW,h⟩ | ⟨a,b,rfl,ha,hb⟩
 ·refine gx (mem (us:=[w']) fun u m=>by rw [List.mem_singleton.mp m];exact hW) (by rw [List.length_cons,List.length_append,List.length_cons];omega) (.inr ⟨fs,cw F.form,.inr ⟨(s,w'),List.mem_of_getElem? (i:=pre.length) ?_,?_⟩⟩)
  ·rw [List.getElem?_zip_eq_some]
   exact ⟨hs,by rw [List.getElem?_append_right ↥30,Nat.sub_self];rfl⟩
  ·rw [hS]
   rcases h with h | h
   ·rw [h];rfl
   ·show (fS w'&&decide ((w'.length:Int)<=m))=false
    rw [decide_eq_false ⋯,Bool.and_false]
 ·have e:aq 32 (v::(pre++(a++32::b)::post))=aq 32 (v::(pre++a::b::post)):=eF (v::pre)
  rw [e]
  exact gx (mem (us:=[a,b]) fun u m=>by
   rcases List.mem_cons.mp m with rfl | m
   ·exact ha
   ·rw [List.mem_singleton.mp m];exact hb) (by rw [List.length_cons,List.length_append,List.length_cons,List.length_cons];omega) (.inr ⟨fs,cw F.form,.inl (by rw [List.length_append,List.length_cons,List.length_cons];omega)⟩)
end
theorem p6 {v:List Nat} {nm tl:List ↥31} {c m:Int} {k:Nat} {w w':List Nat} (h:nm.length<=100) (h2:tl.length<=100) (hp:0<tl.length) (hw:∀ w∈v::↥25,Wd w) (i:oIn ↥23 (.tup [.str "size",.str "bits"])=.ok ↥34) (hk:c%tl.length=k) (hg:(v::↥25)[nm.length+1+k]? = some w)
  (hm:bin oIx (iD [⇑40,⇑4]) (call sG [bin oEq (var 0) (con (.str "size"))]) [some ↥23,some (.lst (Wl nm)),some (.lst (Wl tl)),some (.int 6),some (.int c),some (.lst (Wl (v::↥25))),some (.int ((nm.length:Int)+1+k)),none]=.ok (.int m))
  (ho:aV [.str (st w),.int (c / 2),.int m]=.ok (.str (st w'))) (hl':w'.length<=100) :
  aa [.str (st v),.lst (Wl nm),.lst (Wl tl),.int 6,.int c]=.ok (.str (st (aq 32 ((v::↥25).take (nm.length+1+k)++w'::(v::↥25).drop (nm.length+1+k+1))))):=by
 have em:oMod (.int c) (.int tl.length)=.ok (.int k):=by rw [da ⋯,hk]
 have e1:cut (Wl (v::↥25)) none (some ((nm.length:Int)+1+k))=Wl ((v::↥25).take (nm.length+1+k)):=by rw [gn ⋯,d7,show ((nm.length:Int)+1+k).toNat=nm.length+1+k by omega]
 have e2:cut (Wl (v::↥25)) (some ((nm.length:Int)+1+k+1)) none=Wl ((v::↥25).drop (nm.length+1+k+1)):=by rw [lP ⋯,l8,show ((nm.length:Int)+1+k+1).toNat=nm.length+1+k+1 by omega]
 have e3:oIx (.lst (Wl (v::↥25))) (.int ((nm.length:Int)+1+k))=.ok (.str (st w)):=mF ⋯ (by rw [show ((nm.length:Int)+1+k).toNat=nm.length+1+k by omega];exact hg)
 have len:(v::↥25).length<=202:=by rw [List.length_cons,List.length_append];omega
 have lt:((v::↥25).take (nm.length+1+k)).length<=199\/True:=.inr trivial
 have kl:k<tl.length:=by
  have:=Int.emod_lt_of_pos c (show (0:Int)<tl.length by omega)
  omega
 have lt:((v::↥25).take (nm.length+1+k)).length=nm.length+1+k:=by rw [List.length_take,List.length_cons,List.length_append];omega
 have ld:((v::↥25).drop (nm.length+1+k+1)).length=tl.length - k - 1:=by rw [List.length_drop,List.length_cons,List.length_append];omega
 have q1:aR (.lst (Wl ((v::↥25).take (nm.length+1+k)))) (.lst [.str (st w')])=.ok (.lst (Wl ((v::↥25).take (nm.length+1+k)++[w']))):=by
  have:=eW (xs:=Wl ((v::↥25).take (nm.length+1+k))) (ys:=Wl [w']) (by rw [bD,bD,lt];show _+1<=_;omega)
  rw [nh] at this
  exact this
 have q2:aR (.lst (Wl ((v::↥25).take (nm.length+1+k)++[w']))) (.lst (Wl ((v::↥25).drop (nm.length+1+k+1))))=.ok (.lst (Wl ((v::↥25).take (nm.length+1+k)++w'::(v::↥25).drop (nm.length+1+k+1)))):=by
  rw [eW (by rw [bD,bD,List.length_append,lt,ld];show _+1+_<=_;omega),nh]
  congr 3
  simp
 have hj:=cD (c:=32) (ws:=(v::↥25).take (nm.length+1+k)++w'::(v::↥25).drop (nm.length+1+k+1)) (by rw [List.length_append,List.length_cons,lt,ld];omega) fun u m=>by
  rcases List.mem_append.mp m with m | m
  ·exact (hw u (List.mem_of_mem_take m)).2
  ·rcases List.mem_cons.mp m with rfl | m
   ·omega
   ·exact (hw u (List.mem_of_mem_drop m)).2
 unfold aa aw
 generalize hM:bin oIx (iD [⇑40,⇑4]) (call sG [bin oEq (var 0) (con (.str "size"))])=M at *
 simp_arith [la h,eu h h2,i,bD,em,e3,ho,hm,gK,d32,hU,aJ,aN,cC,e1,e2,q1,q2,hj]
def cd (s:String):List Nat:=(PySem.Str.ofString s).cps.toList
theorem sQ:VOk [115,105,122,101]:=by
 have F:Fx [115,105,122,101] ["measure","measure"]:=⟨by decide,rfl,rfl,by decide⟩
 have d:PySem.Str.ofString "size"=st [115,105,122,101]:=by decide
 refine ⟨by decide,by decide +kernel,fun c=>⟨0,?_,by decide,fun c o => ?_⟩⟩
 ·have i3:oIn (.str (st [115,105,122,101])) ↥38=.ok ↥14:=rfl
  have i5:oIn (.str (st [115,105,122,101])) (.tup [.str "same",.str "minus",.str "root",.str "whole",.str "less"])=.ok ↥14:=rfl
  have i6:oIn (.str (st [115,105,122,101])) (.tup [.str "show",.str "put",.str "bits"])=.ok ↥14:=rfl
  unfold ah ax
  simp_arith [F.i1,F.nd,i3,i5,i6,show ¬ st [115,105,122,101]=PySem.Str.ofString "fuse" by decide]
  try rfl
 ·obtain ⟨w1,w2,et,⟨f1,l1⟩,f2,l2⟩:=pZ (c:=c) (o:=o)
  refine ⟨[w1,w2],by rw [<- d];exact et,fun nm hl hn => ?_⟩
  have e0:nm=[]:=List.length_eq_zero_iff.mp hl
  subst e0
  have ht:∀ w∈[w1,w2],Wd w:=fun w m=>by
   rcases List.mem_cons.mp m with rfl | m
   ·exact iN f1 ⋯
   ·rw [List.mem_singleton.mp m];exact iN f2 ⋯
  have hS:∀ u,cU "measure" u=(fS u&&decide ((u.length:Int)<=4)):=fun u=>by
   show (if (PySem.Str.ofString "measure")="text" then _ else if (PySem.Str.ofString "measure")="measure" then _ else _)=_
   rw [if_neg ↥0,if_pos rfl]
   congr 1
   apply decide_eq_decide.mpr
   omega
  have short:=du (m:=0) (tl:=[w1,w2]) F.low hn ↥0 (fun w m=>by
   rcases List.mem_cons.mp m with rfl | m
   ·omega
   ·rw [List.mem_singleton.mp m];omega) (by show 2<=2;decide)
  refine ⟨ht,by show 2<=2;decide,iK F hn ↥0 ht (by show 2<=2;decide) short rfl (fun p hp => ?_),.inl rfl,fun k c a b=>AS (P:=fun k=>∃ l,aa [.str (st [115,105,122,101]),.lst (Wl []),.lst (Wl [w1,w2]),.int k,.int c]=.ok ↥36/\Bad l) (kh F hn ↥0 ht (by show 2<=2;decide) rfl) (kg F hn ↥0 ht (by show 2<=2;decide) rfl)
   ⟨_,p7 (by show 2<=100;decide),cN⟩ ?_ ⟨_,jU ↥0 (by show 2<=100;decide) rfl,cN⟩ k a b⟩
  ·have:p=(PySem.Str.ofString "measure",w1)\/p=(PySem.Str.ofString "measure",w2):=by
    have h2:p∈[(PySem.Str.ofString "measure",w1),(PySem.Str.ofString "measure",w2)]:=hp
    simpa using h2
   rcases this with rfl | rfl
   ·show cU (PySem.Str.ofString "measure") w1=true
    rw [hS,f1,decide_eq_true ⋯];rfl
   ·show cU (PySem.Str.ofString "measure") w2=true
    rw [hS,f2,decide_eq_true ⋯];rfl
  ·have i:oIn (.str (st [115,105,122,101])) (.tup [.str "size",.str "bits"])=.ok ↥34:=rfl
   have two:c%([w1,w2].length:Nat)=0\/c%([w1,w2].length:Nat)=1:=by
    have:(([w1,w2].length:Nat):Int)=2:=rfl
    rw [this]
    omega
   have wr:=dW F.low hn ht
   rcases two with e | e
   ·obtain ⟨w',ew,hl',h⟩:=kn (w:=w1) (c:=c / 2) (m:=4) f1 (.inl rfl) ⋯
    exact ⟨_,p6 (m:=4) (k:=0) (w:=w1) (w':=w') ↥0 (by show 2<=100;decide) (by show 0<2;decide) wr i e rfl (by simp_arith [d];try rfl) ew hl',mQ (nm:=[]) (k:=0) (c:=c) (m:=4) (pre:=[]) (post:=[w2]) (s:="measure") F f1 (.inl rfl) ⋯ (fun w m=>(nomatch m)) (fun w m=>ht w (.tail _ m)) (by show 0+1<=20;decide) rfl rfl hS h⟩
   ·obtain ⟨w',ew,hl',h⟩:=kn (w:=w2) (c:=c / 2) (m:=4) f2 (.inl rfl) ⋯
    exact ⟨_,p6 (m:=4) (k:=1) (w:=w2) (w':=w') ↥0 (by show 2<=100;decide) (by show 0<2;decide) wr i e rfl (by simp_arith [d];try rfl) ew hl',mQ (nm:=[]) (k:=0) (c:=c) (m:=4) (pre:=[w1]) (post:=[]) (s:="measure") F f2 (.inl rfl) ⋯ (fun w m=>ht w (by rw [List.mem_singleton.mp m];exact .head _)) (fun w m=>(nomatch m)) (by show 1+0<=20;decide) rfl rfl hS h⟩
theorem sX:VOk [98,105,116,115]:=by
 have F:Fx [98,105,116,115] ["new","bits"]:=⟨by decide,rfl,rfl,by decide⟩
 have d:PySem.Str.ofString "bits"=st [98,105,116,115]:=by decide
 refine ⟨by decide,by decide +kernel,fun c=>⟨1,?_,by decide,fun c o => ?_⟩⟩
 ·have i3:oIn (.str (st [98,105,116,115])) ↥38=.ok ↥14:=rfl
  have i5:oIn (.str (st [98,105,116,115])) (.tup [.str "same",.str "minus",.str "root",.str "whole",.str "less"])=.ok ↥14:=rfl
  have i6:oIn (.str (st [98,105,116,115])) (.tup [.str "show",.str "put",.str "bits"])=.ok ↥34:=rfl
  unfold ah ax
  simp_arith [F.i1,F.nd,i3,i5,i6,show ¬ st [98,105,116,115]=PySem.Str.ofString "fuse" by decide]
  try rfl
 ·obtain ⟨w1,et,f1,l1⟩:=p0 (c:=c) (o:=o)
  refine ⟨[w1],by rw [<- d];exact et,fun nm hl hn => ?_⟩
  obtain ⟨a,rfl⟩:∃ a,nm=[a]:=List.length_eq_one_iff.mp hl
  have ha:=hn a (.head _)
  have ht:∀ w∈[w1],Wd w:=fun w m=>by rw [List.mem_singleton.mp m];exact iN f1 ⋯
  have hS:∀ u,cU "bits" u=(fS u&&decide ((u.length:Int)<=40)):=fun u=>by
   show (if (PySem.Str.ofString "bits")="text" then _ else if (PySem.Str.ofString "bits")="measure" then _ else if (PySem.Str.ofString "bits")="bits" then _ else _)=_
   rw [if_neg ↥0,if_neg ↥0,if_pos rfl]
   congr 1
   apply decide_eq_decide.mpr
   omega
  have short:=du (m:=0) (tl:=[w1]) F.low hn (by show 1<=21;decide) (fun w m=>by rw [List.mem_singleton.mp m];exact l1) (by show 1<=2;decide)
  refine ⟨ht,by show 1<=2;decide,iK F hn (by show 1<=21;decide) ht (by show 1<=2;decide) short rfl (fun p hp => ?_),.inl rfl,fun k c p q=>AS (P:=fun k=>∃ l,aa [.str (st [98,105,116,115]),.lst (Wl [a]),.lst (Wl [w1]),.int k,.int c]=.ok ↥36/\Bad l) (kh F hn (by show 1<=21;decide) ht (by show 1<=2;decide) rfl) (kg F hn (by show 1<=21;decide) ht (by show 1<=2;decide) rfl)
   (gU F.low (cw F.form) hn (by show 1<=21;decide) ht (by show 1<=2;decide) fun k hk=>⟨"new",by
    have hk':k<1:=hk
    rw [show k=0 by omega];rfl,eY⟩) ?_ ⟨_,jU (by show 1<=100;decide) (by show 1<=100;decide) rfl,cN⟩ k p q⟩
  ·have:p=(PySem.Str.ofString "new",a)\/p=(PySem.Str.ofString "bits",w1):=by
    have h2:p∈[(PySem.Str.ofString "new",a),(PySem.Str.ofString "bits",w1)]:=hp
    simpa using h2
   rcases this with rfl | rfl
   ·rw [cR eY];exact ha
   ·show cU (PySem.Str.ofString "bits") w1=true
    rw [hS,f1,decide_eq_true ⋯];rfl
  ·have i:oIn (.str (st [98,105,116,115])) (.tup [.str "size",.str "bits"])=.ok ↥34:=rfl
   have e:c%([w1].length:Nat)=(0:Nat):=by
    have:(([w1].length:Nat):Int)=1:=rfl
    rw [this]
    omega
   have wr:=dW F.low hn ht
   have ns:¬ st [98,105,116,115]=PySem.Str.ofString "size":=by decide
   obtain ⟨w',ew,hl',h⟩:=kn (w:=w1) (c:=c / 2) (m:=40) f1 (.inr rfl) ⋯
   exact ⟨_,p6 (m:=40) (k:=0) (w:=w1) (w':=w') (by show 1<=100;decide) (by show 1<=100;decide) (by show 0<1;decide) wr i e rfl (by simp_arith [ns];try rfl) ew hl',mQ (nm:=[]) (k:=0) (c:=c) (m:=40) (pre:=[a]) (post:=[]) (s:="bits") F f1 (.inr rfl) ⋯ (fun w m=>by rw [List.mem_singleton.mp m];exact dY ha) (fun w m=>(nomatch m)) (by show 1+0<=20;decide) rfl rfl hS h⟩
section
variable {v:List Nat} {fs:List PySem.Str} {c:Int}
theorem uT (F:Fx v fs) (i3:oIn ↥23 ↥38=.ok ↥34):ah [.str (st v),.int c]=.ok (.int 3):=by
 unfold ah ax
 simp_arith [F.i1,F.nd,i3]
theorem E0 (F:Fx v fs) (i3:oIn ↥23 ↥38=.ok ↥14) (h:st v="fuse"):ah [.str (st v),.int c]=.ok (.int 4):=by
 unfold ah ax
 simp_arith [F.i1,F.nd,i3,eq_true h]
theorem qV (F:Fx v fs) (i3:oIn ↥23 ↥38=.ok ↥14) (h:¬ st v="fuse") (i5:oIn ↥23 (.tup [.str "same",.str "minus",.str "root",.str "whole",.str "less"])=.ok ↥34):ah [.str (st v),.int c]=.ok (.int 2):=by
 unfold ah ax
 simp_arith [F.i1,F.nd,i3,h,i5]
theorem many1 {b:Bool} (F:Fx v fs) (i3:oIn ↥23 ↥38=.ok ↥14) (h:¬ st v="fuse") (i5:oIn ↥23 (.tup [.str "same",.str "minus",.str "root",.str "whole",.str "less"])=.ok ↥14) (i6:oIn ↥23 (.tup [.str "show",.str "put",.str "bits"])=.ok (.bl b)):ah [.str (st v),.int c]=.ok (.int (if b then 1 else 0)):=by
 unfold ah ax
 simp_arith [F.i1,F.nd,i3,h,i5,i6]
end
theorem cH {ss:List PySem.Str} (h:ss.all (fun s=>decide (s="new"\/s="old"))=true):∀ s∈ss,gG s:=fun s m=>by
 have:=List.all_eq_true.mp h s m
 rcases of_decide_eq_true this with rfl | rfl
 ·exact eY
 ·exact lx
theorem sS:VOk [115,97,109,101]:=by
 have F:=(⟨by decide,rfl,rfl,by decide⟩:Fx [115,97,109,101] [PySem.Str.ofString "new",PySem.Str.ofString "old"])
 exact ox F ↥24 (cH ↥0) rfl rfl ↥0 ↥0 (fun c=>qV F rfl ↥0 rfl) ↥0
theorem pQ:VOk [109,105,110,117,115]:=by
 have F:=(⟨by decide,rfl,rfl,by decide⟩:Fx [109,105,110,117,115] [PySem.Str.ofString "new",PySem.Str.ofString "old"])
 exact ox F ↥24 (cH ↥0) rfl rfl ↥0 ↥0 (fun c=>qV F rfl ↥0 rfl) ↥0
theorem sT:VOk [114,111,111,116]:=by
 have F:=(⟨by decide,rfl,rfl,by decide⟩:Fx [114,111,111,116] [PySem.Str.ofString "new",PySem.Str.ofString "old"])
 exact ox F ↥24 (cH ↥0) rfl rfl ↥0 ↥0 (fun c=>qV F rfl ↥0 rfl) ↥0
theorem pP:VOk [119,104,111,108,101]:=by
 have F:=(⟨by decide,rfl,rfl,by decide⟩:Fx [119,104,111,108,101] [PySem.Str.ofString "new",PySem.Str.ofString "old"])
 exact ox F ↥24 (cH ↥0) rfl rfl ↥0 ↥0 (fun c=>qV F rfl ↥0 rfl) ↥0
theorem sU:VOk [108,101,115,115]:=by
 have F:=(⟨by decide,rfl,rfl,by decide⟩:Fx [108,101,115,115] [PySem.Str.ofString "old",PySem.Str.ofString "old"])
 exact ox F ↥24 (cH ↥0) rfl rfl ↥0 ↥0 (fun c=>qV F rfl ↥0 rfl) ↥0
theorem xv:VOk [97,100,100]:=by
 have F:=(⟨by decide,rfl,rfl,by decide⟩:Fx [97,100,100] [PySem.Str.ofString "new",PySem.Str.ofString "old",PySem.Str.ofString "old"])
 exact ox F ↥24 (cH ↥0) rfl rfl ↥0 ↥0 (fun c=>uT F rfl) ↥0
theorem sP:VOk [116,97,107,101]:=by
 have F:=(⟨by decide,rfl,rfl,by decide⟩:Fx [116,97,107,101] [PySem.Str.ofString "new",PySem.Str.ofString "old",PySem.Str.ofString "old"])
 exact ox F ↥24 (cH ↥0) rfl rfl ↥0 ↥0 (fun c=>uT F rfl) ↥0
theorem xr:VOk [109,117,108]:=by
 have F:=(⟨by decide,rfl,rfl,by decide⟩:Fx [109,117,108] [PySem.Str.ofString "new",PySem.Str.ofString "old",PySem.Str.ofString "old"])
 exact ox F ↥24 (cH ↥0) rfl rfl ↥0 ↥0 (fun c=>uT F rfl) ↥0
theorem xu:VOk [100,105,118]:=by
 have F:=(⟨by decide,rfl,rfl,by decide⟩:Fx [100,105,118] [PySem.Str.ofString "new",PySem.Str.ofString "old",PySem.Str.ofString "old"])
 exact ox F ↥24 (cH ↥0) rfl rfl ↥0 ↥0 (fun c=>uT F rfl) ↥0
theorem sV:VOk [102,117,115,101]:=by
 have F:=(⟨by decide,rfl,rfl,by decide⟩:Fx [102,117,115,101] [PySem.Str.ofString "new",PySem.Str.ofString "old",PySem.Str.ofString "old",PySem.Str.ofString "old"])
 exact ox F ↥24 (cH ↥0) rfl rfl ↥0 ↥0 (fun c=>E0 F rfl ↥0) ↥0
theorem sR:VOk [115,104,111,119]:=by
 have F:=(⟨by decide,rfl,rfl,by decide⟩:Fx [115,104,111,119] [PySem.Str.ofString "old"])
 exact ox F ↥24 (cH ↥0) rfl rfl ↥0 ↥0 (fun c=>many1 (b:=true) F rfl ↥0 rfl rfl) ↥0
theorem pR:VOk [102,108,97,103,115]:=by
 have F:=(⟨by decide,rfl,rfl,by decide⟩:Fx [102,108,97,103,115] [])
 exact ox F ↥24 (cH ↥0) rfl rfl ↥0 ↥0 (fun c=>many1 (b:=false) F rfl ↥0 rfl rfl) ↥0
theorem sW:VOk [99,97,108,109]:=by
 have F:=(⟨by decide,rfl,rfl,by decide⟩:Fx [99,97,108,109] [])
 exact ox F ↥24 (cH ↥0) rfl rfl ↥0 ↥0 (fun c=>many1 (b:=false) F rfl ↥0 rfl rfl) ↥0
theorem xo:VOk [119,97,121]:=by
 have F:=(⟨by decide,rfl,rfl,by decide⟩:Fx [119,97,121] ([]++[PySem.Str.ofString "text"]))
 exact Fo F ↥24 (cH ↥0) rfl rfl ↥0 ↥0 (fun c=>many1 (b:=false) F rfl ↥0 rfl rfl) ↥0
theorem xq:VOk [112,117,116]:=by
 have F:=(⟨by decide,rfl,rfl,by decide⟩:Fx [112,117,116] ([PySem.Str.ofString "new"]++[PySem.Str.ofString "text"]))
 exact Fo F ↥24 (cH ↥0) rfl rfl ↥0 ↥0 (fun c=>many1 (b:=true) F rfl ↥0 rfl rfl) ↥0
theorem xp:VOk [115,117,109]:=DO ⟨by decide,by decide +kernel,rfl,rfl,by decide,rfl,rfl,by decide,by decide⟩ rfl
theorem sO:VOk [116,117,114,110]:=DO ⟨by decide,by decide +kernel,rfl,rfl,by decide,rfl,rfl,by decide,by decide⟩ rfl
theorem ow:VOk [104,97,108,118,101,115]:=DO ⟨by decide,by decide +kernel,rfl,rfl,by decide,rfl,rfl,by decide,by decide⟩ rfl
theorem xt:VOk [100,111,116]:=HK ⟨by decide,by decide +kernel,rfl,rfl,by decide,rfl,rfl,by decide,by decide⟩ rfl ↥0
def kP:List ↥31:=[[115,105,122,101],[119,97,121],[112,117,116],[98,105,116,115],[115,97,109,101],[109,105,110,117,115],[97,100,100],[116,97,107,101],[109,117,108],[100,105,118],[114,111,111,116],[102,117,115,101],[119,104,111,108,101],[115,117,109],[116,117,114,110],[104,97,108,118,101,115],[100,111,116],[115,104,111,119],[108,101,115,115],[102,108,97,103,115],[99,97,108,109]]
theorem tw:∀ v∈kP,VOk v:=by
 intro v m
 simp only [kP,List.mem_cons,List.not_mem_nil,or_false] at m
 rcases m with rfl | rfl | rfl | rfl | rfl | rfl | rfl | rfl | rfl | rfl | rfl | rfl | rfl | rfl | rfl | rfl | rfl | rfl | rfl | rfl | rfl
 ·exact sQ
 ·exact xo
 ·exact xq
 ·exact sX
 ·exact sS
 ·exact pQ
 ·exact xv
 ·exact sP
 ·exact xr
 ·exact xu
 ·exact sT
 ·exact sV
 ·exact pP
 ·exact xp
 ·exact sO
 ·exact ow
 ·exact xt
 ·exact sR
 ·exact sU
 ·exact pR
 ·exact sW
theorem v5:Mx [115,117,109] 1:=⟨by decide,by decide +kernel,rfl,rfl,by decide,rfl,rfl,by decide,by decide⟩
theorem v9:Mx [100,111,116] 2:=⟨by decide,by decide +kernel,rfl,rfl,by decide,rfl,rfl,by decide,by decide⟩
theorem oj {v:List Nat} {q:Int} (M:Mx v q) {n:Nat} (hn:n<=50) (h:(n:Int) - 1<1\/20<(n:Int) - 1):Bad (aq 32 (v::List.replicate n [97])):=by
 have len:(List.replicate n [97]).length=n:=List.length_replicate
 exact dC M (fun w m=>by
  rcases List.mem_cons.mp m with rfl | m
  ·exact (bX M.low).1
  ·rw [List.eq_of_mem_replicate m];exact ⟨by decide,by decide⟩) (by rw [List.length_cons,len];omega) (by rw [len];rcases h with h | h;exact .inl h;exact .inr (.inl h))
theorem uU:Good ug:=by
 intro ns hlen hnb
 have e0:ai [.lst (ns.map .int),.int 0]=.ok (.int (ns.getD 0 0)):=eK ↥0
 have hv:aR (.lst [.str "size",.str "way",.str "put",.str "bits",.str "same",.str "minus",.str "add",.str "take",.str "mul",.str "div",.str "root",.str "fuse",.str "whole"]) (.lst [.str "sum",.str "turn",.str "halves",.str "dot",.str "show",.str "less",.str "flags",.str "calm"])=.ok (.lst (Wl kP)):=by
  rw [eW ↥0]
  rfl
 have c0:0<=ns.getD 0 0%21:=Int.emod_nonneg _ ↥0
 have c1:ns.getD 0 0%21<21:=Int.emod_lt_of_pos _ ↥0
 have hi:Aj (.int 21)=.ok (d9 0 21):=fk ↥0 ↥0
 obtain ⟨δ',eL,z,rfl⟩:=kj (i:=2) (body:=ifs (gR (call aW [bin oIx (var 1) (var 2),var 0,bin aR (bin oMod (call ai [var 0,⇑0]) ⇑21) (var 2)])) (ret (con ↥14)) (aK)) (fun δ=>∃ z,δ=[some (.lst (ns.map .int)),some (.lst (Wl kP)),z,none]) (d9 0 21) (fun d hd δ ⟨z,e⟩=>by
  subst e
  obtain ⟨k,hk,rfl⟩:=List.mem_map.mp hd
  have hk':k<21:=List.mem_range.mp hk
  have kl:k<kP.length:=hk'
  have e1:oIx (.lst (Wl kP)) (.int (0+(k:Int)))=.ok (.str (st kP[k])):=mF ⋯ (by rw [show (0+(k:Int)).toNat=k by omega];exact List.getElem?_eq_getElem kl)
  have e2:=xx (tw _ (List.getElem_mem kl)) (ns:=ns) (j:=ns.getD 0 0%21+(0+(k:Int))) ⋯ ⋯
  refine ⟨[some (.lst (ns.map .int)),some (.lst (Wl kP)),some (.int (0+k)),none],.inl ?_,_,rfl⟩
  simp_arith [e1,e0,e2]) _ ⟨none,rfl⟩
 have b1:aB [.str "dot a"]=.ok ↥34:=by
  rw [show PySem.Str.ofString "dot a"=st (aq 32 ([100,111,116]::List.replicate 1 [97])) by decide]
  exact cP (oj v9 ↥0 ↥0)
 have b2:aB [.str "sum a"]=.ok ↥34:=by
  rw [show PySem.Str.ofString "sum a"=st (aq 32 ([115,117,109]::List.replicate 1 [97])) by decide]
  exact cP (oj v5 ↥0 ↥0)
 have r23:iA (.str " a") (.int 23)=.ok (.str (st (List.replicate 23 [32,97]).flatten)):=by
  rw [show PySem.Str.ofString " a"=st [32,97] by decide]
  exact qg ↥0 ↥0 ↥0
 have r22:iA (.str " a") (.int 22)=.ok (.str (st (List.replicate 22 [32,97]).flatten)):=by
  rw [show PySem.Str.ofString " a"=st [32,97] by decide]
  exact qg ↥0 ↥0 ↥0
 have a23:aR (.str "dot") (.str (st (List.replicate 23 [32,97]).flatten))=.ok (.str (st (aq 32 ([100,111,116]::List.replicate 23 [97])))):=by
  rw [show PySem.Str.ofString "dot"=st [100,111,116] by decide,bM ↥0]
  rfl
 have a22:aR (.str "sum") (.str (st (List.replicate 22 [32,97]).flatten))=.ok (.str (st (aq 32 ([115,117,109]::List.replicate 22 [97])))):=by
  rw [show PySem.Str.ofString "sum"=st [115,117,109] by decide,bM ↥0]
  rfl
 have b3:aB [.str (st (aq 32 ([100,111,116]::List.replicate 23 [97])))]=.ok ↥34:=cP (oj v9 ↥0 ↥0)
 have b4:aB [.str (st (aq 32 ([115,117,109]::List.replicate 22 [97])))]=.ok ↥34:=cP (oj v5 ↥0 ↥0)
 unfold ug u4
 generalize hB:ifs (gR (call aW _)) _ _=B at *
 generalize List.replicate 23 [32,97]=R23 at *
 generalize List.replicate 22 [32,97]=R22 at *
 generalize aq 32 ([100,111,116]::List.replicate 23 [97])=J23 at *
 generalize aq 32 ([115,117,109]::List.replicate 22 [97])=J22 at *
 simp_arith [hv,hi,eL,A7,sr,r23,r22,a23,a22,b1,b2,b3,b4,iL,u7]
end T
open PySem PySem.W PyProof.Rows
set_option maxHeartbeats 0 in
theorem PySem.Challenge.cw_roundmill_k66_words_of_holds : PySem.Challenge.rw_roundmill_k66_words_of.Holds := by
 w_on;o_law
 refine holds_open (q:=H.q) (loose:=["FORMS","NAME_ROWS","LONGEST_FIGURES"]) (Xt:=H.Xt) (XP:=XL H.q []) (Yf:=(kHook H.K H.as H.he).obs) (Ya:=(kHook H.K H.as H.he).val) (YP:=(kHook H.K H.as H.he).says) (N:=9316) H.left (kHook H.K H.as H.he).of (kHook H.K H.as H.he).keeps (fun s e=>xl_of s (Bool.and_eq_true_iff.mp e).1) XL.keeps (by rfl) (by rfl) (by rfl) (fun s e=>recFacts_of (Bool.and_eq_true_iff.mp e).2) (by rfl) (by first | assumption | decide +kernel) ↥24 ⟨rfl,rfl,rfl,rfl,rfl,by decide +kernel⟩ ?hw ?hc
 (case hw=>w_witness2)
 k_fill
 refine ES.sM (l:=PySem.Challenge.rw_roundmill_k66_words_of) (k:=6) (x:="_law_script") (f:=T.ug) T.uU rfl rfl ⟨rfl,by decide,by decide⟩ (fun w h Y=>PySem.W.kIn_of Y) ?F
 case F =>
  intro w mg fa h KX GG hmg
  refine' T.all_mk KX GG hmg ?q1 ?q2 ?q3 ?q4 ?q5 ?q6 ?q7 ?q8 ?a9 ?l9 ?e9 ?k9 ?q10 ?q11 ?q12 ?q13 ?q14 ?q15 ?q16 ?q17 ?q18 ?q19 ?q20 ?q21 ?a22 ?l22 ?e22 ?k22 ?z_str ?z_len ?z_range ?z_int ?z_all ?z_zip ?z_list ?z_isinstance ?z_ValueError ?y_MOST_NAMES ?y_LONGEST_NAME ?y_LETTERS ?y_FIGURES ?y_LONGEST_ROW ?y_FORMS ?ys_FORMS ?yl_FORMS ?yt0_FORMS ?yt1_FORMS ?yt2_FORMS ?yt3_FORMS ?yt4_FORMS ?yt5_FORMS ?yt6_FORMS ?yt7_FORMS ?yt8_FORMS ?yt9_FORMS ?yt10_FORMS ?yt11_FORMS ?yt12_FORMS ?yt13_FORMS ?yt14_FORMS ?yt15_FORMS ?yt16_FORMS ?y_NAME_ROWS ?ys_NAME_ROWS ?yl_NAME_ROWS ?y_LONGEST_FIGURES ?ys_LONGEST_FIGURES ?yl_LONGEST_FIGURES ?n_MillError ?n_NoSize ?n_NoBits ?n_NoParts ?n_NoRank ?n_NotFinite ?n_NoWay ?n_NoFlags ?n_NoFraction ?n_Unlike ?n_Empty ?n_NoLeft ?n_NoText ?n_NoRow ?n_NoName ?n_Stopped ?xi_NoRow ?v_MillError ?v_NoSize ?v_NoBits ?v_NoParts ?v_NoRank ?v_NotFinite ?v_NoWay ?v_NoFlags ?v_NoFraction ?v_Unlike ?v_Empty ?v_NoLeft ?v_NoText ?v_NoRow ?v_NoName ?v_Stopped ?cb_MillError ?r_MillError_MillError ?r_MillError_NoSize ?r_MillError_NoBits ?r_MillError_NoParts ?r_MillError_NoRank ?r_MillError_NotFinite ?r_MillError_NoWay ?r_MillError_NoFlags ?r_MillError_NoFraction ?r_MillError_Unlike ?r_MillError_Empty ?r_MillError_NoLeft ?r_MillError_NoText ?r_MillError_NoRow ?r_MillError_NoName ?r_MillError_Stopped ?itab ?i_list_NoneType ?i_list_bool ?i_list_int ?i_list_str ?i_list_tuple ?i_list_list ?i_str_NoneType ?i_str_bool ?i_str_int ?i_str_str ?i_str_tuple ?i_str_list ?i_VE_NoneType ?i_VE_bool ?i_VE_int ?i_VE_str ?i_VE_tuple ?i_VE_list ?itav
  (case q1 | q2 | q3 | q4 | q5 | q6 | q7 | q8=>exact ES.Dh (by k_is) (by k_is) (by k_is) (by k_is))
  (case a9 | l9 | e9 | k9=>k_is)
  (case q10 | q11 | q12 | q13 | q14 | q15 | q16 | q17 | q18 | q19 | q20 | q21=>exact ES.Dh (by k_is) (by k_is) (by k_is) (by k_is))
  (case a22 | l22 | e22 | k22 | z_str | z_len | z_range | z_int | z_all | z_zip | z_list | z_isinstance | z_ValueError | y_MOST_NAMES | y_LONGEST_NAME | y_LETTERS | y_FIGURES | y_LONGEST_ROW | y_FORMS=>k_is)
  (case ys_FORMS=>rfl)
  (case yl_FORMS | yt0_FORMS | yt1_FORMS | yt2_FORMS | yt3_FORMS | yt4_FORMS | yt5_FORMS | yt6_FORMS | yt7_FORMS | yt8_FORMS | yt9_FORMS | yt10_FORMS | yt11_FORMS | yt12_FORMS | yt13_FORMS | yt14_FORMS | yt15_FORMS | yt16_FORMS | y_NAME_ROWS=>k_is)
  (case ys_NAME_ROWS=>rfl)
  (case yl_NAME_ROWS | y_LONGEST_FIGURES=>k_is)
  (case ys_LONGEST_FIGURES=>rfl)
  (case yl_LONGEST_FIGURES | n_MillError | n_NoSize | n_NoBits | n_NoParts | n_NoRank | n_NotFinite | n_NoWay | n_NoFlags | n_NoFraction | n_Unlike | n_Empty | n_NoLeft | n_NoText | n_NoRow | n_NoName | n_Stopped=>k_is)
  (case xi_NoRow=>k_exc)
  (case v_MillError | v_NoSize | v_NoBits | v_NoParts | v_NoRank | v_NotFinite | v_NoWay | v_NoFlags | v_NoFraction | v_Unlike | v_Empty | v_NoLeft | v_NoText | v_NoRow | v_NoName | v_Stopped=>exact ⟨by k_is,by k_is,by k_is,by k_is,by k_is,⟨_,by k_is⟩⟩)
  (case cb_MillError=>exact ⟨⟨_,by k_is⟩,by k_is,by k_is,by k_is⟩)
  (case r_MillError_MillError | r_MillError_NoSize | r_MillError_NoBits | r_MillError_NoParts | r_MillError_NoRank | r_MillError_NotFinite | r_MillError_NoWay | r_MillError_NoFlags | r_MillError_NoFraction | r_MillError_Unlike | r_MillError_Empty | r_MillError_NoLeft | r_MillError_NoText | r_MillError_NoRow | r_MillError_NoName | r_MillError_Stopped=>k_is)
  (case itab=>kernel_rfl)
  (case i_list_NoneType | i_list_bool | i_list_int | i_list_str | i_list_tuple | i_list_list | i_str_NoneType | i_str_bool | i_str_int | i_str_str | i_str_tuple | i_str_list | i_VE_NoneType | i_VE_bool | i_VE_int | i_VE_str | i_VE_tuple | i_VE_list=>kit_is)
  (case itav=>kernel_rfl)
#print axioms PySem.Challenge.cw_roundmill_k66_words_of_holds
