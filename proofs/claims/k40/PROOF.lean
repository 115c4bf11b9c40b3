import PyProof.Rows.All
import Wide.All
import OpenK.AllK
import Wide.FinOn
import Lean
import PyProof.EqAt
import PyProof.EqKinds
import PyProof.TupleCall
import PySem.Challenge.RW_roundmill_k40_in_turn
set_option Elab.async false
set_option linter.all false
set_option genSizeOf false
set_option maxRecDepth 100000
local macro_rules (kind:=Lean.Parser.Command.declaration)
 | s=>if (s[1].isOfKind ``Lean.Parser.Command.definition||s[1].isOfKind ``Lean.Parser.Command.abbrev)&&s[0][4].getNumArgs == 0&&s[1][1][0].getId != `bmV then pure (s.setArg 0 (s[0].setArg 4 (Lean.mkNullNode #[Lean.mkNode ``Lean.Parser.Command.noncomputable #[Lean.mkAtom "noncomputable"]]))) else Lean.Macro.throwUnsupported
set_option hygiene false
local macro_rules | `(⋯)=>`(by omega)
local macro_rules | `(⇑$x)=>`(con (.int $x))
local macro_rules | `(↥$n:num)=>match n.getNat with | 0=>`(PySem.W.fnOf x qual (dg st) (ah st) (aa st) .none kV doc pm an cdv ct) | 1=>`(E+F) | 2=>`(Life.mk [] [] [] 0 [] [] false #[] [] 0 false false false 0 [2000,10,10] false 0 true [] [] 0 false) | 3=>`(by decide) | 4=>`(bin oIx (var 0) ⇑1) | 5=>`(model X.prog X.w) | 6=>`(.type "tuple") | 7=>`(cxU X xs ksn sc C fp s H W) | 8=>`(Shared.mk (hf w.params) ⟨[]⟩ (Drawn.mk 0 0 0 0) 861 os) | 9=>`(importedModules (Program.main PySem.Challenge.pw_roundmill_k40_in_turn).body) | 10=>`(Addr×Obj) | 11=>`(.tup [.int E,.int F]) | 12=>`(cxU X xs ksn sc s3.heap.objs.size fp s3 H3 WW) | 13=>`(bin oIx (var 0) ⇑0) | 14=>`(cxU X [x] ksn sc C fp s H W) | 15=>`(fk (bin oEq (var 1) (con (.str "down"))) (bin oEq (var 2) ⇑1)) | 16=>`(model prog w) | 17=>`(fk (bin oEq (var 1) (con (.str "up"))) (bin oEq (var 2) ⇑0)) | 18=>`(dW I q (by simp)) | 19=>`(aq.refl _) | 20=>`(hide H os) | 21=>`(fk (bin oNe (var 1) (con (.str "away"))) (lP (var 9))) | 22=>`(mf E F t n) | 23=>`(Nat.le_refl _) | 24=>`(pw ↥1 - pw F) | 25=>`(.tup [.int (s*pw ↥1+(c+1)),.int (if c+1=pw ↥1 - pw F then 5 else if c<pw F then 3 else 1)]) | 26=>`(vS "roundmill.errors" 187) | 27=>`((false,eval e X.env)) | 28=>`(or_ (bin oEq (var 1) (con (.str "away"))) (var 9)) | 29=>`(bx ae (P.y 0)) | 30=>`(s.heap.objs.size+1) | 31=>`(.ListComp elt [⟨tg,iter,ifs,0⟩] sc pos) | 32=>`(s*pw ↥1+c) | 33=>`(.bl false) | 34=>`(.bl true) | 35=>`(Int×Int) | 36=>`((∀ y∈xs,(cxU X xs ksn sc C fp s H W).env.scope.names.lookup y=some .local)) | 37=>`(x == ("__debug__":Str)) | 38=>`(.Pass ⟨0,0,0,0⟩) | 39=>`(con (.str "even")) | _=>Lean.Macro.throwUnsupported
set_option hygiene true
namespace L2
open PySem PySem.Spec PyProof.Rows
abbrev Key:=Sum Int Str
def Hs:Key->Value->Bool
 | .inl k,v=>Value.isInt k v
 | .inr x,v=>Value.isStrOf x v
def OZ (w:World):Key->Int
 | .inl k=>hashInt k
 | .inr x=>hashStr w x
theorem aU:∀ {k:Key} {v:Value},Hs k v=true->(∃ i t,k=Sum.inl i/\v=Value.int i t)\/(∃ x t,k=Sum.inr x/\v=Value.str x t)
 | .inl i,v,h=>by
  obtain ⟨t,e⟩:=Value.isInt_shape (k:=i) (v:=v) h
  exact .inl ⟨i,t,rfl,e⟩
 | .inr x,v,h=>by
  obtain ⟨t,e⟩:=Value.isStrOf_shape (x:=x) (v:=v) h
  exact .inr ⟨x,t,rfl,e⟩
theorem Hr (a b:Int):decide ((Sum.inl a:Key)=Sum.inl b)=(a == b):=by
 by_cases e:a=b
 ·subst e;simp
 ·have h:¬ (Sum.inl a:Key)=Sum.inl b:=fun q=>e (Sum.inl.inj q)
  rw [decide_eq_false h]
  exact (beq_eq_false_iff_ne.mpr e).symm
theorem Hm (a b:Str):decide ((Sum.inr a:Key)=Sum.inr b)=decide (a=b):=by
 by_cases e:a=b
 ·subst e;simp
 ·have h:¬ (Sum.inr a:Key)=Sum.inr b:=fun q=>e (Sum.inr.inj q)
  rw [decide_eq_false h,decide_eq_false e]
theorem Ho (a:Int) (b:Str):decide ((Sum.inl a:Key)=Sum.inr b)=false:=decide_eq_false (fun q=>nomatch q)
theorem Hn (a:Str) (b:Int):decide ((Sum.inr a:Key)=Sum.inl b)=false:=decide_eq_false (fun q=>nomatch q)
def wF (prog:Program) (w:World):PySem.KeyKind prog w Key where
 is:=Hs
 hash:=OZ w
 inj:=fun v a b ha hb=>by
  rcases aU ha with ⟨i,t,rfl,rfl⟩ | ⟨x,t,rfl,rfl⟩
  ·rcases aU hb with ⟨j,u,rfl,e⟩ | ⟨y,u,rfl,e⟩
   ·injection e with e1 _;rw [e1]
   ·exact nomatch e
  ·rcases aU hb with ⟨j,u,rfl,e⟩ | ⟨y,u,rfl,e⟩
   ·exact nomatch e
   ·injection e with e1 _;rw [e1]
 byValue:=fun k v h=>by
  rcases aU h with ⟨i,t,rfl,rfl⟩ | ⟨x,t,rfl,rfl⟩<;>rfl
 pyHash:=fun hv h=>by
  rcases aU hv with ⟨i,t,rfl,rfl⟩ | ⟨x,t,rfl,rfl⟩
  ·exact wpAny_pyHash_int h
  ·exact wpAny_pyHash_str h
 eqBool:=fun hu hv h=>by
  rcases aU hu with ⟨i,t,rfl,rfl⟩ | ⟨x,t,rfl,rfl⟩
  ·rcases aU hv with ⟨j,u,rfl,rfl⟩ | ⟨y,u,rfl,rfl⟩
   ·rw [Hr] at h;exact wpAny_eqBool_int h
   ·rw [Ho] at h;exact SeqAt.EqAt.int_str i t y u _ _ _ _ h
  ·rcases aU hv with ⟨j,u,rfl,rfl⟩ | ⟨y,u,rfl,rfl⟩
   ·rw [Hn] at h;exact SeqAt.EqAt.str_int x t j u _ _ _ _ h
   ·rw [Hm] at h;exact wpAny_eqBool_str h
 «strs»:=fun k x t v h=>by
  rcases aU h with ⟨i,u,rfl,e⟩ | ⟨y,u,rfl,e⟩
  ·exact nomatch e
  ·injection e with e1 _
   subst e1
   cases v<;>rfl
end L2
namespace L2
open PySem PySem.Spec PyProof.Rows
inductive V where
 | non | bl (b:Bool) | int (i:Int) | str (x:Str) | byt (b:Array UInt8) | flt (b:UInt64) | ref (a:Addr) | ty (n:String)
 deriving DecidableEq
def RelV:V->Value->Prop
 | .non,u=>u=Value.none
 | .bl b,u=>u=Value.bool b
 | .int i,u=>∃ t,u=Value.int i t
 | .str x,u=>∃ t,u=Value.str x t
 | .byt b,u=>∃ t,u=Value.bytes b t
 | .flt b,u=>∃ t,u=Value.float b t
 | .ref a,u=>u=Value.ref a
 | .ty n,u=>u=Value.type n
abbrev Vals:List V->List Value->Prop:=Paired RelV
theorem Vals.length {xs:List V} {us:List Value} (r:Vals xs us):xs.length=us.length:=Paired.length r
theorem Vals.get:∀ {xs:List V} {us:List Value} {i:Nat} {x:V},Vals xs us->xs[i]? = some x->∃ u,us[i]? = some u/\RelV x u
 | _,_,_,_,.nil,e=>by simp at e
 | _,_,0,_,.cons r _,e=>by simp at e;subst e;exact ⟨_,rfl,r⟩
 | _,_,i+1,x,.cons _ t,e=>by
  obtain ⟨u,h1,h2⟩:=Vals.get (i:=i) (x:=x) t (by simpa using e)
  exact ⟨u,by simpa using h1,h2⟩
theorem Vals.append:∀ {xs ys:List V} {us ws:List Value},Vals xs us->Vals ys ws->Vals (xs++ys) (us++ws)
 | _,_,_,_,.nil,s=>s
 | _,_,_,_,.cons r t,s=>.cons r (Vals.append t s)
theorem Vals.take:∀ {xs:List V} {us:List Value} (n:Nat),Vals xs us->Vals (xs.take n) (us.take n)
 | _,_,0,_=>.nil
 | _,_,_+1,.nil=>.nil
 | _,_,n+1,.cons r t=>.cons r (Vals.take n t)
theorem Vals.drop:∀ {xs:List V} {us:List Value} (n:Nat),Vals xs us->Vals (xs.drop n) (us.drop n)
 | _,_,0,r=>r
 | _,_,_+1,.nil=>.nil
 | _,_,n+1,.cons _ t=>Vals.drop n t
def yn:Option V->Option Value->Prop
 | some v,some u=>RelV v u
 | none,none=>True
 | _,_=>False
def KV {κ:Type}:List (κ×V)->List (κ×Value)->Prop:=Paired fun (p:κ×V) (q:κ×Value)=>p.1=q.1/\RelV p.2 q.2
def kV:Key->V
 | .inl i=>.int i
 | .inr x=>.str x
inductive HO where
 /-- a list -/
 | lst (xs:List V)
 /-- a tuple (never changes) -/
 | tup (xs:List V)
 /-- a dict whose keys are ints and texts;one whose keys are tuples of ints and texts (the empty one is both) -/
 | dK (kvs:List (Key×V)) | dT (kvs:List (List Key×V))
 /-- a set of ints: its members,its size -/
 | set (S:Int->Bool) (n:Nat)
 /-- an instance of the class at C,its dict at dx,its attributes -/
 | ins (C dx:Addr) (fs:List (Str×V))
 /-- the dict of the instance at x -/
 | own (x:Addr)
 /-- the dict of an exception -/
 | xd (fs:List (Str×V))
 /-- a bound method,f of x -/
 | met (f x:Addr)
 /-- a range object lo,lo+1,.. below hi -/
 | rng (lo hi:Int)
 /-- a thing that is known to the object (the script;a dict while a loop walks it): read,never written while it is so -/
 | frz (o:Obj) (u:HO)
 /-- a code object's table -/
 | tbl (ps:Array Value)
 /-- any other thing,by what is true of its one object (a def of one's own: SetO a S n:=HO.ext fun h=>..) -/
 | ext (φ:Heap->Prop)
abbrev Hp:=Addr->Option HO
def upd (H:Hp) (a:Addr) (o:HO):Hp:=fun b=>if b=a then some o else H b
theorem aA {H:Hp} {a:Addr} {o:HO}:upd H a o a=some o:=by unfold upd;rw [if_pos rfl]
theorem aL {H:Hp} {a b:Addr} {o:HO} (h:b≠a):upd H a o b=H b:=by unfold upd;rw [if_neg h]
theorem bL {H:Hp} {a b:Addr} {o:HO} (h:H a=some o) (h':H b=none):a≠b:=by
 intro e;subst e;rw [h] at h';cases h'
section
variable (P:Program) (w:World)
def gO (H:Hp) (h:Heap) (a:Addr):HO->Prop
 | .lst xs=>xs.length<=sizeLine/\∃ (its:List Value) (n:Nat),Vals xs its/\h.get? a=some { cls:=.type "list",data:=.seq its.toArray n }
 | .tup xs=>xs.length<=sizeLine/\∃ its:List Value,Vals xs its/\IsTup h a its.toArray
 | .dK kvs=>kvs.length<=sizeLine/\(a == sysModules)=false/\∃ vs,KV kvs vs/\h.DictOf (wF P w) a vs
 | .dT kvs=>kvs.length<=sizeLine/\(a == sysModules)=false/\∃ xs:List (List Key×Addr×Value),
   Paired (fun (p:List Key×V) (q:List Key×Addr×Value)=>p.1=q.1/\H q.2.1=some (.tup (p.1.map kV))/\RelV p.2 q.2.2) kvs xs /\
   ∃ o es ep,h.get? a=some o/\o.ExactDict/\o.data=.dict es ep/\es.toList=xs.map (entryOfKey (tupleKind (wF P w)))/\(xs.map (·.1)).Nodup
 | .set S n=>h.SetOf (intKind P w) a S n
 | .ins C dx fs=>H dx=some (.own a)/\fs.length<=1000/\dx≠a/\h.get? a=some (PySem.W.instObj C dx) /\
   ∃ mA,h.Ns1 dx mA/\(∀ f,yn (fs.lookup f) (mA f))/\PySem.Within mA (fs.map (·.1))
 | .own _=>∃ o,h.get? a=some o
 | .xd fs=>∃ mA,h.Ns1 a mA/\∀ f,yn (fs.lookup f) (mA f)
 | .rng lo hi=>∃ t u v,h.get? a=some { cls:=.type "range",data:=.fields #[.int lo t,.int hi u,.int 1 v] }
 | .frz o u=>h.get? a=some o/\gO H h a u
 | .tbl ps=>h.get? a=some { cls:=.none,data:=.fields ps }
 | .met f x=>h.get? a=some (PySem.W.methodObj (.ref f) (.ref x))
 | .ext φ=>φ h/\(∃ o,h.get? a=some o)/\∀ h1 h2:Heap,φ h1->(∀ o,h1.get? a=some o->h2.get? a=some o)->φ h2
def HOk (H:Hp) (h:Heap):Prop:=∀ a o,H a=some o->gO P w H h a o
end
section
variable {P:Program} {w:World} {H H':Hp} {h h':Heap} {a:Addr} {o:HO}
theorem gO.lt (x:gO P w H h a o):a<h.objs.size:=by
 cases o with
 | lst xs=>obtain ⟨_,_,_,_,e⟩:=x;exact Heap.lt_size e
 | tup xs=>obtain ⟨_,_,_,p⟩:=x;exact p.lt
 | dK kvs=>obtain ⟨_,_,_,_,o,_,_,e,_⟩:=x;exact Heap.lt_size e
 | dT kvs=>obtain ⟨_,_,_,_,o,_,_,e,_⟩:=x;exact Heap.lt_size e
 | set S n=>obtain ⟨o,_,_,_,e,_⟩:=x;exact Heap.lt_size e
 | ins C dx fs=>obtain ⟨_,_,_,e,_⟩:=x;exact Heap.lt_size e
 | own y=>obtain ⟨_,e⟩:=x;exact Heap.lt_size e
 | xd fs=>obtain ⟨_,⟨_,_,_,e,_⟩,_⟩:=x;exact Heap.lt_size e
 | rng lo hi=>obtain ⟨_,_,_,e⟩:=x;exact Heap.lt_size e
 | frz ob u=>obtain ⟨e,_⟩:=x;exact Heap.lt_size e
 | tbl ps=>exact Heap.lt_size (show h.get? a=some _ from x)
 | met f y=>exact Heap.lt_size (show h.get? a=some _ from x)
 | ext φ=>obtain ⟨_,⟨_,e⟩,_⟩:=x;exact Heap.lt_size e
theorem Paired.mapP {α β:Type} {F G:α->β->Prop}:∀ {l₁:List α} {l₂:List β},Paired F l₁ l₂->(∀ a b,F a b->G a b)->Paired G l₁ l₂
 | _,_,.nil,_=>.nil
 | _,_,.cons r t,f=>.cons (f _ _ r) (Paired.mapP t f)
theorem gO.stay (x:gO P w H h a o) (k:∀ b u,(b=a\/H b=some (.own a))->h.get? b=some u->h'.get? b=some u)
  (ho:∀ b,H b=some (.own a)->H' b=some (.own a)) (ht:∀ b xs,H b=some (.tup xs)->H' b=some (.tup xs)):gO P w H' h' a o:=by
 induction o with
 | lst xs=>obtain ⟨z,its,n,r,e⟩:=x;exact ⟨z,its,n,r,k _ _ (.inl rfl) e⟩
 | tup xs=>obtain ⟨z,its,r,ob,e,c⟩:=x;exact ⟨z,its,r,ob,k _ _ (.inl rfl) e,c⟩
 | dK kvs=>obtain ⟨z,y,vs,r,ob,es,ep,e,c⟩:=x;exact ⟨z,y,vs,r,ob,es,ep,k _ _ (.inl rfl) e,c⟩
 | dT kvs =>
  obtain ⟨z,y,xs,r,ob,es,ep,e,c⟩:=x
  exact ⟨z,y,xs,Paired.mapP r fun p q z=>⟨z.1,ht _ _ z.2.1,z.2.2⟩,ob,es,ep,k _ _ (.inl rfl) e,c⟩
 | set S n=>obtain ⟨ob,es,ep,t,e,c⟩:=x;exact ⟨ob,es,ep,t,k _ _ (.inl rfl) e,c⟩
 | ins C dx fs =>
  obtain ⟨d,z,ne,e,mA,⟨od,es,ep,e2,c⟩,r⟩:=x
  exact ⟨ho _ d,z,ne,k _ _ (.inl rfl) e,mA,⟨od,es,ep,k _ _ (.inr d) e2,c⟩,r⟩
 | own y=>obtain ⟨ob,e⟩:=x;exact ⟨ob,k _ _ (.inl rfl) e⟩
 | xd fs=>obtain ⟨mA,⟨od,es,ep,e,c⟩,r⟩:=x;exact ⟨mA,⟨od,es,ep,k _ _ (.inl rfl) e,c⟩,r⟩
 | rng lo hi=>obtain ⟨t,u,v,e⟩:=x;exact ⟨t,u,v,k _ _ (.inl rfl) e⟩
 | frz ob u ih=>obtain ⟨e,q⟩:=x;exact ⟨k _ _ (.inl rfl) e,ih q⟩
 | tbl ps =>
  have e:h.get? a=some { cls:=.none,data:=.fields ps }:=x
  show h'.get? a=some { cls:=.none,data:=.fields ps }
  exact k a _ (.inl rfl) e
 | met f y =>
  have e:h.get? a=some (PySem.W.methodObj (.ref f) (.ref y)):=x
  show h'.get? a=some (PySem.W.methodObj (.ref f) (.ref y))
  exact k a _ (.inl rfl) e
 | ext φ=>obtain ⟨p,⟨o,e⟩,st⟩:=x;exact ⟨st _ _ p fun o q=>k _ _ (.inl rfl) q,⟨o,k _ _ (.inl rfl) e⟩,st⟩
theorem HOk.lt (x:HOk P w H h) (e:H a=some o):a<h.objs.size:=(x a o e).lt
theorem HOk.fresh (x:HOk P w H h) (e:h.objs.size<=a):H a=none:=by
 cases q:H a with
 | none=>rfl
 | some u=>exact absurd (Nat.lt_of_lt_of_le (x.lt q) e) (Nat.lt_irrefl _)
theorem HOk.kept (x:HOk P w H h) (k:∀ b u,h.get? b=some u->h'.get? b=some u):HOk P w H h':=fun a o e =>
 (x a o e).stay (fun b u _ q=>k b u q) (fun _ q=>q) fun _ _ q=>q
theorem HOk.laid (x:HOk P w H h) (k:∀ b u,h.get? b=some u->h'.get? b=some u) (hp:h.objs.size<=a) (new:gO P w (upd H a o) h' a o):HOk P w (upd H a o) h':=fun b u e=>by
 have hn:=x.fresh hp
 by_cases hb:b=a
 ·subst hb;rw [aA] at e;cases e;exact new
 ·rw [aL hb] at e
  exact (x b u e).stay (fun c v _ q=>k c v q) (fun c q=>by rw [aL (bL q hn)];exact q) fun c xs q=>by rw [aL (bL q hn)];exact q
end
def Rd (H:Hp) (a:Addr) (u:HO):Prop:=H a=some u\/∃ o,H a=some (.frz o u)
theorem Rd.ok {P:Program} {w:World} {H:Hp} {h:Heap} {a:Addr} {u:HO} (r:Rd H a u) (x:HOk P w H h):gO P w H h a u:=by
 rcases r with r | ⟨o,r⟩
 ·exact x a u r
 ·obtain ⟨_,q⟩:=x a _ r
  exact q
def Mut:Option HO->Prop
 | some (.lst _)=>True
 | some (.dK _)=>True
 | some (.dT _)=>True
 | some (.set _ _)=>True
 | some (.ins _ _ _)=>True
 | some (.ext _)=>True
 | _=>False
section
variable {P:Program} {w:World} {H:Hp} {h h':Heap} {x e:Addr} {o':HO}
theorem HOk.write (ok:HOk P w H h) (mu:Mut (H x)) (he:e=x\/H e=some (.own x)) (k:∀ b u,b≠e->h.get? b=some u->h'.get? b=some u) (heo:∃ u,h'.get? e=some u)
  (new:gO P w (upd H x o') h' x o'):HOk P w (upd H x o') h':=fun b u q=>by
 have nown:∀ c y,H c=some (.own y)->c≠x:=fun c y r z=>by subst z;rw [r] at mu;exact mu
 have ntup:∀ c xs,H c=some (.tup xs)->c≠x:=fun c xs r z=>by subst z;rw [r] at mu;exact mu
 by_cases hb:b=x
 ·subst hb;rw [aA] at q;cases q;exact new
 ·rw [aL hb] at q
  by_cases hbe:b=e
  ·have q':H b=some (.own x):=by
    rcases he with z | z
    ·exact absurd (hbe.trans z) hb
    ·rw [hbe];exact z
   rw [q] at q';cases q'
   obtain ⟨v,hv⟩:=heo
   exact ⟨v,by rw [hbe];exact hv⟩
  ·refine (ok b u q).stay (fun c v hc r=>k c v ?_ r) (fun c r=>by rw [aL (nown c b r)];exact r) fun c xs r=>by rw [aL (ntup c xs r)];exact r
   rcases hc with rfl | hc
   ·exact hbe
   ·rintro rfl
    rcases he with z | z
    ·exact nown c b hc z
    ·rw [hc] at z;cases z;exact hb rfl
end
structure Un (fs ex:List Addr) (H H':Hp) (h h':Heap):Prop where
 keep:∀ b o,h.get? b=some o->H b=none->b∉fs->b∉ex->h'.get? b=some o
 slot:∀ b o,h.get? b=some o->H b=none->b∈fs->b∉ex->∃ sl,h'.get? b=some { o with slots:=sl }
 free:∀ b o,h.get? b=some o->H b=none->b∉ex->H' b=none
 there:∀ b o,h.get? b=some o->b∉ex->∃ o',h'.get? b=some o'
 tups:∀ b xs,H b=some (.tup xs)->H' b=some (.tup xs)
 frzs:∀ b o u,H b=some (.frz o u)->H' b=some (.frz o u)
 tbls:∀ b ps,H b=some (.tbl ps)->∃ more,H' b=some (.tbl (ps++more))
section
variable {fs fs' ex ex':List Addr} {H H1 H2:Hp} {h h1 h2 h':Heap} {a x e:Addr} {o:HO}
theorem Un.any (u:Un fs ex H H1 h h1) {b:Addr} {ob:Obj} (q:h.get? b=some ob) (n:H b=none) (hx:b∉ex):∃ sl,h1.get? b=some { ob with slots:=sl }:=by
 by_cases hb:b∈fs
 ·exact u.slot b ob q n hb hx
 ·exact ⟨ob.slots,u.keep b ob q n hb hx⟩
theorem Un.kept (k:∀ b u,h.get? b=some u->h'.get? b=some u):Un fs ex H H h h' :=
 ⟨fun b ob q _ _ _=>k b ob q,fun b ob q _ _ _=>⟨ob.slots,k b ob q⟩,fun _ _ _ n _=>n,fun b ob q _=>⟨ob,k b ob q⟩,fun _ _ q=>q,fun _ _ _ q=>q,fun _ ps q=>⟨#[],by rw [q];simp⟩⟩
theorem Un.refl:Un fs ex H H h h:=Un.kept fun _ _ q=>q
theorem Un.laid (k:∀ b u,h.get? b=some u->h'.get? b=some u) (hp:h.objs.size<=a) (hn:H a=none):Un fs ex H (upd H a o) h h' where
 keep:=fun b u q _ _ _=>k b u q
 slot:=fun b u q _ _ _=>⟨u.slots,k b u q⟩
 free:=fun b u q n _=>by rw [aL (Nat.ne_of_lt (Nat.lt_of_lt_of_le (Heap.lt_size q) hp))];exact n
 there:=fun b u q _=>⟨u,k b u q⟩
 tups:=fun b xs q=>by rw [aL (bL q hn)];exact q
 frzs:=fun b u xs q=>by rw [aL (bL q hn)];exact q
 tbls:=fun b ps q=>⟨#[],by rw [aL (bL q hn),q];simp⟩
theorem Un.write (mu:Mut (H x)) (he:e=x\/H e=some (.own x)) (k:∀ b u,b≠e->h.get? b=some u->h'.get? b=some u) (heo:∃ u,h'.get? e=some u):Un fs ex H (upd H x o) h h':=by
 have hx:∀ b,H b=none->b≠x:=fun b n z=>by subst z;rw [n] at mu;exact mu
 have hb:∀ b,H b=none->b≠e:=fun b n z=>by
  subst z
  rcases he with r | r
  ·exact hx b n r
  ·rw [n] at r;cases r
 have hm:∀ b u,H b=some u->¬ Mut (some u)->b≠x:=fun b u q nm z=>by subst z;rw [q] at mu;exact nm mu
 refine ⟨fun b u q n _ _=>k b u (hb b n) q,fun b u q n _ _=>⟨u.slots,k b u (hb b n) q⟩,fun b u q n _=>by rw [aL (hx b n)];exact n,fun b u q _ => ?_,
  fun b xs q=>by rw [aL (hm b _ q fun z=>z)];exact q,fun b u xs q=>by rw [aL (hm b _ q fun z=>z)];exact q,fun b ps q=>⟨#[],by rw [aL (hm b _ q fun z=>z),q];simp⟩⟩
 by_cases hbe:b=e
 ·subst hbe;exact heo
 ·exact ⟨u,k b u hbe q⟩
end
def trk (h:Heap) (H:Hp):List Addr:=(List.range h.objs.size).filter fun a=>(H a).isSome
def Ae (h:Heap) (H:Hp):Heap:=PySem.W.hideAll h (trk h H)
theorem wZ (h:Heap) (H:Hp):(Ae h H).objs.size=h.objs.size:=PySem.W.hideAll_size _ _
theorem Ad {h:Heap} {H:Hp} {b:Addr} {o:Obj} (e:h.get? b=some o) (n:H b=none):(Ae h H).get? b=some o :=
 PySem.W.hideAll_get _ e fun hm=>by
  have q:(H b).isSome=true:=(List.mem_filter.mp hm).2
  rw [n] at q;simp at q
theorem Dv {h:Heap} {H:Hp} {b:Addr} {o:Obj} (e:(Ae h H).get? b=some o):h.get? b=some o/\H b=none:=by
 have e':h.get? b=some o:=PySem.W.of_hideAll (trk h H) e
 refine ⟨e',?_⟩
 cases q:H b with
 | none=>rfl
 | some x =>
  have hm:b∈trk h H:=List.mem_filter.mpr ⟨List.mem_range.mpr (Heap.lt_size e'),by simp [q]⟩
  have z:(Ae h H).get? b=none:=PySem.W.hideAll_none (trk h H) hm
  rw [z] at e;cases e
def EX (g h:Heap) (L:Addr):List ↥10:=(List.range h.objs.size).filterMap fun a=>if a=L\/(g.get? a).isSome=true then none else (h.get? a).map fun o=>(a,o)
def rest (g h:Heap) (L d:Addr):List ↥10:=(EX g h L).filter fun p=>decide (p.1≠d)
end L2
namespace L2
open PySem PySem.Spec PyProof.Rows
structure Mod (K:PySem.W.Frag) (mg:Str->Option Value) (base:Heap):Prop where
 kin:K.In base
 glob:base.Ns mainGlobals mg
 blt:∃ mb,base.Ns builtinsNs mb/\∀ x:Str,x≠"__name__"->mb x=bootBuiltins x
 nolimit:base.NoLimit
structure Cx where
 prog:Program
 w:World
 K:PySem.W.Frag
 mg:Str->Option Value
 base:Heap
 A:Around
 N:List Str
 s₀:Shared
 H₀:Hp
 env:Env
 outer:List Env
 stack:List Env
 ex:List Addr
 fn:Str->Bool
 calm:Bool
 pn:List ↥10
 xe:Value->Shared->Prop
def frs (l:List Env):List Addr:=l.filterMap (·.frame)
abbrev Cx.fs (X:Cx):List Addr:=frs X.outer
def Vis (sc:Scope) (x:Str):Prop:=sc.names.lookup x=some .local\/sc.names.lookup x=some .cell\/sc.names.lookup x=some .free
def Loc (sc:Scope) (x:Str):Prop:=sc.names.lookup x=some .local\/sc.names.lookup x=some .cell
def Look (env:Env) (h:Heap) (m:Str->Option Value) (x:Str) (u:Value):Prop :=
 (env.kindOf x=some .local/\m x=some u)\/((env.kindOf x=some .cell\/env.kindOf x=some .free)/\∃ c,env.cells.lookup x=some c/\h.IsCell c (some u))
structure Cx.Ok (X:Cx):Prop where
 mod:Mod X.K X.mg X.base
 kind:X.env.scope.kind=.function
 glob:X.env.globals=mainGlobals
 blt:X.env.builtins=builtinsNs
 above:X.s₀.heap.objs.size<=X.env.locals
 inj:∀ x y c,X.env.cells.lookup x=some c->X.env.cells.lookup y=some c->x=y
 has:∀ x,(X.env.kindOf x=some .cell\/X.env.kindOf x=some .free)->∃ c,X.env.cells.lookup x=some c
 cab:∀ x c,X.fn x=true->X.env.cells.lookup x=some c->X.s₀.heap.objs.size<=c
 hd:X.calm=true->X.A.handled=none
 frames:X.A.frames=some X.stack
 stk:X.stack=X.outer\/(X.stack=X.env::X.outer/\X.env.frame=some X.env.locals)
 exf:∀ b∈X.ex,b≠X.env.locals/\∀ x c,X.env.cells.lookup x=some c->c≠b
 bs:∀ b o,X.base.get? b=some o->X.s₀.heap.get? b=some o/\X.H₀ b=none
 bsz:X.base.objs.size<=X.s₀.heap.objs.size
 noex:∀ b o,X.base.get? b=some o->b∉X.ex
 exfs:∀ b∈X.ex,b∉X.fs
 funs:X.s₀.heap.FunFrames X.base X.outer
 frf:∀ b∈X.fs,X.H₀ b=none
structure Inv (X:Cx) (pins:List ↥10) (σ:List (Option V)) (H:Hp) (s:Shared):Prop where
 ok:X.Ok
 os:s.os=X.s₀.os
 bare:AllBare s.gens
 base:Un X.fs X.ex X.H₀ H X.s₀.heap s.heap
 loc:∃ m,s.heap.Ns X.env.locals m/\∀ (i:Nat) (x:Str) (v:V),X.N[i]? = some x->σ[i]? = some (some v)->Vis X.env.scope x->∃ u,RelV v u/\Look X.env s.heap m x u
 cell:∀ x c,X.env.cells.lookup x=some c->∃ v,s.heap.IsCell c v
 free:H X.env.locals=none
 freeC:∀ x c,X.env.cells.lookup x=some c->H c=none
 pin:∀ p∈X.pn++pins,s.heap.get? p.1=some p.2/\H p.1=none/\p.1≠X.env.locals/\p.1∉X.fs/\∀ v,p.2.data ≠ .cell v
 hok:HOk X.prog X.w H s.heap
 len:σ.length=X.N.length
section
variable {X:Cx} {pins:List ↥10} {σ:List (Option V)} {H H':Hp} {s:Shared} {h':Heap}
theorem Cx.Ok.nofr (ok:X.Ok) {b:Addr} {o:Obj} (e:X.base.get? b=some o):b∉X.fs:=fun hb=>by
 have:=(ok.funs.mem hb).1
 rw [e] at this;cases this
theorem Inv.bs (I:Inv X pins σ H s):∀ b o,X.base.get? b=some o->s.heap.get? b=some o/\H b=none:=fun b o e =>
 ⟨I.base.keep b o (I.ok.bs b o e).1 (I.ok.bs b o e).2 (I.ok.nofr e) (I.ok.noex b o e),I.base.free b o (I.ok.bs b o e).1 (I.ok.bs b o e).2 (I.ok.noex b o e)⟩
theorem Inv.bk (I:Inv X pins σ H s):∀ b o,X.base.get? b=some o->s.heap.get? b=some o:=fun b o e=>(I.bs b o e).1
theorem Inv.mod (I:Inv X pins σ H s):Mod X.K X.mg X.base:=I.ok.mod
theorem Inv.kIn (I:Inv X pins σ H s):X.K.In s.heap:=I.ok.mod.kin.keeps I.bk
theorem Inv.lt (I:Inv X pins σ H s):X.env.locals<s.heap.objs.size:=let ⟨_,hn,_⟩:=I.loc;hn.lt
theorem Inv.sz (I:Inv X pins σ H s):X.s₀.heap.objs.size<=s.heap.objs.size:=Nat.le_trans I.ok.above (Nat.le_of_lt I.lt)
theorem Inv.nofs (I:Inv X pins σ H s) {a:Addr} (h:s.heap.objs.size<=a):a∉X.fs:=fun hb=>by
 obtain ⟨_,o,ho,_⟩:=I.ok.funs.mem hb
 exact absurd (Nat.lt_of_lt_of_le (Heap.lt_size ho) (Nat.le_trans I.sz h)) (Nat.lt_irrefl _)
theorem Inv.cne (I:Inv X pins σ H s):∀ x c,X.env.cells.lookup x=some c->c≠X.env.locals:=fun x c e z=>by
 obtain ⟨v,o,ho,hd⟩:=I.cell x c e
 obtain ⟨m,⟨o',es,ep,ho',hd',_⟩,_⟩:=I.loc
 rw [z,ho'] at ho;cases ho;rw [hd'] at hd;cases hd
theorem Inv.funs (I:Inv X pins σ H s):s.heap.FunFrames X.base X.outer:=by
 have all:∀ (l:List Env),(∀ b∈frs l,b∈X.fs)->X.s₀.heap.FunFrames X.base l->s.heap.FunFrames X.base l:=by
  intro l
  induction l with
  | nil=>intro _ _;trivial
  | cons env r ih =>
   intro hs hl
   obtain ⟨hk,⟨L,o,hf,hn,ho,hd⟩,hr⟩:=hl
   have hL:L∈X.fs:=hs L (by unfold frs;rw [List.filterMap_cons,hf];exact List.mem_cons_self)
   obtain ⟨sl,e⟩:=I.base.slot L o ho (I.ok.frf L hL) hL fun z=>I.ok.exfs L z hL
   exact ⟨hk,⟨L,_,hf,hn,e,hd⟩,ih (fun b hb=>hs b (by unfold frs;rw [List.filterMap_cons,hf];exact List.mem_cons_of_mem _ hb)) hr⟩
 exact all X.outer (fun _ hb=>hb) I.ok.funs
theorem Inv.stack (I:Inv X pins σ H s):s.heap.FunFrames X.base X.stack:=by
 rcases I.ok.stk with e | ⟨e,hf⟩
 ·rw [e];exact I.funs
 ·rw [e]
  obtain ⟨m,hn,_⟩:=I.loc
  refine .cons (by rw [I.ok.kind];decide) hf hn ?_ I.funs
  exact Heap.get?_none_of_le (Nat.le_trans I.ok.bsz I.ok.above)
theorem Inv.stkSub (I:Inv X pins σ H s):∀ b∈frs X.stack,b∈X.env.locals::X.fs:=fun b hb=>by
 rcases I.ok.stk with e | ⟨e,hf⟩
 ·rw [e] at hb;exact List.mem_cons_of_mem _ hb
 ·rw [e] at hb
  unfold frs at hb
  rw [List.filterMap_cons,hf] at hb
  exact hb
theorem Inv.stkFree (I:Inv X pins σ H s):∀ b∈frs X.stack,H b=none:=fun b hb=>by
 rcases List.mem_cons.mp (I.stkSub b hb) with e | hb
 ·rw [e];exact I.free
 ·obtain ⟨_,o,ho,_⟩:=I.ok.funs.mem hb
  exact I.base.free b o ho (I.ok.frf b hb) fun z=>I.ok.exfs b z hb
theorem Inv.step {g':Array GenState} {t':Nat} {d':Drawn} {ch:List Addr} (I:Inv X pins σ H s)
  (hch:∀ b∈ch,(b∈X.ex\/X.s₀.heap.objs.size<=b)/\b≠X.env.locals/\(∀ x c,X.env.cells.lookup x=some c->c≠b)/\∀ p∈X.pn++pins,p.1≠b)
  (keep:∀ b o,b≠X.env.locals->b∉X.fs->b∉ch->s.heap.get? b=some o->H b=none->h'.get? b=some o)
  (slot:∀ b o,b≠X.env.locals->b∈X.fs->b∉ch->s.heap.get? b=some o->H b=none->∃ sl,h'.get? b=some { o with slots:=sl }) (free:∀ b o,b∉ch->s.heap.get? b=some o->H b=none->H' b=none)
  (there:∀ b o,b∉ch->s.heap.get? b=some o->∃ o',h'.get? b=some o')
  (tups:∀ b xs,H b=some (.tup xs)->H' b=some (.tup xs)) (frzs:∀ b o u,H b=some (.frz o u)->H' b=some (.frz o u)) (tbls:∀ b ps,H b=some (.tbl ps)->∃ more,H' b=some (.tbl (ps++more)))
  (ns:∀ m,s.heap.Ns X.env.locals m->h'.Ns X.env.locals m) (hok:HOk X.prog X.w H' h') (hg:AllBare g') :
  Inv X pins σ H' { s with heap:=h',gens:=g',drawn:=d',toks:=t' }:=by
 have neL:∀ b o,X.s₀.heap.get? b=some o->b≠X.env.locals:=fun b o e=>Nat.ne_of_lt (Nat.lt_of_lt_of_le (Heap.lt_size e) I.ok.above)
 have neC:∀ b o,X.s₀.heap.get? b=some o->b∉X.ex->b∉ch:=fun b o e hx hb=>by
  rcases (hch b hb).1 with z | z
  ·exact hx z
  ·exact absurd (Nat.lt_of_lt_of_le (Heap.lt_size e) z) (Nat.lt_irrefl _)
 have cellK:∀ x c,X.env.cells.lookup x=some c->∀ v,s.heap.IsCell c v->h'.IsCell c v:=fun x c e v ⟨o,ho,hd⟩=>by
  have nch:c∉ch:=fun z=>(hch c z).2.2.1 x c e rfl
  by_cases hc:c∈X.fs
  ·obtain ⟨sl,q⟩:=slot c o (I.cne x c e) hc nch ho (I.freeC x c e)
   exact ⟨_,q,hd⟩
  ·exact ⟨o,keep c o (I.cne x c e) hc nch ho (I.freeC x c e),hd⟩
 refine ⟨I.ok,I.os,hg,⟨fun b o e n hb hx => ?_,fun b o e n hb hx => ?_,fun b o e n hx => ?_,fun b o e hx => ?_,fun b xs e=>tups b xs (I.base.tups b xs e),fun b o xs e=>frzs b o xs (I.base.frzs b o xs e),fun b ps e => ?_⟩,?_,fun x c e => ?_,?_,fun x c e => ?_,fun p hp => ?_,hok,I.len⟩
 ·exact keep b o (neL b o e) hb (neC b o e hx) (I.base.keep b o e n hb hx) (I.base.free b o e n hx)
 ·obtain ⟨sl,e1⟩:=I.base.slot b o e n hb hx
  obtain ⟨sl',e2⟩:=slot b _ (neL b o e) hb (neC b o e hx) e1 (I.base.free b o e n hx)
  exact ⟨sl',e2⟩
 ·obtain ⟨o',e1⟩:=I.base.there b o e hx
  exact free b o' (neC b o e hx) e1 (I.base.free b o e n hx)
 ·obtain ⟨o',e1⟩:=I.base.there b o e hx
  exact there b o' (neC b o e hx) e1
 ·obtain ⟨m1,e1⟩:=I.base.tbls b ps e
  obtain ⟨m2,e2⟩:=tbls b _ e1
  exact ⟨m1++m2,by rw [e2,Array.append_assoc]⟩
 ·obtain ⟨m,hn,hl⟩:=I.loc
  refine ⟨m,ns m hn,fun i x v e1 e2 e3 => ?_⟩
  obtain ⟨u,r,l⟩:=hl i x v e1 e2 e3
  refine ⟨u,r,?_⟩
  rcases l with l | ⟨k,c,e,z⟩
  ·exact .inl l
  ·exact .inr ⟨k,c,e,cellK x c e _ z⟩
 ·obtain ⟨v,z⟩:=I.cell x c e
  exact ⟨v,cellK x c e v z⟩
 ·obtain ⟨m,⟨o,_,_,ho,_⟩,_⟩:=I.loc
  exact free _ o (fun z=>(hch _ z).2.1 rfl) ho I.free
 ·obtain ⟨v,o,ho,hd⟩:=I.cell x c e
  exact free c o (fun z=>(hch c z).2.2.1 x c e rfl) ho (I.freeC x c e)
 ·obtain ⟨e,n,ne,nf,d⟩:=I.pin p hp
  have nch:p.1∉ch:=fun z=>(hch p.1 z).2.2.2 p hp rfl
  exact ⟨keep p.1 p.2 ne nf nch e n,free p.1 p.2 nch e n,ne,nf,d⟩
theorem Inv.un {t':Nat} (I:Inv X pins σ H s) (u:Un X.fs [] H H' s.heap h') (hok:HOk X.prog X.w H' h'):Inv X pins σ H' { s with heap:=h',toks:=t' }:=by
 obtain ⟨m,⟨o,es,ep,ho,r⟩,_⟩:=id I.loc
 obtain ⟨sl,hL⟩:=u.any ho I.free (by simp)
 exact I.step (g':=s.gens) (d':=s.drawn) (ch:=[]) (fun _ z=>nomatch z) (fun b o _ hb _ e n=>u.keep b o e n hb (by simp)) (fun b o _ hb _ e n=>u.slot b o e n hb (by simp)) (fun b o _ e n=>u.free b o e n (by simp)) (fun b o _ e=>u.there b o e (by simp)) u.tups u.frzs u.tbls (fun m' hm=>by
  obtain ⟨o',es',ep',ho',r'⟩:=hm
  rw [ho] at ho';cases ho'
  exact ⟨_,es',ep',hL,r'⟩) hok I.bare
theorem Inv.call {g':Array GenState} {t':Nat} {d':Drawn} {ch:List Addr} (I:Inv X pins σ H s) (u:Un (frs X.stack) ch H H' s.heap h') (hok:HOk X.prog X.w H' h') (hg:AllBare g')
  (hch:∀ b∈ch,(b∈X.ex\/X.s₀.heap.objs.size<=b)/\b≠X.env.locals/\(∀ x c,X.env.cells.lookup x=some c->c≠b)/\∀ p∈X.pn++pins,p.1≠b) :
  Inv X pins σ H' { s with heap:=h',gens:=g',drawn:=d',toks:=t' }:=by
 obtain ⟨m,⟨o,es,ep,ho,r⟩,_⟩:=id I.loc
 obtain ⟨sl,hL⟩:=u.any ho I.free fun z=>(hch _ z).2.1 rfl
 exact I.step (ch:=ch) hch (fun b o hL hb hc e n=>u.keep b o e n (fun z=>(List.mem_cons.mp (I.stkSub b z)).elim hL hb) hc) (fun b o _ _ hc e n=>u.any e n hc) (fun b o hc e n=>u.free b o e n hc) (fun b o hc e=>u.there b o e hc) u.tups u.frzs u.tbls (fun m' hm=>by
  obtain ⟨o',es',ep',ho',r'⟩:=hm
  rw [ho] at ho';cases ho'
  exact ⟨_,es',ep',hL,r'⟩) hok hg
theorem Inv.turned {t':Nat} {it:Addr} (I:Inv X pins σ H s) (k:∀ b o,b≠it->s.heap.get? b=some o->h'.get? b=some o) (hn:H it=none) (hL:it≠X.env.locals)
  (h1:it∈X.ex\/X.s₀.heap.objs.size<=it) (h2:∀ x c,X.env.cells.lookup x=some c->c≠it) (h3:∀ p∈X.pn++pins,p.1≠it):Inv X pins σ H { s with heap:=h',toks:=t' }:=by
 have nit:∀ b u,H b=some u->b≠it:=fun b u e z=>by rw [z,hn] at e;cases e
 refine I.step (g':=s.gens) (d':=s.drawn) (ch:=[it]) (fun b hb => ?_) (fun b o _ _ hc e _=>k b o (fun z=>hc (by simp [z])) e) (fun b o _ _ hc e _=>⟨o.slots,k b o (fun z=>hc (by simp [z])) e⟩) (fun _ _ _ _ n=>n)
  (fun b o hc e=>⟨o,k b o (fun z=>hc (by simp [z])) e⟩) (fun _ _ e=>e) (fun _ _ _ e=>e) (fun b ps e=>⟨#[],by rw [e];simp⟩) (fun m hm => ?_) (fun b u e => ?_) I.bare
 ·have e:b=it:=by simpa using hb
  subst e
  exact ⟨h1,hL,h2,h3⟩
 ·obtain ⟨o,es,ep,ho,r⟩:=hm
  exact ⟨o,es,ep,k _ o (Ne.symm hL) ho,r⟩
 ·refine (I.hok b u e).stay (fun c v hc q=>k c v ?_ q) (fun _ q=>q) fun _ _ q=>q
  rcases hc with z | z
  ·rw [z];exact nit b u e
  ·exact nit c _ z
theorem Inv.tok (I:Inv X pins σ H s) (t:Nat):Inv X pins σ H { s with toks:=t }:=I.un (h':=s.heap) (t':=t) Un.refl I.hok
theorem Inv.kept {t':Nat} (I:Inv X pins σ H s) (k:∀ b u,s.heap.get? b=some u->h'.get? b=some u):Inv X pins σ H { s with heap:=h',toks:=t' }:=I.un (Un.kept k) (I.hok.kept k)
theorem Inv.laid {a:Addr} {o:HO} {t':Nat} (I:Inv X pins σ H s) (k:∀ b u,s.heap.get? b=some u->h'.get? b=some u) (hp:s.heap.objs.size<=a) (new:gO X.prog X.w (upd H a o) h' a o) :
  Inv X pins σ (upd H a o) { s with heap:=h',toks:=t' }:=I.un (Un.laid k hp (I.hok.fresh hp)) (I.hok.laid k hp new)
theorem Inv.write {x e:Addr} {o:HO} {t':Nat} (I:Inv X pins σ H s) (mu:Mut (H x)) (he:e=x\/H e=some (.own x)) (k:∀ b u,b≠e->s.heap.get? b=some u->h'.get? b=some u) (heo:∃ u,h'.get? e=some u)
  (new:gO X.prog X.w (upd H x o) h' x o):Inv X pins σ (upd H x o) { s with heap:=h',toks:=t' }:=I.un (Un.write mu he k heo) (I.hok.write mu he k heo new)
theorem Inv.pins_of {pins':List ↥10} (I:Inv X pins σ H s) (h:∀ p∈pins',s.heap.get? p.1=some p.2/\H p.1=none/\p.1≠X.env.locals/\p.1∉X.fs/\∀ v,p.2.data ≠ .cell v):Inv X pins' σ H s :=
 ⟨I.ok,I.os,I.bare,I.base,I.loc,I.cell,I.free,I.freeC,fun p hp=>(List.mem_append.mp hp).elim (fun z=>I.pin p (List.mem_append_left _ z)) (h p),I.hok,I.len⟩
theorem sM {N:List Str} (hN:N.Nodup) {i j:Nat} {x:Str} (a:N[i]? = some x) (b:N[j]? = some x):i=j:=by
 obtain ⟨h1,e1⟩:=List.getElem?_eq_some_iff.mp a
 obtain ⟨h2,e2⟩:=List.getElem?_eq_some_iff.mp b
 exact (List.getElem_inj hN).mp (e1.trans e2.symm)
theorem vm {M:Model} {A:Around} {E:Value->Shared->Prop} {i:Nat} {x:Str} {v:V} {u:Value} {Q:Unit->Shared->Prop} (I:Inv X pins σ H s) (hN:X.N.Nodup) (hi:X.N[i]? = some x) (hx:Loc X.env.scope x) (r:RelV v u)
  (h:∀ s',Inv X pins (σ.set i (some v)) H s'->(∃ a,Heap.SameBut a s.heap s'.heap/\(a=X.env.locals\/X.env.cells.lookup x=some a))->Q () s') (hf:X.fn x=true\/X.env.scope.names.lookup x=some .local:=by first | exact .inl rfl | exact .inr rfl | assumption):wpAny M A (storeName X.env x u) Q E s:=by
 obtain ⟨m,hn,hl⟩:=id I.loc
 have hcls:(X.env.scope.kind == .class||(X.env.scope.kind == .module&&X.env.locals != X.env.globals))=false:=by rw [I.ok.kind];rfl
 have hiσ:i<σ.length:=by rw [I.len];exact (List.getElem?_eq_some_iff.mp hi).1
 have cne:=I.cne
 have tracked:∀ {a:Addr} {h':Heap},(∃ o,s.heap.get? a=some o/\H a=none)->Heap.SameBut a s.heap h'->HOk X.prog X.w H h':=fun {a h'} ha hs b ob e=>by
  obtain ⟨_,_,hfree⟩:=ha
  refine (I.hok b ob e).stay (fun c w' hc q=>(hs.2 c ?_).trans q) (fun _ q=>q) fun _ _ q=>q
  rintro rfl
  rcases hc with rfl | hc
  ·rw [hfree] at e;cases e
  ·rw [hfree] at hc;cases hc
 rcases hx with hk | hk
 ·refine wpAny_storeName_local hk hn (fun h' hn' hs => ?_) hcls
  obtain ⟨oL,_,_,hoL,_⟩:=id hn
  refine h _ ⟨I.ok,I.os,I.bare,⟨fun b o e n hb hx => ?_,fun b o e n hb hx => ?_,I.base.free,fun b o e hx => ?_,I.base.tups,I.base.frzs,I.base.tbls⟩,⟨_,hn',fun j y v' e1 e2 e3 => ?_⟩,fun y c e => ?_,I.free,I.freeC,fun p hp => ?_,tracked ⟨oL,hoL,I.free⟩ hs,by simpa using I.len⟩ ⟨_,hs,.inl rfl⟩
  ·exact (hs.2 b (Nat.ne_of_lt (Nat.lt_of_lt_of_le (Heap.lt_size e) I.ok.above))).trans (I.base.keep b o e n hb hx)
  ·obtain ⟨sl,e1⟩:=I.base.slot b o e n hb hx
   exact ⟨sl,(hs.2 b (Nat.ne_of_lt (Nat.lt_of_lt_of_le (Heap.lt_size e) I.ok.above))).trans e1⟩
  ·obtain ⟨o',e1⟩:=I.base.there b o e hx
   exact ⟨o',(hs.2 b (Nat.ne_of_lt (Nat.lt_of_lt_of_le (Heap.lt_size e) I.ok.above))).trans e1⟩
  ·by_cases hj:j=i
   ·subst hj
    rw [hi] at e1;cases e1
    rw [List.getElem?_set_self hiσ] at e2
    cases e2
    exact ⟨u,r,.inl ⟨hk,by simp⟩⟩
   ·rw [List.getElem?_set_ne (Ne.symm hj)] at e2
    obtain ⟨u',r',q⟩:=hl j y v' e1 e2 e3
    refine ⟨u',r',?_⟩
    rcases q with ⟨k,e⟩ | ⟨k,c,e,z⟩
    ·refine .inl ⟨k,?_⟩
     have:y≠x:=fun e=>hj (sM hN e1 (e▸hi))
     simp [this,e]
    ·exact .inr ⟨k,c,e,z.sameBut hs (cne y c e)⟩
  ·obtain ⟨w',z⟩:=I.cell y c e
   exact ⟨w',z.sameBut hs (cne y c e)⟩
  ·obtain ⟨e,n,ne,nf,d⟩:=I.pin p hp
   exact ⟨(hs.2 p.1 ne).trans e,n,ne,nf,d⟩
 ·have hfn:X.fn x=true:=by
   rcases hf with z | z
   ·exact z
   ·rw [z] at hk;cases hk
  obtain ⟨c,hc⟩:=I.ok.has x (.inl hk)
  obtain ⟨w',z⟩:=I.cell x c hc
  refine wpAny_storeName_cell I.ok.kind hk hc z (fun h' hc' hs => ?_)
  obtain ⟨oc,hoc,hocd⟩:=id z
  refine h { s with heap:=h' } ⟨I.ok,I.os,I.bare,⟨fun b o e n hb hx => ?_,fun b o e n hb hx => ?_,I.base.free,fun b o e hx => ?_,I.base.tups,I.base.frzs,I.base.tbls⟩,⟨m,hn.sameBut hs (Ne.symm (cne x c hc)),fun j y v' e1 e2 e3 => ?_⟩,fun y c' e => ?_,I.free,I.freeC,fun p hp => ?_,tracked ⟨oc,hoc,I.freeC x c hc⟩ hs,by simpa using I.len⟩ ⟨c,hs,.inr hc⟩
  ·exact (hs.2 b (Nat.ne_of_lt (Nat.lt_of_lt_of_le (Heap.lt_size e) (I.ok.cab x c hfn hc)))).trans (I.base.keep b o e n hb hx)
  ·obtain ⟨sl,e1⟩:=I.base.slot b o e n hb hx
   exact ⟨sl,(hs.2 b (Nat.ne_of_lt (Nat.lt_of_lt_of_le (Heap.lt_size e) (I.ok.cab x c hfn hc)))).trans e1⟩
  ·obtain ⟨o',e1⟩:=I.base.there b o e hx
   exact ⟨o',(hs.2 b (Nat.ne_of_lt (Nat.lt_of_lt_of_le (Heap.lt_size e) (I.ok.cab x c hfn hc)))).trans e1⟩
  ·by_cases hj:j=i
   ·subst hj
    rw [hi] at e1;cases e1
    rw [List.getElem?_set_self hiσ] at e2
    cases e2
    exact ⟨u,r,.inr ⟨.inl hk,c,hc,hc'⟩⟩
   ·rw [List.getElem?_set_ne (Ne.symm hj)] at e2
    obtain ⟨u',r',q⟩:=hl j y v' e1 e2 e3
    refine ⟨u',r',?_⟩
    rcases q with q | ⟨k,c',e,z'⟩
    ·exact .inl q
    ·refine .inr ⟨k,c',e,z'.sameBut hs ?_⟩
     rintro rfl
     exact hj (sM hN e1 (I.ok.inj _ _ _ e hc▸hi))
  ·by_cases hcc:c'=c
   ·subst hcc;exact ⟨_,hc'⟩
   ·obtain ⟨w2,z2⟩:=I.cell y c' e
    exact ⟨w2,z2.sameBut hs hcc⟩
  ·obtain ⟨e,n,ne,nf,d⟩:=I.pin p hp
   refine ⟨(hs.2 p.1 ?_).trans e,n,ne,nf,d⟩
   intro q
   rw [q,hoc] at e
   have q':oc=p.2:=Option.some.inj e
   exact d w' (by rw [<- q'];exact hocd)
theorem mM {M:Model} {A:Around} {E:Value->Shared->Prop} {i:Nat} {x:Str} {v:V} {u:Value} {Q:Unit->Shared->Prop} (I:Inv X pins σ H s) (hN:X.N.Nodup) (hi:X.N[i]? = some x) (hx:Loc X.env.scope x) (r:RelV v u)
  (h:∀ s',Inv X pins (σ.set i (some v)) H s'->Q () s') (hf:X.fn x=true\/X.env.scope.names.lookup x=some .local:=by first | exact .inl rfl | exact .inr rfl | assumption):wpAny M A (storeName X.env x u) Q E s :=
 vm I hN hi hx r (fun s' I' _=>h s' I') hf
theorem Inv.call' {s':Shared} {ch:List Addr} (I:Inv X pins σ H s) (ho:s'.os=s.os) (u:Un (frs X.stack) ch H H' s.heap s'.heap) (hok:HOk X.prog X.w H' s'.heap) (hg:AllBare s'.gens)
  (hch:∀ b∈ch,(b∈X.ex\/X.s₀.heap.objs.size<=b)/\b≠X.env.locals/\(∀ x c,X.env.cells.lookup x=some c->c≠b)/\∀ p∈X.pn++pins,p.1≠b):Inv X pins σ H' s':=by
 obtain ⟨h',g',d',t',o'⟩:=s'
 have e:o'=s.os:=ho
 subst e
 exact I.call (g':=g') (t':=t') (d':=d') u hok hg hch
end
abbrev XK:=Value->Option Addr->Hp->Prop
abbrev St:=List (Option V)
abbrev VK:=V->Hp->Prop
abbrev TE:=St->Hp->VK->Prop
abbrev TT:=St->Hp->(Bool->Hp->Prop)->Prop
abbrev TA:=St->Hp->(List V->Hp->Prop)->Prop
structure Ends where
 nx:St->Hp->Prop
 rt:VK
 bk:St->Hp->Prop:=fun _ _=>False
 ct:St->Hp->Prop:=fun _ _=>False
abbrev TS:=Ends->St->Hp->Prop
def EP (X:Cx) (pins:List ↥10) (σ:St) (Q:VK) (u:Value) (s':Shared):Prop:=∃ v H',Inv X pins σ H' s'/\RelV v u/\Q v H'
def TP (X:Cx) (pins:List ↥10) (σ:St) (Q:Bool->Hp->Prop) (b:Bool) (s':Shared):Prop:=∃ H',Inv X pins σ H' s'/\Q b H'
def AP (X:Cx) (pins:List ↥10) (σ:St) (Q:List V->Hp->Prop) (us:List Value) (s':Shared):Prop:=∃ vs H',Inv X pins σ H' s'/\Vals vs us/\Q vs H'
def SP (X:Cx) (pins:List ↥10) (D:Ends) (f:Flow) (s':Shared):Prop :=
 match f with
 | .next=>∃ σ' H',Inv X pins σ' H' s'/\D.nx σ' H'
 | .brk=>∃ σ' H',Inv X pins σ' H' s'/\D.bk σ' H'
 | .cont=>∃ σ' H',Inv X pins σ' H' s'/\D.ct σ' H'
 | .ret u=>∃ v σ' H',Inv X pins σ' H' s'/\RelV v u/\D.rt v H'
def PE (X:Cx) (e:Expr) (t:TE):Prop :=
 ∀ (pins:List ↥10) (s:Shared) (σ:St) (H:Hp) (Q:VK),Inv X pins σ H s->t σ H Q->wpAny ↥5 X.A (eval e X.env) (EP X pins σ Q) X.xe s
def PT (X:Cx) (e:Expr) (t:TT):Prop :=
 ∀ (pins:List ↥10) (s:Shared) (σ:St) (H:Hp) (Q:Bool->Hp->Prop),Inv X pins σ H s->t σ H Q->wpAny ↥5 X.A (isTrue e X.env (eval e X.env)) (TP X pins σ Q) X.xe s
def PW (X:Cx) (e:Expr) (t:TT):Prop :=
 ∀ (whole:Sem Value) (pins:List ↥10) (s:Shared) (σ:St) (H:Hp) (Q:Bool->Hp->Prop),Inv X pins σ H s->t σ H Q->wpAny ↥5 X.A (isTrue e X.env whole) (TP X pins σ Q) X.xe s
theorem PW.pt {X:Cx} {e:Expr} {t:TT} (h:PW X e t):PT X e t:=h _
def PA (X:Cx) (es:List Expr) (t:TA):Prop :=
 ∀ (pos:Pos) (pins:List ↥10) (s:Shared) (σ:St) (H:Hp) (Q:List V->Hp->Prop),Inv X pins σ H s->t σ H Q->wpAny ↥5 X.A (spliced (backTo pos (starEach es X.env))) (AP X pins σ Q) X.xe s
def PS (X:Cx) (st:Stmt) (t:TS):Prop :=
 ∀ (pins:List ↥10) (s:Shared) (σ:St) (H:Hp) (D:Ends),Inv X pins σ H s->t D σ H->wpAny ↥5 X.A (exec st X.env) (SP X pins D) X.xe s
def PSs (X:Cx) (st:List Stmt) (t:TS):Prop :=
 ∀ (pins:List ↥10) (s:Shared) (σ:St) (H:Hp) (D:Ends),Inv X pins σ H s->t D σ H->wpAny ↥5 X.A (execs st X.env) (SP X pins D) X.xe s
theorem thn {α:Type} {t:Sem α} {Q Q':α->Shared->Prop} {M:Model} {A:Around} {E:Value->Shared->Prop} {s:Shared} (h:wpAny M A t Q E s) (hQ:∀ a s,Q a s->Q' a s):wpAny M A t Q' E s:=wpAny_mono h hQ fun _ _ x=>x
end L2
namespace L2
open PySem PySem.Spec PyProof.Rows
section
variable {X:Cx}
theorem bin {a b:Expr} {ta tb:TE} (ha:PE X a ta) (hb:PE X b tb) {pins:List ↥10} {s:Shared} {σ:St} {H:Hp} {R:V->V->Hp->Prop} (I:Inv X pins σ H s) (h:ta σ H fun x H1=>tb σ H1 fun y H2=>R x y H2)
  {α:Type} {Q:α->Shared->Prop} {f:Value->Value->Sem α}
  (hf:∀ v u s2 x y H2,Inv X pins σ H2 s2->RelV x v->RelV y u->R x y H2->wpAny ↥5 X.A (f v u) Q X.xe s2) :
  wpAny ↥5 X.A (eval a X.env) (fun v s₁=>wpAny ↥5 X.A (eval b X.env) (fun u s₂=>wpAny ↥5 X.A (f v u) Q X.xe s₂) X.xe s₁) X.xe s:=by
 refine thn (ha pins s σ H _ I h) fun v s1 ⟨x,H1,I1,r1,q1⟩ => ?_
 refine thn (hb pins s1 σ H1 _ I1 q1) fun u s2 ⟨y,H2,I2,r2,q2⟩ => ?_
 exact hf v u s2 x y H2 I2 r1 r2 q2
def Nq (i:Nat):TE:=fun σ H Q=>∃ v,σ[i]? = some (some v)/\Q v H
def tC (v:V):TE:=fun _ H Q=>Q v H
theorem hU {i:Nat} {x:Str} {pos:Pos} (hN:X.N[i]? = some x) (hv:Vis X.env.scope x) (hd:↥37=false:=by decide) (hcd:(x == ("__classdict__":Str))=false:=by decide):PE X (.Name x pos) (Nq i):=by
 intro pins s σ H Q I h
 obtain ⟨v,e,h⟩:=h
 obtain ⟨m,hn,hl⟩:=I.loc
 obtain ⟨u,r,l⟩:=hl i x v hN e hv
 have fin:EP X pins σ Q u s:=⟨v,H,I,r,h⟩
 rcases l with ⟨hk,hm⟩ | ⟨hk,c,hc,hcell⟩
 ·exact wpAny_Name (wpAny_loadName_local I.ok.kind hk hn hm fin) hd
 ·rcases hk with hk | hk
  ·exact wpAny_Name (wpAny_loadName_cell I.ok.kind hk hc hcell fin) hd
  ·exact wpAny_Name (wpAny_loadName_free I.ok.kind hk hc hcell fin hcd) hd
theorem A6 {i j pos}:PE X (.Constant (.int i) j pos) (tC (.int i)):=fun _ _ _ H _ I h=>wpAny_Constant_int ⟨.int i,H,I.tok _,⟨_,rfl⟩,h⟩
theorem JN {b j pos}:PE X (.Constant (.bool b) j pos) (tC (.bl b)):=fun _ _ _ H _ I h=>Constant_bool ⟨.bl b,H,I,rfl,h⟩
theorem GK {j pos}:PE X (.Constant .none j pos) (tC .non):=fun _ _ _ H _ I h=>Constant_none ⟨.non,H,I,rfl,h⟩
theorem A4 {x j pos}:PE X (.Constant (.str x) j pos) (tC (.str x)):=fun _ _ _ H _ I h=>Calls.Constant_str ⟨.str x,H,I.tok _,⟨_,rfl⟩,h⟩
def Gl (X:Cx) (x:Str):Prop:=X.env.kindOf x=some .globalImplicit
theorem kF {E:Value->Shared->Prop} {pins:List ↥10} {s:Shared} {σ:St} {H:Hp} {x:Str} {u:Value} {pos:Pos} {Q:Value->Shared->Prop} (I:Inv X pins σ H s) (hg:Gl X x) (hm:X.mg x=some u) (h:Q u s)
  (hd:↥37=false:=by decide):wpAny ↥5 X.A (eval (.Name x pos) X.env) Q E s :=
 Calls.Name_function_global I.ok.kind hg (Calls.loadGlobal_global (by rw [I.ok.glob];exact I.mod.glob.keeps I.bk) hm h) hd
theorem pz {E:Value->Shared->Prop} {pins:List ↥10} {s:Shared} {σ:St} {H:Hp} {x:Str} {u:Value} {pos:Pos} {Q:Value->Shared->Prop} (I:Inv X pins σ H s) (hg:Gl X x) (hm:X.mg x=none) (hv:bootBuiltins x=some u) (h:Q u s)
  (hn:x≠"__name__":=by decide) (hd:↥37=false:=by decide):wpAny ↥5 X.A (eval (.Name x pos) X.env) Q E s:=by
 obtain ⟨mb,h1,h2⟩:=I.mod.blt
 exact Calls.Name_function_global I.ok.kind hg (Calls.loadGlobal_builtin (by rw [I.ok.glob];exact I.mod.glob.keeps I.bk) hm (by rw [I.ok.blt];exact h1.keeps I.bk) ((h2 x hn).trans hv) h) hd
theorem vK {x:Str} {v:V} {u:Value} {pos:Pos} (hg:Gl X x) (hm:X.mg x=some u) (r:RelV v u) (hd:↥37=false:=by decide):PE X (.Name x pos) (tC v) :=
 fun _ _ _ H _ I h=>kF I hg hm ⟨v,H,I,r,h⟩ hd
theorem C9 {x:Str} {v:V} {u:Value} {pos:Pos} (hg:Gl X x) (hm:X.mg x=none) (hv:bootBuiltins x=some u) (r:RelV v u) (hn:x≠"__name__":=by decide) (hd:↥37=false:=by decide):PE X (.Name x pos) (tC v) :=
 fun _ _ _ H _ I h=>pz I hg hm hv ⟨v,H,I,r,h⟩ hn hd
variable {a b:Expr} {ta tb:TE} {pos:Pos}
def tB (t:TE):TT:=fun σ H Q=>t σ H fun x H1=>∃ c,x=.bl c/\Q c H1
theorem Gz {e:Expr} {t:TE} (h:PE X e t) (he:∀ whole,isTrue e X.env whole=(do let v<-whole;standAt e.pos;holding [v] (truthy v)):=by intro _;rfl):PT X e (tB t):=by
 intro pins s σ H Q I hw
 refine isTrue_plain (thn (h pins s σ H _ I hw) fun v s1 ⟨x,H1,I1,r1,q1⟩ => ?_) (he _)
 obtain ⟨d,rfl,q⟩:=q1
 cases r1
 exact wpAny_truthy_bool ⟨H1,I1,q⟩
variable {tA tB':TT} {rest:List Expr}
def NG (t u:TT):TT:=fun σ H Q=>t σ H fun c H1=>if c=true then u σ H1 Q else Q false H1
def tOr (t u:TT):TT:=fun σ H Q=>t σ H fun c H1=>if c=true then Q true H1 else u σ H1 Q
def Nw (t:TT):TT:=fun σ H Q=>t σ H fun c H1=>Q (!c) H1
theorem C0 (ha:PT X a tA):PW X (.BoolOp .And [a] pos) tA:=by
 intro wh pins s σ H Q I h
 refine isTrue_and (thn (ha pins s σ H Q I h) fun c s1 e => ?_)
 cases c with
 | true=>exact isTrue_and_nil e
 | false=>exact e
theorem Gw (ha:PT X a tA):PW X (.BoolOp .Or [a] pos) tA:=by
 intro wh pins s σ H Q I h
 refine isTrue_or (thn (ha pins s σ H Q I h) fun c s1 e => ?_)
 cases c with
 | false=>exact isTrue_or_nil e
 | true=>exact e
theorem Gx (ha:PT X a tA) (hb:PW X (.BoolOp .And (b::rest) pos) tB'):PW X (.BoolOp .And (a::b::rest) pos) (NG tA tB'):=by
 intro wh pins s σ H Q I h
 refine isTrue_and (thn (ha pins s σ H _ I h) fun c s1 ⟨H1,I1,q1⟩ => ?_)
 cases c with
 | true=>exact hb wh pins s1 σ H1 Q I1 q1
 | false=>exact ⟨H1,I1,q1⟩
theorem JE (ha:PT X a tA) (hb:PW X (.BoolOp .Or (b::rest) pos) tB'):PW X (.BoolOp .Or (a::b::rest) pos) (tOr tA tB'):=by
 intro wh pins s σ H Q I h
 refine isTrue_or (thn (ha pins s σ H _ I h) fun c s1 ⟨H1,I1,q1⟩ => ?_)
 cases c with
 | true=>exact ⟨H1,I1,q1⟩
 | false=>exact hb wh pins s1 σ H1 Q I1 q1
theorem GA (ha:PT X a tA):PT X (.UnaryOp .Not a pos) (Nw tA):=by
 intro pins s σ H Q I h
 exact isTrue_not (ha pins s σ H (fun c H1=>Q (!c) H1) I h)
def Js (ta tb:TE):TE:=fun σ H Q=>ta σ H fun x H1=>∃ c,x=.bl c/\if c=true then tb σ H1 Q else Q ↥33 H1
def Nv (ta tb:TE):TE:=fun σ H Q=>ta σ H fun x H1=>∃ c,x=.bl c/\if c=true then Q ↥34 H1 else tb σ H1 Q
def Jn (ta:TE):TE:=fun σ H Q=>ta σ H fun x H1=>∃ c,x=.bl c/\Q (.bl (!c)) H1
theorem GI {op} {t:TE} (h:PE X a t):PE X (.BoolOp op [a] pos) t:=fun pins s σ H Q I hw=>BoolOp_one (h pins s σ H Q I hw)
theorem GP (ha:PE X a ta) (hb:PE X (.BoolOp .And (b::rest) pos) tb):PE X (.BoolOp .And (a::b::rest) pos) (Js ta tb):=by
 intro pins s σ H Q I h
 refine BoolOp_and (thn (ha pins s σ H _ I h) fun v s1 ⟨x,H1,I1,r1,q1⟩ => ?_)
 obtain ⟨c,rfl,q1⟩:=q1
 cases r1
 refine wpAny_truthy_bool ?_
 cases c with
 | true=>exact hb pins s1 σ H1 Q I1 q1
 | false=>exact ⟨.bl false,H1,I1,rfl,q1⟩
theorem JL (ha:PE X a ta) (hb:PE X (.BoolOp .Or (b::rest) pos) tb):PE X (.BoolOp .Or (a::b::rest) pos) (Nv ta tb):=by
 intro pins s σ H Q I h
 refine BoolOp_or (thn (ha pins s σ H _ I h) fun v s1 ⟨x,H1,I1,r1,q1⟩ => ?_)
 obtain ⟨c,rfl,q1⟩:=q1
 cases r1
 refine wpAny_truthy_bool ?_
 cases c with
 | false=>exact hb pins s1 σ H1 Q I1 q1
 | true=>exact ⟨.bl true,H1,I1,rfl,q1⟩
theorem GJ (ha:PE X a ta):PE X (.UnaryOp .Not a pos) (Jn ta):=by
 intro pins s σ H Q I h
 refine UnaryOp_ (thn (ha pins s σ H _ I h) fun v s1 ⟨x,H1,I1,r1,q1⟩ => ?_)
 obtain ⟨c,rfl,q1⟩:=q1
 cases r1
 exact not_of (wpAny_truthy_bool ⟨.bl (!c),H1,I1,rfl,q1⟩)
def tIf (t:TT) (ta tb:TE):TE:=fun σ H Q=>t σ H fun c H1=>if c=true then ta σ H1 Q else tb σ H1 Q
theorem zr {c:Expr} (hc:PT X c tA) (ha:PE X a ta) (hb:PE X b tb):PE X (.IfExp c a b pos) (tIf tA ta tb):=by
 intro pins s σ H Q I h
 refine wpAny_IfExp (thn (hc pins s σ H _ I h) fun d s1 ⟨H1,I1,q1⟩ => ?_)
 cases d with
 | true=>exact ha pins s1 σ H1 Q I1 q1
 | false=>exact hb pins s1 σ H1 Q I1 q1
end
end L2
namespace L2
open PySem PySem.Spec PyProof.Rows
def SqL (K:PySem.W.Frag) (H:Hp) (a:Addr) (xs:List V):Prop :=
 Rd H a (.lst xs) \/
  ∃ (o:Obj) (its:Array Value) (n:Nat),K.lookup a=some o/\o.cls=.type "list"/\o.dict=none/\o.data=.seq its n/\its.size<=sizeLine/\Vals xs its.toList
def SqT (K:PySem.W.Frag) (H:Hp) (a:Addr) (xs:List V):Prop :=
 Rd H a (.tup xs) \/
  ∃ (o:Obj) (its:Array Value) (n:Nat),K.lookup a=some o/\o.cls=.type "tuple"/\o.data=.seq its n/\its.size<=sizeLine/\Vals xs its.toList
def Pp:Value->Option V
 | .none=>some .non
 | .bool b=>some (.bl b)
 | .int i _=>some (.int i)
 | .str x _=>some (.str x)
 | .bytes b _=>some (.byt b)
 | .float b _=>some (.flt b)
 | .ref a=>some (.ref a)
 | .type n=>some (.ty n)
 | _=>none
theorem RelV.abs {x:V} {u:Value} (r:RelV x u):Pp u=some x:=by
 cases x with
 | non=>cases r;rfl
 | bl _=>cases r;rfl
 | int _=>obtain ⟨t,rfl⟩:=r;rfl
 | str _=>obtain ⟨t,rfl⟩:=r;rfl
 | byt _=>obtain ⟨t,rfl⟩:=r;rfl
 | flt _=>obtain ⟨t,rfl⟩:=r;rfl
 | ref _=>cases r;rfl
 | ty _=>cases r;rfl
theorem RelV.inj {x y:V} {u:Value} (r:RelV x u) (q:RelV y u):x=y:=Option.some.inj (r.abs.symm.trans q.abs)
theorem Vals.inj:∀ {xs ys:List V} {us:List Value},Vals xs us->Vals ys us->xs=ys
 | _,_,_,.nil,.nil=>rfl
 | _,_,_,.cons r t,.cons r' t'=>by rw [r.inj r',Vals.inj t t']
section
variable {X:Cx} {pins:List ↥10} {σ:St} {H:Hp} {s:Shared} {a:Addr} {xs ys:List V}
theorem SqL.of {K:PySem.W.Frag} (h:H a=some (.lst xs)):SqL K H a xs:=.inl (.inl h)
theorem SqT.of {K:PySem.W.Frag} (h:H a=some (.tup xs)):SqT K H a xs:=.inl (.inl h)
theorem Inv.list (I:Inv X pins σ H s) (h:SqL X.K H a xs):∃ its:List Value,Vals xs its/\PlainL s.heap a its.toArray/\xs.length<=sizeLine:=by
 rcases h with h | ⟨o,its,n,hk,hc,hd,hs,hz,r⟩
 ·obtain ⟨z,its,n,r,e⟩:=h.ok I.hok
  exact ⟨its,r,⟨_,n,e,rfl,rfl,rfl⟩,z⟩
 ·refine ⟨its.toList,r,⟨o,n,I.kIn a o hk,hc,hd,by simpa using hs⟩,?_⟩
  have e:=r.length
  simp only [Array.length_toList] at e
  omega
theorem Inv.tuple (I:Inv X pins σ H s) (h:SqT X.K H a xs):∃ its:List Value,Vals xs its/\IsTup s.heap a its.toArray/\xs.length<=sizeLine:=by
 rcases h with h | ⟨o,its,n,hk,hc,hs,hz,r⟩
 ·obtain ⟨z,its,r,p⟩:=h.ok I.hok
  exact ⟨its,r,p,z⟩
 ·refine ⟨its.toList,r,⟨o,I.kIn a o hk,hc,n,by simpa using hs⟩,?_⟩
  have e:=r.length
  simp only [Array.length_toList] at e
  omega
theorem Inv.list_inj (I:Inv X pins σ H s) (h:SqL X.K H a xs) (h':SqL X.K H a ys):xs=ys:=by
 obtain ⟨its,r,⟨o,n,e,_,_,d⟩,_⟩:=I.list h
 obtain ⟨its',r',⟨o',n',e',_,_,d'⟩,_⟩:=I.list h'
 rw [e] at e';cases e'
 rw [d] at d'
 injection d' with d1 _
 have:its=its':=by simpa using congrArg Array.toList d1
 subst this
 exact r.inj r'
theorem Inv.tuple_inj (I:Inv X pins σ H s) (h:SqT X.K H a xs) (h':SqT X.K H a ys):xs=ys:=by
 obtain ⟨its,r,⟨o,e,_,n,d⟩,_⟩:=I.tuple h
 obtain ⟨its',r',⟨o',e',_,n',d'⟩,_⟩:=I.tuple h'
 rw [e] at e';cases e'
 rw [d] at d'
 injection d' with d1 _
 have:its=its':=by simpa using congrArg Array.toList d1
 subst this
 exact r.inj r'
end
abbrev Cx.wish (X:Cx) (E:Value->Shared->Prop):Cx:={ X with xe:=E }
abbrev Cx.nox (X:Cx):Cx:=X.wish fun _ _=>False
theorem Cx.Ok.wish {X:Cx} (ok:X.Ok) (E:Value->Shared->Prop):(X.wish E).Ok :=
 ⟨ok.mod,ok.kind,ok.glob,ok.blt,ok.above,ok.inj,ok.has,ok.cab,ok.hd,ok.frames,ok.stk,ok.exf,ok.bs,ok.bsz,ok.noex,ok.exfs,ok.funs,ok.frf⟩
theorem Cx.Ok.unwish {X:Cx} {E:Value->Shared->Prop} (ok:(X.wish E).Ok):X.Ok :=
 ⟨ok.mod,ok.kind,ok.glob,ok.blt,ok.above,ok.inj,ok.has,ok.cab,ok.hd,ok.frames,ok.stk,ok.exf,ok.bs,ok.bsz,ok.noex,ok.exfs,ok.funs,ok.frf⟩
section
variable {X:Cx} {pins:List ↥10} {σ:St} {H:Hp} {s:Shared} {E:Value->Shared->Prop}
theorem Inv.wish (I:Inv X pins σ H s) (E:Value->Shared->Prop):Inv (X.wish E) pins σ H s:=⟨I.ok.wish E,I.os,I.bare,I.base,I.loc,I.cell,I.free,I.freeC,I.pin,I.hok,I.len⟩
theorem Inv.unwish (I:Inv (X.wish E) pins σ H s):Inv X pins σ H s:=⟨I.ok.unwish,I.os,I.bare,I.base,I.loc,I.cell,I.free,I.freeC,I.pin,I.hok,I.len⟩
theorem SP.unwish {D:Ends} {f:Flow} {s':Shared} (h:SP (X.wish E) pins D f s'):SP X pins D f s':=by
 cases f with
 | next=>obtain ⟨σ',H',I,q⟩:=h;exact ⟨σ',H',I.unwish,q⟩
 | brk=>obtain ⟨σ',H',I,q⟩:=h;exact ⟨σ',H',I.unwish,q⟩
 | cont=>obtain ⟨σ',H',I,q⟩:=h;exact ⟨σ',H',I.unwish,q⟩
 | ret u=>obtain ⟨v,σ',H',I,r,q⟩:=h;exact ⟨v,σ',H',I.unwish,r,q⟩
theorem PSs.nox {st:List Stmt} {t:TS} (h:PSs X.nox st t):PSs X st t:=fun pins s σ H D I hw =>
 wpAny_mono (h pins s σ H D (I.wish _) hw) (fun _ _ q=>q.unwish) fun _ _ z=>False.elim z
end
section
variable {X:Cx} {st:Stmt} {rest:List Stmt} {t u:TS} {e:Expr} {te:TE} {pos:Pos}
def Jo:TS:=fun D σ H=>D.nx σ H
def Nt (t u:TS):TS:=fun D σ H=>t { D with nx:=u D } σ H
theorem qB:PSs X [] Jo:=fun _ _ σ H _ I h=>wpAny_execs_nil ⟨σ,H,I,h⟩
theorem dq (h1:PS X st t) (h2:PSs X rest u):PSs X (st::rest) (Nt t u):=by
 intro pins s σ H D I h
 refine wpAny_execs_cons (thn (h1 pins s σ H { D with nx:=u D } I h) fun f s1 q => ?_)
 cases f with
 | next =>
  obtain ⟨σ',H',I',q⟩:=q
  exact h2 pins s1 σ' H' D I' q
 | ret v=>exact q
 | brk=>exact q
 | cont=>exact q
theorem nh (h1:PS X st t):PSs X [st] t:=by
 intro pins s σ H D I h
 refine wpAny_execs_cons (thn (h1 pins s σ H D I h) fun f s1 q => ?_)
 cases f with
 | next=>exact wpAny_execs_nil q
 | ret v=>exact q
 | brk=>exact q
 | cont=>exact q
theorem Inv.quiet {pins:List ↥10} {σ:St} {H:Hp} {s:Shared} (I:Inv X pins σ H s):interactive X.env=false:=by simp [interactive,I.ok.kind]
def Jq (te:TE):TS:=fun D σ H=>te σ H fun _ H1=>D.nx σ H1
theorem kg (he:PE X e te) (hs:swapsWith e none pos.line X.env=pure false:=by rfl):PS X (.Expr e pos) (Jq te):=by
 intro pins s σ H D I h
 exact wpAny_Expr_any (thn (he pins s σ H _ I h) fun v s1 ⟨x,H1,I1,r1,q1⟩=>⟨σ,H1,I1,q1⟩) I.quiet hs
def Nu (te:TE):TS:=fun D σ H=>te σ H D.rt
theorem vF (he:PE X e te):PS X (.Return (some e) pos) (Nu te):=by
 intro pins s σ H D I h
 exact wpAny_Return_some (thn (he pins s σ H _ I h) fun v s1 ⟨x,H1,I1,r1,q1⟩=>⟨x,σ,H1,I1,r1,q1⟩)
def Nz (c:TT) (t u:TS):TS:=fun D σ H=>c σ H fun b H1=>if b=true then t D σ H1 else u D σ H1
theorem zo {c:Expr} {a b:List Stmt} {tc:TT} (hc:PT X c tc) (ha:PSs X a t) (hb:PSs X b u):PS X (.If c a b pos) (Nz tc t u):=by
 intro pins s σ H D I h
 refine wpAny_If (thn (hc pins s σ H _ I h) fun d s1 ⟨H1,I1,q1⟩ => ?_)
 cases d with
 | true=>exact ha pins s1 σ H1 D I1 q1
 | false=>exact hb pins s1 σ H1 D I1 q1
def F3:TS:=fun _ _ _=>False
theorem oK {sts:List Stmt}:PSs X sts F3:=fun _ _ _ _ _ _ h=>h.elim
end
abbrev TG:=V->St->Hp->(St->Hp->Prop)->Prop
abbrev TGs:=List V->St->Hp->(St->Hp->Prop)->Prop
def PG (X:Cx) (target:Expr) (t:TG):Prop :=
 ∀ (pins:List ↥10) (s:Shared) (σ:St) (H:Hp) (v:V) (u:Value) (Q:St->Hp->Prop),Inv X pins σ H s->RelV v u->t v σ H Q ->
  wpAny ↥5 X.A (assign target X.env u) (fun _ s'=>∃ σ' H',Inv X pins σ' H' s'/\Q σ' H') X.xe s
section
variable {X:Cx} {pos:Pos}
def rh (i:Nat):TG:=fun v σ H Q=>Q (σ.set i (some v)) H
theorem qE {i:Nat} {x:Str} (hN:X.N.Nodup) (hi:X.N[i]? = some x) (hx:Loc X.env.scope x) (hf:X.fn x=true\/X.env.scope.names.lookup x=some .local:=by first | exact .inl rfl | exact .inr rfl | assumption):PG X (.Name x pos) (rh i):=by
 intro pins s σ H v u Q I r h
 exact wpAny_assign_Name (mM I hN hi hx r (fun s' I'=>⟨_,H,I',h⟩) hf)
def Pa:TGs:=fun vs σ H Q=>vs=[]/\Q σ H
def Kc (t:TG) (u:TGs):TGs:=fun vs σ H Q=>∃ v r,vs=v::r/\t v σ H fun σ' H'=>u r σ' H' Q
def NF (te:TE) (g:TG):TS:=fun D σ H=>te σ H fun x H1=>g x σ H1 D.nx
theorem oM {i:Nat} {x:Str} {e:Expr} {te:TE} {pos':Pos} (hN:X.N.Nodup) (hi:X.N[i]? = some x) (hx:Loc X.env.scope x) (he:PE X e te) (hs:swapsWith e (some (.Name x pos')) pos.line X.env=pure false:=by rfl) (hf:X.fn x=true\/X.env.scope.names.lookup x=some .local:=by first | exact .inl rfl | exact .inr rfl | assumption) :
  PS X (.Assign [.Name x pos'] e pos) (NF te (rh i)):=by
 intro pins s σ H D I h
 refine wpAny_Assign_Name (thn (he pins s σ H _ I h) fun v s1 ⟨y,H1,I1,r1,q1⟩ => ?_) hs
 exact mM I1 hN hi hx r1 (fun s2 I2=>⟨_,H1,I2,q1⟩) hf
end
section
variable {X:Cx} {pos:Pos}
end
structure It where
 go:Nat->Hp->Prop
 yld:Nat->Hp->V->Hp->Prop
 stop:Nat->Hp->Prop
def uU (X:Cx) (pins:List ↥10) (H:Hp) (b:Addr):Prop :=
 H b=none/\b≠X.env.locals/\b∉X.fs/\(b∈X.ex\/X.s₀.heap.objs.size<=b)/\(∀ x c,X.env.cells.lookup x=some c->c≠b)/\∀ p∈X.pn++pins,p.1≠b
theorem Inv.fpOk {X:Cx} {pins:List ↥10} {σ:St} {H H':Hp} {s:Shared} {b:Addr} (I:Inv X pins σ H s) (hb:s.heap.objs.size<=b) (hn:H' b=none):uU X pins H' b:=by
 refine ⟨hn,Nat.ne_of_gt (Nat.lt_of_lt_of_le I.lt hb),I.nofs hb,.inr (Nat.le_trans I.sz hb),fun x c e z => ?_,fun p hp z => ?_⟩
 ·obtain ⟨v,q⟩:=I.cell x c e
  exact absurd (Nat.lt_of_lt_of_le q.lt (by rw [z];exact hb)) (Nat.lt_irrefl _)
 ·exact absurd (Nat.lt_of_lt_of_le (Heap.lt_size (I.pin p hp).1) (by rw [z];exact hb)) (Nat.lt_irrefl _)
structure Turn (P:Program) (w:World) (K:PySem.W.Frag) (tg:Expr) (J:It) (fp:List Addr) (it:Addr) (tn:Nat->Heap->Prop):Prop where
 mem:it∈fp
 obj:∀ i h,tn i h->∀ b∈fp,∃ o,h.get? b=some o/\∀ v,o.data ≠ .cell v
 keep:∀ i h h',tn i h->(∀ b∈fp,∀ o,h.get? b=some o->h'.get? b=some o)->tn i h'
 item:∀ (X:Cx),X.prog=P->X.w=w->X.K=K->X.calm=true->∀ (i:Nat) (pins:List ↥10) (s:Shared) (σ:St) (H:Hp) (E:Value->Shared->Prop),Inv X pins σ H s->(∀ b∈fp,uU X pins H b)->tn i s.heap->J.go i H ->
  wpAny (model P w) X.A (pyNext (.ref it)) (fun r s1=>∃ u,r=some u /\
   wpAny (model P w) X.A (letOwnedTupleGo tg (.ref it) u) (fun _ s2=>∃ x H',Inv X pins σ H' s2/\RelV x u/\J.yld i H x H'/\tn (i+1) s2.heap/\∀ b∈fp,H' b=none) E s1) E s
 done:∀ (X:Cx),X.prog=P->X.w=w->X.K=K->X.calm=true->∀ (i:Nat) (pins:List ↥10) (s:Shared) (σ:St) (H:Hp) (E:Value->Shared->Prop),Inv X pins σ H s->(∀ b∈fp,uU X pins H b)->tn i s.heap->J.stop i H ->
  wpAny (model P w) X.A (pyNext (.ref it)) (fun r s1=>r=none/\Inv X pins σ H s1) E s
 self:∀ (A:Around) (i:Nat) (s:Shared) (Q:Value->Shared->Prop) (E:Value->Shared->Prop),tn i s.heap->Q (.ref it) s->wpAny (model P w) A (pyIter (.ref it)) Q E s
abbrev TI:=St->Hp->(It->Hp->Prop)->Prop
def PIE (X:Cx) (pins:List ↥10) (σ:St) (tg:Expr) (R:It->Hp->Prop) (itv:Value) (s2:Shared):Prop :=
 ∃ (it:Addr) (fp:List Addr) (tn:Nat->Heap->Prop) (J:It) (H':Hp),itv=.ref it/\Inv X pins σ H' s2/\Turn X.prog X.w X.K tg J fp it tn/\tn 0 s2.heap/\(∀ b∈fp,uU X pins H' b)/\R J H'
def PI (X:Cx) (tg iter:Expr) (wi:TI):Prop :=
 ∀ (pins:List ↥10) (s:Shared) (σ:St) (H:Hp) (R:It->Hp->Prop),Inv X pins σ H s->wi σ H R ->
  wpAny ↥5 X.A (eval iter X.env) (fun v s1=>wpAny ↥5 X.A (pyIter v) (PIE X pins σ tg R) X.xe s1) X.xe s
theorem Ec {M:Model} {A:Around} {E:Value->Shared->Prop} {s:Shared} {tg:Expr} {it:Addr} {u:Value} {o:Obj} {n:String} {vs:Array Value} {Q:Unit->Shared->Prop} (ho:s.heap.get? it=some o) (hc:o.cls=.type n) (hd:o.data=.fields vs)
  (hn:["enumerate","zip","dict_itemiterator","dict_reverseitemiterator","odict_iterator","itertools.zip_longest","itertools.pairwise"].contains n=false) (hQ:Q () s):wpAny M A (letOwnedTupleGo tg (.ref it) u) Q E s:=by
 unfold letOwnedTupleGo
 cases tg<;>first
  | exact wpAny_pure hQ
  | (cases u<;>first
    | exact wpAny_pure hQ
    | (refine wpAny_bind (wpAny_load ho ?_)
       rw [hc,hd]
       show wpAny M A (if (["enumerate","zip","dict_itemiterator","dict_reverseitemiterator","odict_iterator","itertools.zip_longest","itertools.pairwise"].contains n&&vs[0]? == some (rawInt _))=true then _ else _) Q E s
       rw [if_neg (by intro h;rw [hn,Bool.false_and] at h;cases h)]
       exact wpAny_pure hQ))
def Itl (K:PySem.W.Frag) (a:Addr):It :=
 ⟨fun i H=>∃ xs x,SqL K H a xs/\xs[i]? = some x,fun i H x H'=>H'=H/\∀ xs,SqL K H a xs->xs[i]? = some x,fun i H=>∃ xs,SqL K H a xs/\xs.length<=i⟩
def Itt (K:PySem.W.Frag) (a:Addr):It :=
 ⟨fun i H=>∃ xs x,SqT K H a xs/\xs[i]? = some x,fun i H x H'=>H'=H/\∀ xs,SqT K H a xs->xs[i]? = some x,fun i H=>∃ xs,SqT K H a xs/\xs.length<=i⟩
def Itr (lo:Int) (n:Nat):It:=⟨fun i _=>i<n,fun i H x H'=>H'=H/\x=.int (lo+i),fun i _=>n<=i⟩
theorem vi {P:Program} {w:World} {K:PySem.W.Frag} {tg:Expr} (a it:Addr):Turn P w K tg (Itl K a) [it] it (fun i h=>h.IsListIter it a i) where
 mem:=by simp
 obj:=fun i h st b hb=>by
  have e:b=it:=by simpa using hb
  subst e
  obtain ⟨o,e,c,d⟩:=st
  exact ⟨o,e,fun v z=>by rw [d] at z;cases z⟩
 keep:=fun i h h' st k=>st.at fun o e=>k it (by simp) o e
 item:=by
  intro X hP hw hK hc i pins s σ H E I hf st hg
  subst hP hw hK
  obtain ⟨xs,x,hq,hx⟩:=hg
  obtain ⟨its,rv,p,hz⟩:=I.list hq
  obtain ⟨u,hu,ru⟩:=rv.get hx
  obtain ⟨f0,f1,f2,f3,f4,f5⟩:=hf it (by simp)
  refine wpAny_pyNext_list_item st p.isList (x:=u) (by simpa using hu) fun h' st' sb => ?_
  have I1:Inv X pins σ H { s with heap:=h' }:=I.turned (t':=s.toks) (fun b o hb e=>(sb.2 b hb).trans e) f0 f1 f3 f4 f5
  obtain ⟨o,e,c,d⟩:=id st'
  exact ⟨u,rfl,Ec (s:={ s with heap:=h' }) e c d ↥3 ⟨x,H,I1,ru,⟨rfl,fun ys hy=>by rw [I.list_inj hy hq];exact hx⟩,st',fun b hb=>(hf b hb).1⟩⟩
 done:=by
  intro X hP hw hK hc i pins s σ H E I hf st hg
  subst hP hw hK
  obtain ⟨xs,hq,hx⟩:=hg
  obtain ⟨its,rv,p,hz⟩:=I.list hq
  obtain ⟨f0,f1,f2,f3,f4,f5⟩:=hf it (by simp)
  have hl:=rv.length
  exact wpAny_pyNext_list_end (I.ok.hd hc) st p.isList (by simp;omega) fun h' eb=>⟨rfl,I.turned (t':=s.toks) (fun b o hb e=>eb b o hb e) f0 f1 f3 f4 f5⟩
 self:=fun _ _ _ _ _ st h=>wpAny_pyIter_listiter st h
theorem t7 {P:Program} {w:World} {K:PySem.W.Frag} {tg:Expr} (a it:Addr):Turn P w K tg (Itt K a) [it] it (fun i h=>h.IsTupleIter it a i) where
 mem:=by simp
 obj:=fun i h st b hb=>by
  have e:b=it:=by simpa using hb
  subst e
  obtain ⟨o,e,c,d⟩:=st
  exact ⟨o,e,fun v z=>by rw [d] at z;cases z⟩
 keep:=fun i h h' st k=>st.at fun o e=>k it (by simp) o e
 item:=by
  intro X hP hw hK hc i pins s σ H E I hf st hg
  subst hP hw hK
  obtain ⟨xs,x,hq,hx⟩:=hg
  obtain ⟨its,rv,p,hz⟩:=I.tuple hq
  obtain ⟨u,hu,ru⟩:=rv.get hx
  obtain ⟨f0,f1,f2,f3,f4,f5⟩:=hf it (by simp)
  refine wpAny_pyNext_tuple_item st (show s.heap.IsTuple a its.toArray from p) (x:=u) (by simpa using hu) fun h' st' sb => ?_
  have I1:Inv X pins σ H { s with heap:=h' }:=I.turned (t':=s.toks) (fun b o hb e=>(sb.2 b hb).trans e) f0 f1 f3 f4 f5
  obtain ⟨o,e,c,d⟩:=id st'
  exact ⟨u,rfl,Ec (s:={ s with heap:=h' }) e c d ↥3 ⟨x,H,I1,ru,⟨rfl,fun ys hy=>by rw [I.tuple_inj hy hq];exact hx⟩,st',fun b hb=>(hf b hb).1⟩⟩
 done:=by
  intro X hP hw hK hc i pins s σ H E I hf st hg
  subst hP hw hK
  obtain ⟨xs,hq,hx⟩:=hg
  obtain ⟨its,rv,p,hz⟩:=I.tuple hq
  obtain ⟨f0,f1,f2,f3,f4,f5⟩:=hf it (by simp)
  have hl:=rv.length
  exact wpAny_pyNext_tuple_end (I.ok.hd hc) st (show s.heap.IsTuple a its.toArray from p) (by simp;omega) fun h' eb=>⟨rfl,I.turned (t':=s.toks) (fun b o hb e=>eb b o hb e) f0 f1 f3 f4 f5⟩
 self:=fun _ _ _ _ _ st h=>wpAny_pyIter_tupleiter st h
theorem t8 {P:Program} {w:World} {K:PySem.W.Frag} {tg:Expr} (it:Addr) (lo:Int) (n:Nat):Turn P w K tg (Itr lo n) [it] it (fun i h=>IsRangeIter h it (lo+(i:Nat)*1) ((n:Int) - (i:Nat)) 1) where
 mem:=by simp
 obj:=fun i h st b hb=>by
  have e:b=it:=by simpa using hb
  subst e
  exact ⟨_,st,fun v z=>by
   have z':Data.fields _=Data.cell v:=z
   cases z'⟩
 keep:=fun i h h' st k=>k it (by simp) _ st
 item:=by
  intro X hP hw hK hc i pins s σ H E I hf st hg
  subst hP hw hK
  obtain ⟨f0,f1,f2,f3,f4,f5⟩:=hf it (by simp)
  have W:=Walks.range (prog:=X.prog) (w:=X.w) (I.ok.hd hc) it lo 1 n
  refine W.item i s _ _ hg st fun v h' tk hv st' kk => ?_
  obtain ⟨t,rfl⟩:=hv
  have I1:Inv X pins σ H { s with heap:=h',toks:=tk }:=I.turned (fun b o hb e=>kk b o (by simpa using hb) e) f0 f1 f3 f4 f5
  refine ⟨_,rfl,Ec (s:={ s with heap:=h',toks:=tk }) (n:="range_iterator") st' rfl rfl ↥3 ⟨.int (lo+i),H,I1,⟨t,?_⟩,⟨rfl,rfl⟩,st',fun b hb=>(hf b hb).1⟩⟩
  rw [Int.mul_one]
 done:=by
  intro X hP hw hK hc i pins s σ H E I hf st hg
  subst hP hw hK
  obtain ⟨f0,f1,f2,f3,f4,f5⟩:=hf it (by simp)
  exact wpAny_pyNext_range_end (I.ok.hd hc) st (by have:n<=i:=hg;omega) fun h' eb=>⟨rfl,I.turned (t':=s.toks) (fun b o hb e=>eb b o hb e) f0 f1 f3 f4 f5⟩
 self:=fun _ _ _ _ _ st h=>wpAny_pyIter_rangeiter st h
end L2
namespace L2
open PySem PySem.Spec PyProof.Rows
section
variable {X:Cx} {tg:Expr}
def Kb (K:PySem.W.Frag) (tl:TE):TI:=fun σ H R=>tl σ H fun x H1=>∃ a,x=.ref a/\(∃ xs,SqL K H1 a xs)/\R (Itl K a) H1
def O9 (K:PySem.W.Frag) (tl:TE):TI:=fun σ H R=>tl σ H fun x H1=>∃ a,x=.ref a/\(∃ xs,SqT K H1 a xs)/\R (Itt K a) H1
theorem C6 {l:Expr} {tl:TE} (hl:PE X l tl):PI X tg l (Kb X.K tl):=by
 intro pins s σ H R I h
 refine thn (hl pins s σ H _ I h) fun v s1 ⟨x,H1,I1,r1,q1⟩ => ?_
 obtain ⟨a,e,⟨xs,hq⟩,q⟩:=q1
 subst e
 cases r1
 obtain ⟨its,rv,p,hz⟩:=I1.list hq
 refine wpAny_pyIter_list p.isList ?_
 refine ⟨s1.heap.objs.size,[s1.heap.objs.size],_,_,H1,rfl,I1.kept (t':=s1.toks) fun b o e=>Heap.get?_push_of_some _ e,vi a _,⟨_,Heap.get?_push_size _ rfl,rfl,rfl⟩,fun b hb => ?_,q⟩
 have e:b=s1.heap.objs.size:=by simpa using hb
 subst e
 exact I1.fpOk ↥23 (I1.hok.fresh ↥23)
theorem GH {l:Expr} {tl:TE} (hl:PE X l tl):PI X tg l (O9 X.K tl):=by
 intro pins s σ H R I h
 refine thn (hl pins s σ H _ I h) fun v s1 ⟨x,H1,I1,r1,q1⟩ => ?_
 obtain ⟨a,e,⟨xs,hq⟩,q⟩:=q1
 subst e
 cases r1
 obtain ⟨its,rv,p,hz⟩:=I1.tuple hq
 refine wpAny_pyIter_tuple (show s1.heap.IsTuple a its.toArray from p) ?_
 refine ⟨s1.heap.objs.size,[s1.heap.objs.size],_,_,H1,rfl,I1.kept (t':=s1.toks) fun b o e=>Heap.get?_push_of_some _ e,t7 a _,⟨_,Heap.get?_push_size _ rfl,rfl,rfl⟩,fun b hb => ?_,q⟩
 have e:b=s1.heap.objs.size:=by simpa using hb
 subst e
 exact I1.fpOk ↥23 (I1.hok.fresh ↥23)
theorem zl {pins:List ↥10} {σ:St} {H:Hp} {s:Shared} {R:It->Hp->Prop} {E:Value->Shared->Prop} {lo hi:Int} {t u v:Tok} {tk:Nat} (I:Inv X pins σ H s) (h1 : -(2^62)<=lo) (h2:lo<2^62) (h3 : -(2^62)<=hi) (h4:hi<2^62)
  (q:R (Itr lo (hi - lo).toNat) H):wpAny ↥5 X.A (pyIter (.ref s.heap.objs.size)) (PIE X pins σ tg R) E { s with heap:=s.heap.push { cls:=.type "range",data:=.fields #[.int lo t,.int hi u,.int 1 v] },toks:=tk }:=by
 refine wpAny_pyIter_range (IsRange.new ..) (small_one h1 h2 h3 h4) ?_
 have I1:Inv X pins σ H { s with heap:=s.heap.push { cls:=.type "range",data:=.fields #[.int lo t,.int hi u,.int 1 v] },toks:=tk }:=I.kept fun b o e=>Heap.get?_push_of_some _ e
 refine ⟨(s.heap.push { cls:=.type "range",data:=.fields #[.int lo t,.int hi u,.int 1 v] }).objs.size,[(s.heap.push { cls:=.type "range",data:=.fields #[.int lo t,.int hi u,.int 1 v] }).objs.size],_,_,H,rfl,
  I1.kept (t':=tk) fun b o e=>Heap.get?_push_of_some _ e,t8 _ lo (hi - lo).toNat,?_,fun b hb => ?_,q⟩
 ·have e1:lo+((0:Nat):Int)*1=lo:=by simp
  have e2:(((hi - lo).toNat:Nat):Int) - ((0:Nat):Int)=Builtin.Range.rangeSize lo hi 1:=by rw [rangeSize_one];split<;>omega
  show IsRangeIter _ _ (lo+((0:Nat):Int)*1) ((((hi - lo).toNat:Nat):Int) - ((0:Nat):Int)) 1
  rw [e1,e2]
  exact Heap.get?_push_size _ rfl
 ·have e:b=(s.heap.push { cls:=.type "range",data:=.fields #[.int lo t,.int hi u,.int 1 v] }).objs.size:=by simpa using hb
  subst e
  exact I1.fpOk ↥23 (I1.hok.fresh ↥23)
def Ka (ta:TA):TI:=fun σ H R=>ta σ H fun vs H1=>∃ j:Int,vs=[.int j] /\ -(2^62)<=j/\j<2^62/\R (Itr 0 j.toNat) H1
theorem vJ {a:Expr} {ta:TA} {p pos:Pos} (hg:Gl X "range") (hm:X.mg "range"=none) (ha:PA X [a] ta) (hs:starEach [a] X.env=[(false,eval a X.env)]:=by rfl):PI X tg (.Call (.Name "range" p) [a] [] pos) (Ka ta):=by
 intro pins s σ H R I h
 refine Call_ (pz I hg hm boot_range (PyProof.Rows.callWith_type1 (thn (ha pos pins s σ H _ I h) fun us s1 ⟨vs,H1,I1,r1,q1⟩ => ?_) hs rfl))
 obtain ⟨j,e,q1,q2,q⟩:=q1
 subst e
 cases r1 with
 | cons r rr =>
  cases rr
  obtain ⟨t,rfl⟩:=r
  exact call_range_1 (zl I1 ⋯ ⋯ q1 q2 (by simpa using q))
def NA (wi:TI) (g:TG) (tb:TS):TS:=fun D σ H=>wi σ H fun J H1=>∃ W:Nat->Nat->St->Hp->Prop,(∃ m,W 0 m σ H1)/\∀ i m σ H,W i m σ H ->
 (J.stop i H/\D.nx σ H)\/(J.go i H/\∃ N:St->Hp->Prop,(∀ σ' H',N σ' H'->∃ m',m'<m/\W (i+1) m' σ' H')/\∀ x H',J.yld i H x H'->g x σ H' fun σ2 H2=>tb { D with nx:=N,ct:=N,bk:=D.nx } σ2 H2)
def lZ (fp:List Addr) (h:Heap):List ↥10:=fp.filterMap fun b=>(h.get? b).map fun o=>(b,o)
theorem cU {fp:List Addr} {h:Heap} {b:Addr} {o:Obj} (hb:b∈fp) (e:h.get? b=some o):(b,o)∈lZ fp h:=List.mem_filterMap.mpr ⟨b,hb,by rw [e];rfl⟩
theorem oX {fp:List Addr} {h:Heap} {p:Addr×Obj} (hp:p∈lZ fp h):p.1∈fp/\h.get? p.1=some p.2:=by
 obtain ⟨b,hb,e⟩:=List.mem_filterMap.mp hp
 cases q:h.get? b with
 | none=>rw [q] at e;cases e
 | some o =>
  rw [q] at e
  have e':(b,o)=p:=Option.some.inj e
  subst e'
  exact ⟨hb,q⟩
theorem Inv.pinned {pins:List ↥10} {σ:St} {H:Hp} {s:Shared} {fp:List Addr} (I:Inv X pins σ H s) (hf:∀ b∈fp,uU X pins H b) (ho:∀ b∈fp,∃ o,s.heap.get? b=some o/\∀ v,o.data ≠ .cell v):Inv X (pins++lZ fp s.heap) σ H s :=
 I.pins_of fun p hp=>(List.mem_append.mp hp).elim (fun z=>I.pin p (List.mem_append_right _ z)) fun z=>by
  obtain ⟨hb,e⟩:=oX z
  obtain ⟨f0,f1,f2,_⟩:=hf p.1 hb
  obtain ⟨o,e',d⟩:=ho p.1 hb
  rw [e] at e';cases e'
  exact ⟨e,f0,f1,f2,d⟩
theorem Inv.unpinned {pins pl:List ↥10} {σ:St} {H:Hp} {s:Shared} (I:Inv X (pins++pl) σ H s):Inv X pins σ H s:=I.pins_of fun p hp=>I.pin p (List.mem_append_right _ (List.mem_append_left _ hp))
theorem GB {iter:Expr} {body:List Stmt} {wi:TI} {g:TG} {tb:TS} {pos:Pos} (hp:PassesOwn ↥5 X.A X.env X.xe) (hc:X.calm=true) (hi:PI X tg iter wi) (hg:PG X tg g) (hb:PSs X body tb)
  (hs:∀ x,foldedSetIterable iter X.env x=pure x:=by intro _;rfl):PS X (.For tg iter body [] pos) (NA wi g tb):=by
 intro pins s σ H D I h
 refine wpAny_For (thn (hi pins s σ H _ I h) fun v s1 h1=>thn h1 fun itv s2 h2 => ?_) hs
 obtain ⟨it,fp,tn,J,H2,e,I2,T,st2,f2,W,⟨m0,w0⟩,turn⟩:=h2
 subst e
 have stat:∀ {H':Hp},(∀ b∈fp,H' b=none)->∀ b∈fp,uU X pins H' b:=fun hn b hb=>⟨hn b hb,(f2 b hb).2⟩
 refine codeAny_forLoop_any (fun n s'=>∃ i σ' H',Inv X pins σ' H' s'/\tn i s'.heap/\(∀ b∈fp,H' b=none)/\W i n σ' H') ?_ m0 ⟨0,σ,H2,I2,st2,fun b hb=>(f2 b hb).1,w0⟩
 rintro n s3 ⟨i,σ3,H3,I3,st3,fr3,w3⟩
 rcases turn i n σ3 H3 w3 with ⟨stop,qn⟩ | ⟨go,N,hN,step⟩
 ·refine wpAny_passesOwn hp (thn (T.done X rfl rfl rfl hc i pins s3 σ3 H3 X.xe I3 (stat fr3) st3 stop) fun r s4 ⟨hr,I4⟩ => ?_)
  subst hr
  exact wpAny_execs_nil ⟨σ3,H3,I4,qn⟩
 ·refine wpAny_passesOwn hp (thn (T.item X rfl rfl rfl hc i pins s3 σ3 H3 X.xe I3 (stat fr3) st3 go) fun r s4 ⟨u,hr,h4⟩ => ?_)
  subst hr
  refine wpAny_passesOwn hp (thn h4 fun _ s5 ⟨x,H5,I5,r5,y5,st5,fr5⟩ => ?_)
  have I5':=I5.pinned (stat fr5) (T.obj _ _ st5)
  refine wpAny_passesOwn hp (thn (hg _ s5 σ3 H5 x u _ I5' r5 (step x H5 y5)) fun _ s6 ⟨σ6,H6,I6,q6⟩ => ?_)
  refine wpAny_passesOwn hp (thn (hb _ s6 σ6 H6 _ I6 q6) fun f s7 q7 => ?_)
  have again:∀ {σ7:St} {H7:Hp},Inv X (pins++lZ fp s5.heap) σ7 H7 s7->N σ7 H7->∃ m,m<n/\∃ i σ' H',Inv X pins σ' H' s7/\tn i s7.heap/\(∀ b∈fp,H' b=none)/\W i m σ' H':=fun {σ7 H7} I7 n7=>by
   obtain ⟨m',hm,w7⟩:=hN σ7 H7 n7
   refine ⟨m',hm,i+1,σ7,H7,I7.unpinned,T.keep _ _ _ st5 fun b hb o e=>(I7.pin (b,o) (List.mem_append_right _ (List.mem_append_right _ (cU hb e)))).1,fun b hb => ?_,w7⟩
   obtain ⟨o,e,d⟩:=T.obj _ _ st5 b hb
   exact (I7.pin (b,o) (List.mem_append_right _ (List.mem_append_right _ (cU hb e)))).2.1
  cases f with
  | next=>obtain ⟨σ7,H7,I7,n7⟩:=q7;exact again I7 n7
  | cont=>obtain ⟨σ7,H7,I7,n7⟩:=q7;exact again I7 n7
  | brk=>obtain ⟨σ7,H7,I7,q7⟩:=q7;exact ⟨σ7,H7,I7.unpinned,q7⟩
  | ret v=>obtain ⟨x7,σ7,H7,I7,r7,q7⟩:=q7;exact ⟨x7,σ7,H7,I7.unpinned,r7,q7⟩
end
end L2
namespace L2
open PySem PySem.Spec PyProof.Rows
abbrev R2:=V->V->Hp->VK->Prop
def OpR (X:Cx) (f:Value->Value->Sem Value) (r:R2):Prop :=
 ∀ (pins:List ↥10) (s:Shared) (σ:St) (H:Hp) (x y:V) (v u:Value) (Q:VK),Inv X pins σ H s->RelV x v->RelV y u->r x y H Q ->
  wpAny ↥5 X.A (f v u) (EP X pins σ Q) X.xe s
def UnR (X:Cx) (f:Value->Sem Value) (r:V->Hp->VK->Prop):Prop :=
 ∀ (pins:List ↥10) (s:Shared) (σ:St) (H:Hp) (x:V) (v:Value) (Q:VK),Inv X pins σ H s->RelV x v->r x H Q ->
  wpAny ↥5 X.A (f v) (EP X pins σ Q) X.xe s
def eZ (X:Cx) (f:Value) (r:List V->Hp->VK->Prop):Prop :=
 ∀ (pins:List ↥10) (s:Shared) (σ:St) (H:Hp) (xs:List V) (us:List Value) (Q:VK),Inv X pins σ H s->Vals xs us->r xs H Q ->
  wpAny ↥5 X.A (call f us) (EP X pins σ Q) X.xe s
def tOp (r:R2) (ta tb:TE):TE:=fun σ H Q=>ta σ H fun x H1=>tb σ H1 fun y H2=>r x y H2 Q
def tUn (r:V->Hp->VK->Prop) (ta:TE):TE:=fun σ H Q=>ta σ H fun x H1=>r x H1 Q
def rI (C:Int->Int->Prop) (g:Int->Int->V):R2:=fun x y H Q=>∃ i j,x=.int i/\y=.int j/\C i j/\Q (g i j) H
def rI0 (g:Int->Int->V):R2:=fun x y H Q=>∃ i j,x=.int i/\y=.int j/\Q (g i j) H
def rU (g:Int->V):V->Hp->VK->Prop:=fun x H Q=>∃ i,x=.int i/\Q (g i) H
section
variable {X:Cx} {a b c:Expr} {ta tb tc:TE} {pos:Pos}
theorem Ko (ha:PE X a ta) (hb:PE X b tb) {pins:List ↥10} {s:Shared} {σ:St} {H:Hp} {R:V->V->Hp->Prop} (I:Inv X pins σ H s)
  (h:ta σ H fun x H1=>tb σ H1 fun y H2=>R x y H2) {Q:Value->Shared->Prop} {f:Value->Value->Sem Value}
  (hf:∀ v u s2 x y H2,Inv X pins σ H2 s2->RelV x v->RelV y u->R x y H2->wpAny ↥5 X.A (f v u) Q X.xe s2) :
  wpAny ↥5 X.A (eval a X.env) (fun v s₁=>wpAny ↥5 X.A (eval b X.env) (fun u s₂=>wpAny ↥5 X.A (f v u) Q X.xe s₂) X.xe s₁) X.xe s:=by
 refine thn (ha pins s σ H _ I h) fun v s1 ⟨x,H1,I1,r1,q1⟩ => ?_
 refine thn (hb pins s1 σ H1 _ I1 q1) fun u s2 ⟨y,H2,I2,r2,q2⟩ => ?_
 exact hf v u s2 x y H2 I2 r1 r2 q2
theorem JM {op:Operator} {r:R2} (ho:OpR X (binaryOp op) r) (ha:PE X a ta) (hb:PE X b tb):PE X (.BinOp a op b pos) (tOp r ta tb):=by
 intro pins s σ H Q I h
 exact wpAny_BinOp (Ko ha hb I h fun v u s2 x y H2 I2 rx ry q=>ho pins s2 σ H2 x y v u Q I2 rx ry q)
theorem JK {op:UnaryOp} {r:V->Hp->VK->Prop} (ho:UnR X (unaryOp op) r) (ha:PE X a ta):PE X (.UnaryOp op a pos) (tUn r ta):=by
 intro pins s σ H Q I h
 exact UnaryOp_ (thn (ha pins s σ H _ I h) fun v s1 ⟨x,H1,I1,r1,q1⟩=>ho pins s1 σ H1 x v Q I1 r1 q1)
theorem opI {f:Value->Value->Sem Value} {C:Int->Int->Prop} {g:Int->Int->Int}
  (rule:∀ (i j:Int) (t u:Tok) (s:Shared) (Q:Value->Shared->Prop) (E:Value->Shared->Prop),C i j->Q (.int (g i j) s.toks) { s with toks:=s.toks+1 }->wpAny ↥5 X.A (f (.int i t) (.int j u)) Q E s) :
  OpR X f (rI C fun i j=>.int (g i j)):=by
 intro pins s σ H x y v u Q I rx ry h
 obtain ⟨i,j,rfl,rfl,hc,q⟩:=h
 obtain ⟨t,rfl⟩:=rx
 obtain ⟨t',rfl⟩:=ry
 exact rule i j t t' s _ _ hc ⟨.int (g i j),H,I.tok _,⟨_,rfl⟩,q⟩
theorem G5 {f:Value->Value->Sem Value} {g:Int->Int->Int}
  (rule:∀ (i j:Int) (t u:Tok) (s:Shared) (Q:Value->Shared->Prop) (E:Value->Shared->Prop),Q (.int (g i j) s.toks) { s with toks:=s.toks+1 }->wpAny ↥5 X.A (f (.int i t) (.int j u)) Q E s) :
  OpR X f (rI0 fun i j=>.int (g i j)):=by
 intro pins s σ H x y v u Q I rx ry h
 obtain ⟨i,j,rfl,rfl,q⟩:=h
 obtain ⟨t,rfl⟩:=rx
 obtain ⟨t',rfl⟩:=ry
 exact rule i j t t' s _ _ ⟨.int (g i j),H,I.tok _,⟨_,rfl⟩,q⟩
theorem ID {f:Value->Value->Sem Value} {g:Int->Int->Bool}
  (rule:∀ (i j:Int) (t u:Tok) (s:Shared) (Q:Value->Shared->Prop) (E:Value->Shared->Prop),Q (.bool (g i j)) s->wpAny ↥5 X.A (f (.int i t) (.int j u)) Q E s) :
  OpR X f (rI0 fun i j=>.bl (g i j)):=by
 intro pins s σ H x y v u Q I rx ry h
 obtain ⟨i,j,rfl,rfl,q⟩:=h
 obtain ⟨t,rfl⟩:=rx
 obtain ⟨t',rfl⟩:=ry
 exact rule i j t t' s _ _ ⟨.bl (g i j),H,I,rfl,q⟩
theorem t6 (k:Nat):(0:Int)<=2^k:=by
 rw [two_pow_cast]
 exact Int.natCast_nonneg _
theorem G3:OpR X (binaryOp .Add) (rI0 fun i j=>.int (i+j)):=G5 fun _ _ _ _ _ _ _ q=>add_int q
theorem GY:OpR X (binaryOp .Sub) (rI0 fun i j=>.int (i - j)):=G5 fun _ _ _ _ _ _ _ q=>sub_int q
theorem G0:OpR X (binaryOp .Mod) (rI (fun _ j=>0<j) fun i j=>.int (i%j)):=opI fun i j _ _ _ _ _ hc q=>by
 have h1:(0:Int)<j:=hc
 exact mod_int' ⋯ (by rw [Int.fmod_eq_emod_of_nonneg i ⋯];exact q)
theorem GZ:OpR X (binaryOp .RShift) (rI (fun _ j=>0<=j) fun i j=>.int (i / 2^j.toNat)):=opI fun i j _ _ _ _ _ hc q =>
 rshift_int hc (by rw [Int.fdiv_eq_ediv_of_nonneg i (t6 _)];exact q)
theorem G2:OpR X (binaryOp .BitAnd) (rI0 fun i j=>.int (Builtin.bitAnd i j)):=G5 fun _ _ _ _ _ _ _ q=>and_int q
theorem JP:OpR X (binaryOp .BitOr) (rI0 fun i j=>.int (Builtin.bitOr i j)):=G5 fun _ _ _ _ _ _ _ q=>or_int q
theorem GX:OpR X (binaryOp .BitXor) (rI0 fun i j=>.int (Builtin.bitXor i j)):=G5 fun _ _ _ _ _ _ _ q=>xor_int q
theorem unI {f:Value->Sem Value} {g:Int->Int}
  (rule:∀ (i:Int) (t:Tok) (s:Shared) (Q:Value->Shared->Prop) (E:Value->Shared->Prop),Q (.int (g i) s.toks) { s with toks:=s.toks+1 }->wpAny ↥5 X.A (f (.int i t)) Q E s) :
  UnR X f (rU fun i=>.int (g i)):=by
 intro pins s σ H x v Q I rx h
 obtain ⟨i,rfl,q⟩:=h
 obtain ⟨t,rfl⟩:=rx
 exact rule i t s _ _ ⟨.int (g i),H,I.tok _,⟨_,rfl⟩,q⟩
theorem Ft:UnR X (unaryOp .USub) (rU fun i=>.int (-i)):=unI fun _ _ _ _ _ q=>neg_int q
end
def IB:V->V->Bool
 | .non,.non=>true | .non,.int _=>true | .int _,.non=>true | .non,.bl _=>true | .bl _,.non=>true | .non,.str _=>true | .str _,.non=>true
 | .int _,.int _=>true | .bl _,.bl _=>true | .str _,.str _=>true | .byt _,.byt _=>true
 | .int _,.str _=>true | .str _,.int _=>true | .bl _,.str _=>true | .str _,.bl _=>true
 | _,_=>false
def rEq:R2:=fun x y H Q=>IB x y=true/\Q (.bl (decide (x=y))) H
def rNe:R2:=fun x y H Q=>IB x y=true/\Q (.bl (!decide (x=y))) H
theorem rn {i j:Int}:decide (V.int i=V.int j)=(i == j):=by
 rw [Bool.eq_iff_iff]
 simp
theorem xw {i j:Bool}:decide (V.bl i=V.bl j)=(i == j):=by
 rw [Bool.eq_iff_iff]
 simp
theorem rm {i j:Str}:decide (V.str i=V.str j)=(i == j):=by
 rw [Bool.eq_iff_iff]
 simp
theorem xv {i j:Array UInt8}:decide (V.byt i=V.byt j)=(i.toList == j.toList):=by
 rw [Bool.eq_iff_iff]
 cases i
 cases j
 simp
section
variable {X:Cx} {a b c:Expr} {ta tb tc:TE} {pos:Pos}
theorem dW {pins:List ↥10} {σ:St} {H:Hp} {s:Shared} {Q:VK} {k k':Bool} (I:Inv X pins σ H s) (q:Q (.bl k) H) (e:k=k'):EP X pins σ Q (.bool k') s:=by
 subst e
 exact ⟨.bl k,H,I,rfl,q⟩
theorem JV:OpR X (compareOp .Eq) rEq:=by
 intro pins s σ H x y v u Q I rx ry h
 obtain ⟨hs,q⟩:=h
 cases x with
 | non =>
  cases rx
  cases y with
  | non=>cases ry;exact PySem.EqNone.eq_none_none ↥18
  | bl j=>cases ry;exact PySem.EqNone.eq_none_bool ↥18
  | int j=>obtain ⟨t',rfl⟩:=ry;exact PySem.EqNone.eq_none_int ↥18
  | str j=>obtain ⟨t',rfl⟩:=ry;exact PySem.EqNone.eq_none_str ↥18
  | _=>exact absurd (show false=true from hs) Bool.false_ne_true
 | bl i =>
  cases rx
  cases y with
  | non=>cases ry;exact PySem.EqNone.eq_bool_none ↥18
  | bl j=>cases ry;exact eq_bool (dW I q xw)
  | str j=>obtain ⟨t',rfl⟩:=ry;exact PySem.EqMixed.eq_bool_str ↥18
  | _=>exact absurd (show false=true from hs) Bool.false_ne_true
 | int i =>
  obtain ⟨t,rfl⟩:=rx
  cases y with
  | non=>cases ry;exact PySem.EqNone.eq_int_none ↥18
  | int j=>obtain ⟨t',rfl⟩:=ry;exact eq_int (dW I q rn)
  | str j=>obtain ⟨t',rfl⟩:=ry;exact PySem.EqMixed.eq_int_str ↥18
  | _=>exact absurd (show false=true from hs) Bool.false_ne_true
 | str i =>
  obtain ⟨t,rfl⟩:=rx
  cases y with
  | non=>cases ry;exact PySem.EqNone.eq_str_none ↥18
  | bl j=>cases ry;exact PySem.EqMixed.eq_str_bool ↥18
  | int j=>obtain ⟨t',rfl⟩:=ry;exact PySem.EqMixed.eq_str_int ↥18
  | str j=>obtain ⟨t',rfl⟩:=ry;exact eq_str (dW I q rm)
  | _=>exact absurd (show false=true from hs) Bool.false_ne_true
 | byt i =>
  obtain ⟨t,rfl⟩:=rx
  cases y with
  | byt j=>obtain ⟨t',rfl⟩:=ry;exact PySem.W.eq_bytes (dW I q xv)
  | _=>exact absurd (show false=true from hs) Bool.false_ne_true
 | _=>cases y<;>exact absurd (show false=true from hs) Bool.false_ne_true
theorem JQ:OpR X (compareOp .NotEq) rNe:=by
 intro pins s σ H x y v u Q I rx ry h
 obtain ⟨hs,q⟩:=h
 cases x with
 | non =>
  cases rx
  cases y with
  | non=>cases ry;exact PySem.EqNone.ne_none_none ↥18
  | bl j=>cases ry;exact PySem.EqNone.ne_none_bool ↥18
  | int j=>obtain ⟨t',rfl⟩:=ry;exact PySem.EqNone.ne_none_int ↥18
  | str j=>obtain ⟨t',rfl⟩:=ry;exact PySem.EqNone.ne_none_str ↥18
  | _=>exact absurd (show false=true from hs) Bool.false_ne_true
 | bl i =>
  cases rx
  cases y with
  | non=>cases ry;exact PySem.EqNone.ne_bool_none ↥18
  | bl j=>cases ry;exact ne_bool (dW I q (congrArg not xw))
  | str j=>obtain ⟨t',rfl⟩:=ry;exact PySem.EqMixed.ne_bool_str ↥18
  | _=>exact absurd (show false=true from hs) Bool.false_ne_true
 | int i =>
  obtain ⟨t,rfl⟩:=rx
  cases y with
  | non=>cases ry;exact PySem.EqNone.ne_int_none ↥18
  | int j=>obtain ⟨t',rfl⟩:=ry;exact ne_int (dW I q (congrArg not rn))
  | str j=>obtain ⟨t',rfl⟩:=ry;exact PySem.EqMixed.ne_int_str ↥18
  | _=>exact absurd (show false=true from hs) Bool.false_ne_true
 | str i =>
  obtain ⟨t,rfl⟩:=rx
  cases y with
  | non=>cases ry;exact PySem.EqNone.ne_str_none ↥18
  | bl j=>cases ry;exact PySem.EqMixed.ne_str_bool ↥18
  | int j=>obtain ⟨t',rfl⟩:=ry;exact PySem.EqMixed.ne_str_int ↥18
  | str j=>obtain ⟨t',rfl⟩:=ry;exact ne_str (dW I q (congrArg not rm))
  | _=>exact absurd (show false=true from hs) Bool.false_ne_true
 | byt i =>
  obtain ⟨t,rfl⟩:=rx
  cases y with
  | byt j=>obtain ⟨t',rfl⟩:=ry;exact PySem.W.ne_bytes (dW I q (congrArg not xv))
  | _=>exact absurd (show false=true from hs) Bool.false_ne_true
 | _=>cases y<;>exact absurd (show false=true from hs) Bool.false_ne_true
theorem JR:OpR X (compareOp .Lt) (rI0 fun i j=>.bl (decide (i<j))):=ID fun _ _ _ _ _ _ _ q=>lt_int q
theorem JS:OpR X (compareOp .LtE) (rI0 fun i j=>.bl (decide (i<=j))):=ID fun _ _ _ _ _ _ _ q=>le_int q
theorem JT:OpR X (compareOp .Gt) (rI0 fun i j=>.bl (decide (j<i))):=ID fun _ _ _ _ _ _ _ q=>gt_int q
theorem JU:OpR X (compareOp .GtE) (rI0 fun i j=>.bl (decide (j<=i))):=ID fun _ _ _ _ _ _ _ q=>ge_int q
theorem vO:OpR X (compareOp .In) (fun x y H Q=>∃ i j,x=.str i/\y=.str j/\Q (.bl (!(Builtin.Str.occurrences j i 0 j.length 1).isEmpty)) H):=by
 intro pins s σ H x y v u Q I rx ry h
 obtain ⟨i,j,rfl,rfl,q⟩:=h
 obtain ⟨t,rfl⟩:=rx
 obtain ⟨t',rfl⟩:=ry
 exact in_str (dW I q rfl)
theorem G1:OpR X (compareOp .Is) (fun x y H Q=>y=.non/\Q (.bl (decide (x=.non))) H):=by
 intro pins s σ H x y v u Q I rx ry h
 obtain ⟨rfl,q⟩:=h
 cases ry
 refine is_none_gen (dW I q ?_)
 cases x<;>first
  | (cases rx;rfl)
  | (obtain ⟨t,rfl⟩:=rx;rfl)
def isObj:HO->Bool
 | .lst _=>true
 | .ins _ _ _=>true
 | _=>false
theorem oZ {pins:List ↥10} {s:Shared} {σ:St} {H:Hp} {a:Addr} {o:HO} (I:Inv X pins σ H s) (h:H a=some o) (p:isObj o=true):∃ ob,s.heap.get? a=some ob/\ob.cls ≠ .type "tuple":=by
 cases o with
 | lst xs =>
  obtain ⟨_,its,n,_,e⟩:xs.length<=sizeLine/\∃ (its:List Value) (n:Nat),Vals xs its/\s.heap.get? a=some { cls:=.type "list",data:=.seq its.toArray n }:=I.hok a _ h
  exact ⟨_,e,(by show Value.type "list" ≠ .type "tuple";decide +kernel)⟩
 | ins C dx fs =>
  have x:=I.hok a _ h
  obtain ⟨_,_,_,e,_⟩:=x
  exact ⟨_,e,(by show Value.ref C ≠ .type "tuple";exact fun z=>by cases z)⟩
 | _=>exact absurd (show false=true from p) Bool.false_ne_true
theorem fb (b:Expr) {op:CmpOp} (h:op ≠ .In:=by decide) (h2:op ≠ .NotIn:=by decide):behindInMarks op b=false:=by
 have e1:(op == CmpOp.In)=false:=by cases op<;>first | rfl | exact absurd rfl h
 have e2:(op == CmpOp.NotIn)=false:=by cases op<;>first | rfl | exact absurd rfl h2
 cases b<;>simp [behindInMarks,e1,e2]
theorem C8 {op:CmpOp} {r:R2} (ho:OpR X (compareOp op) r) (ha:PE X a ta) (hb:PE X b tb) (hm:behindInMarks op b=false):PE X (.Compare a [op] [b] pos) (tOp r ta tb):=by
 intro pins s σ H Q I h
 exact wpAny_Compare1 (Ko ha hb I h fun v u s2 x y H2 I2 rx ry q=>ho pins s2 σ H2 x y v u Q I2 rx ry q) hm
def F0 (t:TE):TT:=fun σ H Q=>t σ H fun x H'=>∃ k,x=.bl k/\Q k H'
theorem vE {op:CmpOp} {r:R2} (ho:OpR X (compareOp op) r) (ha:PE X a ta) (hb:PE X b tb) (hm:behindInMarks op b=false):PT X (.Compare a [op] [b] pos) (F0 (tOp r ta tb)):=by
 intro pins s σ H Q I h
 refine wpAny_isTrue_Compare1 (thn (ha pins s σ H _ I h) fun v s1 ⟨x,H1,I1,r1,q1⟩=>thn (hb pins s1 σ H1 _ I1 q1) fun u s2 ⟨y,H2,I2,r2,q2⟩ =>
  thn (ho pins s2 σ H2 x y v u _ I2 r1 r2 q2) fun c s3 ⟨z,H3,I3,r3,k,e,q3⟩ => ?_) hm
 subst e
 cases r3
 exact wpAny_truthy_bool ⟨H3,I3,q3⟩
def F4 (r r':R2) (ta tb tc:TE):TE:=fun σ H Q=>ta σ H fun x H1=>tb σ H1 fun y H2=>r x y H2 fun z H3=>∃ k,z=.bl k /\
 (if k=true then tc σ H3 fun w' H4=>r' y w' H4 Q else Q ↥33 H3)
theorem zm {op op':CmpOp} {r r':R2} (ho:OpR X (compareOp op) r) (ho':OpR X (compareOp op') r') (ha:PE X a ta) (hb:PE X b tb) (hc:PE X c tc)
  (hm:lastMarks [op,op'] [b,c]=false:=by with_unfolding_all rfl):PT X (.Compare a [op,op'] [b,c] pos) (F0 (F4 r r' ta tb tc)):=by
 intro pins s σ H Q I h
 refine isTrue_chain (thn (ha pins s σ H _ I h) fun v s1 ⟨x,H1,I1,r1,q1⟩=>test_link (thn (hb pins s1 σ H1 _ I1 q1) fun u s2 ⟨y,H2,I2,r2,q2⟩ =>
  thn (ho pins s2 σ H2 x y v u _ I2 r1 r2 q2) fun d s3 ⟨z,H3,I3,r3,k,e,q3⟩ => ?_)) hm
 subst e
 cases r3
 refine wpAny_truthy_bool ?_
 cases k with
 | false =>
  obtain ⟨k',e',q'⟩:=q3
  cases e'
  exact ite_ff ⟨H3,I3,q'⟩
 | true =>
  refine ite_tt (test_last (thn (hc pins s3 σ H3 _ I3 q3) fun w' s4 ⟨z',H4,I4,r4,q4⟩=>thn (ho' pins s4 σ H4 y z' u w' _ I4 r2 r4 q4) fun d' s5 ⟨z2,H5,I5,r5,k2,e2,q5⟩ => ?_))
  subst e2
  cases r5
  exact wpAny_truthy_bool ⟨H5,I5,q5⟩
theorem pv:(sizeLine:Nat)<2^63:=by rw [sizeLine_eq];decide
theorem um:OpR X (binaryOp .Add) (fun x y H Q=>∃ i j,x=.str i/\y=.str j/\i.length+j.length<=sizeLine/\Q (.str (i++j)) H):=by
 intro pins s σ H x y v u Q I rx ry h
 obtain ⟨i,j,rfl,rfl,hz,q⟩:=h
 obtain ⟨t,rfl⟩:=rx
 obtain ⟨t',rfl⟩:=ry
 exact add_str (fun t' tk=>⟨.str (i++j),H,I.tok _,⟨_,rfl⟩,q⟩) hz
theorem vals1 {x:V} {us:List Value} (r:Vals [x] us):∃ u,us=[u]/\RelV x u:=by
 cases r with
 | cons r1 r2=>cases r2;exact ⟨_,rfl,r1⟩
theorem vals2 {x y:V} {us:List Value} (r:Vals [x,y] us):∃ u w',us=[u,w']/\RelV x u/\RelV y w':=by
 cases r with
 | cons r1 r2 =>
  cases r2 with
  | cons r3 r4=>cases r4;exact ⟨_,_,rfl,r1,r3⟩
theorem Av:eZ X (.builtin "abs") (fun xs H Q=>∃ i,xs=[.int i]/\Q (.int (if i<0 then -i else i)) H):=by
 intro pins s σ H xs us Q I r h
 obtain ⟨i,rfl,q⟩:=h
 obtain ⟨u,rfl,t,rfl⟩:=vals1 r
 exact call_abs_int fun u tk=>⟨.int (if i<0 then -i else i),H,I.tok _,⟨_,rfl⟩,q⟩
theorem xG (hc:X.calm=true):eZ X (.builtin "max") (fun xs H Q=>∃ i j,xs=[.int i,.int j]/\Q (.int (if j>i then j else i)) H):=by
 intro pins s σ H xs us Q I r h
 obtain ⟨i,j,rfl,q⟩:=h
 obtain ⟨u,w',rfl,⟨t,rfl⟩,⟨t',rfl⟩⟩:=vals2 r
 refine max_two_ints (I.ok.hd hc) fun h' tk k=>⟨_,H,I.kept k,?_,q⟩
 by_cases hj:j>i
 ·rw [if_pos hj,if_pos hj];exact ⟨_,rfl⟩
 ·rw [if_neg hj,if_neg hj];exact ⟨_,rfl⟩
theorem xF (hc:X.calm=true):eZ X (.builtin "min") (fun xs H Q=>∃ i j,xs=[.int i,.int j]/\Q (.int (if j<i then j else i)) H):=by
 intro pins s σ H xs us Q I r h
 obtain ⟨i,j,rfl,q⟩:=h
 obtain ⟨u,w',rfl,⟨t,rfl⟩,⟨t',rfl⟩⟩:=vals2 r
 refine min_two_ints (I.ok.hd hc) fun h' tk k=>⟨_,H,I.kept k,?_,q⟩
 by_cases hj:j<i
 ·rw [if_pos hj,if_pos hj];exact ⟨_,rfl⟩
 ·rw [if_neg hj,if_neg hj];exact ⟨_,rfl⟩
theorem pM:eZ X (.type "int") (fun xs H Q=>(∃ i,xs=[.int i]/\Q (.int i) H)\/∃ k,xs=[.bl k]/\Q (.int (if k then 1 else 0)) H):=by
 intro pins s σ H xs us Q I r h
 rcases h with ⟨i,rfl,q⟩ | ⟨k,rfl,q⟩
 ·obtain ⟨u,rfl,t,rfl⟩:=vals1 r
  exact call_int_int ⟨.int i,H,I,⟨_,rfl⟩,q⟩
 ·obtain ⟨u,rfl,r1⟩:=vals1 r
  cases r1
  exact call_int_bool ⟨.int (if k then 1 else 0),H,I.tok _,⟨_,rfl⟩,q⟩
end
end L2
namespace L2
open PySem PySem.Spec PyProof.Rows
structure ObjM (h:Heap) (x dx C:Addr) (mA:Str->Option Value):Prop where
 obj:h.get? x=some (PySem.W.instObj C dx)
 ns:h.Ns1 dx mA
 ne:dx≠x
theorem wM {h:Heap} {dx:Addr} {mA:Str->Option Value} (n:h.Ns1 dx mA):∃ od,h.get? dx=some od/\∀ name,PySem.W.lookIn name od=some (mA name):=by
 obtain ⟨o,es,ep,ho,hd,hk,_,hm⟩:=n
 refine ⟨o,ho,fun name => ?_⟩
 have e:=hm name
 unfold nsFind findBy at e
 rw [<- Array.find?_toList] at e
 unfold PySem.W.lookIn
 rw [hd]
 dsimp only
 split
 ·rename_i y q
  rw [q] at e
  exact congrArg some e
 ·rename_i q
  rw [q] at e
  have a:es.toList.any (·.refKey)=false:=by
   rw [List.any_eq_false]
   intro y hy
   obtain ⟨z,t,hkey⟩:=hk y (Array.mem_toList_iff.mp hy)
   simp [DictEntry.refKey,hkey]
  have a':¬ es.toList.any (·.refKey)=true:=by rw [a];exact Bool.false_ne_true
  rw [if_neg a']
  exact congrArg some e
theorem ObjM.look {h:Heap} {x dx C:Addr} {mA:Str->Option Value} (I:ObjM h x dx C mA):∃ od,PySem.W.InstAt h x (PySem.W.instObj C dx) C (some od)/\∀ name,PySem.W.lookIn name od=some (mA name) :=
 let ⟨od,ho,hl⟩:=wM I.ns
 ⟨od,⟨I.obj,rfl,rfl,ho⟩,hl⟩
section
variable {prog:Program} {w:World} {A:Around} {E:Value->Shared->Prop} {s:Shared} {K:PySem.W.Frag} {x dx C f:Addr} {mA:Str->Option Value} {name:Str} {v:Value}
theorem get_map {expr:Bool} {Q:Value->Shared->Prop} (X:K.In s.heap) (I:ObjM s.heap x dx C mA) (hg:PySem.W.plainGet K C name=true) (hh:PySem.W.hasDictIn K C=true)
  (ha:PySem.W.findIn K (.ref C) name=some none) (hv:mA name=some v) (hv':PySem.W.handedIn v=true) (h:Q v { s with toks:=s.toks+1 }) :
  wpAny ↥16 A (getAttr (.ref x) name expr) Q E s:=by
 obtain ⟨od,J,hl⟩:=I.look
 exact PySem.W.get_value X J (PySem.W.plainGet_of hg).1 (PySem.W.findObj_own hh ha rfl (by rw [hl,hv])) hv' h
theorem Af {pl:Sem Bool} {Q:Value×List Value->Shared->Prop} (X:K.In s.heap) (I:ObjM s.heap x dx C mA) (hg:PySem.W.plainGet K C name=true)
  (hf:PySem.W.findIn K (.ref C) name=some (some (.ref f))) (ht:PySem.W.isFn K (.ref f)=true) (hv:mA name=none) (h:Q (.ref f,[.ref x]) s) :
  wpAny ↥16 A (getMethod (.ref x) name pl) Q E s:=by
 obtain ⟨od,J,hl⟩:=I.look
 exact PySem.W.method_fn X J (PySem.W.plainGet_of hg).1 (PySem.W.plainGet_of hg).2 hf (beq_iff_eq.mp ht) (by show (PySem.W.lookIn name od).map (·.isSome)=some false;rw [hl,hv];rfl) h
theorem CM {ns:List Str} {Q:Unit->Shared->Prop} (X:K.In s.heap) (I:ObjM s.heap x dx C mA)
  (hs:PySem.W.findIn K (.ref C) "__setattr__"=some (some (.builtin "object.__setattr__"))) (hp:PySem.W.plainOver K C=true) (ht:PySem.W.takerIn K C name=some none) (hh:PySem.W.hasDictIn K C=true)
  (hw:PySem.Within mA ns) (hsz:ns.length<=sizeLine)
  (h:∀ h',ObjM h' x dx C (fun y=>if y=name then some v else mA y)->Heap.SameBut dx s.heap h'->Q () { s with heap:=h',toks:=s.toks+2 }) :
  wpAny ↥16 A (setAttr (.ref x) name v) Q E s:=by
 obtain ⟨od,J,hl⟩:=I.look
 refine PySem.W.set_plain X J hs (PySem.W.osa_open (s:={ s with toks:=s.toks+1 }) (r:=none) X J hp ht fun b => ?_)
 obtain ⟨cd,hc,hd'⟩:=PySem.W.any_some hh
 have hx:s.heap.get? x=some ⟨.ref C,some dx,.plain,#[]⟩:=I.obj
 refine wpAny_bind (wpAny_pure (wpAny_bind (wpAny_bind (wpAny_loadPart hx (wpAny_bind (PySem.W.Looks.here (s:={ s with toks:=s.toks+1 }) (PySem.W.looks_clsIn X hc) ?_))))))
 rw [hd']
 refine wpAny_pure (a:=some dx) (wpAny_bind (wpAny_pure (wpAny_bind ?_)))
 refine wpAny_nsSet1 (s:={ s with toks:=s.toks+1 }) I.ns fun h' hn2 hs2 => ?_
 obtain ⟨oD,esD,epD,hoD,hdD,hcD⟩:=hn2.count (PySem.Within.cons name v hw)
 refine wpAny_bind (wpAny_lookBehind hoD (by rw [hdD];exact pastItsLine_dict (Nat.le_trans hcD (by rw [List.length_cons];omega))) ?_)
 exact wpAny_pure (h _ ⟨(hs2.2 _ (Ne.symm I.ne)).trans I.obj,hn2,I.ne⟩ hs2)
theorem zW {R:Result->Shared->Prop} {vs:List Value} {kw:List (Str×Value)} (X:K.In s.heap) (hm:PySem.W.makesIn K C=true)
  (hi:PySem.W.findIn K (.ref C) "__init__"=some (some (.ref f))) (hf:PySem.W.typeIn K (.ref f)=some (.type "function"))
  (h:codeAny ↥16 (A.under (.builtin "type.__call__" ⟨.ref C::vs,kw⟩)) (.call (.ref f) ⟨.ref ↥30::vs,kw⟩) (PySem.W.InitBack ↥30 R)
   { s with heap:=(s.heap.push PySem.W.emptyDict).push (PySem.W.instObj C s.heap.objs.size) }) :
  codeAny ↥16 A (.call (.ref C) ⟨vs,kw⟩) R s:=by
 obtain ⟨hh,g,d,t,os⟩:=s
 exact PySem.W.make_core (PySem.W.makes_of X hm) (PySem.W.looks_findIn X hi) (fun self=>PySem.W.bind_fn X self hf) (.inl rfl) h
end
def qj (f:Str) (v:V):List (Str×V)->List (Str×V)
 | []=>[(f,v)]
 | (g,x)::r=>if g=f then (g,v)::r else (g,x)::qj f v r
theorem kD (f g:Str) (v:V):∀ fs:List (Str×V),(qj f v fs).lookup g=if g=f then some v else fs.lookup g
 | []=>by
  show List.lookup g [(f,v)]=_
  by_cases h:g=f
  ·have hb:(g == f)=true:=beq_iff_eq.mpr h
   simp only [List.lookup,hb,if_pos h]
  ·have hb:(g == f)=false:=beq_eq_false_iff_ne.mpr h
   simp only [List.lookup,hb,if_neg h]
 | (k,x)::r=>by
  have ih:=kD f g v r
  rw [show qj f v ((k,x)::r)=(if k=f then (k,v)::r else (k,x)::qj f v r) from rfl]
  by_cases hk:k=f
  ·rw [if_pos hk]
   by_cases h:g=k
   ·have hb:(g == k)=true:=beq_iff_eq.mpr h
    simp only [List.lookup,hb,if_pos (h.trans hk)]
   ·have hb:(g == k)=false:=beq_eq_false_iff_ne.mpr h
    simp only [List.lookup,hb,if_neg (fun e:g=f=>h (e.trans hk.symm))]
  ·rw [if_neg hk]
   by_cases h:g=k
   ·have hb:(g == k)=true:=beq_iff_eq.mpr h
    simp only [List.lookup,hb,if_neg (fun e:g=f=>hk (h.symm.trans e))]
   ·have hb:(g == k)=false:=beq_eq_false_iff_ne.mpr h
    simp only [List.lookup,hb]
    exact ih
theorem kG (f:Str) (v:V):∀ fs:List (Str×V),f∈(qj f v fs).map (·.1)/\∀ g,g∈fs.map (·.1)->g∈(qj f v fs).map (·.1)
 | []=>⟨by simp [qj],fun g h=>by simp at h⟩
 | (k,x)::r=>by
  obtain ⟨i1,i2⟩:=kG f v r
  rw [show qj f v ((k,x)::r)=(if k=f then (k,v)::r else (k,x)::qj f v r) from rfl]
  by_cases hk:k=f
  ·rw [if_pos hk]
   subst hk
   exact ⟨by simp,fun g h=>by simpa using h⟩
  ·rw [if_neg hk]
   refine ⟨?_,fun g h => ?_⟩
   ·rw [List.map_cons]
    exact List.mem_cons_of_mem _ i1
   ·rw [List.map_cons] at h ⊢
    rcases List.mem_cons.mp h with e | e
    ·exact List.mem_cons.mpr (.inl e)
    ·exact List.mem_cons_of_mem _ (i2 g e)
theorem kE (f:Str) (v:V):∀ fs:List (Str×V),(qj f v fs).length<=fs.length+1
 | []=>by simp [qj]
 | (k,x)::r=>by
  have ih:=kE f v r
  rw [show qj f v ((k,x)::r)=(if k=f then (k,v)::r else (k,x)::qj f v r) from rfl]
  by_cases hk:k=f
  ·rw [if_pos hk,List.length_cons,List.length_cons];omega
  ·rw [if_neg hk,List.length_cons,List.length_cons];omega
theorem yn.some_of {v:V} {o:Option Value} (r:yn (some v) o):∃ u,o=some u/\RelV v u:=by
 cases o with
 | none=>exact (show False from r).elim
 | some u=>exact ⟨u,rfl,r⟩
theorem yn.none_of {o:Option Value} (r:yn none o):o=none:=by
 cases o with
 | none=>rfl
 | some u=>exact (show False from r).elim
theorem xb {v:V} {u:Value} (r:RelV v u):PySem.W.handedIn u=true:=by
 cases v with
 | non=>cases (show u=Value.none from r);rfl
 | bl b=>cases (show u=Value.bool b from r);rfl
 | int i=>obtain ⟨t,e⟩:=(show ∃ t,u=Value.int i t from r);cases e;rfl
 | str x=>obtain ⟨t,e⟩:=(show ∃ t,u=Value.str x t from r);cases e;rfl
 | byt b=>obtain ⟨t,e⟩:=(show ∃ t,u=Value.bytes b t from r);cases e;rfl
 | flt b=>obtain ⟨t,e⟩:=(show ∃ t,u=Value.float b t from r);cases e;rfl
 | ref a=>cases (show u=Value.ref a from r);rfl
 | ty n=>cases (show u=Value.type n from r);rfl
section
variable {P:Program} {w:World} {H H':Hp} {h h':Heap} {a C dx:Addr} {fs fs':List (Str×V)}
theorem rg (hok:HOk P w H h) (e:H a=some (.ins C dx fs)):∃ mA,ObjM h a dx C mA/\(∀ f,yn (fs.lookup f) (mA f))/\PySem.Within mA (fs.map (·.1))/\fs.length<=1000/\H dx=some (.own a):=by
 obtain ⟨d,z,ne,ob,mA,n,r,q⟩:=(show gO P w H h a (.ins C dx fs) from hok a _ e)
 exact ⟨mA,⟨ob,n,ne⟩,r,q,z,d⟩
end
structure Cls (K:PySem.W.Frag) (C:Addr):Prop where
 pg:PySem.W.plainGet K C Str.empty=true
 hd:PySem.W.hasDictIn K C=true
 po:PySem.W.plainOver K C=true
 sa:PySem.W.findIn K (.ref C) "__setattr__"=some (some (.builtin "object.__setattr__"))
theorem Cls.get {K:PySem.W.Frag} {C:Addr} (c:Cls K C) (f:Str):PySem.W.plainGet K C f=true:=c.pg
def iz (K:PySem.W.Frag) (C:Addr) (f:Str):Prop:=PySem.W.findIn K (.ref C) f=some none
theorem iz.taker {K:PySem.W.Frag} {C:Addr} {f:Str} (n:iz K C f):PySem.W.takerIn K C f=some none:=by
 unfold PySem.W.takerIn
 rw [show PySem.W.findIn K (.ref C) f=some none from n]
 rfl
structure Con (K:PySem.W.Frag) (C:Addr) (f:Str) (v:V) (u:Value):Prop where
 at_:PySem.W.findIn K (.ref C) f=some (some u)
 rel:RelV v u
 get:PySem.W.specialIn K u "__get__"=some none
 cp:PySem.W.copiedNames.contains f=false
structure Meth (K:PySem.W.Frag) (C:Addr) (m:Str) (f:Addr):Prop where
 at_:PySem.W.findIn K (.ref C) m=some (some (.ref f))
 fn:PySem.W.isFn K (.ref f)=true
 kp:PySem.W.keepIn K (.ref f)=true
section
variable {X:Cx} {pins:List ↥10} {σ:St} {H:Hp} {s:Shared} {a C dx:Addr} {fs:List (Str×V)} {f:Str} {v:V} {A:Around} {E:Value->Shared->Prop}
theorem uB {b:Bool} {Q:Value->Shared->Prop} (I:Inv X pins σ H s) (e:H a=some (.ins C dx fs)) (c:Cls X.K C) (n:iz X.K C f) (l:fs.lookup f=some v)
  (h:∀ u s',Inv X pins σ H s'->RelV v u->Q u s'):wpAny ↥5 A (getAttr (.ref a) f b) Q E s:=by
 obtain ⟨mA,O,r,_,_,_⟩:=rg I.hok e
 obtain ⟨u,hu,ru⟩:=yn.some_of (v:=v) (o:=mA f) (by rw [<- l];exact r f)
 exact get_map I.kIn O (c.get f) c.hd n hu (xb ru) (h u _ (I.tok _) ru)
theorem uA {m:Str} {g:Addr} {pl:Sem Bool} {Q:Value×List Value->Shared->Prop} (I:Inv X pins σ H s) (e:H a=some (.ins C dx fs)) (c:Cls X.K C) (k:Meth X.K C m g) (l:fs.lookup m=none)
  (h:Q (.ref g,[.ref a]) s):wpAny ↥5 A (getMethod (.ref a) m pl) Q E s:=by
 obtain ⟨mA,O,r,_,_,_⟩:=rg I.hok e
 have hn:mA m=none:=yn.none_of (by rw [<- l];exact r m)
 exact Af I.kIn O (c.get m) k.at_ k.fn hn h
theorem t9 {y:V} {u:Value} {Q:Unit->Shared->Prop} (I:Inv X pins σ H s) (e:H a=some (.ins C dx fs)) (c:Cls X.K C) (n:iz X.K C f) (hl:fs.length<1000) (ry:RelV y u)
  (h:∀ s',Inv X pins σ (upd H a (.ins C dx (qj f y fs))) s'->Q () s'):wpAny ↥5 A (setAttr (.ref a) f u) Q E s:=by
 obtain ⟨mA,O,r,wi,_,ho⟩:=rg I.hok e
 have hz:(fs.map (·.1)).length<=sizeLine:=by rw [List.length_map,sizeLine_eq];omega
 refine CM I.kIn O c.sa c.po n.taker c.hd wi hz fun h' O' sb=>h _ ?_
 have hd:∃ o,h'.get? dx=some o:=let ⟨o,_,_,e',_⟩:=O'.ns;⟨o,e'⟩
 refine I.write (x:=a) (e:=dx) (by rw [e];exact True.intro) (.inr ho) (fun b q hb z=>(sb.2 b hb).trans z) hd ?_
 refine ⟨by rw [aL O.ne];exact ho,?_,O.ne,O'.obj,_,O'.ns,fun g => ?_,fun g hg => ?_⟩
 ·have:=kE f y fs;omega
 ·show yn ((qj f y fs).lookup g) (if g=f then some u else mA g)
  rw [kD]
  by_cases q:g=f
  ·rw [if_pos q,if_pos q];exact ry
  ·rw [if_neg q,if_neg q];exact r g
 ·by_cases q:g=f
  ·rw [q];exact (kG f y fs).1
  ·refine (kG f y fs).2 g (wi g fun z=>hg ?_)
   show (if g=f then some u else mA g)=none
   rw [if_neg q];exact z
theorem Inv.made (I:Inv X pins σ H s):Inv X pins σ (upd (upd H s.heap.objs.size (.own ↥30)) ↥30 (.ins C s.heap.objs.size []))
  { s with heap:=(s.heap.push PySem.W.emptyDict).push (PySem.W.instObj C s.heap.objs.size) }:=by
 have e1:(s.heap.push PySem.W.emptyDict).get? s.heap.objs.size=some PySem.W.emptyDict:=Heap.get?_push_size s.heap rfl
 have e2:((s.heap.push PySem.W.emptyDict).push (PySem.W.instObj C s.heap.objs.size)).get? ↥30=some (PySem.W.instObj C s.heap.objs.size):=by
  have:=Heap.get?_push_size (s.heap.push PySem.W.emptyDict) (o:=PySem.W.instObj C s.heap.objs.size) rfl
  rwa [Heap.size_push] at this
 have e3:(s.heap.push PySem.W.emptyDict).Ns s.heap.objs.size (fun _=>none):=⟨PySem.W.emptyDict,#[],_,e1,rfl,(fun e he=>absurd he (by simp)),fun _=>rfl⟩
 have I1:=I.laid (a:=s.heap.objs.size) (o:=.own ↥30) (h':=s.heap.push PySem.W.emptyDict) (t':=s.toks) (fun b u q=>Heap.get?_push_of_some _ q) ↥23 ⟨_,e1⟩
 refine I1.laid (a:=s.heap.objs.size+1) (o:=.ins C s.heap.objs.size []) (t':=s.toks) (fun b u q=>Heap.get?_push_of_some _ q) (Nat.le_of_eq (Heap.size_push _ _)) ?_
 have ne:s.heap.objs.size≠s.heap.objs.size+1:=Nat.ne_of_lt (Nat.lt_succ_self _)
 refine ⟨by rw [aL ne,aA],Nat.zero_le _,ne,e2,fun _=>none,(Heap.Ns1.of_empty e3).at fun o q=>Heap.get?_push_of_some _ q,fun _=>True.intro,fun y hy=>absurd rfl hy⟩
theorem EJ {prog:Program} {w:World} {env:Env} {e:Expr} {f:Str} {pos:Pos} {s:Shared} {Q:Value->Shared->Prop} (hb:attributeBase e f env (eval e env)=eval e env)
  (h:wpAny ↥16 A (eval e env) (fun o s₁=>wpAny ↥16 A (getAttr o f true) Q E s₁) E s):wpAny ↥16 A (eval (.Attribute e f pos) env) Q E s :=
 Attribute_any_ h (by rw [arm_eval_Attribute,hb])
end
def NC (K:PySem.W.Frag) (ta:TE) (f:Str):TE:=fun σ H Q=>ta σ H fun x H1=>∃ a C dx fs v,x=.ref a/\H1 a=some (.ins C dx fs)/\Cls K C/\iz K C f/\fs.lookup f=some v/\Q v H1
def NJ (K:PySem.W.Frag) (ta tv:TE) (f:Str):TS:=fun D σ H=>tv σ H fun y H1=>ta σ H1 fun x H2=>∃ a C dx fs,x=.ref a/\H2 a=some (.ins C dx fs)/\Cls K C/\iz K C f/\fs.length<1000 /\
 D.nx σ (upd H2 a (.ins C dx (qj f y fs)))
section
variable {X:Cx} {o e value:Expr} {f:Str} {pos pos' tpos:Pos} {ta tv:TE}
theorem GN (he:PE X e ta) (hb:attributeBase e f X.env (eval e X.env)=eval e X.env):PE X (.Attribute e f pos) (NC X.K ta f):=by
 intro pins s σ H Q I h
 refine EJ hb (thn (he pins s σ H _ I h) fun u s1 ⟨x,H1,I1,rx,a,C,dx,fs,v,ex,ea,c,n,l,q⟩ => ?_)
 subst ex
 obtain rfl:u=Value.ref a:=rx
 exact uB I1 ea c n l fun u' s2 I2 ru=>⟨v,H1,I2,ru,q⟩
theorem GD (ha:PE X o ta) (hv:PE X value tv) (hs:swapsWith value (some (.Attribute o f pos')) pos.line X.env=pure false):PS X (.Assign [.Attribute o f pos'] value pos) (NJ X.K ta tv f):=by
 intro pins s σ H D I h
 refine plainObj_wpAny_Assign_Attribute (thn (hv pins s σ H _ I h) fun u s1 ⟨y,H1,I1,ry,q⟩=>thn (ha pins s1 σ H1 _ I1 q) fun ov s2 ⟨x,H2,I2,rx,a,C,dx,fs,ex,ea,c,n,l,q2⟩ => ?_) hs
 subst ex
 obtain rfl:ov=Value.ref a:=rx
 exact t9 I2 ea c n l ry fun s3 I3=>⟨σ,_,I3,q2⟩
end
section
variable {X:Cx} {pins:List ↥10} {σ:St} {H:Hp} {s:Shared} {A:Around} {E:Value->Shared->Prop} {Q:Value->Shared->Prop} {c:Value} {b:Bool}
inductive TyOf (K:PySem.W.Frag) (H:Hp):V->Value->Prop where
 | non:TyOf K H .non (.type "NoneType")
 | bl (x:Bool):TyOf K H (.bl x) (.type "bool")
 | int (i:Int):TyOf K H (.int i) (.type "int")
 | str (x:Str):TyOf K H (.str x) (.type "str")
 | flt (x:UInt64):TyOf K H (.flt x) (.type "float")
 | lst {a:Addr} {xs:List V} (e:H a=some (.lst xs)):TyOf K H (.ref a) (.type "list")
 | frz {a:Addr} {o:Obj} {xs:List V} (e:H a=some (.frz o (.lst xs))):TyOf K H (.ref a) (.type "list")
 | tup {a:Addr} {xs:List V} (e:H a=some (.tup xs)):TyOf K H (.ref a) ↥6
 | dK {a:Addr} {kvs:List (Key×V)} (e:H a=some (.dK kvs)):TyOf K H (.ref a) (.type "dict")
 | dT {a:Addr} {kvs:List (List Key×V)} (e:H a=some (.dT kvs)):TyOf K H (.ref a) (.type "dict")
 | ins {a C dx:Addr} {fs:List (Str×V)} (e:H a=some (.ins C dx fs)) (cl:Cls K C) (ha:PySem.W.findIn K (.ref C) "__class__"=some (some (.builtin "object.__class__")))
   (hn:PySem.W.specialIn K (.builtin "object.__class__") "__get__"=some (some (.builtin "getset_descriptor.__get__"))) (htk:PySem.W.takesIn K (.builtin "object.__class__")=some true)
   (hm:PySem.W.mroIn K C (.type "object")=some true):TyOf K H (.ref a) (.ref C)
end
end L2
namespace L2
open PySem PySem.Spec PyProof.Rows
structure Room (k:Nat) (A:Around):Prop where
 hd:A.handled=none
 dp:A.depth+3*k+5<recursionLimit
 un:A.units+16*k+200<cLine
theorem Room.mono {j k:Nat} {A:Around} (r:Room k A) (h:j<=k):Room j A:=⟨r.hd,by have:=r.dp;omega,by have:=r.un;omega⟩
theorem Room.deeper {k:Nat} {A:Around} (r:Room (k+1) A) (env:Env):Room k (A.deeper env) :=
 ⟨r.hd,by have:=r.dp;show A.depth+1+3*k+5<_;omega,by have:=r.un;show A.units+3+16*k+200<_;omega⟩
theorem uw {A:Around} {C:Addr} {us:List Value} {kw:List (Str×Value)}:(A.under (.builtin "type.__call__" ⟨.ref C::us,kw⟩)).depth=A.depth+1:=by
 first | rfl | simp [Around.under,Code.weight,Code.isCreation,Code.isGuard,Code.isCaller,Code.frames,Code.isFrame,guardIds]
theorem uv {A:Around} {C:Addr} {us:List Value} {kw:List (Str×Value)}:(A.under (.builtin "type.__call__" ⟨.ref C::us,kw⟩)).units=A.units+1:=by
 first | rfl | simp [Around.under,Code.cUnits,Code.frames,Code.isFrame]
theorem Room.make {k:Nat} {A:Around} (r:Room (k+1) A) (C:Addr) (us:List Value) (kw:List (Str×Value)):Room k (A.under (.builtin "type.__call__" ⟨.ref C::us,kw⟩)) :=
 ⟨r.hd,by have:=r.dp;rw [uw];omega,by have:=r.un;rw [uv];omega⟩
theorem Room.depth {k:Nat} {A:Around} (r:Room k A):A.depth<recursionLimit:=by have:=r.dp;omega
theorem Room.units {k:Nat} {A:Around} (r:Room k A):A.units+64<cLine:=by have:=r.un;omega
def Nx:TA:=fun _ H Q=>Q [] H
def Jr (ta:TE) (tr:TA):TA:=fun σ H Q=>ta σ H fun x H1=>tr σ H1 fun xs H2=>Q (x::xs) H2
section
variable {X:Cx} {e:Expr} {es:List Expr} {te:TE} {t:TA} {pos:Pos}
theorem gz:PA X [] Nx:=fun _ _ _ _ H Q I h=>Calls.spliced_nil ⟨[],H,I,.nil,h⟩
theorem dG (ha:PE X e te) (hr:PA X es t) (hs:starEach (e::es) X.env=↥27::starEach es X.env:=by rfl):PA X (e::es) (Jr te t):=by
 intro pos pins s σ H Q I h
 rw [hs]
 show wpAny _ _ (spliced (↥27::backTo pos (starEach es X.env))) _ _ s
 refine Calls.spliced_cons (thn (ha pins s σ H _ I h) fun u s1 ⟨x,H1,I1,r1,q1⟩ => ?_)
 exact thn (hr pos pins s1 σ H1 _ I1 q1) fun us s2 ⟨xs,H2,I2,r2,q2⟩=>⟨x::xs,H2,I2,.cons r1 r2,q2⟩
def Nr (t:TA):TE:=fun σ H Q=>t σ H fun xs H1=>xs.length<=sizeLine/\∀ p,H1 p=none->Q (.ref p) (upd H1 p (.tup xs))
def Ny (t:TA):TE:=fun σ H Q=>t σ H fun xs H1=>xs.length<=sizeLine/\∀ p,H1 p=none->Q (.ref p) (upd H1 p (.lst xs))
theorem A3 {x1} (h:PA X es t):PE X (.Tuple es x1 pos) (Nr t):=by
 intro pins s σ H Q I hq
 refine wpAny_Tuple_spliced (thn (h pos pins s σ H _ I hq) fun us s1 ⟨xs,H1,I1,r,z,q⟩=>⟨by rw [<- r.length];exact z,?_⟩)
 have hf:H1 s1.heap.objs.size=none:=I1.hok.fresh ↥23
 refine ⟨.ref s1.heap.objs.size,upd H1 s1.heap.objs.size (.tup xs),I1.laid (t':=s1.toks) (fun b u e=>Heap.get?_push_of_some _ e) ↥23 ?_,rfl,q _ hf⟩
 exact ⟨z,us,r,⟨_,Heap.get?_push_size _ rfl,rfl,_,rfl⟩⟩
theorem A5 (h:PA X es t):PE X (.List es pos) (Ny t):=by
 intro pins s σ H Q I hq
 refine wpAny_List_spliced (thn (h pos pins s σ H _ I hq) fun us s1 ⟨xs,H1,I1,r,z,q⟩=>⟨by rw [<- r.length];exact z,?_⟩)
 have hf:H1 s1.heap.objs.size=none:=I1.hok.fresh ↥23
 refine ⟨.ref s1.heap.objs.size,upd H1 s1.heap.objs.size (.lst xs),I1.laid (t':=s1.toks) (fun b u e=>Heap.get?_push_of_some _ e) ↥23 ?_,rfl,q _ hf⟩
 exact ⟨z,us,0,r,Heap.get?_push_size _ rfl⟩
end
abbrev Sp:=List V->Hp->VK->XK->Prop
abbrev CXT:=List Env->Hp->Shared->XK->Value->Shared->Prop
structure Env0 (P:Program) (w:World) (K:PySem.W.Frag) (mg:Str->Option Value) (base:Heap) (A:Around) (outer:List Env) (s:Shared) (H:Hp):Prop where
 frames:A.frames=some outer
 mod:Mod K mg base
 bs:∀ b o,base.get? b=some o->s.heap.get? b=some o/\H b=none
 bsz:base.objs.size<=s.heap.objs.size
 funs:s.heap.FunFrames base outer
 frf:∀ b∈frs outer,H b=none
 hok:HOk P w H s.heap
 bare:AllBare s.gens
def CE (outer:List Env) (P:Program) (w:World) (H:Hp) (s:Shared) (Q:VK) (u:Value) (s':Shared):Prop :=
 ∃ v H',s'.os=s.os/\AllBare s'.gens/\Un (frs outer) [] H H' s.heap s'.heap/\HOk P w H' s'.heap/\RelV v u/\Q v H'
def CR (CX:CXT) (outer:List Env) (P:Program) (w:World) (H:Hp) (s:Shared) (Q:VK) (E:XK) (r:Result) (s':Shared):Prop :=
 match r with
 | .ok (.ret u)=>CE outer P w H s Q u s'
 | .ok _=>False
 | .error e=>CX outer H s E e s'
structure FnOk (P:Program) (w:World) (K:PySem.W.Frag) (mg:Str->Option Value) (base:Heap) (CX:CXT) (k:Nat) (f:Addr) (fd:FuncData) (ps:List Str) (sp:Sp):Prop where
 len:∀ vs H Q E,sp vs H Q E->vs.length=ps.length
 run:∀ (A:Around) (outer:List Env) (s:Shared) (H:Hp) (args:Args) (us:List Value) (vs:List V) (Q:VK) (E:XK),Room k A->Env0 P w K mg base A outer s H->BindsTo s fd args (ps.zip us)->Vals vs us->sp vs H Q E ->
  codeAny (model P w) A (.call (.ref f) args) (CR CX outer P w H s Q E) s
theorem FnOk.imp {P:Program} {w:World} {K:PySem.W.Frag} {mg:Str->Option Value} {base:Heap} {CX:CXT} {k:Nat} {f:Addr} {fd:FuncData} {ps:List Str} {sp sp':Sp} (F:FnOk P w K mg base CX k f fd ps sp)
  (h:∀ vs H Q E,sp' vs H Q E->sp vs H Q E):FnOk P w K mg base CX k f fd ps sp' :=
 ⟨fun vs H Q E q=>F.len vs H Q E (h _ _ _ _ q),fun A outer s H args us vs Q E hr he hb hv hs=>F.run A outer s H args us vs Q E hr he hb hv (h _ _ _ _ hs)⟩
theorem Env0.make {P:Program} {w:World} {K:PySem.W.Frag} {mg:Str->Option Value} {base:Heap} {A:Around} {outer:List Env} {s:Shared} {H:Hp} (e:Env0 P w K mg base A outer s H) (C:Addr) (us:List Value) (kw:List (Str×Value)) :
  Env0 P w K mg base (A.under (.builtin "type.__call__" ⟨.ref C::us,kw⟩)) outer s H:=⟨by first | exact e.frames | (simpa [Around.under,Code.envs,Code.isFrame,pushEnvs] using e.frames),e.mod,e.bs,e.bsz,e.funs,e.frf,e.hok,e.bare⟩
section
variable {X:Cx} {pins:List ↥10} {σ:St} {H:Hp} {s s':Shared}
theorem Inv.env0 (I:Inv X pins σ H s):Env0 X.prog X.w X.K X.mg X.base X.A X.stack s H :=
 ⟨I.ok.frames,I.ok.mod,I.bs,Nat.le_trans I.ok.bsz I.sz,I.stack,I.stkFree,I.hok,I.bare⟩
theorem Inv.after {Q:VK} {u:Value} (I:Inv X pins σ H s) (h:CE X.stack X.prog X.w H s Q u s'):EP X pins σ Q u s':=by
 obtain ⟨v,H',os,bare,un,hok,r,q⟩:=h
 obtain ⟨hh,g,d,t,os'⟩:=s'
 obtain rfl:os'=s.os:=os
 exact ⟨v,H',I.call (h':=hh) (g':=g) (d':=d) (t':=t) (ch:=[]) un hok bare (fun b z=>absurd z (by simp)),r,q⟩
end
def Jp (C:Addr) (sp:Sp) (dvs:List V) (E:XK) (t:TA):TE:=fun σ H Q=>t σ H fun vs H1=>∀ x dx,H1 x=none->H1 dx=none->dx≠x ->
 sp (.ref x::(vs++dvs)) (upd (upd H1 dx (.own x)) x (.ins C dx [])) (fun v H2=>v=.non/\Q (.ref x) H2) E
def Binds (K:PySem.W.Frag) (fd:FuncData) (ps:List Str) (ds:List Value):Prop :=
 ∀ (s:Shared) (us:List Value),K.In s.heap->(us++ds).length=ps.length->BindsTo s fd ⟨us,[]⟩ (ps.zip (us++ds))
theorem Binds.all {K:PySem.W.Frag} {fd:FuncData} {ps:List Str} (h:∀ us:List Value,us.length=ps.length->bindArgs fd ⟨us,[]⟩=pure (ps.zip us)):Binds K fd ps []:=fun s us _ hl=>by
 rw [List.append_nil] at hl ⊢
 exact .of_eq (h us hl)
def Passes (CX:CXT) (X:Cx) (E:XK):Prop:=∀ (pins:List ↥10) (σ:St) (H:Hp) (s:Shared) (e:Value) (s':Shared),Inv X pins σ H s->CX X.stack H s E e s'->X.xe e s'
section
variable {X:Cx} {CX:CXT} {k:Nat} {f C:Addr} {fd:FuncData} {ps:List Str} {sp:Sp} {dvs:List V} {ds:List Value} {E:XK} {x m:Str} {p pos apos:Pos} {e o:Expr} {es:List Expr} {ta:TE} {t:TA}
structure Mk (K:PySem.W.Frag) (C f:Addr):Prop where
 makes:PySem.W.makesIn K C=true
 init:PySem.W.findIn K (.ref C) "__init__"=some (some (.ref f))
 fn:PySem.W.isFn K (.ref f)=true
 kp:PySem.W.keepIn K (.ref C)=true
theorem zj {pins:List ↥10} {σ:St} {H:Hp} {s:Shared} {Q:VK} {us:List Value} {vs:List V} (M:Mk X.K C f) (F:FnOk X.prog X.w X.K X.mg X.base CX k f fd ps sp) (hr:Room (k+1) X.A) (hb:Binds X.K fd ps ds) (hd:Vals dvs ds)
  (hx:Passes CX X E) (I:Inv X pins σ H s) (r:Vals vs us)
  (h:∀ x dx,H x=none->H dx=none->dx≠x->sp (.ref x::(vs++dvs)) (upd (upd H dx (.own x)) x (.ins C dx [])) (fun v H2=>v=.non/\Q (.ref x) H2) E) :
  wpAny ↥5 X.A (call (.ref C) us) (EP X pins σ Q) X.xe s:=by
 have hq:=h ↥30 s.heap.objs.size (I.hok.fresh (Nat.le_succ _)) (I.hok.fresh ↥23) (Nat.ne_of_lt (Nat.lt_succ_self _))
 have I2:=Inv.made (C:=C) I
 have r2:Vals (V.ref ↥30::(vs++dvs)) (Value.ref ↥30::(us++ds)):=.cons rfl (r.append hd)
 have hl:(Value.ref ↥30::us++ds).length=ps.length:=by
  have e:=r2.length
  rw [F.len _ _ _ _ hq] at e
  exact e.symm
 refine wpAny_call (zW (f:=f) I.kIn M.makes M.init (beq_iff_eq.mp M.fn) (codeAny_mono (F.run _ X.stack _ _ ⟨Value.ref ↥30::us,[]⟩ (Value.ref ↥30::(us++ds)) _ _ E (hr.make C us [])
  (I2.env0.make C us []) (hb _ (Value.ref ↥30::us) I2.kIn hl) r2 hq) fun r s' hq' => ?_))
 cases r with
 | error e=>exact hx pins σ _ _ e s' I2 hq'
 | ok fl =>
  cases fl with
  | ret u =>
   obtain ⟨v,H',I3,rv,ev,q3⟩:=I2.after hq'
   subst ev
   exact ⟨rv,⟨V.ref ↥30,H',I3,rfl,q3⟩⟩
  | next=>exact False.elim hq'
  | brk=>exact False.elim hq'
  | cont=>exact False.elim hq'
theorem C7 (M:Mk X.K C f) (F:FnOk X.prog X.w X.K X.mg X.base CX k f fd ps sp) (hr:Room (k+1) X.A) (hg:Gl X x) (hm:X.mg x=some (.ref C)) (hb:Binds X.K fd ps ds) (hd:Vals dvs ds) (hx:Passes CX X E)
  (ha:PA X (e::es) t) (hdb:↥37=false:=by decide) (he:starEach (e::es) X.env=↥27::starEach es X.env:=by rfl) (hpl:(backTo pos (starEach es X.env)).any (·.1)=false:=by rfl) :
  PE X (.Call (.Name x p) (e::es) [] pos) (Jp C sp dvs E t):=by
 intro pins s σ H Q I h
 refine wpAny_Call_Name_kw (kF I hg hm ?_ hdb)
 refine PySem.W.callWith_K (h₀:=X.base) I.ok.mod.kin M.kp (thn (ha pos pins s σ H _ I h) fun us s1 ⟨vs,H1,I1,r,q⟩=>⟨I1.kIn,?_⟩) he hpl
 exact zj M F hr hb hd hx I1 r q
end
section
variable {X:Cx} {CX:CXT} {k:Nat} {f C:Addr} {fd:FuncData} {ps ks:List Str} {sp:Sp} {E:XK} {x m:Str} {p pos apos kpos:Pos} {e o:Expr} {es:List Expr} {kws:List Keyword} {te ta:TE} {t tk:TA} {nm:Option Str}
structure KBinds (K:PySem.W.Frag) (fd:FuncData) (ps ks:List Str) (g:List Value->List Value->List Value) (gV:List V->List V->List V):Prop where
 to:∀ (s:Shared) (us ws:List Value),K.In s.heap->(g us ws).length=ps.length->BindsTo s fd ⟨us,ks.zip ws⟩ (ps.zip (g us ws))
 rel:∀ {vs:List V} {us:List Value} {zs:List V} {ws:List Value},Vals vs us->Vals zs ws->Vals (gV vs zs) (g us ws)
variable {g:List Value->List Value->List Value} {gV:List V->List V->List V}
end
structure FnScope (N P:List Str) (sc:Scope):Prop where
 kind:sc.kind=.function
 co:sc.isCoroutine=false
 gen:sc.isGenerator=false
 nd:N.Nodup
 pre:N.take P.length=P
 par:∀ x∈P,sc.names.lookup x=some .local\/sc.names.lookup x=some .cell
 nofree:∀ y∈sc.names,y.2 ≠ .free
theorem pQ {kindOf:Str->Option NameKind} {x:Str}:∀ {binds:List (Str×Value)} {m:Str->Option Value},(∀ v,(x,v)∉binds)->bindL kindOf binds m x=m x
 | [],_,_=>rfl
 | (n,v)::r,m,h=>by
  unfold bindL
  rw [pQ fun w hw=>h w (List.mem_cons_of_mem _ hw)]
  split
  ·have:x≠n:=by rintro rfl;exact h v List.mem_cons_self
   simp [this]
  ·rfl
theorem pS {kindOf:Str->Option NameKind} {x:Str}:∀ {binds:List (Str×Value)} {m:Str->Option Value},(∀ v,(x,v)∉binds)->bindC kindOf binds m x=m x
 | [],_,_=>rfl
 | (n,v)::r,m,h=>by
  unfold bindC
  rw [pS fun w hw=>h w (List.mem_cons_of_mem _ hw)]
  split
  ·rfl
  ·have:x≠n:=by rintro rfl;exact h v List.mem_cons_self
   simp [this]
theorem pR {kindOf:Str->Option NameKind} {x:Str} {v:Value}:∀ {P:List Str} {vs:List Value} {i:Nat} {m:Str->Option Value},P.Nodup->P[i]? = some x->vs[i]? = some v->kindOf x=some .local ->
  bindL kindOf (P.zip vs) m x=some v
 | [],_,_,_,_,h,_,_=>by simp at h
 | _::_,[],_,_,_,_,h,_=>by simp at h
 | p::P,w::vs,0,m,nd,h1,h2,hk=>by
  simp at h1 h2;subst h1;subst h2
  show bindL kindOf ((p,w)::P.zip vs) m p=_
  unfold bindL
  rw [pQ fun v hv=>(List.nodup_cons.mp nd).1 (List.of_mem_zip hv).1,if_pos hk]
  simp
 | p::P,w::vs,i+1,m,nd,h1,h2,hk=>by
  show bindL kindOf ((p,w)::P.zip vs) m x=_
  unfold bindL
  exact pR (i:=i) (List.nodup_cons.mp nd).2 (by simpa using h1) (by simpa using h2) hk
theorem pT {kindOf:Str->Option NameKind} {x:Str} {v:Value}:∀ {P:List Str} {vs:List Value} {i:Nat} {m:Str->Option Value},P.Nodup->P[i]? = some x->vs[i]? = some v->kindOf x≠some .local ->
  bindC kindOf (P.zip vs) m x=some v
 | [],_,_,_,_,h,_,_=>by simp at h
 | _::_,[],_,_,_,_,h,_=>by simp at h
 | p::P,w::vs,0,m,nd,h1,h2,hk=>by
  simp at h1 h2;subst h1;subst h2
  show bindC kindOf ((p,w)::P.zip vs) m p=_
  unfold bindC
  rw [pS fun v hv=>(List.nodup_cons.mp nd).1 (List.of_mem_zip hv).1,if_neg hk]
  simp
 | p::P,w::vs,i+1,m,nd,h1,h2,hk=>by
  show bindC kindOf ((p,w)::P.zip vs) m x=_
  unfold bindC
  exact pT (i:=i) (List.nodup_cons.mp nd).2 (by simpa using h1) (by simpa using h2) hk
def start (N:List Str) (vs:List V):St:=vs.map some++List.replicate (N.length - vs.length) none
def uT (CX:CXT) (P:Program) (w:World) (K:PySem.W.Frag) (mg:Str->Option Value) (base:Heap) (N:List Str) (qual:Str) (scope:Scope) (f:Addr) (cd:Value) (A:Around) (outer:List Env) (s:Shared) (H:Hp) (E:XK):Cx where
 prog:=P
 w:=w
 K:=K
 mg:=mg
 base:=base
 A:=A.deeper (envOfC qual scope s.heap.objs.size f cd)
 N:=N
 s₀:=s
 H₀:=H
 env:=envOfC qual scope s.heap.objs.size f cd
 outer:=outer
 stack:=envOfC qual scope s.heap.objs.size f cd::outer
 ex:=[]
 calm:=true
 fn:=fun _=>true
 pn:=[]
 xe:=fun e s'=>wpAny (model P w) (A.deeper (envOfC qual scope s.heap.objs.size f cd)) (leaving (envOfC qual scope s.heap.objs.size f cd) e) (fun _ s''=>CX outer H s E e s'') (fun e' s''=>CX outer H s E e' s'') s'
theorem tm {sc:Scope} {n:Nat} {x:Str} (h:sc.names.lookup x=some .cell):∃ c,(cellsFrom n sc.names []).lookup x=some c:=by
 have q:=PySem.W.cellsFrom_some sc.names n [] (.inl h)
 exact Option.isSome_iff_exists.mp q
theorem wW {CX:CXT} {P:Program} {w:World} {K:PySem.W.Frag} {mg:Str->Option Value} {base:Heap} {N ps:List Str} {qual:Str} {scope:Scope} {f:Addr} {cd:Value} {A:Around} {outer:List Env} {s s1:Shared} {H:Hp} {E:XK} {us:List Value} {vs:List V}
  (S:FnScope N ps scope) (hd:A.handled=none) (e0:Env0 P w K mg base A outer s H) (hl:vs.length=ps.length) (r:Vals vs us)
  (x:InCallC s s.heap.objs.size (bindL (envOfC qual scope s.heap.objs.size f cd).kindOf (ps.zip us) fun _=>none) (cellsFrom ↥30 scope.names []) (bindC (envOfC qual scope s.heap.objs.size f cd).kindOf (ps.zip us) fun _=>none) s1) :
  Inv (uT CX P w K mg base N qual scope f cd A outer s H E) [] (start N vs) H s1:=by
 have hpl:ps.length<=N.length:=by have:=congrArg List.length S.pre;rw [List.length_take] at this;omega
 obtain ⟨h1,tk,rfl,hk⟩:=x.done
 have noA:∀ b:Addr,b∉(uT CX P w K mg base N qual scope f cd A outer s H E).ex:=fun b z=>absurd (show b∈([]:List Addr) from z) (by simp)
 refine ⟨⟨e0.mod,S.kind,rfl,rfl,Nat.le_refl _,fun y z c h1 h2 => ?_,fun y hy => ?_,fun y c _ h => ?_,fun _=>hd,Around.frames_deeper e0.frames,.inr ⟨rfl,rfl⟩,fun b z=>absurd z (noA b),e0.bs,e0.bsz,fun b _ _=>noA b,fun b z=>absurd z (noA b),e0.funs,e0.frf⟩,
  rfl,e0.bare,Un.kept hk,⟨_,x.toInCall.ns,fun i y v h1 h2 h3 => ?_⟩,fun y c h=>⟨_,x.cell y c h⟩,e0.hok.fresh ↥23,fun y c h => ?_,fun p hp=>absurd (show p∈([]:List ↥10) from hp) (by simp),e0.hok.kept hk,?_⟩
 ·exact name_of_addr x.apart (PySem.mem_of_lookup h1) (PySem.mem_of_lookup h2)
 ·have hy:scope.names.lookup y=some .cell\/scope.names.lookup y=some .free:=hy
  rcases hy with hy | hy
  ·exact tm hy
  ·exact absurd rfl (S.nofree _ (PySem.mem_of_lookup hy))
 ·exact Nat.le_of_lt (x.above y c (PySem.mem_of_lookup h))
 ·have hi:i<vs.length:=by
   unfold start at h2
   by_cases hi:i<vs.length
   ·exact hi
   ·rw [List.getElem?_append_right (by simpa using hi)] at h2
    rw [List.getElem?_replicate] at h2
    split at h2<;>cases h2
  have ha:vs[i]? = some v:=by
   unfold start at h2
   rw [List.getElem?_append_left (by simpa using hi),List.getElem?_map] at h2
   cases e:vs[i]? with
   | none=>rw [e] at h2;cases h2
   | some a=>rw [e] at h2;cases h2;rfl
  obtain ⟨u,hu,rv⟩:=r.get ha
  have hp:ps[i]? = some y:=by
   rw [<- S.pre,List.getElem?_take_of_lt ⋯];exact h1
  have ndP:ps.Nodup:=by rw [<- S.pre];exact S.nd.sublist (List.take_sublist _ _)
  refine ⟨u,rv,?_⟩
  rcases S.par y (List.mem_of_getElem? hp) with k | k
  ·exact .inl ⟨k,pR ndP hp hu k⟩
  ·obtain ⟨c,e⟩:=tm (n:=s.heap.objs.size+1) k
   refine .inr ⟨.inl k,c,e,?_⟩
   have q:=x.cell y c e
   rw [pT ndP hp hu (by show scope.names.lookup y≠_;rw [k];decide)] at q
   exact q
 ·exact e0.hok.fresh (Nat.le_of_lt (x.above y c (PySem.mem_of_lookup h)))
 ·unfold start
  show _=N.length
  rw [List.length_append,List.length_map,List.length_replicate]
  omega
theorem Ee {CX:CXT} {P:Program} {w:World} {K:PySem.W.Frag} {mg:Str->Option Value} {base:Heap} {k:Nat} {f:Addr} {name qual:Str} {params:Arguments} {body:List Stmt} {scope:Scope} {dV kV doc pm cdv ct oc:Value} {an od:Option Addr}
  {osl:Array (Option Value)} {N ps:List Str} {sp:Sp} (lk:K.lookup f=some ⟨oc,od,.func (PySem.W.fnOf name qual params body scope dV kV doc pm an cdv ct),osl⟩) (hcd:PySem.W.codeIn K cdv qual=true) (S:FnScope N ps scope)
  (len:∀ vs H Q E,sp vs H Q E->vs.length=ps.length)
  (hbody:∀ (A:Around) (outer:List Env) (s:Shared) (H:Hp) (vs:List V) (Q:VK) (E:XK),Room k (A.deeper (envOfC qual scope s.heap.objs.size f cdv))->sp vs H Q E ->
   ∃ t,PSs (uT CX P w K mg base N qual scope f cdv A outer s H E) body t/\t { nx:=fun _ H'=>Q .non H',rt:=Q } (start N vs) H) :
  FnOk P w K mg base CX (k+1) f (PySem.W.fnOf name qual params body scope dV kV doc pm an cdv ct) ps sp:=by
 refine ⟨len,fun A outer s H args us vs Q E hr e0 hb r hsp => ?_⟩
 have hl:=len _ _ _ _ hsp
 have KX:K.In s.heap:=e0.mod.kin.keeps fun b o e=>(e0.bs b o e).1
 have lim:s.heap.NoLimit:=e0.mod.nolimit.keeps fun b o e=>(e0.bs b o e).1
 have hkind:∀ y∈ps.zip us,scope.names.lookup y.1=some .local\/(scope.names.lookup y.1=some .cell/\((cellsFrom ↥30 scope.names []).lookup y.1).isSome=true):=fun ⟨n,v⟩ hy=>by
  rcases S.par n (List.of_mem_zip hy).1 with q | q
  ·exact .inl q
  ·exact .inr ⟨q,PySem.W.cellsFrom_some _ _ _ (.inl q)⟩
 refine codeAny_call_function hr.depth (KX _ _ lk) rfl S.co S.gen rfl (PySem.W.codeRec_of KX hcd) (hb _ _ _ _ ?_)
 refine wpAny_newFunctionEnv_cells S.kind hkind fun env he s1 x => ?_
 subst he
 refine ⟨lim.keeps x.toInCall.keep,codeAny_func ?_⟩
 obtain ⟨t,ht,hq⟩:=hbody A outer s H vs Q E (hr.deeper _) hsp
 have I:Inv (uT CX P w K mg base N qual scope f cdv A outer s H E) [] (start N vs) H s1:=wW S hr.hd e0 hl r x
 refine wpAny_mono (ht [] s1 (start N vs) H _ I hq) (fun fl s' hs => ?_) fun e s' hs=>hs
 have fin:∀ {σ':St} {H':Hp} {v:V} {u:Value},Inv (uT CX P w K mg base N qual scope f cdv A outer s H E) [] σ' H' s'->RelV v u->Q v H'->CE outer P w H s Q u s' :=
  fun {σ' H' v u} J rv q=>⟨v,H',J.os,J.bare,J.base,J.hok,rv,q⟩
 cases fl with
 | ret u =>
  obtain ⟨v,σ',H',J,rv,q⟩:=hs
  exact fin J rv q
 | next =>
  obtain ⟨σ',H',J,q⟩:=hs
  exact fin (v:=V.non) (u:=Value.none) J rfl q
 | brk =>
  obtain ⟨_,_,_,q⟩:=hs
  exact False.elim q
 | cont =>
  obtain ⟨_,_,_,q⟩:=hs
  exact False.elim q
end L2
namespace L2
open PySem PySem.Spec PyProof.Rows
section
variable {X:Cx} {x:Str} {p pos:Pos} {e:Expr} {es:List Expr} {t:TA} {id T:String} {r:List V->Hp->VK->Prop}
def tCB (r:List V->Hp->VK->Prop) (t:TA):TE:=fun σ H Q=>t σ H fun vs H1=>r vs H1 Q
theorem sv (hc:eZ X (.builtin id) r) (hg:Gl X x) (hm:X.mg x=none) (hv:bootBuiltins x=some (.builtin id)) (ha:PA X (e::es) t) (hn:x≠"__name__":=by decide) (hdb:↥37=false:=by decide)
  (he:starEach (e::es) X.env=↥27::starEach es X.env:=by rfl) (hpl:(backTo pos (starEach es X.env)).any (·.1)=false:=by rfl):PE X (.Call (.Name x p) (e::es) [] pos) (tCB r t):=by
 intro pins s σ H Q I h
 refine wpAny_Call_Name_kw (pz I hg hm hv ?_ hn hdb)
 exact PyProof.Rows.callWith_builtin1 (thn (ha pos pins s σ H _ I h) fun us s1 ⟨vs,H1,I1,r1,q1⟩=>hc pins s1 σ H1 vs us Q I1 r1 q1) he hpl
theorem oN (hc:eZ X (.type T) r) (hg:Gl X x) (hm:X.mg x=none) (hv:bootBuiltins x=some (.type T)) (ha:PA X (e::es) t) (hn:x≠"__name__":=by decide) (hdb:↥37=false:=by decide)
  (he:starEach (e::es) X.env=↥27::starEach es X.env:=by rfl) (hpl:(backTo pos (starEach es X.env)).any (·.1)=false:=by rfl):PE X (.Call (.Name x p) (e::es) [] pos) (tCB r t):=by
 intro pins s σ H Q I h
 refine wpAny_Call_Name_kw (pz I hg hm hv ?_ hn hdb)
 exact PyProof.Rows.callWith_type1 (thn (ha pos pins s σ H _ I h) fun us s1 ⟨vs,H1,I1,r1,q1⟩=>hc pins s1 σ H1 vs us Q I1 r1 q1) he hpl
end
end L2
namespace HT
open PySem PyProof.Rows
section
open PySem.SeqAt
open PySem.AutoSeq1 (wpAny_loadPart')
open PySem.MeetsSeq PySem.MeetsSeq2 PySem.MeetsSeq3
end
section
variable {prog:Program} {w:World} {A:Around} {E:Value->Shared->Prop} {s:Shared}
theorem Es {t b:Addr} {vs ws:List Value} {Q:Value->Shared->Prop} (ht:IsTup s.heap t vs.toArray) (hb:IsTup s.heap b ws.toArray) (hv:vs≠[])
  (h1:ws=[]->Q (.ref t) s) (h2:ws≠[]->Q (.ref s.heap.objs.size) { s with heap:=s.heap.push { cls:=.type "tuple",data:=.seq (vs++ws).toArray } })
  (hsz:vs.length+ws.length<=sizeLine):wpAny ↥16 A (binaryOp .Add (.ref t) (.ref b)) Q E s:=by
 obtain ⟨⟨cls,dd,data,sl⟩,ho,hc,n,hd⟩:=id ht
 obtain ⟨⟨cls2,dd2,data2,sl2⟩,ho2,hc2,n2,hd2⟩:=id hb
 simp only at hc hd hc2 hd2
 subst hc hd hc2 hd2
 have e:vs.toArray++ws.toArray=(vs++ws).toArray:=by simp
 by_cases hw:ws=[]
 ·exact concat_meets ⟨_,ho,rfl⟩ ⟨_,ho2,rfl⟩ noFill_tuple_add seq_tuple_add PySem.F.slot_tuple_add PySem.F.entry_tuple_add (PySem.F.args_tuple_add_2 _ _)
   (tuple_addW1 t b vs.toArray ws.toArray n n2 dd dd2 sl sl2 (by simpa using hv) (by simp [hw])) ⟨ho,ho2,h1 hw⟩
 ·refine concat_meets ⟨_,ho,rfl⟩ ⟨_,ho2,rfl⟩ noFill_tuple_add seq_tuple_add PySem.F.slot_tuple_add PySem.F.entry_tuple_add (PySem.F.args_tuple_add_2 _ _)
   (tuple_addW2 t b vs.toArray ws.toArray n n2 dd dd2 sl sl2 (by simpa using hv) (by simpa using hw) (by rw [List.size_toArray,List.size_toArray];exact hsz)) ⟨ho,ho2,?_⟩
  rw [e]
  exact h2 hw
def sIx (n d:Nat):Option Int->Nat
 | none=>d
 | some v=>if v<0 then (v+(n:Int)).toNat else min v.toNat n
theorem Gk (n d:Nat) (hd:d<=n) (o:Option Int):sIx n d o<=n:=by
 cases o with
 | none=>exact hd
 | some v =>
  show (if v<0 then (v+(n:Int)).toNat else min v.toNat n)<=n
  by_cases hv:v<0
  ·rw [if_pos hv];omega
  ·rw [if_neg hv];exact Nat.min_le_right _ _
theorem xC (v:Int) (n d:Nat):(if v<0 then max (v+(n:Int)) 0 else min v (n:Int))=((sIx n d (some v):Nat):Int):=by
 show (if v<0 then max (v+(n:Int)) 0 else min v (n:Int))=(((if v<0 then (v+(n:Int)).toNat else min v.toNat n):Nat):Int)
 by_cases hv:v<0
 ·simp only [if_pos hv];omega
 ·simp only [if_neg hv];omega
theorem uR (lo hi:Option Int) (n:Nat):Builtin.Slice.sliceAdjust lo hi 1 (n:Int)=(((sIx n 0 lo:Nat):Int),((sIx n n hi:Nat):Int)):=by
 have h1:¬ ((1:Int)<0):=⋯
 unfold Builtin.Slice.sliceAdjust
 simp only [h1,if_false]
 refine Prod.ext ?_ ?_
 ·cases lo with
  | none=>rfl
  | some v=>exact xC v n 0
 ·cases hi with
  | none=>rfl
  | some v=>exact xC v n n
theorem uj (i j:Nat):Builtin.Slice.slicePlaces (i:Int) (j:Int) 1=j - i:=by
 unfold Builtin.Slice.slicePlaces
 have h1:(1:Int)>0:=⋯
 simp only [h1,if_true,Int.ediv_one]
 split<;>omega
theorem lU {v:Value} {o:Option Int} {Q:Option Int->Shared->Prop} (p:IsPart v o) (h:Q o s):wpAny ↥16 A (Builtin.Slice.slicePartIndex v) Q E s:=by
 cases p with
 | none=>exact slicePart_none h
 | int i t=>exact slicePart_int h
theorem jw {sl:Addr} {vl vu:Value} {lo hi:Option Int} {n:Nat} {Q:Int×Int×Nat->Shared->Prop} (hs:s.heap.IsSliceOf sl vl vu .none) (pl:IsPart vl lo) (pu:IsPart vu hi)
  (h:Q (((sIx n 0 lo:Nat):Int),1,sIx n n hi - sIx n 0 lo) s):wpAny ↥16 A (Builtin.Slice.sliceApplied (.ref sl) (pure (n:Int))) Q E s:=by
 obtain ⟨os,hos,hcs,hds⟩:=id hs
 unfold Builtin.Slice.sliceApplied Builtin.Slice.sliceFields
 refine wpAny_bind (wpAny_bind (wpAny_field hos hds (x:=vl) rfl (wpAny_bind (wpAny_field hos hds (x:=vu) rfl (wpAny_bind (wpAny_field hos hds (x:=.none) rfl (wpAny_pure ?_)))))))
 refine wpAny_bind (slicePart_none ?_)
 show wpAny _ _ (if ((1:Int) == 0)=true then _ else _) _ _ s
 rw [if_neg ↥3]
 refine wpAny_bind (lU pl (wpAny_bind (lU pu (wpAny_bind (wpAny_pure ?_)))))
 show wpAny _ _ (match Builtin.Slice.sliceAdjust lo hi 1 (n:Int) with | (lo,hi)=>pure (lo,(1:Int),Builtin.Slice.slicePlaces lo hi 1)) _ _ s
 rw [uR lo hi n]
 show wpAny _ _ (pure (((sIx n 0 lo:Nat):Int),(1:Int),Builtin.Slice.slicePlaces ((sIx n 0 lo:Nat):Int) ((sIx n n hi:Nat):Int) 1)) _ _ s
 rw [uj]
 exact wpAny_pure h
theorem zp (xs:Array Value) (i k:Nat):((List.range k).filterMap fun (m:Nat)=>xs[((i:Int)+(m:Int)*1).toNat]?).toArray=((xs.toList.drop i).take k).toArray:=by
 have e:(fun (m:Nat)=>xs[((i:Int)+(m:Int)*1).toNat]?)=fun m=>xs[i+m]? := by
  funext m
  have:((i:Int)+(m:Int)*1).toNat=i+m:=⋯
  rw [this]
 rw [e]
 have:=pick_run xs i k
 rw [List.filterMap_map] at this
 have e2:((fun x=>xs[x]?) ∘ fun x=>i+x)=fun m=>xs[i+m]? := rfl
 rw [e2] at this
 rw [this]
theorem iV {t sl:Addr} {items:Array Value} {vl vu:Value} {lo hi:Option Int} {Q:Value->Shared->Prop} (ht:IsTup s.heap t items) (hs:s.heap.IsSliceOf sl vl vu .none) (pl:IsPart vl lo) (pu:IsPart vu hi)
  (hw:¬ (sIx items.size 0 lo=0/\sIx items.size items.size hi=items.size))
  (h:Q (.ref s.heap.objs.size) { s with heap:=s.heap.push { cls:=.type "tuple",data:=.seq ((items.toList.drop (sIx items.size 0 lo)).take (sIx items.size items.size hi - sIx items.size 0 lo)).toArray } })
  (hsz:items.size<=sizeLine):wpAny ↥16 A (getItem (.ref t) (.ref sl)) Q E s:=by
 have htake:sizeOk (.seq ((items.toList.drop (sIx items.size 0 lo)).take (sIx items.size items.size hi - sIx items.size 0 lo)).toArray):=by
  show ((items.toList.drop (sIx items.size 0 lo)).take (sIx items.size items.size hi - sIx items.size 0 lo)).toArray.size<=sizeLine
  rw [List.size_toArray,List.length_take,List.length_drop,Array.length_toList]
  omega
 have hj:sIx items.size items.size hi<=items.size:=Gk _ _ ↥23 hi
 obtain ⟨os,hos,hcs,hds⟩:=id hs
 have hTs:s.TypeIs (.ref sl) "slice":=⟨os,hos,hcs⟩
 unfold getItem
 try with_reducible refine wpAny_holding ?_
 first | refine wpAny_bind (wpAny_pure ?_) | skip
 refine wpAny_bind (wpAny_sequenceKey ht.typeIs ↥3 ?_)
 refine wpAny_bind (wpAny_callSpecial?_slot (name:=Str.ofString "__getitem__") ht.typeIs PyProof.Rows.slot_tuple_getitem
  (wpAny_call_entry PyProof.Rows.slot_tuple_getitem ht.typeIs entry_tuple_getitem ?_ (args_tuple_getitem _ _)))
 show wpAny _ _ (Builtin.Tuple.tupleItemsOf (.ref t) >>= _) _ _ s
 refine wpAny_bind (tupleItemsOf_ ht ?_)
 refine wpAny_bind (wpAny_typeOf hTs ?_)
 rw [if_pos ↥3]
 refine wpAny_bind (jw hs pl pu ?_)
 have hno:¬ ((((sIx items.size 0 lo:Nat):Int) == 0&&(1:Int) == 1&&(sIx items.size items.size hi - sIx items.size 0 lo) == items.size)=true):=by
  intro q
  rw [Bool.and_eq_true,Bool.and_eq_true] at q
  have q1:((sIx items.size 0 lo:Nat):Int)=0:=eq_of_beq q.1.1
  have q2:sIx items.size items.size hi - sIx items.size 0 lo=items.size:=eq_of_beq q.2
  exact hw ⟨⋯,⋯⟩
 show wpAny _ _ (if (((sIx items.size 0 lo:Nat):Int) == 0&&(1:Int) == 1&&(sIx items.size items.size hi - sIx items.size 0 lo) == items.size)=true then _ else _) _ _ s
 rw [if_neg hno,zp]
 first
  | exact wpAny_bind (m:=Builtin.Tuple.tupleExact _) (wpAny_newObj_type (wpAny_pure ⟨_,rfl,wpAny_pure h⟩) htake)
  | exact wpAny_bind (m:=Builtin.Tuple.tupleExact _) (wpAny_newObj_type (wpAny_bind (wpAny_pure (wpAny_pure ⟨_,rfl,wpAny_pure h⟩))) htake)
  | exact wpAny_bind (wpAny_bind (m:=Builtin.Tuple.tupleExact _) (wpAny_newObj_type (wpAny_pure (wpAny_pure ⟨_,rfl,wpAny_pure h⟩)) htake))
  | exact wpAny_bind (wpAny_bind (m:=Builtin.Tuple.tupleExact _) (wpAny_newObj_type (wpAny_pure ⟨_,rfl,wpAny_pure h⟩) htake))
end
end HT
namespace L2
open PySem PySem.Spec PyProof.Rows
abbrev TO:=St->Hp->(Option Int->Hp->Prop)->Prop
def PO (X:Cx) (e:Option Expr) (t:TO):Prop :=
 ∀ (pins:List ↥10) (s:Shared) (σ:St) (H:Hp) (Q:Option Int->Hp->Prop),Inv X pins σ H s->t σ H Q ->
  wpAny ↥5 X.A (evalPart e X.env) (fun u s'=>∃ o H',Inv X pins σ H' s'/\IsPart u o/\Q o H') X.xe s
def Cy:TO:=fun _ H Q=>Q none H
def Jm (t:TE):TO:=fun σ H Q=>t σ H fun x H1=>∃ i,x=.int i/\Q (some i) H1
section
variable {X:Cx} {e:Expr} {te:TE} {lo hi:Option Expr} {tl th:TO} {pos p2:Pos}
theorem C5:PO X none Cy:=by
 intro pins s σ H Q I h
 rw [evalPart_none]
 exact wpAny_pure ⟨none,H,I,.none,h⟩
theorem C4 (h:PE X e te):PO X (some e) (Jm te):=by
 intro pins s σ H Q I hw
 rw [evalPart_some]
 refine thn (h pins s σ H _ I hw) fun u s1 ⟨x,H1,I1,r1,q1⟩ => ?_
 obtain ⟨i,rfl,q⟩:=q1
 obtain ⟨t,rfl⟩:=r1
 exact ⟨some i,H1,I1,.int i t,q⟩
def SlR (X:Cx) (r:V->Option Int->Option Int->Hp->VK->Prop):Prop :=
 ∀ (pins:List ↥10) (s:Shared) (σ:St) (H:Hp) (x:V) (v vl vu:Value) (lo hi:Option Int) (sl:Addr) (Q:VK),Inv X pins σ H s->RelV x v->s.heap.IsSliceOf sl vl vu .none->IsPart vl lo->IsPart vu hi->r x lo hi H Q ->
  ∃ T id,typeLookup (.type T) "__getitem__"=pure (some (.builtin id))/\s.TypeIs v T/\wpAny ↥5 X.A (getItem v (.ref sl)) (EP X pins σ Q) X.xe s
def tSl (r:V->Option Int->Option Int->Hp->VK->Prop) (te:TE) (tl th:TO):TE:=fun σ H Q=>te σ H fun x H1=>tl σ H1 fun l H2=>th σ H2 fun u H3=>r x l u H3 Q
theorem zq {r:V->Option Int->Option Int->Hp->VK->Prop} (hr:SlR X r) (he:PE X e te) (hl:PO X lo tl) (hu:PO X hi th):PE X (.Subscript e (.Slice lo hi none p2) pos) (tSl r te tl th):=by
 intro pins s σ H Q I h
 refine Subscript_ (thn (he pins s σ H _ I h) fun v s1 ⟨x,H1,I1,r1,q1⟩ => ?_)
 refine wpAny_Slice (thn (hl pins s1 σ H1 _ I1 q1) fun vl s2 ⟨l,H2,I2,pl,q2⟩=>thn (hu pins s2 σ H2 _ I2 q2) fun vu s3 ⟨u,H3,I3,pu,q3⟩ => ?_)
 rw [evalPart_none]
 refine wpAny_pure ?_
 have I4:Inv X pins σ H3 { s3 with heap:=s3.heap.push { cls:=.type "slice",data:=.fields #[vl,vu,.none] } }:=I3.kept (t':=s3.toks) fun b ob q=>Heap.get?_push_of_some _ q
 obtain ⟨T,id,hT,ht,hg⟩:=hr pins { s3 with heap:=s3.heap.push { cls:=.type "slice",data:=.fields #[vl,vu,.none] } } σ H3 x v vl vu l u s3.heap.objs.size Q I4 r1 (Heap.IsSliceOf.new ..) pl pu q3
 show wpAny ↥5 X.A (subscriptTail e (.Slice lo hi none p2) v (.ref s3.heap.objs.size)) (EP X pins σ Q) X.xe { s3 with heap:=s3.heap.push { cls:=.type "slice",data:=.fields #[vl,vu,.none] } }
 exact tail_any (ops:=[.ref s3.heap.objs.size,v]) ht hT hg (by with_unfolding_all rfl)
def Bo (xs:List V) (lo hi:Option Int):List V:=(xs.drop (HT.sIx xs.length 0 lo)).take (HT.sIx xs.length xs.length hi - HT.sIx xs.length 0 lo)
theorem kM (xs:List V) (lo hi:Option Int):(Bo xs lo hi).length<=xs.length:=by
 unfold Bo
 rw [List.length_take,List.length_drop]
 omega
def NM (K:PySem.W.Frag):V->Option Int->Option Int->Hp->VK->Prop:=fun x lo hi H Q=>∃ a xs,x=.ref a/\SqT K H a xs /\
 ¬ (HT.sIx xs.length 0 lo=0/\HT.sIx xs.length xs.length hi=xs.length)/\∀ p,H p=none->Q (.ref p) (upd H p (.tup (Bo xs lo hi)))
theorem Gd:SlR X (NM X.K):=by
 intro pins s σ H x v vl vu lo hi sl Q I rx hs pl pu h
 obtain ⟨a,xs,rfl,hx,hw,q⟩:=h
 cases rx
 obtain ⟨its,r,ht,hz⟩:=I.tuple hx
 have hlen:its.toArray.size=xs.length:=by rw [List.size_toArray];exact r.length.symm
 refine ⟨"tuple",_,PyProof.Rows.slot_tuple_getitem.lookup,ht.typeIs,?_⟩
 refine HT.iV ht hs pl pu (by rw [hlen];exact hw) ?_ (by rw [hlen];exact hz)
 rw [hlen]
 refine ⟨.ref s.heap.objs.size,_,I.laid (t':=s.toks) (o:=.tup (Bo xs lo hi)) (fun b ob q=>Heap.get?_push_of_some _ q) ↥23 ?_,rfl,q _ (I.hok.fresh ↥23)⟩
 exact ⟨Nat.le_trans (kM xs lo hi) hz,_,(r.drop (HT.sIx xs.length 0 lo)).take (HT.sIx xs.length xs.length hi - HT.sIx xs.length 0 lo),IsTup.new _ _⟩
def JC (K:PySem.W.Frag):R2:=fun x y H Q=>∃ a b xs ys,x=.ref a/\y=.ref b/\SqT K H a xs/\SqT K H b ys/\xs≠[]/\xs.length+ys.length<=sizeLine /\
 (ys=[]->Q (.ref a) H)/\(ys≠[]->∀ p,H p=none->Q (.ref p) (upd H p (.tup (xs++ys))))
theorem Vals.nil_iff {xs:List V} {us:List Value} (r:Vals xs us):us=[]↔xs=[]:=by
 cases r with
 | nil=>simp
 | cons _ _=>simp
theorem Dk:OpR X (binaryOp .Add) (JC X.K):=by
 intro pins s σ H x y v u Q I rx ry h
 obtain ⟨a,b,xs,ys,rfl,rfl,ha,hb,hx,hz,q1,q2⟩:=h
 cases rx
 cases ry
 obtain ⟨its,r1,p1,_⟩:=I.tuple ha
 obtain ⟨its2,r2,p2,_⟩:=I.tuple hb
 refine HT.Es p1 p2 (fun z=>hx (r1.nil_iff.mp z)) (fun z=>⟨.ref a,H,I,rfl,q1 (r2.nil_iff.mp z)⟩) (fun z => ?_) (by rw [<- r1.length,<-r2.length];exact hz)
 refine ⟨.ref s.heap.objs.size,_,I.laid (t':=s.toks) (o:=.tup (xs++ys)) (fun b ob q=>Heap.get?_push_of_some _ q) ↥23 ?_,rfl,q2 (fun w=>z (r2.nil_iff.mpr w)) _ (I.hok.fresh ↥23)⟩
 exact ⟨by rw [List.length_append];exact hz,_,r1.append r2,IsTup.new _ _⟩
end
end L2
namespace L2
open PySem PySem.Spec PyProof.Rows
def ixN (n:Nat) (i:Int):Option Nat:=if 0<=i then (if i<n then some i.toNat else none) else if -(n:Int)<=i then some (i+n).toNat else none
def atI {α:Type} (xs:List α) (i:Int):Option α:=(ixN xs.length i).bind fun j=>xs[j]?
theorem DZ {n:Nat} {i:Int} {j:Nat} (h:ixN n i=some j):seqIndex? i n=some j/\j<n /\ -(n:Int)<=i/\i<n:=by
 unfold ixN at h
 by_cases h0:0<=i
 ·rw [if_pos h0] at h
  by_cases h1:i<n
  ·rw [if_pos h1] at h
   have e:i.toNat=j:=Option.some.inj h
   exact ⟨by rw [seqIndex_of h0 h1,e],⋯,⋯,h1⟩
  ·rw [if_neg h1] at h;cases h
 ·rw [if_neg h0] at h
  by_cases h1 : -(n:Int)<=i
  ·rw [if_pos h1] at h
   have e:(i+n).toNat=j:=Option.some.inj h
   exact ⟨by rw [seqIndex_neg ⋯ h1,e],⋯,h1,⋯⟩
  ·rw [if_neg h1] at h;cases h
theorem rP {α:Type} {xs:List α} {i:Int} {v:α} (h:atI xs i=some v):∃ j,seqIndex? i xs.length=some j/\xs[j]? = some v/\j<xs.length /\ -(xs.length:Int)<=i/\i<xs.length:=by
 unfold atI at h
 cases e:ixN xs.length i with
 | none=>rw [e] at h;cases h
 | some j =>
  rw [e] at h
  obtain ⟨h1,h2,h3,h4⟩:=DZ e
  exact ⟨j,h1,h,h2,h3,h4⟩
theorem EL {α:Type} {xs:List α} {j:Nat} {v:α} (h:xs[j]? = some v):atI xs (j:Int)=some v:=by
 have hj:j<xs.length:=(List.getElem?_eq_some_iff.mp h).1
 have e:ixN xs.length (j:Int)=some j:=by
  unfold ixN
  rw [if_pos ⋯,if_pos ⋯];simp
 unfold atI;rw [e];exact h
def rQ (b:Expr):Prop:=∀ o i,subscripted b false o i=operate [o,i] (getItem o i)
def IxR (X:Cx) (r:R2):Prop :=
 ∀ (value slice:Expr) (pins:List ↥10) (s:Shared) (σ:St) (H:Hp) (x y:V) (v u:Value) (Q:VK),Inv X pins σ H s->RelV x v->RelV y u->r x y H Q ->
  subscripted slice false v u=operate [v,u] (getItem v u)->wpAny ↥5 X.A (subscriptTail value slice v u) (EP X pins σ Q) X.xe s
def MtR (X:Cx) (id:String) (r:V->List V->Hp->VK->Prop):Prop :=
 ∀ (pins:List ↥10) (s:Shared) (σ:St) (H:Hp) (x:V) (xs:List V) (v:Value) (us:List Value) (Q:VK),Inv X pins σ H s->RelV x v->Vals xs us->r x xs H Q ->
  wpAny ↥5 X.A (call (.builtin id) (v::us)) (EP X pins σ Q) X.xe s
section
variable {X:Cx} {a b:Expr} {ta tb:TE} {pos:Pos}
theorem GL {r:R2} (hr:IxR X r) (ha:PE X a ta) (hb:PE X b tb) (hs:rQ b):PE X (.Subscript a b pos) (tOp r ta tb):=by
 intro pins s σ H Q I h
 exact Subscript_ (Ko ha hb I h fun v u s2 x y H2 I2 rx ry q=>hr a b pins s2 σ H2 x y v u Q I2 rx ry q (hs _ _))
def NQ (K:PySem.W.Frag):R2:=fun x y H Q=>∃ p xs i v,x=.ref p/\y=.int i/\SqL K H p xs/\atI xs i=some v/\Q v H
def NO (K:PySem.W.Frag):R2:=fun x y H Q=>∃ p xs i v,x=.ref p/\y=.int i/\SqT K H p xs/\atI xs i=some v/\Q v H
def NP:R2:=fun x y H Q=>∃ z i c,x=.str z/\y=.int i/\z.length<=sizeLine/\atI z.cps.toList i=some c/\Q (.str ⟨#[c]⟩) H
theorem DX:IxR X (NQ X.K):=by
 intro value slice pins s σ H x y v u Q I rx ry h hs
 obtain ⟨p,xs,i,z,rfl,rfl,hq,he,q⟩:=h
 cases rx
 obtain ⟨t,rfl⟩:=ry
 obtain ⟨its,r,pl,hz⟩:=I.list hq
 obtain ⟨j,h1,h2,h3,h4,h5⟩:=rP he
 obtain ⟨w,ew,rw'⟩:=r.get h2
 have hl:=r.length
 have hn:=pv
 have fin:EP X pins σ Q w s:=⟨z,H,I,rw',q⟩
 by_cases h0:0<=i
 ·have hj:i.toNat=j:=by
   rw [seqIndex_of h0 h5] at h1
   exact Option.some.inj h1
  exact item_listR pl.isList h0 ⋯ (by rw [hj];simpa using ew) fin hs
 ·have hj:(i+(its.toArray.size:Int)).toNat=j:=by
   rw [seqIndex_neg ⋯ h4] at h1
   rw [List.size_toArray,<-hl]
   exact Option.some.inj h1
  exact subscriptTail_builtinR (x:=w) pl.isList.typeIs slot_list_getitem.lookup
   (wpAny_getItem_list_neg (Q:=fun r s'=>r=w/\EP X pins σ Q r s') pl.isList ⋯ (by rw [List.size_toArray]<;>omega) ⋯ (by rw [hj];simpa using ew) ⟨rfl,fin⟩) hs
theorem kH:IxR X (NO X.K):=by
 intro value slice pins s σ H x y v u Q I rx ry h hs
 obtain ⟨p,xs,i,z,rfl,rfl,hq,he,q⟩:=h
 cases rx
 obtain ⟨t,rfl⟩:=ry
 obtain ⟨its,r,pl,hz⟩:=I.tuple hq
 obtain ⟨j,h1,h2,h3,h4,h5⟩:=rP he
 obtain ⟨w,ew,rw'⟩:=r.get h2
 have hl:=r.length
 have hn:=pv
 have fin:EP X pins σ Q w s:=⟨z,H,I,rw',q⟩
 exact subscriptTail_builtinR (x:=w) pl.typeIs slot_tuple_getitem.lookup
  (getItem_tuple (j:=j) (Q:=fun r s'=>r=w/\EP X pins σ Q r s') pl ⋯ ⋯ (by rw [List.size_toArray,<-hl];exact h1) (by simpa using ew) ⟨rfl,fin⟩) hs
theorem Ht:IxR X NP:=by
 intro value slice pins s σ H x y v u Q I rx ry h hs
 obtain ⟨z,i,c,rfl,rfl,hz,he,q⟩:=h
 obtain ⟨t,rfl⟩:=rx
 obtain ⟨t',rfl⟩:=ry
 obtain ⟨j,h1,h2,h3,h4,h5⟩:=rP he
 have hl:z.cps.toList.length=z.length:=by simp [Str.length]
 rw [hl] at h1 h4 h5
 have hn:=pv
 exact tail_any (typeIs_str s z t) slot_str_getitem.lookup (getItem_str (c:=c) (by
  have e1:decide (i < -(2^63:Int))=false:=decide_eq_false ⋯
  have e2:decide (i>=2^63)=false:=decide_eq_false ⋯
  rw [e1,e2,Bool.or_false]) (by rw [h1];simpa using h2) ⟨.str ⟨#[c]⟩,H,I.tok _,⟨_,rfl⟩,q⟩) hs
theorem ox (lo hi:Option Int) (n:Nat):(sliceBounds lo hi none n).1=((HT.sIx n 0 lo:Nat):Int)/\(sliceBounds lo hi none n).2.1=((HT.sIx n n hi:Nat):Int)/\(sliceBounds lo hi none n).2.2=1:=by
 refine ⟨?_,?_,rfl⟩
 ·cases lo with
  | none=>simp [sliceBounds,HT.sIx]
  | some i =>
   simp only [sliceBounds,HT.sIx,Option.getD_none,show (1:Int)>0 by decide,if_true]
   by_cases h:i<0
   ·simp only [h,if_true]<;>omega
   ·simp only [h,if_false]<;>omega
 ·cases hi with
  | none=>simp [sliceBounds,HT.sIx]
  | some i =>
   simp only [sliceBounds,HT.sIx,Option.getD_none,show (1:Int)>0 by decide,if_true]
   by_cases h:i<0
   ·simp only [h,if_true]<;>omega
   ·simp only [h,if_false]<;>omega
theorem mP (its:List Value) (lo hi:Option Int):slicePick its.toArray lo hi none=((its.drop (HT.sIx its.length 0 lo)).take (HT.sIx its.length its.length hi - HT.sIx its.length 0 lo)).toArray:=by
 obtain ⟨h1,h2,h3⟩:=ox lo hi its.toArray.size
 unfold slicePick
 rw [h1,h2,h3]
 simp only [sliceRange_one,pick_run,List.size_toArray]<;>rfl
def NN (K:PySem.W.Frag):V->Option Int->Option Int->Hp->VK->Prop:=fun x lo hi H Q=>∃ a xs,x=.ref a/\SqL K H a xs/\∀ p,H p=none->Q (.ref p) (upd H p (.lst (Bo xs lo hi)))
theorem CJ:SlR X (NN X.K):=by
 intro pins s σ H x v vl vu lo hi sl Q I rx hs pl pu h
 obtain ⟨a,xs,rfl,hx,q⟩:=h
 cases rx
 obtain ⟨its,r,ht,hz⟩:=I.list hx
 have hlen:=r.length
 refine ⟨"list",_,slot_list_getitem.lookup,ht.isList.typeIs,?_⟩
 refine wpAny_getItem_list_slice ht.isList hs pl pu .none (by simp) ?_ (by rw [List.size_toArray]<;>omega)
 rw [mP,<-hlen]
 refine ⟨.ref s.heap.objs.size,_,I.laid (t':=s.toks) (o:=.lst (Bo xs lo hi)) (fun b ob q=>Heap.get?_push_of_some _ q) ↥23 ?_,rfl,q _ (I.hok.fresh ↥23)⟩
 exact ⟨Nat.le_trans (kM xs lo hi) hz,_,0,(r.drop (HT.sIx xs.length 0 lo)).take (HT.sIx xs.length xs.length hi - HT.sIx xs.length 0 lo),Heap.get?_push_size _ rfl⟩
def lR:V->Bool
 | .non=>true
 | .bl _=>true
 | .int _=>true
 | .str _=>true
 | _=>false
def eqV:V->V->Bool
 | .non,.non=>true
 | .bl a,.bl b=>a == b
 | .bl a,.int b=>(if a then 1 else 0) == b
 | .int a,.bl b=>a == (if b then 1 else 0)
 | .int a,.int b=>a == b
 | .str a,.str b=>a == b
 | _,_=>false
theorem HQ {A:Around} {s:Shared} {y x:V} {u v:Value} (ry:RelV y u) (rx:RelV x v) (fy:lR y=true) (fx:lR x=true):SeqAt.EqAt A s u v (eqV y x):=by
 cases y with
 | non =>
  cases ry
  cases x with
  | non=>cases rx;exact SeqAt.EqAt.same _
  | bl b=>cases rx;exact SeqAt.EqAt.none_bool b
  | int b=>obtain ⟨t,rfl⟩:=rx;exact SeqAt.EqAt.none_int b t
  | str b=>obtain ⟨t,rfl⟩:=rx;exact SeqAt.EqAt.none_str b t
  | _=>exact absurd (show false=true from fx) Bool.false_ne_true
 | bl a =>
  cases ry
  cases x with
  | non=>cases rx;exact SeqAt.EqAt.bool_none a
  | bl b=>cases rx;exact SeqAt.EqAt.bool_bool a b
  | int b=>obtain ⟨t,rfl⟩:=rx;exact SeqAt.EqAt.bool_int a b t
  | str b=>obtain ⟨t,rfl⟩:=rx;exact SeqAt.EqAt.bool_str a b t
  | _=>exact absurd (show false=true from fx) Bool.false_ne_true
 | int a =>
  obtain ⟨t',rfl⟩:=ry
  cases x with
  | non=>cases rx;exact SeqAt.EqAt.int_none a t'
  | bl b=>cases rx;exact SeqAt.EqAt.int_bool a t' b
  | int b=>obtain ⟨t,rfl⟩:=rx;exact SeqAt.EqAt.int_int a t' b t
  | str b=>obtain ⟨t,rfl⟩:=rx;exact SeqAt.EqAt.int_str a t' b t
  | _=>exact absurd (show false=true from fx) Bool.false_ne_true
 | str a =>
  obtain ⟨t',rfl⟩:=ry
  cases x with
  | non=>cases rx;exact SeqAt.EqAt.str_none a t'
  | bl b=>cases rx;exact SeqAt.EqAt.str_bool a t' b
  | int b=>obtain ⟨t,rfl⟩:=rx;exact SeqAt.EqAt.str_int a t' b t
  | str b=>obtain ⟨t,rfl⟩:=rx;exact SeqAt.EqAt.str_str a t' b t
  | _=>exact absurd (show false=true from fx) Bool.false_ne_true
 | _=>exact absurd (show false=true from fy) Bool.false_ne_true
def eqU (x:V) (u:Value):Bool:=match u with
 | .none=>eqV .non x
 | .bool b=>eqV (.bl b) x
 | .int i _=>eqV (.int i) x
 | .str z _=>eqV (.str z) x
 | _=>false
theorem Bm {x y:V} {u:Value} (r:RelV y u) (f:lR y=true):eqU x u=eqV y x:=by
 cases y with
 | non=>cases r;rfl
 | bl b=>cases r;rfl
 | int i=>obtain ⟨t,rfl⟩:=r;rfl
 | str z=>obtain ⟨t,rfl⟩:=r;rfl
 | _=>exact absurd (show false=true from f) Bool.false_ne_true
theorem kW {x:V}:∀ {xs:List V} {us:List Value},Vals xs us->xs.all lR=true->us.any (eqU x)=xs.any fun y=>eqV y x
 | _,_,.nil,_=>rfl
 | y::xs,u::us,.cons r t,f=>by
  rw [List.all_cons,Bool.and_eq_true] at f
  rw [List.any_cons,List.any_cons,Bm r f.1,kW t f.2]
theorem ie {A:Around} {s:Shared} {x:V} {v:Value} (rx:RelV x v) (fx:lR x=true):∀ {xs:List V} {us:List Value},Vals xs us->xs.all lR=true->∀ u∈us,SeqAt.EqAt A s u v (eqU x u)
 | _,_,.nil,_=>fun u hu=>by cases hu
 | y::xs,u::us,.cons r t,f=>fun u' hu=>by
  rw [List.all_cons,Bool.and_eq_true] at f
  rcases List.mem_cons.mp hu with rfl | hu
  ·rw [Bm r f.1];exact HQ r rx f.1 fx
  ·exact ie rx fx t f.2 u' hu
def inV (x:V) (xs:List V):Bool:=xs.any fun y=>eqV y x
def rIn (K:PySem.W.Frag) (neg:Bool):R2:=fun x y H Q=>∃ p xs,y=.ref p/\(SqL K H p xs\/SqT K H p xs)/\lR x=true/\xs.all lR=true/\Q (.bl (if neg then !inV x xs else inV x xs)) H
theorem vP:OpR X (compareOp .In) (rIn X.K false):=by
 intro pins s σ H x y v u Q I rx ry h
 obtain ⟨p,xs,rfl,hq,fx,fs,q⟩:=h
 cases ry
 rcases hq with hq | hq
 ·obtain ⟨its,r,pl,hz⟩:=I.list hq
  refine SeqAt.in_listAt (eqU x) pl.isList (fun w hw=>ie rx fx r fs w (by simpa using hw)) ⟨.bl _,H,I,rfl,?_⟩
  rw [show its.toArray.any (eqU x)=its.any (eqU x) by simp,kW r fs]
  exact q
 ·obtain ⟨its,r,pl,hz⟩:=I.tuple hq
  refine SeqAt.in_tupleAt (eqU x) pl (fun w hw=>ie rx fx r fs w (by simpa using hw)) ⟨.bl _,H,I,rfl,?_⟩
  rw [show its.toArray.any (eqU x)=its.any (eqU x) by simp,kW r fs]
  exact q
theorem oV:OpR X (compareOp .NotIn) (rIn X.K true):=by
 intro pins s σ H x y v u Q I rx ry h
 obtain ⟨p,xs,rfl,hq,fx,fs,q⟩:=h
 cases ry
 rcases hq with hq | hq
 ·obtain ⟨its,r,pl,hz⟩:=I.list hq
  refine SeqAt.notIn_listAt (eqU x) pl.isList (fun w hw=>ie rx fx r fs w (by simpa using hw)) ⟨.bl _,H,I,rfl,?_⟩
  rw [show its.toArray.any (eqU x)=its.any (eqU x) by simp,kW r fs]
  exact q
 ·obtain ⟨its,r,pl,hz⟩:=I.tuple hq
  refine SeqAt.notIn_tupleAt (eqU x) pl (fun w hw=>ie rx fx r fs w (by simpa using hw)) ⟨.bl _,H,I,rfl,?_⟩
  rw [show its.toArray.any (eqU x)=its.any (eqU x) by simp,kW r fs]
  exact q
theorem oU:OpR X (compareOp .NotIn) (fun x y H Q=>∃ i j,x=.str i/\y=.str j/\Q (.bl (!(!(Builtin.Str.occurrences j i 0 j.length 1).isEmpty))) H):=by
 intro pins s σ H x y v u Q I rx ry h
 obtain ⟨i,j,rfl,rfl,q⟩:=h
 obtain ⟨t,rfl⟩:=rx
 obtain ⟨t',rfl⟩:=ry
 exact notIn_str ⟨.bl _,H,I,rfl,q⟩
theorem jg:eZ X (.builtin "len") (fun xs H Q=>∃ p ys,xs=[.ref p]/\(SqL X.K H p ys\/SqT X.K H p ys)/\Q (.int ys.length) H):=by
 intro pins s σ H xs us Q I r h
 obtain ⟨p,ys,rfl,hq,q⟩:=h
 obtain ⟨u,rfl,rx⟩:=vals1 r
 cases rx
 have hn:=pv
 rcases hq with hq | hq
 ·obtain ⟨its,r',pl,hz⟩:=I.list hq
  have hlen:=r'.length
  exact Calls.call_len_list pl.isList (by simp only [List.size_toArray]<;>omega) ⟨.int ys.length,H,I.tok _,⟨s.toks+1,by rw [List.size_toArray,hlen]⟩,q⟩
 ·obtain ⟨its,r',pl,hz⟩:=I.tuple hq
  have hlen:=r'.length
  exact len_tuple pl (by simp only [List.size_toArray]<;>omega) ⟨.int ys.length,H,I.tok _,⟨s.toks+1,by rw [List.size_toArray,hlen]⟩,q⟩
theorem pL:eZ X (.builtin "len") (fun xs H Q=>∃ z,xs=[.str z]/\z.length<=sizeLine/\Q (.int z.length) H):=by
 intro pins s σ H xs us Q I r h
 obtain ⟨z,rfl,hz,q⟩:=h
 obtain ⟨u,rfl,t,rfl⟩:=vals1 r
 have hn:=pv
 exact len_str ⋯ ⟨.int z.length,H,I.tok _,⟨_,rfl⟩,q⟩
theorem fG:eZ X (.type "list") (fun xs H Q=>∃ p ys,xs=[.ref p]/\(SqL X.K H p ys\/SqT X.K H p ys)/\∀ l,H l=none->Q (.ref l) (upd H l (.lst ys))):=by
 intro pins s σ H xs us Q I r h
 obtain ⟨p,ys,rfl,hq,q⟩:=h
 obtain ⟨u,rfl,rx⟩:=vals1 r
 cases rx
 have fin:∀ (its:List Value),Vals ys its->ys.length<=sizeLine->∀ (h':Heap) (c':Nat),(∀ b o',s.heap.get? b=some o'->h'.get? b=some o') ->
   h'.get? s.heap.objs.size=some { cls:=.type "list",dict:=none,data:=.seq its.toArray c',slots := #[] }->EP X pins σ Q (.ref s.heap.objs.size) { s with heap:=h' }:=fun its r' hz h' c' kp e =>
  ⟨.ref s.heap.objs.size,_,I.laid (t':=s.toks) kp ↥23 (show gO X.prog X.w _ h' _ (.lst ys) from ⟨hz,its,c',r',e⟩),rfl,q _ (I.hok.fresh ↥23)⟩
 rcases hq with hq | hq
 ·obtain ⟨its,r',pl,hz⟩:=I.list hq
  have hlen:=r'.length
  obtain ⟨o,ho,hc,n,hd⟩:=pl.isList
  exact call_list_seq p (.inl rfl) ho hc hd (fun h' c' kp e=>fin its r' hz h' c' kp e) (by simp only [List.size_toArray]<;>omega)
 ·obtain ⟨its,r',pl,hz⟩:=I.tuple hq
  have hlen:=r'.length
  obtain ⟨o,ho,hc,n,hd⟩:=pl
  exact call_list_seq p (.inr rfl) ho hc hd (fun h' c' kp e=>fin its r' hz h' c' kp e) (by simp only [List.size_toArray]<;>omega)
def tyV (K:PySem.W.Frag) (T:String) (x:V) (H:Hp):Prop:=match x with
 | .str _=>T="str"
 | .int _=>T="int"
 | .ref p=>(T="list"/\∃ xs,SqL K H p xs)\/(T="tuple"/\∃ o,K.lookup p=some o/\o.cls=.type "tuple"/\o.dict=none) \/
   (T="dict"/\((∃ kvs,H p=some (.dK kvs))\/∃ kvs,H p=some (.dT kvs)))\/(T="set"/\∃ S n,H p=some (.set S n))
 | _=>False
theorem AS {pins:List ↥10} {σ:St} {H:Hp} {s:Shared} {T:String} {x:V} {v:Value} (I:Inv X pins σ H s) (r:RelV x v) (ty:tyV X.K T x H) :
  s.TypeIs v T/\∀ a,v=.ref a->∃ ob,s.heap.get? a=some ob/\ob.dict=none:=by
 cases x with
 | str z =>
  obtain ⟨t,rfl⟩:=r
  cases (show T="str" from ty)
  exact ⟨typeIs_str s z t,fun _ e=>nomatch e⟩
 | int i =>
  obtain ⟨t,rfl⟩:=r
  cases (show T="int" from ty)
  exact ⟨typeIs_int s i t,fun _ e=>nomatch e⟩
 | ref p =>
  cases r
  rcases ty with ⟨rfl,xs,hq⟩ | ⟨rfl,o,hk,hc,hd⟩ | ⟨rfl,hk⟩ | ⟨rfl,S,n,hk⟩
  ·obtain ⟨its,_,pl,_⟩:=I.list hq
   refine ⟨pl.isList.typeIs,fun a e => ?_⟩
   cases e
   obtain ⟨o,n,e,c,hd,_⟩:=pl
   exact ⟨o,e,hd⟩
  ·refine ⟨⟨o,I.kIn p o hk,hc⟩,fun a e => ?_⟩
   cases e
   exact ⟨o,I.kIn _ o hk,hd⟩
  ·have z:∃ o,s.heap.get? p=some o/\o.ExactDict:=by
    rcases hk with ⟨kvs,hk⟩ | ⟨kvs,hk⟩
    ·obtain ⟨_,_,_,_,o,_,_,e,ex,_⟩:=I.hok p _ hk
     exact ⟨o,e,ex⟩
    ·obtain ⟨_,_,_,_,o,_,_,e,ex,_⟩:=I.hok p _ hk
     exact ⟨o,e,ex⟩
   obtain ⟨o,e,ex⟩:=z
   refine ⟨⟨o,e,ex.1⟩,fun a e2 => ?_⟩
   cases e2
   exact ⟨o,e,ex.2.1⟩
  ·obtain ⟨o,_,_,_,e,ex,_⟩:=I.hok p _ hk
   refine ⟨⟨o,e,ex.1⟩,fun a e2 => ?_⟩
   cases e2
   exact ⟨o,e,ex.2.1⟩
 | _=>exact False.elim ty
def ND (K:PySem.W.Frag) (T:String) (r:V->List V->Hp->VK->Prop) (to:TE):TE:=fun σ H Q=>to σ H fun x H1=>tyV K T x H1/\r x [] H1 Q
def tBM (K:PySem.W.Frag) (T:String) (r:V->List V->Hp->VK->Prop) (to:TE) (t:TA):TE:=fun σ H Q=>to σ H fun x H1=>tyV K T x H1/\t σ H1 fun xs H2=>r x xs H2 Q
variable {o e:Expr} {es:List Expr} {to:TE} {t:TA} {name:Str} {apos cpos:Pos} {T id:String} {r:V->List V->Hp->VK->Prop}
theorem GO (pa:PlainAttrs T) (slot:Slot T name id) (hty:typeOf (.builtin id)=pure (.type "method_descriptor")) (hm:MtR X id r) (ho:PE X o to)
  (hbase:attributeBase o name X.env (eval o X.env)=eval o X.env:=by rfl) (hline:(apos.endLine == cpos.line)=true:=by rfl):PE X (.Call (.Attribute o name apos) [] [] cpos) (ND X.K T r to):=by
 intro pins s σ H Q I h
 refine wpAny_Call_method0_late hbase hline (thn (ho pins s σ H _ I h) fun v s1 ⟨x,H1,I1,r1,ty,q1⟩ => ?_)
 obtain ⟨h1,h2⟩:=AS I1 r1 ty
 exact ⟨T,id,pa,slot,hty,h1,h2,Calls.callWith_builtin rfl (PySem.evalArgs_none (hm pins s1 σ H1 x [] v [] Q I1 r1 .nil q1))⟩
theorem zt (pa:PlainAttrs T) (slot:Slot T name id) (hty:typeOf (.builtin id)=pure (.type "method_descriptor")) (hm:MtR X id r) (ho:PE X o to) (ha:PA X (e::es) t)
  (hbase:attributeBase o name X.env (eval o X.env)=eval o X.env:=by rfl)
  (hfew:((backTo cpos (starEach (e::es) X.env)).all (fun x => !x.1)&&(backToKw cpos (keywordEach [] X.env)).all (fun x=>x.1.isSome)
   && decide ((e::es).length+([]:List Keyword).length+(if ([]:List Keyword).isEmpty then 0 else 1)<30))=true:=by rfl)
  (hline:(apos.endLine == cpos.line)=true:=by rfl) (hs:starEach (e::es) X.env=↥27::starEach es X.env:=by rfl) (hplain:(backTo cpos (starEach es X.env)).any (·.1)=false:=by rfl) :
  PE X (.Call (.Attribute o name apos) (e::es) [] cpos) (tBM X.K T r to t):=by
 intro pins s σ H Q I h
 refine wpAny_Call_method_late hbase hfew hline rfl (thn (ho pins s σ H _ I h) fun v s1 ⟨x,H1,I1,r1,ty,q1⟩ => ?_)
 obtain ⟨h1,h2⟩:=AS I1 r1 ty
 refine ⟨T,id,pa,slot,hty,h1,h2,?_⟩
 have hA:=ha cpos pins s1 σ H1 _ I1 q1
 rw [hs] at hA ⊢
 refine Calls.callWith_builtin (by show (false||(backTo cpos (starEach es X.env)).any (·.1))=false;rw [hplain]<;>rfl) (Calls.evalArgs_plain ?_)
 exact thn hA fun us s2 ⟨vs,H2,I2,r2,q2⟩=>hm pins s2 σ H2 x vs v us Q I2 r1 r2 q2
/- xs.append(e),list.index on a module's tuple .. are MtR facts of 06m -/
end
end L2
namespace L2
open PySem PySem.Spec PyProof.Rows
def MtM (X:Cx) (id:String) (r:V->List V->Hp->VK->Prop):Prop :=
 ∀ (pins:List ↥10) (s:Shared) (σ:St) (H:Hp) (x:V) (xs:List V) (v:Value) (us:List Value) (Q:VK),Inv X pins σ H s->RelV x v->Vals xs us->r x xs H Q ->
  wpAny ↥5 X.A (call (.builtin id) (v::us)) (EP X pins σ Q) X.xe s
theorem Vals.one:∀ {x:V} {us:List Value},Vals [x] us->∃ u,us=[u]/\RelV x u
 | _,_,.cons r .nil=>⟨_,rfl,r⟩
theorem Vals.rep {xs:List V} {us:List Value} (h:Vals xs us):∀ k:Nat,Vals (List.replicate k xs).flatten (List.replicate k us).flatten
 | 0=>.nil
 | k+1=>by
  rw [List.replicate_succ,List.replicate_succ,List.flatten_cons,List.flatten_cons]
  exact Vals.append h (Vals.rep h k)
theorem foldl_rep (its:List Value):∀ (k:Nat) (acc:List Value),
  List.foldl (fun x1 x2=>x1++x2) acc.toArray (List.replicate k its.toArray)=(acc++(List.replicate k its).flatten).toArray
 | 0,acc=>by simp
 | k+1,acc=>by
  have e:acc.toArray++its.toArray=(acc++its).toArray:=by simp
  have e2:(acc++its)++(List.replicate k its).flatten=acc++(List.replicate (k+1) its).flatten:=by
   rw [List.replicate_succ,List.flatten_cons,List.append_assoc]
  rw [<- e2,<-foldl_rep its k (acc++its),<-e,List.replicate_succ,List.foldl_cons]
section
variable {X:Cx} {pins:List ↥10} {σ:St} {H:Hp} {s:Shared} {l b:Addr} {xs ys zs:List V}
theorem Inv.lset {its its':List Value} {n:Nat} {f:Array Value->Array Value} {t':Nat} (I:Inv X pins σ H s) (hH:H l=some (.lst xs))
  (e:s.heap.get? l=some { cls:=.type "list",data:=.seq its.toArray n }) (hf:f its.toArray=its'.toArray) (hv:Vals ys its') (hz:ys.length<=sizeLine) :
  Inv X pins σ (upd H l (.lst ys)) { s with heap:=s.heap.update l (Obj.mapSeq f),toks:=t' }:=by
 have q:=PySem.IsL.update e f
 rw [hf] at q
 refine I.write (x:=l) (e:=l) (by rw [hH];exact trivial) (.inl rfl) (fun b' u hb hu=>(Heap.get?_update_other s.heap (Obj.mapSeq f) (Ne.symm hb)).trans hu) ⟨_,q⟩ ?_
 exact ⟨hz,its',_,hv,q⟩
theorem Inv.lnew {its:List Value} {t':Nat} (I:Inv X pins σ H s) (hv:Vals ys its) (hz:ys.length<=sizeLine) :
  Inv X pins σ (upd H s.heap.objs.size (.lst ys)) { s with heap:=s.heap.push { cls:=.type "list",data:=.seq its.toArray },toks:=t' } :=
 I.laid (fun _ _ q=>Heap.get?_push_of_some _ q) ↥23 ⟨hz,its,0,hv,Heap.get?_push_size _ rfl⟩
theorem Inv.fresh (I:Inv X pins σ H s):H s.heap.objs.size=none:=I.hok.fresh ↥23
theorem Inv.lstM (I:Inv X pins σ H s) (hH:H l=some (.lst xs)):xs.length<=sizeLine/\∃ (its:List Value) (n:Nat),Vals xs its/\xs.length=its.length/\s.heap.get? l=some { cls:=.type "list",data:=.seq its.toArray n }:=by
 obtain ⟨z,its,n,r,e⟩:=I.hok l _ hH
 exact ⟨z,its,n,r,r.length,e⟩
theorem sI {n:Nat} (h:n<=sizeLine):Builtin.List.listTooLong n=false:=by
 unfold Builtin.List.listTooLong
 exact decide_eq_false ⋯
end
section
variable {X:Cx}
def CZ:V->List V->Hp->VK->Prop:=fun x vs H Q=>∃ l xs y,x=.ref l/\vs=[y]/\H l=some (.lst xs)/\xs.length<sizeLine/\Q .non (upd H l (.lst (xs++[y])))
theorem ia:MtM X "list.append" CZ:=by
 intro pins s σ H x vs v us Q I rx rv h
 obtain ⟨l,xs,y,rfl,rfl,hH,hz,q⟩:=h
 cases rx
 obtain ⟨u,rfl,ru⟩:=rv.one
 obtain ⟨z,its,n,r,hl,e⟩:=I.lstM hH
 refine call_meets F.slot_list_append ⟨_,e,rfl⟩ F.entry_list_append (F.args_list_append_2 _ _) (PySem.list_append l its.toArray n u (by rw [List.size_toArray];omega)) ⟨e,?_⟩
 refine ⟨.non,_,I.lset (its':=its++[u]) hH e (by simp) (r.append (.cons ru .nil)) ?_,rfl,q⟩
 rw [List.length_append,List.length_singleton]
 omega
theorem len_rep {α:Type} (xs:List α) (k:Nat):(List.replicate k xs).flatten.length=k*xs.length:=by
 induction k with
 | zero=>simp
 | succ k ih=>rw [List.replicate_succ,List.flatten_cons,List.length_append,ih,Nat.succ_mul,Nat.add_comm]
end
section
variable {prog:Program} {w:World} {A:Around} {E:Value->Shared->Prop} {s:Shared}
end
section
variable {X:Cx}
end
end L2
namespace Att
open PySem PySem.W PySem.Calls PyProof.Rows
theorem kJ {P:Params} {h:Heap}:∀ (ns:List Int) (vs:List Value),WellAll P h vs (ns.map WData.int)->IntsAre vs ns:=by
 intro ns
 induction ns with
 | nil =>
  intro vs w
  rw [List.map_nil] at w
  cases w
  exact .nil
 | cons n ns ih =>
  intro vs w
  rw [List.map_cons] at w
  cases w with
  | cons a b =>
   cases a
   exact .cons _ _ (ih _ b)
theorem vp {l:OpenLaw} {n:Nat} (hn:l.most=some n) {P:Params} {h:Heap} {args:List WData} {vals:List Value}
  (hpre:l.row.toRowW.claim.pre args=true) (hwl:WellAll P h vals args) :
  ∃ a vs ns,vals=[Value.ref a]/\args=[WData.list (ns.map WData.int)]/\h.get? a=some { cls:=.type "list",data:=.seq vs.toArray }/\IntsAre vs ns/\ns.length<=n:=by
 have hsh:WShape.hasAll [] args [.list .int]=true:=(pre_splitW hpre).1
 have hc:l.pre.holds [] { args:=args }=true:=(pre_splitW hpre).2
 obtain ⟨d,r,rfl,h1,h2⟩:=hasAllW_cons hsh
 obtain rfl:=hasAllW_nil h2
 obtain ⟨xs,rfl,h3⟩:=hasW_list h1
 obtain ⟨ns,rfl⟩:=items_int h3
 have hlen:ns.length<=n:=by
  unfold OpenLaw.pre at hc
  have h4:(WTm.not (.lt (.lit (.int (n:Int))) (.len (.arg 0)))).holds [] { args:=[.list (ns.map .int)] }=true:=by
   have h4:=(holds_andW hc).1
   rw [hn] at h4
   exact h4
  have h5:=condW_of h4 (w_not (w_lt w_lit (w_len_list (w_arg rfl))))
  rw [List.length_map] at h5
  refine Nat.le_of_not_lt fun q => ?_
  have q':(n:Int)<((ns.length:Nat):Int):=⋯
  first
   | (rw [decide_eq_true q'] at h5;exact absurd h5 ↥3)
   | (simp at h5;omega)
 cases hwl with
 | cons w1 w2 =>
  cases w2
  cases w1 with
  | list ho hall=>exact ⟨_,_,ns,rfl,rfl,ho,kJ ns _ hall,hlen⟩
theorem vG (l:OpenLaw) (args:List WData):l.row.toRowW.claim.post args (.bool true) args=true :=
 postW_of (r:=l.row.toRowW) (X:=(true == true))
  (show WShape.has [] (.bool true) .bool=true by first | rfl | decide | simp [WShape.has,WShape.arms,WShape.armsAll])
  (show (WTm.eq .res (.lit (.bool true))).value [] { args:=args,res:=some (.bool true),after:=args }=some (.bool (true == true)) from w_eq_bool (w_res rfl) w_lit) rfl
section
variable {prog:Program} {w:World} {A:Around} {E:Value->Shared->Prop} {s:Shared} {K:Frag}
def ledger (h:Heap) (L d:Addr):List ↥10:=(List.range h.objs.size).filterMap fun a=>if a=L\/a=d then none else (h.get? a).map fun o=>(a,o)
end
end Att
namespace L2
open PySem PySem.Spec PyProof.Rows
theorem oo:∀ {vs:List Value} {ns:List Int},IntsAre vs ns->Vals (ns.map V.int) vs
 | _,_,.nil=>.nil
 | _,_,.cons n t h=>.cons ⟨t,rfl⟩ (oo h)
def Nb (H:Hp):Prop:=∀ b,H b=none\/∃ o xs,H b=some (.frz o (.lst xs))
theorem zZ {P:Program} {w:World} {K:PySem.W.Frag} {mg mb:Str->Option Value} {CX:CXT} {k:Nat} {fa a:Addr} {fd:FuncData} {x:Str} {sp:Sp} {s₁:Shared} {vs:List Value} {ns:List Int}
  (KX:K.In s₁.heap) (hns:s₁.heap.Ns mainGlobals mg) (hb:s₁.heap.Ns builtinsNs mb) (hbb:∀ x:Str,x≠"__name__"->mb x=bootBuiltins x) (hlim:s₁.heap.NoLimit) (hg:s₁.gens = #[])
  (ha:s₁.heap.get? a=some { cls:=.type "list",data:=.seq vs.toArray }) (hi:IntsAre vs ns) (hl:ns.length<=sizeLine) (hr:Room k callerA)
  (F:∀ base:Heap,K.In base->base.Ns mainGlobals mg->FnOk P w K mg base CX k fa fd [x] sp) (hbind:∀ (s:Shared) (u:Value),BindsTo s fd ⟨[u],[]⟩ [(x,u)])
  (hsp:∀ H:Hp,Nb H->SqL K H a (ns.map V.int)->sp [.ref a] H (fun v _=>v=.bl true) fun _ _ _=>False)
  (hCX:∀ H e s',CX [] H s₁ (fun _ _ _=>False) e s'->False) :
  codeAny (model P w) callerA (.call (.ref fa) ⟨[.ref a],[]⟩) (fun r s'=>r=.ok (.ret (.bool true))/\OldK s₁.heap s'.heap/\s'.os=s₁.os/\AllBare s'.gens) s₁:=by
 have rv:=oo hi
 have lenV:=hi.length
 have core:∀ H:Hp,Nb H->SqL K H a (ns.map V.int)->HOk P w H s₁.heap->(∀ b,H b≠none->b=a)->(H a≠none->K.lookup a=none) ->
   codeAny (model P w) callerA (.call (.ref fa) ⟨[.ref a],[]⟩) (fun r s'=>r=.ok (.ret (.bool true))/\OldK s₁.heap s'.heap/\s'.os=s₁.os/\AllBare s'.gens) s₁:=by
  intro H hO hS hok hA hK
  have base_of:∀ {b:Addr} {o:Obj},s₁.heap.get? b=some o->H b=none->(Ae s₁.heap H).get? b=some o:=fun e n=>Ad e n
  have noA:∀ {b:Addr} {o:Obj} {es:Array DictEntry} {ep:Nat},s₁.heap.get? b=some o->o.data=.dict es ep->H b=none:=fun {b o es ep} e d=>by
   cases q:H b with
   | none=>rfl
   | some u =>
    have e':b=a:=hA b (by rw [q];simp)
    subst e'
    rw [ha] at e;cases e
    have d':Data.seq vs.toArray _=Data.dict es ep:=d
    cases d'
  have nsK:∀ {b:Addr} {m:Str->Option Value},s₁.heap.Ns b m->(Ae s₁.heap H).Ns b m:=fun {b m} ⟨o,es,ep,e,d,r⟩=>⟨o,es,ep,base_of e (noA e d),d,r⟩
  have hKb:K.In (Ae s₁.heap H):=fun b o e=>base_of (KX b o e) (by
   cases q:H b with
   | none=>rfl
   | some u =>
    have e':b=a:=hA b (by rw [q];simp)
    subst e'
    rw [hK (by rw [q];simp)] at e;cases e)
  have hM:Mod K mg (Ae s₁.heap H):=⟨hKb,nsK hns,⟨mb,nsK hb,hbb⟩,let ⟨mc,h1,h2⟩:=hlim;⟨mc,nsK h1,h2⟩⟩
  have e0:Env0 P w K mg (Ae s₁.heap H) callerA [] s₁ H:=⟨rfl,hM,fun b o e=>Dv e,Nat.le_of_eq (wZ _ _),trivial,fun b hb=>absurd (show b∈([]:List Addr) from hb) (by simp),hok,.of_eq hg⟩
  refine codeAny_mono ((F _ hKb (nsK hns)).run callerA [] s₁ H ⟨[.ref a],[]⟩ [.ref a] [.ref a] _ _ hr e0 (hbind s₁ (.ref a)) (.cons rfl .nil) (hsp H hO hS)) fun r s' h => ?_
  cases r with
  | error e=>exact (hCX H e s' h).elim
  | ok fl =>
   cases fl with
   | next=>exact False.elim h
   | brk=>exact False.elim h
   | cont=>exact False.elim h
   | ret u =>
    obtain ⟨v,H',os,bare,un,hok',r',q⟩:=h
    have q':v=.bl true:=q
    subst q'
    obtain rfl:u=Value.bool true:=r'
    refine ⟨rfl,OldK.of_keep fun b o e => ?_,os,bare⟩
    cases q:H b with
    | none=>exact un.keep b o e q (by intro z;exact absurd (show b∈([]:List Addr) from z) (by simp)) (by simp)
    | some u =>
     rcases hO b with z | ⟨ob,xs,z⟩
     ·rw [q] at z;cases z
     ·have z2:=un.frzs b ob _ z
      obtain ⟨e1,_⟩:=hok b _ z
      obtain ⟨e2,_⟩:=hok' b _ z2
      rw [e] at e1;cases e1
      exact e2
 cases hk:K.lookup a with
 | some o =>
  have e:=KX a o hk
  rw [ha] at e
  cases e
  refine core (fun _=>none) (fun _=>.inl rfl) (.inr ⟨_,vs.toArray,_,hk,rfl,rfl,rfl,by rw [List.size_toArray,lenV];exact hl,by simpa using rv⟩) (fun b u z=>by have z':(none:Option HO)=some u:=z;cases z') (fun b z=>absurd rfl z) fun z=>absurd rfl z
 | none =>
  refine core (fun b=>if b=a then some (.frz { cls:=.type "list",data:=.seq vs.toArray } (.lst (ns.map V.int))) else none) (fun b => ?_) (.inl (.inr ⟨{ cls:=.type "list",data:=.seq vs.toArray },if_pos rfl⟩)) (fun b u z => ?_) (fun b z => ?_) fun _=>hk
  ·by_cases hb:b=a
   ·exact .inr ⟨_,_,if_pos hb⟩
   ·exact .inl (if_neg hb)
  ·by_cases hb:b=a
   ·have z':=(if_pos hb).symm.trans z
    cases z'
    subst hb
    exact ⟨ha,by rw [List.length_map];exact hl,vs,_,rv,ha⟩
   ·have z':=(if_neg hb).symm.trans z
    cases z'
  ·by_cases hb:b=a
   ·exact hb
   ·exact absurd (if_neg hb) z
end L2
namespace L2
open PySem PySem.Spec PyProof.Rows
abbrev KOf {K:PySem.W.Frag} {h:Heap} (_:K.In h):PySem.W.Frag:=K
end L2
/- THE LAST THEOREM (shape;LID,My.* are yours):
   My.Adr: a structure of the addresses that your layer names (classes,functions);My.Txt K t: a structure (Prop) of the equations over K;
   My.txt_mk:{K} {implicit addresses ..} (e1:nsIn K mainGlobals "law"=some (some (.ref f))) (e2:K.lookup f=some ⟨oc,od,.func (fnOf "law" "law" params body scope dV kV doc pm an cdv ct),sl⟩) (e3:codeIn K cdv "law"=true) .. : ∃ t,My.Txt K t
set_option maxHeartbeats 0 in
theorem PySem.Challenge.cw_LID_holds : PySem.Challenge.rw_LID.Holds := by
 w_on;o_law;k_head;(case hw=>w_witness2)
 k_fill
 refine L2.walk_of (l:=PySem.Challenge.rw_LID) (n:=63) (k:=40) (x:="script") (CX:=fun w=>..) (sp:=fun _=>My.sp_law) rfl ↥3 rfl ⟨rfl,by decide,by decide⟩ (fun w h Y=>PySem.W.kIn_of Y) ?F ?S ?C
 case F =>
  intro w mg fa h KX G hmg
  have T:∃ t,My.Txt (L2.KOf KX) t:=by
   dsimp only [L2.KOf]                          -- K must F5 as «<heap const> w.params» for k_is
   refine' My.txt_mk ?e1 ?e2 ?e3 ..
   (case e1=>PySem.W.k_is)                    -- in the order: a name->its address->its object->its parts
   (case e2=>PySem.W.k_is)
   ..
  obtain ⟨t,T⟩:=T
  have e0:=hmg.symm.trans (PySem.W.mg_of KX G T.law)
  cases e0                                       -- fa is the law's own address
  exact ⟨_,fun s u=>.of_eq rfl,fun base kb nb=>My.law_fn T kb nb⟩     -- if «.of_eq rfl» comes too early: refine' ⟨_,?b,fun base kb nb=>My.law_fn T kb nb⟩;exact fun s u=>.of_eq rfl
 case S=>exact fun w H a ns hl hO hS=>..
 case C=>exact ..
(the tactic k_is has no namespace: write k_is) -/
namespace L2
open PySem PySem.Spec PyProof.Rows
def dg (s:Stmt):Arguments:=match s with
 | .FunctionDef _ a _ _ _ _ _ _ _ _=>a
 | _=>{ posonlyargs:=[],args:=[],vararg:=none,kwonlyargs:=[],kw_defaults:=[],kwarg:=none,defaults:=[] }
def ah (s:Stmt):List Stmt:=match s with
 | .FunctionDef _ _ b _ _ _ _ _ _ _=>b
 | _=>[]
def aa (s:Stmt):Scope:=match s with
 | .FunctionDef _ _ _ _ _ _ sc _ _ _=>sc
 | _=>{ kind:=.function,names:=[],isGenerator:=false,isCoroutine:=false }
abbrev CX0:CXT:=fun _ _ _ _ _ _=>False
abbrev E0:XK:=fun _ _ _=>False
theorem JO {X:Cx}:Passes CX0 X E0:=fun _ _ _ _ _ _ _ h=>h.elim
structure Fun (K:PySem.W.Frag) (x qual:Str) (st:Stmt) (f:Addr) (fd:FuncData):Prop where
 ex:∃ (oc:Value) (od:Option Addr) (kV doc pm:Value) (an:Option Addr) (cdv ct:Value) (osl:Array (Option Value)),
  fd=PySem.W.fnOf x qual (dg st) (ah st) (aa st) .none kV doc pm an cdv ct/\K.lookup f=some ⟨oc,od,.func fd,osl⟩/\PySem.W.codeIn K cdv qual=true
 kp:PySem.W.keepIn K (.ref f)=true
section
variable {P:Program} {w:World} {K:PySem.W.Frag} {mg:Str->Option Value} {base:Heap}
theorem Fun.ok {x qual:Str} {st:Stmt} {f:Addr} {fd:FuncData} {N ps:List Str} {k:Nat} {sp:Sp} (F:Fun K x qual st f fd) (S:FnScope N ps (aa st)) (len:∀ vs H Q E,sp vs H Q E->vs.length=ps.length)
  (hbody:∀ (cdv:Value) (A:Around) (outer:List Env) (s:Shared) (H:Hp) (vs:List V) (Q:VK) (E:XK),Room k (A.deeper (envOfC qual (aa st) s.heap.objs.size f cdv))->sp vs H Q E ->
   ∃ t,PSs (uT CX0 P w K mg base N qual (aa st) f cdv A outer s H E).nox (ah st) t/\t { nx:=fun _ H'=>Q .non H',rt:=Q } (start N vs) H):FnOk P w K mg base CX0 (k+1) f fd ps sp:=by
 obtain ⟨oc,od,kV,doc,pm,an,cdv,ct,osl,rfl,lk,hcd⟩:=F.ex
 refine Ee lk hcd S len fun A outer s H vs Q E hr hsp => ?_
 obtain ⟨t,h,q⟩:=hbody cdv A outer s H vs Q E hr hsp
 exact ⟨t,h.nox,q⟩
theorem Fun.binds {x qual:Str} {st:Stmt} {f:Addr} {fd:FuncData} {ps:List Str} (F:Fun K x qual st f fd)
  (h:∀ (kV doc pm:Value) (an:Option Addr) (cdv ct:Value) (us:List Value),us.length=ps.length->bindArgs ↥0 ⟨us,[]⟩=pure (ps.zip us)):Binds K fd ps []:=by
 obtain ⟨oc,od,kV,doc,pm,an,cdv,ct,osl,rfl,lk,hcd⟩:=F.ex
 exact .all (h kV doc pm an cdv ct)
theorem kK {x qual:Str} {st:Stmt} {f:Addr} {oc:Value} {od an:Option Addr} {osl:Array (Option Value)} {kV doc pm cdv ct:Value} (l:K.lookup f=some ⟨oc,od,.func ↥0,osl⟩)
  (c:PySem.W.codeIn K cdv qual=true) (k:PySem.W.keepIn K (.ref f)=true):Fun K x qual st f ↥0:=⟨⟨oc,od,kV,doc,pm,an,cdv,ct,osl,rfl,l,c⟩,k⟩
end
theorem j4 {n:Nat} (h:n<=1000):n<sizeLine:=Nat.lt_of_le_of_lt h ↥3
section
variable {X:Cx}
end
theorem Bi {A B:Prop} (h:B):if false=true then A else B:=by
 rw [if_neg Bool.false_ne_true]
 exact h
theorem E3 {A B:Prop} (h:A):if true=true then A else B:=by
 rw [if_pos rfl]
 exact h
def aq (H H':Hp):Prop:=∀ b o,H b=some o->H' b=some o
theorem aq.refl (H:Hp):aq H H:=fun _ _ h=>h
theorem aq.trans {H H1 H2:Hp} (a:aq H H1) (b:aq H1 H2):aq H H2:=fun c o h=>b c o (a c o h)
theorem aq.seq {K:PySem.W.Frag} {H H':Hp} {a:Addr} {xs:List V} (e:aq H H') (h:SqL K H a xs):SqL K H' a xs:=by
 rcases h with (h | ⟨o,h⟩) | h
 ·exact .inl (.inl (e _ _ h))
 ·exact .inl (.inr ⟨o,e _ _ h⟩)
 ·exact .inr h
end L2
namespace EV
open PySem (Str)
inductive D where
 | non | bl (b:Bool) | int (i:Int) | str (x:Str) | tup (ds:List D) | lst (ds:List D) | own (ds:List D)
 | ty (n:String) | cls (n:String) | exc (n:String) | ins (n:String) (fs:List (String×D))
noncomputable instance:Inhabited D:=⟨.non⟩
inductive R (α:Type) where
 | ok (a:α) | ex (C:String) | bad
namespace R
def bind {α β:Type}:R α->(α->R β)->R β
 | .ok a,f=>f a
 | .ex C,_=>.ex C
 | .bad,_=>.bad
end R
abbrev Dt:=List (Option D)
abbrev E:=Dt->R D
inductive O where
 | nx (δ:Dt) | rt (d:D) | bk (δ:Dt) | ct (δ:Dt) | ex (C:String) (δ:Dt) | mk (C:String) (δ:Dt) | hx (C:String) (δ:Dt) | bad
abbrev S:=Dt->O
def pw (k:Int):Int:=2^k.toNat
def nb (i:Int):Nat:=if i=0 then 0 else i.natAbs.log2+1
def MulOk (i j:Int):Prop:=nb i+nb j<=134217728
def iM (i j:Int):Prop:=0<j/\(nb j<=9000\/nb i<=nb j+4000)
noncomputable instance {i j:Int}:Decidable (MulOk i j):=inferInstanceAs (Decidable (_<=_))
noncomputable instance {i j:Int}:Decidable (iM i j):=inferInstanceAs (Decidable (_/\_))
def bu:D->D->R D
 | .int i,.int j=>.ok (.int (i+j))
 | .str x,.str y=>if x.cps.size+y.cps.size<=1000000 then .ok (.str ⟨x.cps++y.cps⟩) else .bad
 | .lst xs,.lst ys=>if xs.length+ys.length<=100000 then .ok (.lst (xs++ys)) else .bad
 | .tup xs,.tup ys=>if xs≠[]/\xs.length+ys.length<=100000 then .ok (.tup (xs++ys)) else .bad
 | _,_=>.bad
def cu:D->D->R D
 | .int i,.int j=>.ok (.int (i - j))
 | _,_=>.bad
def hZ:D->D->R D
 | .int i,.int j=>if MulOk i j then .ok (.int (i*j)) else .bad
 | _,_=>.bad
def oDiv:D->D->R D
 | .int i,.int j=>if iM i j then .ok (.int (i / j)) else .bad
 | _,_=>.bad
def oMod:D->D->R D
 | .int i,.int j=>if 0<j then .ok (.int (i%j)) else .bad
 | _,_=>.bad
def bD:D->D->R D
 | .int i,.int j=>if 0<=j/\(nb i:Int)+j<=134217728 then .ok (.int (i*pw j)) else .bad
 | _,_=>.bad
def Bd:D->D->R D
 | .int i,.int j=>if 0<=j then .ok (.int (i / pw j)) else .bad
 | _,_=>.bad
def pe:D->D->R D
 | .int i,.int j=>if 0<=i/\0<=j then .ok (.int ((i.toNat &&& j.toNat:Nat):Int)) else .bad
 | _,_=>.bad
def yj:D->D->R D
 | .int i,.int j=>if 0<=i/\0<=j then .ok (.int ((i.toNat ||| j.toNat:Nat):Int)) else .bad
 | _,_=>.bad
def qK:D->D->R D
 | .int i,.int j=>if 0<=i/\0<=j then .ok (.int ((i.toNat ^^^ j.toNat:Nat):Int)) else .bad
 | _,_=>.bad
def qI:D->R D
 | .int i=>.ok (.int (-i))
 | _=>.bad
def oLt:D->D->R D
 | .int i,.int j=>.ok (.bl (decide (i<j)))
 | _,_=>.bad
def oLe:D->D->R D
 | .int i,.int j=>.ok (.bl (decide (i<=j)))
 | _,_=>.bad
def oGt:D->D->R D
 | .int i,.int j=>.ok (.bl (decide (j<i)))
 | _,_=>.bad
def oGe:D->D->R D
 | .int i,.int j=>.ok (.bl (decide (j<=i)))
 | _,_=>.bad
mutual
def D.beq:D->D->Bool
 | .non,.non=>true
 | .bl a,.bl b=>a == b
 | .bl a,.int b=>(if a then 1 else 0) == b
 | .int a,.bl b=>a == (if b then 1 else 0)
 | .int a,.int b=>a == b
 | .str a,.str b=>a == b
 | .tup a,.tup b=>D.beqs a b
 | .lst a,.lst b=>D.beqs a b
 | _,_=>false
def D.beqs:List D->List D->Bool
 | [],[]=>true
 | a::as,b::bs=>D.beq a b&&D.beqs as bs
 | _,_=>false
end
def D.sc:D->Bool
 | .non=>true | .bl _=>true | .int _=>true | .str _=>true
 | _=>false
def D.pl:Nat->D->Bool
 | _,.non=>true
 | _,.bl _=>true
 | _,.int _=>true
 | _,.str x=>x.cps.all (· < 0x110000)
 | n+1,.tup ds=>ds.all (D.pl n)
 | n+1,.lst ds=>ds.all (D.pl n)
 | _,_=>false
def D.cmp (a b:D):Bool:=(a.sc&&b.sc)||(D.pl 8 a&&D.pl 8 b)
def oEq (a b:D):R D:=if D.cmp a b then .ok (.bl (D.beq a b)) else .bad
def oNe (a b:D):R D:=if D.cmp a b then .ok (.bl (!D.beq a b)) else .bad
def qJ:D->R D
 | .non=>.ok ↥34
 | _=>.ok ↥33
def qG:D->R D
 | .non=>.ok ↥33
 | _=>.ok ↥34
def isIn (x:D) (ys:List D):Option Bool:=if x.sc&&ys.all D.sc then some (ys.any fun y=>D.beq y x) else none
def oIn (a b:D):R D:=match a,b with
 | .str x,.str y=>match x.cps.toList with | [c]=>.ok (.bl (decide (c∈y.cps.toList))) | _=>.bad
 | a,.tup ds=>match isIn a ds with | some k=>.ok (.bl k) | none=>.bad
 | a,.lst ds=>match isIn a ds with | some k=>.ok (.bl k) | none=>.bad
 | _,_=>.bad
def gB (a b:D):R D:=(oIn a b).bind fun d=>match d with | .bl k=>.ok (.bl (!k)) | _=>.bad
def ixN (n:Nat) (i:Int):Option Nat:=if 0<=i then (if i<n then some i.toNat else none) else if -(n:Int)<=i then some (i+n).toNat else none
def oIx:D->D->R D
 | .tup ds,.int i=>match (ixN ds.length i).bind fun j=>ds[j]? with | some d=>.ok d | none=>.bad
 | .lst ds,.int i=>match (ixN ds.length i).bind fun j=>ds[j]? with | some d=>.ok d | none=>.bad
 | .str x,.int i=>if x.cps.size<=1000000 then (match (ixN x.cps.toList.length i).bind fun j=>x.cps.toList[j]? with | some c=>.ok (.str ⟨#[c]⟩) | none=>.bad) else .bad
 | _,_=>.bad
def sIx (n d:Nat):Option Int->Nat
 | none=>d
 | some i=>if i<0 then (i+n).toNat else min i.toNat n
def cut {α:Type} (xs:List α) (lo hi:Option Int):List α:=(xs.drop (sIx xs.length 0 lo)).take (sIx xs.length xs.length hi - sIx xs.length 0 lo)
def oSl:D->Option Int->Option Int->R D
 | .tup ds,lo,hi=>if sIx ds.length 0 lo=0/\sIx ds.length ds.length hi=ds.length then .bad else .ok (.tup (cut ds lo hi))
 | .lst ds,lo,hi=>.ok (.lst (cut ds lo hi))
 | _,_,_=>.bad
def var (i:Nat):E:=fun δ=>match δ[i]? with
 | some (some (.own _))=>.bad
 | some (some d)=>.ok d
 | _=>.bad
def con (d:D):E:=fun _=>.ok d
def un (f:D->R D) (a:E):E:=fun δ=>(a δ).bind f
def bin (f:D->D->R D) (a b:E):E:=fun δ=>(a δ).bind fun x=>(b δ).bind fun y=>f x y
def truth {β:Type} (d:D) (t f:R β):R β:=match d with
 | .bl true=>t
 | .bl false=>f
 | _=>.bad
def fk (a b:E):E:=fun δ=>(a δ).bind fun d=>truth d (b δ) (.ok ↥33)
def or_ (a b:E):E:=fun δ=>(a δ).bind fun d=>truth d (.ok ↥34) (b δ)
def lP (a:E):E:=fun δ=>(a δ).bind fun d=>truth d (.ok ↥33) (.ok ↥34)
def ife (c a b:E):E:=fun δ=>(c δ).bind fun d=>truth d (a δ) (b δ)
def chain (f g:D->D->R D) (a b c:E):E:=fun δ=>(a δ).bind fun x=>(b δ).bind fun y=>(f x y).bind fun d=>truth d ((c δ).bind fun z=>g y z) (.ok ↥33)
def evs:List E->Dt->R (List D)
 | [],_=>.ok []
 | e::es,δ=>(e δ).bind fun d=>(evs es δ).bind fun ds=>.ok (d::ds)
def gy (es:List E):E:=fun δ=>(evs es δ).bind fun ds=>.ok (.tup ds)
def qP (es:List E):E:=fun δ=>(evs es δ).bind fun ds=>.ok (.lst ds)
def call (f:List D->R D) (es:List E):E:=fun δ=>(evs es δ).bind f
def part:Option E->Dt->R (Option Int)
 | none,_=>.ok none
 | some e,δ=>(e δ).bind fun d=>match d with | .int i=>.ok (some i) | _=>.bad
def slc (a:E) (lo hi:Option E):E:=fun δ=>(a δ).bind fun d=>(part lo δ).bind fun l=>(part hi δ).bind fun h=>oSl d l h
/- data without a list -/
mutual
def D.flat:D->Bool
 | .lst _=>false
 | .own _=>false
 | .tup ds=>D.flats ds
 | .ins _ fs=>D.flatf fs
 | _=>true
def D.flats:List D->Bool
 | []=>true
 | d::r=>D.flat d&&D.flats r
def D.flatf:List (String×D)->Bool
 | []=>true
 | (_,d)::r=>D.flat d&&D.flatf r
end
abbrev IT:=Dt->R (List D)
def oJ (lo hi:Int):List D:=(List.range (hi - lo).toNat).map fun (k:Nat)=>D.int (lo+k)
def asL:D->R (List D)
 | .lst ds=>.ok ds
 | _=>.bad
def asT:D->R (List D)
 | .tup ds=>.ok ds
 | _=>.bad
def asA:D->R (List D)
 | .lst ds=>.ok ds
 | .tup ds=>.ok ds
 | _=>.bad
def Im:D->R (List D)
 | .int hi=>if -(2^62)<=hi/\hi<2^62 then .ok (oJ 0 hi) else .bad
 | _=>.bad
def IJ:List D->R (List D)
 | [.int lo,.int hi]=>if -(2^62)<=lo/\lo<2^62 /\ -(2^62)<=hi/\hi<2^62 then .ok (oJ lo hi) else .bad
 | _=>.bad
def Kw (lo hi c:Int):List D:=(List.range (if lo<hi then (hi - lo - 1) / c+1 else 0).toNat).map fun (k:Nat)=>D.int (lo+k*c)
def II:List D->R (List D)
 | [.int lo,.int hi,.int c]=>if (-(2^40)<=lo/\lo<2^40 /\ -(2^40)<=hi/\hi<2^40)/\0<c/\c<2^20 then .ok (Kw lo hi c) else .bad
 | _=>.bad
def itL (g:E):IT:=fun δ=>(g δ).bind asL
def itT (g:E):IT:=fun δ=>(g δ).bind asT
def itA (g:E):IT:=fun δ=>(g δ).bind asA
def J8 (g:E):IT:=fun δ=>(g δ).bind Im
def O6 (a b:E):IT:=fun δ=>(evs [a,b] δ).bind IJ
def O5 (a b c:E):IT:=fun δ=>(evs [a,b,c] δ).bind II
def oh {α:Type} (r:R α):R α:=match r with
 | .ex _=>.bad
 | r=>r
def inC (ks:List Nat) (δ:Dt) (x:D):Dt:=some x::ks.map fun k=>δ.getD k none
def dH (rs:List D):R D:=if D.flats rs then .ok (.lst rs) else .bad
def runC (st:D->R (Option D)):List D->R (List D)
 | []=>.ok []
 | d::ds=>(st d).bind fun o=>(runC st ds).bind fun rs=>.ok (match o with | some r=>r::rs | none=>rs)
def stC (c elt:E) (ks:List Nat) (δ:Dt) (x:D):R (Option D):=(oh (c (inC ks δ x))).bind fun d=>truth d ((oh (elt (inC ks δ x))).bind fun r=>.ok (some r)) (.ok none)
def fF (it:IT) (ks:List Nat) (c elt:E):E:=fun δ=>(it δ).bind fun ds=>if ds.length<=100000 then (runC (stC c elt ks δ) ds).bind dH else .bad
def comp (it:IT) (ks:List Nat) (elt:E):E:=fF it ks (con ↥34) elt
def uS (cn f:String):D->R D
 | .ins n fs=>if n == cn then (match fs.lookup f with | some d=>.ok d | none=>.bad) else .bad
 | _=>.bad
def dU (cn m:String):D->Bool
 | .ins n fs=>n == cn&&(fs.lookup m).isNone
 | _=>false
def E1 (cn m:String) (F:List D->R D) (o:E) (es:List E):E:=fun δ=>(o δ).bind fun d=>if dU cn m d then (evs es δ).bind fun ds=>F (d::ds) else .bad
def mk1 (cn f:String):List D->R D
 | [d]=>.ok (.ins cn [(f,d)])
 | _=>.bad
def nY:List D->R D
 | [.lst ds]=>.ok (.int ds.length)
 | [.tup ds]=>.ok (.int ds.length)
 | [.str x]=>if x.cps.size<=1000000 then .ok (.int x.cps.size) else .bad
 | _=>.bad
def EI:List D->R D
 | [.int i]=>.ok (.int (if i<0 then -i else i))
 | _=>.bad
def Br:List D->R D
 | [.int i,.int j]=>.ok (.int (if j>i then j else i))
 | _=>.bad
def EF:List D->R D
 | [.int i,.int j]=>.ok (.int (if j<i then j else i))
 | _=>.bad
def uQ:List D->R D
 | [.int i]=>.ok (.int i)
 | [.bl k]=>.ok (.int (if k then 1 else 0))
 | _=>.bad
def rM:List D->R D
 | [.lst ds]=>.ok (.lst ds)
 | [.tup ds]=>.ok (.lst ds)
 | _=>.bad
def intsOf:List D->Option (List Int)
 | []=>some []
 | .int i::r=>(intsOf r).map (i::·)
 | _=>none
def iX:List D->R D
 | [.int i]=>.ok (.int (nb i))
 | _=>.bad
def ak:List String:=["MillError","NoSize","NoBits","NoParts","NoRank","NotFinite","NoWay","NoFlags","NoFraction","Unlike","Empty","NoLeft","NoText","NoRow","NoName","Stopped"]
def Ao (C B:String):Bool:=ak.contains C&&(C == B||B == "MillError")
def tyR (n:String) (b:Bool):R D:=if ["int","bool","str","tuple","list","ValueError"].contains n then .ok (.bl b) else .bad
def O8 (B:String):D->R D
 | .exc C=>if ak.contains C&&ak.contains B then .ok (.bl (C == B||B == "MillError")) else .bad
 | .non=>if ak.contains B then .ok ↥33 else .bad
 | _=>.bad
def O7 (n:String):D->R D
 | .exc C=>if ak.contains C&&n == "ValueError" then .ok ↥34 else .bad
 | .non=>tyR n false
 | .bl _=>tyR n (n == "int"||n == "bool")
 | .int _=>tyR n (n == "int")
 | .str _=>tyR n (n == "str")
 | .tup _=>tyR n (n == "tuple")
 | .lst _=>tyR n (n == "list")
 | _=>.bad
def iW:List D->R D
 | [d,.cls B]=>O8 B d
 | [d,.ty n]=>O7 n d
 | _=>.bad
theorem eG (h:(if c=true then R.ok (D.bl x) else .bad)=.ok (.bl k)):c=true/\x=k:=by
 cases c with
 | true=>cases h;exact ⟨rfl,rfl⟩
 | false=>cases h
theorem Hz (e:r=if b=true then R.ok (D.bl x) else .bad):(∃ d' c' k,[d,c]=[d',c']/\r=.ok (.bl k))\/r=.bad:=by
 subst e
 cases b with
 | true=>exact .inl ⟨_,_,_,rfl,rfl⟩
 | false=>exact .inr rfl
def ma (d:D):List D->R D
 | []=>.ok ↥33
 | c::r=>(iW [d,c]).bind fun x=>truth x (.ok ↥34) (ma d r)
def Kt:List D->R D
 | [d,.tup cs]=>ma d cs
 | _=>.bad
def noOwn (δ:Dt):Dt:=δ.map fun c=>match c with | some (.own _)=>none | c=>c
def view (δ:Dt):Dt:=δ.map fun c=>match c with | some (.own ds)=>some (.lst ds) | c=>c
def ao:S:=.nx
def asg (i:Nat) (δ:Dt) (r:R D):O:=match r with
 | .ok d=>.nx (δ.set i (some d))
 | .ex C=>.ex C (noOwn δ)
 | .bad=>.bad
def xpr (δ:Dt) (r:R D):O:=match r with
 | .ok _=>.nx δ
 | .ex C=>.ex C (noOwn δ)
 | .bad=>.bad
def rtn (δ:Dt) (r:R D):O:=match r with
 | .ok d=>.rt d
 | .ex C=>.ex C (noOwn δ)
 | .bad=>.bad
def ifO (δ:Dt) (r:R D) (a b:O):O:=match r with
 | .ok ↥34=>a
 | .ok ↥33=>b
 | .ex C=>.ex C (noOwn δ)
 | _=>.bad
def assign (i:Nat) (g:E):S:=fun δ=>asg i δ (g δ)
def expr (g:E):S:=fun δ=>xpr δ (g δ)
def ret (g:E):S:=fun δ=>rtn δ (g δ)
def NL:S:=fun _=>.rt .non
def NK (g:E):S:=fun δ=>rtn δ (g (view δ))
def oQ (i:Nat):S:=fun δ=>.nx (δ.set i (some (.own [])))
def gq (i:Nat) (δ:Dt) (f:List D->O):O:=match δ[i]? with
 | some (some (.own ds))=>f ds
 | _=>.bad
def Bt (i:Nat) (δ:Dt) (ds:List D) (r:R D):O:=match r with
 | .ok d=>if D.flat d=true/\ds.length<100000 then .nx (δ.set i (some (.own (ds++[d])))) else .bad
 | .ex C=>.ex C (noOwn δ)
 | .bad=>.bad
def gA (i:Nat) (g:E):S:=fun δ=>gq i δ fun ds=>Bt i δ ds (g (view δ))
def GR (i:Nat):S:=fun δ=>gq i δ fun ds=>.nx (δ.set i (some (.own ds.reverse)))
def E6 (i:Nat) (δ:Dt) (r:R D):O:=match r with
 | .ok d=>if D.flat d=true then .nx (δ.set i (some d)) else .bad
 | .ex C=>.ex C (noOwn δ)
 | .bad=>.bad
def iY (i:Nat) (g:E):S:=fun δ=>E6 i δ (g (view δ))
def Ac (c:E) (a b:S):S:=fun δ=>ifO δ (c (view δ)) (a δ) (b δ)
def AV (i:Nat) (δ:Dt) (r:R D):O:=match r with
 | .ok (.lst rs)=>.nx (δ.set i (some (.own rs)))
 | .ex C=>.ex C (noOwn δ)
 | _=>.bad
def fA (i:Nat) (g:E):S:=fun δ=>AV i δ (g (view δ))
def kr (i:Nat) (g:E):S:=fun δ=>AV i δ (g δ)
def IA (i:Nat) (δ:Dt) (ds:List D) (v k:R D):O:=match v,k with
 | .ok d,.ok (.int k)=>if D.flat d=true/\0<=k/\k<ds.length then .nx (δ.set i (some (.own (ds.set k.toNat d)))) else .bad
 | _,_=>.bad
def GQ (i:Nat) (gk gv:E):S:=fun δ=>gq i δ fun ds=>IA i δ ds (gv (view δ)) (gk (view δ))
def pub (i:Nat) (δ:Dt):Dt:=match δ[i]? with
 | some (some (.own ds))=>δ.set i (some (.lst ds))
 | _=>δ
def C1 (i:Nat) (s:S):S:=fun δ=>s (pub i δ)
def ifs (c:E) (a b:S):S:=fun δ=>ifO δ (c δ) (a δ) (b δ)
def O.then (o:O) (s:S):O:=match o with
 | .nx δ=>s δ
 | o=>o
def seq (a b:S):S:=fun δ=>(a δ).then b
def brk:S:=.bk
def cont:S:=.ct
def raise (C:String):S:=.mk C
def trn (o:O) (k:S):O:=match o with
 | .nx δ1=>k δ1
 | .ct δ1=>k δ1
 | .bk δ1=>.nx δ1
 | o=>o
def forL (i:Nat) (body:S):List D->S
 | [],δ=>.nx δ
 | d::ds,δ=>trn (body (δ.set i (some d))) (forL i body ds)
def ovL (δ:Dt) (r:R D) (k:List D->O):O:=match r with
 | .ok (.lst ds)=>k ds
 | .ex C=>.ex C (noOwn δ)
 | _=>.bad
def ovT (δ:Dt) (r:R D) (k:List D->O):O:=match r with
 | .ok (.tup ds)=>k ds
 | .ex C=>.ex C (noOwn δ)
 | _=>.bad
def Ke (i:Nat) (g:E) (body:S):S:=fun δ=>ovL δ (g δ) fun ds=>forL i body ds δ
def Kd (i:Nat) (g:E) (body:S):S:=fun δ=>ovT δ (g δ) fun ds=>forL i body ds δ
def ovI (δ:Dt) (r:R (List D)) (k:List D->O):O:=match r with
 | .ok ds=>k ds
 | .ex C=>.ex C (noOwn δ)
 | .bad=>.bad
def xi (i:Nat) (it:IT) (body:S):S:=fun δ=>ovI δ (it δ) fun ds=>forL i body ds δ
def ovR (δ:Dt) (r:R D) (k:List D->O):O:=match r with
 | .ok (.int hi)=>if -(2^62)<=hi/\hi<2^62 then k (oJ 0 hi) else .bad
 | .ex C=>.ex C (noOwn δ)
 | _=>.bad
def Kf (i:Nat) (b:E) (body:S):S:=fun δ=>ovR δ (b δ) fun ds=>forL i body ds δ
def forget (i:Nat) (o:O):O:=match o with
 | .nx δ=>.nx (δ.set i none)
 | _=>.bad
def Ci (o:O) (B:String) (i:Nat) (suite:S):O:=match o with
 | .nx δ1=>.nx δ1
 | .ex C δ1=>if Ao C B then forget i (suite ((noOwn δ1).set i (some (.exc C)))) else .bad
 | _=>.bad
def Nk (body:S) (B:String) (i:Nat) (suite:S):S:=fun δ=>Ci (body δ) B i suite
def O.res:O->R D
 | .rt d=>.ok d
 | .nx _=>.ok .non
 | .ex C _=>.ex C
 | .mk C _=>.ex C
 | .hx C _=>.ex C
 | _=>.bad
def start (n m:Nat) (ds:List D):Dt:=ds.map some++List.replicate (m - n) none
def Good (f:List D->R D):Prop:=∀ ns:List Int,ns.length<=63->(∀ m∈ns,nb m<=2^20)->f [.lst (ns.map .int)]=.ok ↥34
def fn (n m:Nat) (body:S):List D->R D:=fun ds=>if ds.length=n then (body (start n m ds)).res else .bad
end EV
namespace ES
open PySem PySem.Spec PyProof.Rows L2 EV
def Pn (a C:Addr):HO:=.ext fun h=>∃ o vs,h.get? a=some o/\o.cls=.ref C/\o.data=.fields vs
mutual
inductive Rep (K:PySem.W.Frag) (mg:Str->Option Value) (H:Hp):V->D->Prop
 | non:Rep K mg H .non .non
 | bl (b:Bool):Rep K mg H (.bl b) (.bl b)
 | int (i:Int):Rep K mg H (.int i) (.int i)
 | str (x:Str):Rep K mg H (.str x) (.str x)
 | tup {a:Addr} {xs:List V} {ds:List D}:SqT K H a xs->Reps K mg H xs ds->Rep K mg H (.ref a) (.tup ds)
 | lst {a:Addr} {xs:List V} {ds:List D}:SqL K H a xs->Reps K mg H xs ds->Rep K mg H (.ref a) (.lst ds)
 | ty (n:String):Rep K mg H (.ty n) (.ty n)
 | cls {a:Addr} {n:String}:mg n=some (.ref a)->Rep K mg H (.ref a) (.cls n)
 | exc {a C:Addr} {n:String}:mg n=some (.ref C)->H a=some (Pn a C)->Rep K mg H (.ref a) (.exc n)
 | ins {a C dx:Addr} {n:String} {fs:List (Str×V)} {ds:List (String×D)}:mg n=some (.ref C)->H a=some (.ins C dx fs)->Repf K mg H fs ds->Rep K mg H (.ref a) (.ins n ds)
inductive Reps (K:PySem.W.Frag) (mg:Str->Option Value) (H:Hp):List V->List D->Prop
 | nil:Reps K mg H [] []
 | cons {v:V} {d:D} {vs:List V} {ds:List D}:Rep K mg H v d->Reps K mg H vs ds->Reps K mg H (v::vs) (d::ds)
inductive Repf (K:PySem.W.Frag) (mg:Str->Option Value) (H:Hp):List (Str×V)->List (String×D)->Prop
 | nil:Repf K mg H [] []
 | cons {x:String} {v:V} {d:D} {vs:List (Str×V)} {ds:List (String×D)}:Rep K mg H v d->Repf K mg H vs ds->Repf K mg H (((x:Str),v)::vs) ((x,d)::ds)
end
theorem fo {K:PySem.W.Frag} {H H':Hp} {a:Addr} {xs:List V} (e:aq H H') (h:SqT K H a xs):SqT K H' a xs:=by
 rcases h with (h | ⟨o,h⟩) | h
 ·exact .inl (.inl (e _ _ h))
 ·exact .inl (.inr ⟨o,e _ _ h⟩)
 ·exact .inr h
section
variable {K:PySem.W.Frag} {mg:Str->Option Value} {H H':Hp}
mutual
theorem Rep.mono (s:aq H H'):∀ {v:V} {d:D},Rep K mg H v d->Rep K mg H' v d
 | _,_,.non=>.non
 | _,_,.bl b=>.bl b
 | _,_,.int i=>.int i
 | _,_,.str x=>.str x
 | _,_,.tup h r=>.tup (fo s h) (Reps.mono s r)
 | _,_,.lst h r=>.lst (s.seq h) (Reps.mono s r)
 | _,_,.ty n=>.ty n
 | _,_,.cls h=>.cls h
 | _,_,.exc h e=>.exc h (s _ _ e)
 | _,_,.ins h e r=>.ins h (s _ _ e) (Repf.mono s r)
theorem Reps.mono (s:aq H H'):∀ {vs:List V} {ds:List D},Reps K mg H vs ds->Reps K mg H' vs ds
 | _,_,.nil=>.nil
 | _,_,.cons r t=>.cons (Rep.mono s r) (Reps.mono s t)
theorem Repf.mono (s:aq H H'):∀ {vs:List (Str×V)} {ds:List (String×D)},Repf K mg H vs ds->Repf K mg H' vs ds
 | _,_,.nil=>.nil
 | _,_,.cons r t=>.cons (Rep.mono s r) (Repf.mono s t)
end
theorem Reps.length:∀ {vs:List V} {ds:List D},Reps K mg H vs ds->vs.length=ds.length
 | _,_,.nil=>rfl
 | _,_,.cons _ t=>congrArg (· + 1) (Reps.length t)
theorem Reps.get:∀ {vs:List V} {ds:List D} {i:Nat} {d:D},Reps K mg H vs ds->ds[i]? = some d->∃ v,vs[i]? = some v/\Rep K mg H v d
 | _,_,_,_,.nil,e=>by simp at e
 | _,_,0,_,.cons r _,e=>by simp at e;subst e;exact ⟨_,rfl,r⟩
 | _,_,i+1,d,.cons _ t,e=>by
  obtain ⟨v,h1,h2⟩:=Reps.get (i:=i) (d:=d) t (by simpa using e)
  exact ⟨v,by simpa using h1,h2⟩
theorem Reps.append:∀ {vs ws:List V} {ds es:List D},Reps K mg H vs ds->Reps K mg H ws es->Reps K mg H (vs++ws) (ds++es)
 | _,_,_,_,.nil,s=>s
 | _,_,_,_,.cons r t,s=>.cons r (Reps.append t s)
theorem Reps.take:∀ {vs:List V} {ds:List D} (n:Nat),Reps K mg H vs ds->Reps K mg H (vs.take n) (ds.take n)
 | _,_,0,_=>.nil
 | _,_,_+1,.nil=>.nil
 | _,_,n+1,.cons r t=>.cons r (Reps.take n t)
theorem Reps.drop:∀ {vs:List V} {ds:List D} (n:Nat),Reps K mg H vs ds->Reps K mg H (vs.drop n) (ds.drop n)
 | _,_,0,r=>r
 | _,_,_+1,.nil=>.nil
 | _,_,n+1,.cons _ t=>Reps.drop n t
theorem Reps.ints (ns:List Int):Reps K mg H (ns.map V.int) (ns.map D.int):=by
 induction ns with
 | nil=>exact .nil
 | cons n r ih=>exact .cons (.int n) ih
theorem ku {x y:String} (h:(Str.ofString x)=Str.ofString y):x=y:=by
 rw [Str.ofString_eq_toList,Str.ofString_eq_toList] at h
 have h1:(x.toList.map Char.toNat).toArray=(y.toList.map Char.toNat).toArray:=congrArg Str.cps h
 have h2:x.toList.map Char.toNat=y.toList.map Char.toNat:=by simpa using h1
 have h3:∀ (l m:List Char),l.map Char.toNat=m.map Char.toNat->l=m:=by
  intro l
  induction l with
  | nil=>intro m e;cases m with | nil=>rfl | cons _ _=>cases e
  | cons c r ih =>
   intro m e
   cases m with
   | nil=>cases e
   | cons c' r' =>
    rw [List.map_cons,List.map_cons,List.cons.injEq] at e
    rw [Char.ext (UInt32.toNat_inj.mp e.1),ih r' e.2]
 exact String.toList_inj.mp (h3 _ _ h2)
theorem oY (x y:String):((Str.ofString x) == Str.ofString y)=(x == y):=by
 rw [Bool.eq_iff_iff,beq_iff_eq,beq_iff_eq]
 exact ⟨ku,fun e=>by rw [e]⟩
theorem Repf.lookup:∀ {fs:List (Str×V)} {ds:List (String×D)} {x:String} {d:D},Repf K mg H fs ds->ds.lookup x=some d->∃ v,fs.lookup (x:Str)=some v/\Rep K mg H v d
 | _,_,_,_,.nil,e=>by cases e
 | (_,v)::fs,(y,d')::ds,x,d,.cons r t,e=>by
  rw [List.lookup_cons] at e ⊢
  rw [oY]
  cases q:(x == y) with
  | true =>
   rw [q] at e
   have e':d'=d:=by simpa using e
   subst e'
   exact ⟨v,rfl,r⟩
  | false=>rw [q] at e;exact Repf.lookup t e
theorem Repf.lookupN:∀ {fs:List (Str×V)} {ds:List (String×D)} {x:String},Repf K mg H fs ds->ds.lookup x=none->fs.lookup (x:Str)=none
 | _,_,_,.nil,e=>rfl
 | (_,v)::fs,(y,d')::ds,x,.cons r t,e=>by
  rw [List.lookup_cons] at e ⊢
  rw [oY]
  cases q:(x == y) with
  | true=>rw [q] at e;cases e
  | false=>rw [q] at e;exact Repf.lookupN t e
end
def Stt (K:PySem.W.Frag) (mg:Str->Option Value) (H:Hp) (σ:L2.St) (δ:Dt):Prop :=
 σ.length=δ.length/\∀ (i:Nat) (d:D),δ[i]? = some (some d)->(∀ ds,d ≠ .own ds)->∃ v,σ[i]? = some (some v)/\Rep K mg H v d
theorem Stt.mono {K:PySem.W.Frag} {mg:Str->Option Value} {H H':Hp} {σ:L2.St} {δ:Dt} (h:Stt K mg H σ δ) (s:aq H H'):Stt K mg H' σ δ :=
 ⟨h.1,fun i d e n=>let ⟨v,a,b⟩:=h.2 i d e n;⟨v,a,b.mono s⟩⟩
theorem Stt.set {K:PySem.W.Frag} {mg:Str->Option Value} {H:Hp} {σ:L2.St} {δ:Dt} {i:Nat} {v:V} {d:D} (h:Stt K mg H σ δ) (r:Rep K mg H v d):Stt K mg H (σ.set i (some v)) (δ.set i (some d)):=by
 refine ⟨by rw [List.length_set,List.length_set];exact h.1,fun j d' e n => ?_⟩
 by_cases hj:j=i
 ·subst hj
  by_cases hl:j<δ.length
  ·rw [List.getElem?_set_self hl] at e
   cases e
   exact ⟨v,by rw [List.getElem?_set_self (by rw [h.1];exact hl)],r⟩
  ·rw [List.getElem?_eq_none (by simp;omega)] at e
   cases e
 ·rw [List.getElem?_set_ne (Ne.symm hj)] at e
  obtain ⟨u,a,b⟩:=h.2 j d' e n
  exact ⟨u,by rw [List.getElem?_set_ne (Ne.symm hj)];exact a,b⟩
structure FlyX (P:Program) (w:World) (outer:List Env) (H:Hp) (s:Shared) (C:Addr) (H':Hp) (ea:Addr) (s':Shared):Prop where
 os:s'.os=s.os
 bare:AllBare s'.gens
 un:Un (frs outer) [] H H' s.heap s'.heap
 hok:HOk P w H' s'.heap
 same:aq H H'
 new:s.heap.get? ea=none
 fly:∃ a0 B,Heap.FlyingW B outer ea (.ref C) a0 s'.heap/\(∀ b o,s.heap.get? b=some o->H b=none->b∉frs outer->B.get? b=some o)/\(∀ b u o,H' b=some u->s'.heap.get? b=some o->B.get? b=some o)
def ew (X:Cx) (C:Addr) (σ:L2.St) (H':Hp):Prop:=∀ pins H s ea s',Inv X pins σ H s->FlyX X.prog X.w X.stack H s C H' ea s'->X.xe (.ref ea) s'
def em (X:Cx) (C:Addr) (σ:L2.St) (H':Hp):Prop:=∀ pins s h' ea vs,Inv X pins σ H' s->Heap.MadeExcOf s.heap h' ea (.ref C) vs->X.xe (.ref ea) { s with heap:=h' }
structure HeldX (X:Cx) (pins:List ↥10) (σ:L2.St) (C:Addr) (H':Hp) (ea:Addr) (s':Shared):Prop where
 inv:Inv X pins σ H' s'
 new:X.s₀.heap.get? ea=none
 fly:∃ a0 B,Heap.HeldW B X.stack ea (.ref C) a0 X.env.locals s'.heap/\(∀ b o,X.s₀.heap.get? b=some o->X.H₀ b=none->b∉X.fs->B.get? b=some o)/\(∀ b u o,H' b=some u->s'.heap.get? b=some o->B.get? b=some o)
def ehx (X:Cx) (C:Addr) (σ:L2.St) (H':Hp):Prop:=∀ pins ea s',HeldX X pins σ C H' ea s'->X.xe (.ref ea) s'
def RQ (X:Cx) (σ:L2.St) (H:Hp) (r:R D) (Q:VK):Prop:=match r with
 | .ok d=>∀ v H',aq H H'->Rep X.K X.mg H' v d->Q v H'
 | .ex C=>∀ Ca,X.mg C=some (.ref Ca)->∀ H',aq H H'->ew X Ca σ H'
 | .bad=>False
def tE (X:Cx) (g:E):TE:=fun σ H Q=>∃ δ,Stt X.K X.mg H σ δ/\RQ X σ H (g δ) Q
@[irreducible] def SE (X:Cx) (e:Expr) (g:E):Prop:=PE X e (tE X g)
def RT (X:Cx) (σ:L2.St) (H:Hp) (r:R D) (Q:Bool->Hp->Prop):Prop:=match r with
 | .ok (.bl b)=>∀ H',aq H H'->Q b H'
 | .ex C=>∀ Ca,X.mg C=some (.ref Ca)->∀ H',aq H H'->ew X Ca σ H'
 | _=>False
def tT (X:Cx) (g:E):TT:=fun σ H Q=>∃ δ,Stt X.K X.mg H σ δ/\RT X σ H (g δ) Q
@[irreducible] def ST (X:Cx) (e:Expr) (g:E):Prop:=PT X e (tT X g)
@[irreducible] def SW (X:Cx) (e:Expr) (g:E):Prop:=PW X e (tT X g)
def RA (X:Cx) (σ:L2.St) (H:Hp) (r:R (List D)) (Q:List V->Hp->Prop):Prop:=match r with
 | .ok ds=>∀ vs H',aq H H'->Reps X.K X.mg H' vs ds->Q vs H'
 | .ex C=>∀ Ca,X.mg C=some (.ref Ca)->∀ H',aq H H'->ew X Ca σ H'
 | .bad=>False
def tAs (X:Cx) (gs:List E):TA:=fun σ H Q=>∃ δ,Stt X.K X.mg H σ δ/\RA X σ H (evs gs δ) Q
@[irreducible] def SA (X:Cx) (es:List Expr) (gs:List E):Prop:=PA X es (tAs X gs)
unseal SE ST SW SA
section
variable {X:Cx} {σ:L2.St} {H H1:Hp}
theorem PE.weak (h:PE X e t) (w:∀ σ H Q,t' σ H Q->t σ H Q):PE X e t':=fun pins s σ H Q I q=>h pins s σ H Q I (w σ H Q q)
theorem PT.weak (h:PT X e t) (w:∀ σ H Q,t' σ H Q->t σ H Q):PT X e t':=fun pins s σ H Q I q=>h pins s σ H Q I (w σ H Q q)
theorem PW.weak (h:PW X e t) (w:∀ σ H Q,t' σ H Q->t σ H Q):PW X e t':=fun wh pins s σ H Q I q=>h wh pins s σ H Q I (w σ H Q q)
theorem PA.weak (h:PA X es t) (w:∀ σ H Q,t' σ H Q->t σ H Q):PA X es t':=fun pos pins s σ H Q I q=>h pos pins s σ H Q I (w σ H Q q)
theorem PS.weak {st:Stmt} {t t':TS} (h:PS X st t) (w:∀ D σ H,t' D σ H->t D σ H):PS X st t':=fun pins s σ H D I q=>h pins s σ H D I (w D σ H q)
theorem PSs.weak {st:List Stmt} {t t':TS} (h:PSs X st t) (w:∀ D σ H,t' D σ H->t D σ H):PSs X st t':=fun pins s σ H D I q=>h pins s σ H D I (w D σ H q)
theorem RQ.to (h:RQ X σ H r Q) (g:∀ v H',aq H H'->Q v H'->Q' v H'):RQ X σ H r Q':=by
 cases r with
 | ok d=>exact fun v H' s r=>g v H' s (h v H' s r)
 | ex C=>exact h
 | bad=>exact h
theorem RQ.mono (s:aq H H1) (h:RQ X σ H r Q):RQ X σ H1 r Q:=by
 cases r with
 | ok d=>exact fun v H' s' r=>h v H' (s.trans s') r
 | ex C=>exact fun Ca hc H' s'=>h Ca hc H' (s.trans s')
 | bad=>exact h
theorem RT.mono (s:aq H H1) (h:RT X σ H r Q):RT X σ H1 r Q:=by
 cases r with
 | ok d =>
  cases d with
  | bl b=>exact fun H' s'=>h H' (s.trans s')
  | _=>exact False.elim h
 | ex C=>exact fun Ca hc H' s'=>h Ca hc H' (s.trans s')
 | bad=>exact h
theorem RQ.bind (h:RQ X σ H (r.bind f) Q):RQ X σ H r (fun v H'=>aq H H'/\∃ d,Rep X.K X.mg H' v d/\RQ X σ H' (f d) Q):=by
 cases r with
 | ok d=>exact fun v H' s r=>⟨s,d,r,h.mono s⟩
 | ex C=>exact h
 | bad=>exact h
theorem RA.bind (h:RQ X σ H (r.bind f) Q):RA X σ H r (fun vs H'=>aq H H'/\∃ ds,Reps X.K X.mg H' vs ds/\RQ X σ H' (f ds) Q):=by
 cases r with
 | ok d=>exact fun v H' s r=>⟨s,d,r,h.mono s⟩
 | ex C=>exact h
 | bad=>exact h
theorem RT.bind (h:RT X σ H (r.bind f) Q):RQ X σ H r (fun v H'=>aq H H'/\∃ d,Rep X.K X.mg H' v d/\RT X σ H' (f d) Q):=by
 cases r with
 | ok d=>exact fun v H' s r=>⟨s,d,r,h.mono s⟩
 | ex C=>exact h
 | bad=>exact False.elim h
end
structure Sc (X:Cx) (N:List Str):Prop where
 n:X.N=N
 nd:N.Nodup
 vis:∀ x∈N,Vis X.env.scope x
 dbg:∀ x∈N,↥37=false/\(x == ("__classdict__":Str))=false
def Sto (X:Cx) (x:Str):Prop:=Loc X.env.scope x/\(X.fn x=true\/X.env.scope.names.lookup x=some .local)
structure Gb (X:Cx) (x:Str):Prop where
 g:X.env.scope.names.lookup x=some .globalImplicit
 d:↥37=false
 n:x≠"__name__"
section
variable {X:Cx} {N:List Str} {pos:Pos} {a b c e:Expr} {ga gb gc g:E}
theorem gw (S:Sc X N) (i:Nat) (hN:N[i]? = some x):SE X (.Name x pos) (var i):=by
 have hm:x∈N:=List.mem_of_getElem? hN
 refine PE.weak (hU (i:=i) (by rw [S.n];exact hN) (S.vis x hm) (S.dbg x hm).1 (S.dbg x hm).2) fun σ H Q ⟨δ,hσ,h⟩ => ?_
 unfold var at h
 split at h
 ·exact False.elim h
 ·rename_i d _ hd
  obtain ⟨v,e,r⟩:=hσ.2 i d hd (by intro ds z;subst z;rename_i q;exact q ds rfl)
  exact ⟨v,e,h v H (aq.refl H) r⟩
 ·exact False.elim h
theorem rl (h:PE X e (tC v)) (r:∀ H,Rep X.K X.mg H v d):SE X e (con d):=PE.weak h fun σ H Q ⟨δ,hσ,q⟩=>q _ H (aq.refl H) (r H)
theorem ae {i j}:SE X (.Constant (.int i) j pos) (con (.int i)):=rl A6 fun _=>.int i
theorem yk {b j}:SE X (.Constant (.bool b) j pos) (con (.bl b)):=rl JN fun _=>.bl b
theorem En {j}:SE X (.Constant .none j pos) (con .non):=rl GK fun _=>.non
theorem bz {x j}:SE X (.Constant (.str x) j pos) (con (.str x)):=rl A4 fun _=>.str x
theorem iw (G:Gb X x) (h:∃ t,X.mg x=some (.int i t)):SE X (.Name x pos) (con (.int i)):=by
 obtain ⟨t,h⟩:=h
 exact rl (vK (v:=.int i) G.g h ⟨t,rfl⟩ G.d) fun _=>.int i
theorem Ej (G:Gb X x) (h:X.mg x=none) (hv:bootBuiltins x=some (.type n)):SE X (.Name x pos) (con (.ty n)) :=
 rl (C9 (v:=.ty n) G.g h hv rfl G.n G.d) fun _=>.ty n
def rD (X:Cx) (f:D->D->R D):R2:=fun x y H Q=>∃ dx dy d,Rep X.K X.mg H x dx/\Rep X.K X.mg H y dy/\f dx dy=.ok d/\∀ v H',aq H H'->Rep X.K X.mg H' v d->Q v H'
def i6 (f:D->D->R D):Prop:=∀ x y C,f x y ≠ .ex C
theorem RQ.op (nx:i6 f) (r1:Rep X.K X.mg H x dx) (r2:Rep X.K X.mg H y dy) (h:RQ X σ H (f dx dy) Q):rD X f x y H Q:=by
 cases e:f dx dy with
 | ok d=>rw [e] at h;exact ⟨dx,dy,d,r1,r2,e,h⟩
 | ex C=>exact absurd e (nx dx dy C)
 | bad=>rw [e] at h;exact False.elim h
theorem xI (h:tE X (EV.bin f ga gb) σ H Q):tE X ga σ H fun x H1=>tE X gb σ H1 fun y H2=>∃ dx dy,Rep X.K X.mg H2 x dx/\Rep X.K X.mg H2 y dy/\RQ X σ H2 (f dx dy) Q:=by
 obtain ⟨δ,hσ,h⟩:=h
 refine ⟨δ,hσ,(RQ.bind h).to fun x H1 s1 ⟨_,dx,r1,h1⟩ => ?_⟩
 refine ⟨δ,hσ.mono s1,(RQ.bind h1).to fun y H2 s2 ⟨_,dy,r2,h2⟩ => ?_⟩
 exact ⟨dx,dy,r1.mono s2,r2,h2⟩
theorem kL (nx:i6 f) (ho:OpR X (binaryOp op) (rD X f)) (ha:SE X a ga) (hb:SE X b gb):SE X (.BinOp a op b pos) (EV.bin f ga gb) :=
 PE.weak (JM ho ha hb) fun σ H Q h=>by
  obtain ⟨δ,hσ,q⟩:=xI h
  refine ⟨δ,hσ,q.to fun x H1 s1 ⟨δ1,hσ1,q1⟩=>⟨δ1,hσ1,q1.to fun y H2 s2 ⟨dx,dy,r1,r2,q2⟩=>RQ.op nx r1 r2 q2⟩⟩
theorem uG (nx:i6 f) (ho:OpR X (compareOp op) (rD X f)) (ha:SE X a ga) (hb:SE X b gb) (hm:behindInMarks op b=false):SE X (.Compare a [op] [b] pos) (EV.bin f ga gb) :=
 PE.weak (C8 ho ha hb hm) fun σ H Q h=>by
  obtain ⟨δ,hσ,q⟩:=xI h
  refine ⟨δ,hσ,q.to fun x H1 s1 ⟨δ1,hσ1,q1⟩=>⟨δ1,hσ1,q1.to fun y H2 s2 ⟨dx,dy,r1,r2,q2⟩=>RQ.op nx r1 r2 q2⟩⟩
theorem Ez (h:tT X (EV.bin f ga gb) σ H Q):tE X ga σ H fun x H1=>tE X gb σ H1 fun y H2=>∃ dx dy,Rep X.K X.mg H2 x dx/\Rep X.K X.mg H2 y dy/\RT X σ H2 (f dx dy) Q:=by
 obtain ⟨δ,hσ,h⟩:=h
 refine ⟨δ,hσ,(RT.bind h).to fun x H1 s1 ⟨_,dx,r1,h1⟩ => ?_⟩
 refine ⟨δ,hσ.mono s1,(RT.bind h1).to fun y H2 s2 ⟨_,dy,r2,h2⟩ => ?_⟩
 exact ⟨dx,dy,r1.mono s2,r2,h2⟩
theorem RT.op (nx:i6 f) (r1:Rep X.K X.mg H x dx) (r2:Rep X.K X.mg H y dy) (h:RT X σ H (f dx dy) Q):rD X f x y H fun v H'=>∃ k,v=.bl k/\Q k H':=by
 cases e:f dx dy with
 | ok d =>
  rw [e] at h
  cases d with
  | bl k=>exact ⟨dx,dy,_,r1,r2,e,fun v H' s r=>by cases r;exact ⟨k,rfl,h H' s⟩⟩
  | _=>exact False.elim h
 | ex C=>exact absurd e (nx dx dy C)
 | bad=>rw [e] at h;exact False.elim h
theorem ot (nx:i6 f) (ho:OpR X (compareOp op) (rD X f)) (ha:SE X a ga) (hb:SE X b gb) (hm:behindInMarks op b=false):ST X (.Compare a [op] [b] pos) (EV.bin f ga gb) :=
 PT.weak (vE ho ha hb hm) fun σ H Q h=>by
  obtain ⟨δ,hσ,q⟩:=Ez h
  refine ⟨δ,hσ,q.to fun x H1 s1 ⟨δ1,hσ1,q1⟩=>⟨δ1,hσ1,q1.to fun y H2 s2 ⟨dx,dy,r1,r2,q2⟩=>RT.op nx r1 r2 q2⟩⟩
theorem oS {F:Value->Value->Sem Value} {f:D->D->R D} {C:Int->Int->Prop} {g:Int->Int->Int} (ho:OpR X F (rI C fun i j=>.int (g i j)))
  (hf:∀ dx dy d,f dx dy=.ok d->∃ i j,dx=.int i/\dy=.int j/\C i j/\d=.int (g i j)):OpR X F (rD X f):=by
 intro pins s σ H x y v u Q I rx ry ⟨dx,dy,d,r1,r2,e,q⟩
 obtain ⟨i,j,rfl,rfl,hc,rfl⟩:=hf dx dy d e
 cases r1
 cases r2
 exact ho pins s σ H _ _ v u Q I rx ry ⟨i,j,rfl,rfl,hc,q _ _ ↥19 (.int _)⟩
theorem nj {F:Value->Value->Sem Value} {f:D->D->R D} {g:Int->Int->Int} (ho:OpR X F (rI0 fun i j=>.int (g i j)))
  (hf:∀ dx dy d,f dx dy=.ok d->∃ i j,dx=.int i/\dy=.int j/\d=.int (g i j)):OpR X F (rD X f):=by
 intro pins s σ H x y v u Q I rx ry ⟨dx,dy,d,r1,r2,e,q⟩
 obtain ⟨i,j,rfl,rfl,rfl⟩:=hf dx dy d e
 cases r1
 cases r2
 exact ho pins s σ H _ _ v u Q I rx ry ⟨i,j,rfl,rfl,q _ _ ↥19 (.int _)⟩
theorem sA {F:Value->Value->Sem Value} {f:D->D->R D} {g:Int->Int->Bool} (ho:OpR X F (rI0 fun i j=>.bl (g i j)))
  (hf:∀ dx dy d,f dx dy=.ok d->∃ i j,dx=.int i/\dy=.int j/\d=.bl (g i j)):OpR X F (rD X f):=by
 intro pins s σ H x y v u Q I rx ry ⟨dx,dy,d,r1,r2,e,q⟩
 obtain ⟨i,j,rfl,rfl,rfl⟩:=hf dx dy d e
 cases r1
 cases r2
 exact ho pins s σ H _ _ v u Q I rx ry ⟨i,j,rfl,rfl,q _ _ ↥19 (.bl _)⟩
end
theorem wB (i:Int):nb i=Builtin.Int.intBits i:=by
 unfold nb Builtin.Int.intBits
 by_cases h:i=0
 ·rw [if_pos h,if_pos (by rw [h];rfl)]
 ·rw [if_neg h,if_neg (by simpa using h)]
theorem zV {i j:Int} (h:MulOk i j):IntMulOk i j:=IntMulOk.of_le (m:=nb i) (n:=nb j) (Nat.le_of_eq (wB i).symm) (Nat.le_of_eq (wB j).symm) h
def JD (K:PySem.W.Frag):R2:=fun x y H Q=>∃ a b xs ys,x=.ref a/\y=.ref b/\SqL K H a xs/\SqL K H b ys/\xs.length+ys.length<=sizeLine/\∀ p,H p=none->Q (.ref p) (upd H p (.lst (xs++ys)))
section
variable {X:Cx}
theorem av (h:H p=none) (o:HO):aq H (upd H p o):=fun b u q=>by rw [aL (bL q h)];exact q
theorem wN (l b:Addr) (xs ys:Array Value) (n m:Nat) (d1 d2:Option Addr) (s1 s2:Array (Option Value)) (hz:xs.size+ys.size<=sizeLine) :
  Meets (Builtin.«list.__add__» ⟨[.ref l,.ref b],[]⟩) (fun _ R s=>s.heap.get? l=some { cls:=.type "list",dict:=d1,data:=.seq xs n,slots:=s1 }/\s.heap.get? b=some { cls:=.type "list",dict:=d2,data:=.seq ys m,slots:=s2 } /\
   R (.ok (.ret (Value.ref s.heap.objs.size))) { s with heap:=s.heap.push { cls:=.type "list",data:=.seq (xs++ys) } }) :=
 .of_wp fun prog w A R s h=>by
  obtain ⟨hp,g,dd,tk,os⟩:=s
  obtain ⟨ha,hb,h⟩:=h
  have f3:=AutoSeq1.sub_list_list
  wp_walk using AutoSeq1.wpAny_loadPart' ha,AutoSeq1.wpAny_loadPart' hb
  exact ⟨_,rfl,h⟩
theorem Dl:OpR X (binaryOp .Add) (JD X.K):=by
 intro pins s σ H x y v u Q I rx ry h
 obtain ⟨l,b,xs,zs,rfl,rfl,hH,hB,hz,q⟩:=h
 cases rx
 cases ry
 obtain ⟨its,r,⟨⟨c1,d1,t1,s1⟩,n,e,g1,g2,g3⟩,_⟩:=I.list hH
 obtain ⟨its2,r2,⟨⟨c2,d2,t2,s2⟩,n2,e2,k1,k2,k3⟩,_⟩:=I.list hB
 simp only at g1 g2 g3 k1 k2 k3
 subst g1 g2 g3 k1 k2 k3
 have hl:=r.length
 have hl2:=r2.length
 refine concat_meets ⟨_,e,rfl⟩ ⟨_,e2,rfl⟩ noFill_list_add seq_list_add F.slot_list_add F.entry_list_add (F.args_list_add_2 _ _) (wN l b its.toArray its2.toArray n n2 _ _ _ _ (by rw [List.size_toArray,List.size_toArray];omega)) ⟨e,e2,?_⟩
 have ea:its.toArray++its2.toArray=(its++its2).toArray:=by simp
 rw [ea]
 exact ⟨.ref _,_,I.lnew (t':=s.toks) (r.append r2) (by rw [List.length_append];omega),rfl,q _ I.fresh⟩
theorem dQ [Decidable c]:(if c then R.ok d else R.bad)≠R.ex C:=by split<;>exact fun z=>nomatch z
theorem J6:i6 bu:=fun x y C z=>by unfold bu at z;split at z<;>first | cases z | exact dQ z
theorem Dn:OpR X (binaryOp .Add) (rD X bu):=by
 intro pins s σ H x y v u Q I rx ry ⟨dx,dy,d,r1,r2,e,q⟩
 unfold bu at e
 split at e
 ·cases e;cases r1;cases r2
  exact G3 pins s σ H _ _ v u Q I rx ry ⟨_,_,rfl,rfl,q _ _ ↥19 (.int _)⟩
 ·split at e
  ·rename_i hz
   cases e;cases r1;cases r2
   exact um pins s σ H _ _ v u Q I rx ry ⟨_,_,rfl,rfl,Nat.le_trans hz (by rw [sizeLine_eq];decide),q _ _ ↥19 (.str _)⟩
  ·cases e
 ·split at e
  ·rename_i hz
   cases e;cases r1;cases r2
   rename_i a xs h1 r1 b ys h2 r2
   exact Dl pins s σ H _ _ v u Q I rx ry ⟨a,b,xs,ys,rfl,rfl,h1,h2,by rw [r1.length,r2.length];exact Nat.le_trans hz (by rw [sizeLine_eq];decide),fun p hp=>q _ _ (av hp _) (.lst (SqL.of aA) ((r1.append r2).mono (av hp _)))⟩
  ·cases e
 ·split at e
  ·rename_i hz
   cases e;cases r1;cases r2
   rename_i a xs h1 r1 b ys h2 r2
   refine Dk pins s σ H _ _ v u Q I rx ry ⟨a,b,xs,ys,rfl,rfl,h1,h2,fun z=>hz.1 ?_,by rw [r1.length,r2.length];exact Nat.le_trans hz.2 (by rw [sizeLine_eq];decide),fun z=>q _ _ ↥19 ?_,fun _ p hp=>q _ _ (av hp _) (.tup (SqT.of aA) ((r1.append r2).mono (av hp _)))⟩
   ·subst z
    cases r1;rfl
   ·subst z
    cases r2
    rw [List.append_nil]
    exact .tup h1 r1
  ·cases e
 ·cases e
theorem JW:i6 cu:=fun x y C z=>by unfold cu at z;split at z<;>cases z
theorem Dd:OpR X (binaryOp .Sub) (rD X cu):=nj GY fun dx dy d e=>by
 unfold cu at e;split at e
 ·cases e;exact ⟨_,_,rfl,rfl,rfl⟩
 ·cases e
theorem J0:i6 hZ:=fun x y C z=>by unfold hZ at z;split at z<;>first | cases z | exact dQ z
theorem Dh:OpR X (binaryOp .Mult) (rD X hZ):=oS (C:=IntMulOk) (opI fun _ _ _ _ _ _ _ hc q=>mul_int q hc) fun dx dy d e=>by
 unfold hZ at e;split at e
 ·split at e
  ·rename_i h;cases e;exact ⟨_,_,rfl,rfl,zV h,rfl⟩
  ·cases e
 ·cases e
theorem J3:i6 oDiv:=fun x y C z=>by unfold oDiv at z;split at z<;>first | cases z | exact dQ z
theorem OM (h:iM i j):Builtin.divisionGoesByPylong i j=false:=by
 obtain ⟨h0,h⟩:=h
 show (decide ((if j == 0 then 0 else j.natAbs.log2 / 30+1)>300)&&decide ((if i == 0 then 0 else i.natAbs.log2 / 30+1)>(if j == 0 then 0 else j.natAbs.log2 / 30+1)+150))=false
 have ej:(j == 0)=false:=by simp;omega
 unfold nb at h
 rw [if_neg (by omega:¬ j=0)] at h
 rw [ej]
 simp only [Bool.false_eq_true,if_false]
 rw [Bool.and_eq_false_iff,decide_eq_false_iff_not,decide_eq_false_iff_not]
 by_cases hi:i=0
 ·rw [if_pos (by simp [hi])];omega
 ·rw [if_neg (by simp [hi])]
  rw [if_neg hi] at h
  omega
theorem Dj:OpR X (binaryOp .FloorDiv) (rD X oDiv):=oS (C:=iM) (g:=fun i j=>i / j) (opI fun i j _ _ _ _ _ hc q=>by
  have h1:(0:Int)<j:=hc.1
  exact floordiv_int ⋯ (by rw [Int.fdiv_eq_ediv_of_nonneg i ⋯];exact q) (.inl (OM hc))) fun dx dy d e=>by
 unfold oDiv at e;split at e
 ·split at e
  ·rename_i h;cases e;exact ⟨_,_,rfl,rfl,h,rfl⟩
  ·cases e
 ·cases e
theorem J1:i6 oMod:=fun x y C z=>by unfold oMod at z;split at z<;>first | cases z | exact dQ z
theorem Di:OpR X (binaryOp .Mod) (rD X oMod):=oS (C:=fun _ j=>0<j) (g:=fun i j=>i%j) G0 fun dx dy d e=>by
 unfold oMod at e;split at e
 ·split at e
  ·rename_i h;cases e;exact ⟨_,_,rfl,rfl,h,rfl⟩
  ·cases e
 ·cases e
theorem JY:i6 bD:=fun x y C z=>by unfold bD at z;split at z<;>first | cases z | exact dQ z
theorem Df:OpR X (binaryOp .LShift) (rD X bD):=oS (C:=fun i j=>0<=j/\(nb i:Int)+j<=134217728) (g:=fun i j=>i*pw j) (opI fun _ _ _ _ _ _ _ hc q=>lshift_int hc.1 (by rw [<- wB];exact hc.2) q) fun dx dy d e=>by
 unfold bD at e;split at e
 ·split at e
  ·rename_i h;cases e;exact ⟨_,_,rfl,rfl,h,rfl⟩
  ·cases e
 ·cases e
theorem JX:i6 Bd:=fun x y C z=>by unfold Bd at z;split at z<;>first | cases z | exact dQ z
theorem De:OpR X (binaryOp .RShift) (rD X Bd):=oS (C:=fun _ j=>0<=j) (g:=fun i j=>i / 2^j.toNat) GZ fun dx dy d e=>by
 unfold Bd at e;split at e
 ·split at e
  ·rename_i h;cases e;exact ⟨_,_,rfl,rfl,h,rfl⟩
  ·cases e
 ·cases e
theorem He:i6 pe:=fun x y C z=>by unfold pe at z;split at z<;>first | cases z | exact dQ z
theorem J4:i6 yj:=fun x y C z=>by unfold yj at z;split at z<;>first | cases z | exact dQ z
theorem Hd:i6 qK:=fun x y C z=>by unfold qK at z;split at z<;>first | cases z | exact dQ z
theorem xK (hi:0<=i) (hj:0<=j):Builtin.bitAnd i j=((i.toNat &&& j.toNat:Nat):Int):=by
 unfold Builtin.bitAnd
 rw [decide_eq_true hi,decide_eq_true hj]
theorem tq {i j:Int} (hi:0<=i) (hj:0<=j):Builtin.bitOr i j=((i.toNat ||| j.toNat:Nat):Int):=by
 unfold Builtin.bitOr Builtin.bitAnd Builtin.bitNot
 have h1:decide (0 <= -i - 1)=false:=decide_eq_false ⋯
 have h2:decide (0 <= -j - 1)=false:=decide_eq_false ⋯
 rw [h1,h2]
 dsimp only
 rw [show -(-i - 1) - 1=i by omega,show -(-j - 1) - 1=j by omega]
 omega
theorem uk (x:Nat):∀ y:Nat,x ||| y=(x ^^^ y)+(x &&& y):=by
 induction x using Nat.strongRecOn with
 | ind x ih =>
  intro y
  by_cases h0:x=0
  ·subst h0;simp
  ·have z:=ih (x / 2) ⋯ (y / 2)
   rw [<- Nat.or_div_two,<-Nat.xor_div_two,<-Nat.and_div_two] at z
   have m1 := @Nat.or_mod_two_eq_one x y
   have m2 := @Nat.xor_mod_two_eq_one x y
   have m3 := @Nat.and_mod_two_eq_one x y
   omega
theorem Et (hi:0<=i) (hj:0<=j):Builtin.bitXor i j=((i.toNat ^^^ j.toNat:Nat):Int):=by
 unfold Builtin.bitXor
 rw [tq hi hj,xK hi hj]
 have h:i.toNat ||| j.toNat=(i.toNat ^^^ j.toNat)+(i.toNat &&& j.toNat):=uk _ _
 omega
theorem zy:OpR X (binaryOp .BitAnd) (rD X pe):=nj G2 fun dx dy d e=>by
 unfold pe at e;split at e
 ·split at e
  ·rename_i h;cases e;exact ⟨_,_,rfl,rfl,by rw [xK h.1 h.2]⟩
  ·cases e
 ·cases e
theorem Dm:OpR X (binaryOp .BitOr) (rD X yj):=nj JP fun dx dy d e=>by
 unfold yj at e;split at e
 ·split at e
  ·rename_i h;cases e;exact ⟨_,_,rfl,rfl,by rw [tq h.1 h.2]⟩
  ·cases e
 ·cases e
theorem zx:OpR X (binaryOp .BitXor) (rD X qK):=nj GX fun dx dy d e=>by
 unfold qK at e;split at e
 ·split at e
  ·rename_i h;cases e;exact ⟨_,_,rfl,rfl,by rw [Et h.1 h.2]⟩
  ·cases e
 ·cases e
theorem MZ:i6 oLt:=fun x y C z=>by unfold oLt at z;split at z<;>cases z
theorem Hb:i6 oLe:=fun x y C z=>by unfold oLe at z;split at z<;>cases z
theorem M1:i6 oGt:=fun x y C z=>by unfold oGt at z;split at z<;>cases z
theorem M3:i6 oGe:=fun x y C z=>by unfold oGe at z;split at z<;>cases z
theorem A8:OpR X (compareOp .Lt) (rD X oLt):=sA JR fun dx dy d e=>by
 unfold oLt at e;split at e
 ·cases e;exact ⟨_,_,rfl,rfl,rfl⟩
 ·cases e
theorem oW:OpR X (compareOp .LtE) (rD X oLe):=sA JS fun dx dy d e=>by
 unfold oLe at e;split at e
 ·cases e;exact ⟨_,_,rfl,rfl,rfl⟩
 ·cases e
theorem Ba:OpR X (compareOp .Gt) (rD X oGt):=sA JT fun dx dy d e=>by
 unfold oGt at e;split at e
 ·cases e;exact ⟨_,_,rfl,rfl,rfl⟩
 ·cases e
theorem Bb:OpR X (compareOp .GtE) (rD X oGe):=sA JU fun dx dy d e=>by
 unfold oGe at e;split at e
 ·cases e;exact ⟨_,_,rfl,rfl,rfl⟩
 ·cases e
end
section
variable {X:Cx} {pos:Pos} {a b c e:Expr} {ga gb gc g:E}
theorem aE (ha:SE X a ga) (hb:SE X b gb):SE X (.BinOp a .Add b pos) (EV.bin bu ga gb):=kL J6 Dn ha hb
theorem aM (ha:SE X a ga) (hb:SE X b gb):SE X (.BinOp a .Sub b pos) (EV.bin cu ga gb):=kL JW Dd ha hb
theorem dI (ha:SE X a ga) (hb:SE X b gb):SE X (.BinOp a .Mult b pos) (EV.bin hZ ga gb):=kL J0 Dh ha hb
theorem eY (ha:SE X a ga) (hb:SE X b gb):SE X (.BinOp a .FloorDiv b pos) (EV.bin oDiv ga gb):=kL J3 Dj ha hb
theorem aN (ha:SE X a ga) (hb:SE X b gb):SE X (.BinOp a .Mod b pos) (EV.bin oMod ga gb):=kL J1 Di ha hb
theorem bx (ha:SE X a ga) (hb:SE X b gb):SE X (.BinOp a .LShift b pos) (EV.bin bD ga gb):=kL JY Df ha hb
theorem Ki (ha:SE X a ga) (hb:SE X b gb):SE X (.BinOp a .RShift b pos) (EV.bin Bd ga gb):=kL JX De ha hb
theorem HW (ha:SE X a ga) (hb:SE X b gb):SE X (.BinOp a .BitAnd b pos) (EV.bin pe ga gb):=kL He zy ha hb
theorem HV (ha:SE X a ga) (hb:SE X b gb):SE X (.BinOp a .BitOr b pos) (EV.bin yj ga gb):=kL J4 Dm ha hb
theorem HU (ha:SE X a ga) (hb:SE X b gb):SE X (.BinOp a .BitXor b pos) (EV.bin qK ga gb):=kL Hd zx ha hb
theorem IH (ha:SE X a ga) (hb:SE X b gb):SE X (.Compare a [.Lt] [b] pos) (EV.bin oLt ga gb):=uG MZ A8 ha hb (fb _)
theorem M7 (ha:SE X a ga) (hb:SE X b gb):SE X (.Compare a [.Gt] [b] pos) (EV.bin oGt ga gb):=uG M1 Ba ha hb (fb _)
theorem M8 (ha:SE X a ga) (hb:SE X b gb):SE X (.Compare a [.GtE] [b] pos) (EV.bin oGe ga gb):=uG M3 Bb ha hb (fb _)
theorem qp (ha:SE X a ga) (hb:SE X b gb):ST X (.Compare a [.Lt] [b] pos) (EV.bin oLt ga gb):=ot MZ A8 ha hb (fb _)
theorem Np (ha:SE X a ga) (hb:SE X b gb):ST X (.Compare a [.LtE] [b] pos) (EV.bin oLe ga gb):=ot Hb oW ha hb (fb _)
theorem yW (ha:SE X a ga) (hb:SE X b gb):ST X (.Compare a [.Gt] [b] pos) (EV.bin oGt ga gb):=ot M1 Ba ha hb (fb _)
theorem AW (ha:SE X a ga) (hb:SE X b gb):ST X (.Compare a [.GtE] [b] pos) (EV.bin oGe ga gb):=ot M3 Bb ha hb (fb _)
theorem jF (ha:SE X a ga):SE X (.UnaryOp .USub a pos) (un qI ga) :=
 PE.weak (JK Ft ha) fun σ H Q ⟨δ,hσ,h⟩=>⟨δ,hσ,(RQ.bind h).to fun v H1 s1 ⟨_,d,r,q⟩=>by
  unfold qI at q
  split at q
  ·cases r;exact ⟨_,rfl,q _ _ ↥19 (.int _)⟩
  ·exact False.elim q⟩
end
end ES
namespace ES
open PySem PySem.Spec PyProof.Rows L2 EV
unseal SE ST SW SA
mutual
def py:D->PyData
 | .non=>.none
 | .bl b=>.bool b
 | .int i=>.int i
 | .str x=>.str x
 | .tup ds=>.tuple (pys ds)
 | .lst ds=>.list (pys ds)
 | _=>.dict []
def pys:List D->List PyData
 | []=>[]
 | d::r=>py d::pys r
end
section
variable {X:Cx} {pins:List ↥10} {σ:L2.St} {H:Hp} {s:Shared}
mutual
theorem m9 (I:Inv X pins σ H s):∀ {v:V} {d:D} {u:Value},(py d).canLay0=true->Rep X.K X.mg H v d->RelV v u->∃ as,Reads s.heap u (py d) as
 | _,_,u,_,.non,r=>by cases r;exact ⟨_,.none⟩
 | _,_,u,_,.bl b,r=>by cases r;exact ⟨_,.bool b⟩
 | _,_,u,_,.int i,r=>by obtain ⟨t,rfl⟩:=r;exact ⟨_,.int i t⟩
 | _,_,u,_,.str x,r=>by obtain ⟨t,rfl⟩:=r;exact ⟨_,.str x t⟩
 | _,.tup ds,u,hc,.tup hq rs,r=>by
  cases r
  obtain ⟨its,rv,⟨o,h1,h2,n,h3⟩,_⟩:=I.tuple hq
  obtain ⟨as,ra⟩:=gH I (by simpa [py,PyData.canLay0] using hc) rs rv
  exact ⟨_,.tuple h1 h2 h3 (by simpa using ra)⟩
 | _,.lst ds,u,hc,.lst hq rs,r=>by
  cases r
  obtain ⟨its,rv,⟨o,n,h1,h2,_,h3⟩,_⟩:=I.list hq
  obtain ⟨as,ra⟩:=gH I (by simpa [py,PyData.canLay0] using hc) rs rv
  exact ⟨_,.list h1 h2 h3 (by simpa using ra)⟩
 | _,.ty n,u,hc,_,_=>by simp [py,PyData.canLay0] at hc
 | _,.cls a,u,hc,_,_=>by simp [py,PyData.canLay0] at hc
 | _,.exc a,u,hc,_,_=>by simp [py,PyData.canLay0] at hc
 | _,.ins a b,u,hc,_,_=>by simp [py,PyData.canLay0] at hc
theorem gH (I:Inv X pins σ H s):∀ {vs:List V} {ds:List D} {us:List Value},PyData.canLayAll0 (pys ds)=true->Reps X.K X.mg H vs ds->Vals vs us->∃ as,ReadsAll s.heap us (pys ds) as
 | _,_,_,_,.nil,r=>by cases r;exact ⟨_,.nil⟩
 | _,dd::dr,_,hc,.cons r t,q=>by
  cases q with
  | cons q1 q2 =>
   have hc':PyData.canLay0 (py dd)=true/\PyData.canLayAll0 (pys dr)=true:=by simpa [pys,PyData.canLayAll0] using hc
   obtain ⟨a1,r1⟩:=m9 I hc'.1 r q1
   obtain ⟨a2,r2⟩:=gH I hc'.2 t q2
   exact ⟨_,.cons r1 r2⟩
end
end
mutual
theorem vH:∀ (n:Nat) (d:D),D.pl n d=true->(py d).canLay0=true/\(py d).depth<=n
 | _,.non,_=>⟨rfl,Nat.zero_le _⟩
 | _,.bl _,_=>⟨rfl,Nat.zero_le _⟩
 | _,.int _,_=>⟨rfl,Nat.zero_le _⟩
 | _,.str x,h=>⟨by simpa [py,PyData.canLay0,PyData.strOk,D.pl] using h,Nat.zero_le _⟩
 | 0,.tup _,h=>by simp [D.pl] at h
 | 0,.lst _,h=>by simp [D.pl] at h
 | n+1,.tup ds,h=>by
  have z:=qC n ds (by simpa [D.pl] using h)
  exact ⟨by simpa [py,PyData.canLay0] using z.1,by simp only [py,PyData.depth];omega⟩
 | n+1,.lst ds,h=>by
  have z:=qC n ds (by simpa [D.pl] using h)
  exact ⟨by simpa [py,PyData.canLay0] using z.1,by simp only [py,PyData.depth];omega⟩
 | n,.own _,h=>by cases n<;>simp [D.pl] at h
 | n,.ty _,h=>by cases n<;>simp [D.pl] at h
 | n,.cls _,h=>by cases n<;>simp [D.pl] at h
 | n,.exc _,h=>by cases n<;>simp [D.pl] at h
 | n,.ins _ _,h=>by cases n<;>simp [D.pl] at h
theorem qC:∀ (n:Nat) (ds:List D),(∀ d∈ds,D.pl n d=true)->PyData.canLayAll0 (pys ds)=true/\PyData.depthAll (pys ds)<=n
 | _,[],_=>⟨rfl,Nat.zero_le _⟩
 | n,d::r,h=>by
  have z1:=vH n d (h d (.head _))
  have z2:=qC n r (fun x hx=>h x (.tail _ hx))
  exact ⟨by simp [pys,PyData.canLayAll0,z1.1,z2.1],by simp only [pys,PyData.depthAll];omega⟩
end
mutual
theorem xJ:∀ (n:Nat) (a b:D),D.pl n a=true->D.pl n b=true->D.beq a b=PyData.eqv (py a) (py b)
 | n,a,b,ha,hb=>by
  cases a<;>cases b<;>first
   | rfl
   | (cases n<;>simp [D.pl] at ha;done)
   | (cases n<;>simp [D.pl] at hb;done)
   | skip
  all_goals cases n with
   | zero=>simp [D.pl] at ha
   | succ n =>
    simp only [D.beq,py,PyData.eqv]
    exact tw n _ _ (by simpa [D.pl] using ha) (by simpa [D.pl] using hb)
theorem tw:∀ (n:Nat) (as bs:List D),(∀ d∈as,D.pl n d=true)->(∀ d∈bs,D.pl n d=true)->D.beqs as bs=PyData.eqvAll (pys as) (pys bs)
 | _,[],[],_,_=>rfl
 | _,[],_::_,_,_=>rfl
 | _,_::_,[],_,_=>rfl
 | n,a::as,b::bs,ha,hb=>by
  simp only [D.beqs,pys,PyData.eqvAll]
  rw [xJ n a b (ha a (.head _)) (hb b (.head _)),tw n as bs (fun x hx=>ha x (.tail _ hx)) (fun x hx=>hb x (.tail _ hx))]
end
section
variable {X:Cx}
theorem M4:i6 oEq:=fun x y C z=>by unfold oEq at z;exact dQ z
theorem MY:i6 oNe:=fun x y C z=>by unfold oNe at z;exact dQ z
theorem Kp (r1:Rep X.K X.mg H x dx) (r2:Rep X.K X.mg H y dy) (sx:dx.sc=true) (sy:dy.sc=true) (n:IB x y=true):decide (x=y)=D.beq dx dy:=by
 cases r1<;>cases sx<;>cases r2<;>cases sy<;>first
  | exact absurd (show false=true from n) Bool.false_ne_true
  | exact rn
  | exact xw
  | exact rm
  | (simp [D.beq];done)
theorem xo (n:Bool) (hu:X.A.units+64<cLine) (I:Inv X pins σ H s) (rx:RelV x v) (ry:RelV y u) (r1:Rep X.K X.mg H x dx) (r2:Rep X.K X.mg H y dy)
  (hc:D.cmp dx dy=true) (q:Q (.bl (xor n (D.beq dx dy))) H):wpAny ↥5 X.A (compareOp (if n then .NotEq else .Eq) v u) (EP X pins σ Q) X.xe s:=by
 unfold D.cmp at hc
 by_cases hp:(D.pl 8 dx&&D.pl 8 dy)=true
 ·rw [Bool.and_eq_true] at hp
  obtain ⟨l1,d1⟩:=vH 8 dx hp.1
  obtain ⟨l2,d2⟩:=vH 8 dy hp.2
  obtain ⟨as,ra⟩:=m9 I l1 r1 rx
  obtain ⟨bs,rb⟩:=m9 I l2 r2 ry
  have e:=xJ 8 dx dy hp.1 hp.2
  cases n with
  | false =>
   refine (SeqAt.rcAt_reads ra rb l1 l2 ⋯ X.prog X.w X.xe _ ?_:wpAny ↥5 X.A (compareOp .Eq v u) _ _ _)
   exact dW I q (by rw [Bool.false_xor,e])
  | true =>
   refine (SeqAt.rcNeAt_reads ra rb l1 l2 ⋯ X.prog X.w X.xe _ ?_:wpAny ↥5 X.A (compareOp .NotEq v u) _ _ _)
   exact dW I q (by rw [Bool.true_xor,e])
 ·have hs:(dx.sc&&dy.sc)=true:=by
   rw [Bool.or_eq_true] at hc
   exact hc.resolve_right hp
  rw [Bool.and_eq_true] at hs
  have hsc:IB x y=true:=by
   cases r1<;>cases (hs.1)<;>cases r2<;>cases (hs.2)<;>first | rfl | exact absurd rfl hp
  have e:=Kp r1 r2 hs.1 hs.2 hsc
  cases n with
  | false=>exact JV pins s σ H x y v u Q I rx ry ⟨hsc,by rw [e];rw [Bool.false_xor] at q;exact q⟩
  | true=>exact JQ pins s σ H x y v u Q I rx ry ⟨hsc,by rw [e];rw [Bool.true_xor] at q;exact q⟩
theorem Bc (hu:X.A.units+64<cLine):OpR X (compareOp .Eq) (rD X oEq):=by
 intro pins s σ H x y v u Q I rx ry ⟨dx,dy,d,r1,r2,e,q⟩
 unfold oEq at e
 split at e
 ·rename_i hc
  cases e
  exact xo false hu I rx ry r1 r2 hc (by rw [Bool.false_xor];exact q _ _ ↥19 (.bl _))
 ·cases e
theorem A7 (hu:X.A.units+64<cLine):OpR X (compareOp .NotEq) (rD X oNe):=by
 intro pins s σ H x y v u Q I rx ry ⟨dx,dy,d,r1,r2,e,q⟩
 unfold oNe at e
 split at e
 ·rename_i hc
  cases e
  exact xo true hu I rx ry r1 r2 hc (by rw [Bool.true_xor];exact q _ _ ↥19 (.bl _))
 ·cases e
theorem mU (r:Rep X.K X.mg H x d) (h:d.sc=true):lR x=true:=by cases r<;>first | rfl | cases h
theorem j6:∀ {xs:List V} {ds:List D},Reps X.K X.mg H xs ds->ds.all D.sc=true->xs.all lR=true
 | _,_,.nil,_=>rfl
 | _,_,.cons r t,h=>by
  rw [List.all_cons,Bool.and_eq_true] at h
  rw [List.all_cons,mU r h.1,j6 t h.2];rfl
theorem Ei (r1:Rep X.K X.mg H x dx) (r2:Rep X.K X.mg H y dy) (sx:dx.sc=true) (sy:dy.sc=true):eqV x y=D.beq dx dy:=by
 cases r1<;>cases sx<;>cases r2<;>cases sy<;>rfl
theorem wY (r:Rep X.K X.mg H x dx) (sx:dx.sc=true):∀ {xs:List V} {ds:List D},Reps X.K X.mg H xs ds->ds.all D.sc=true->inV x xs=ds.any fun y=>D.beq y dx
 | _,_,.nil,_=>rfl
 | _,_,.cons r' t,h=>by
  rw [List.all_cons,Bool.and_eq_true] at h
  unfold inV
  rw [List.any_cons,List.any_cons,Ei r' r h.1 sx]
  exact congrArg _ (wY r sx t h.2)
theorem wX (neg:Bool) (I:Inv X pins σ H s) (rx:RelV x v) (ry:RelV y u) (r1:Rep X.K X.mg H x dx) (r2:Rep X.K X.mg H y dy)
  (hc:oIn dx dy=.ok (.bl k)) (q:Q (.bl (xor neg k)) H):wpAny ↥5 X.A (compareOp (if neg then .NotIn else .In) v u) (EP X pins σ Q) X.xe s:=by
 have seq:∀ {p:Addr} {xs:List V} {ds:List D},y=.ref p->(SqL X.K H p xs\/SqT X.K H p xs)->Reps X.K X.mg H xs ds->isIn dx ds=some k->wpAny ↥5 X.A (compareOp (if neg then .NotIn else .In) v u) (EP X pins σ Q) X.xe s:=fun {p xs ds} ey hq rs hi=>by
  subst ey
  unfold isIn at hi
  split at hi
  ·rename_i hs
   rw [Bool.and_eq_true] at hs
   cases hi
   have e:=wY r1 hs.1 rs hs.2
   cases neg with
   | false=>exact vP pins s σ H _ _ v u Q I rx ry ⟨p,xs,rfl,hq,mU r1 hs.1,j6 rs hs.2,by rw [if_neg ↥3,e];rw [Bool.false_xor] at q;exact q⟩
   | true=>exact oV pins s σ H _ _ v u Q I rx ry ⟨p,xs,rfl,hq,mU r1 hs.1,j6 rs hs.2,by rw [if_pos rfl,e];rw [Bool.true_xor] at q;exact q⟩
  ·cases hi
 have hseq:∀ {ds:List D},(match isIn dx ds with | some k=>R.ok (D.bl k) | none=>R.bad)=.ok (.bl k)->isIn dx ds=some k:=fun {ds} h=>by
  cases e:isIn dx ds with
  | none=>rw [e] at h;cases h
  | some k'=>rw [e] at h;cases h;rfl
 cases r2 with
 | tup hq rs=>exact seq rfl (.inr hq) rs (hseq (by cases dx<;>exact hc))
 | lst hq rs=>exact seq rfl (.inl hq) rs (hseq (by cases dx<;>exact hc))
 | str b =>
  cases r1 with
  | str a =>
   obtain ⟨⟨l⟩⟩:=a
   cases l with
   | nil=>cases hc
   | cons c t =>
    cases t with
    | cons _ _=>cases hc
    | nil =>
     cases hc
     have e:=empty_one b c
     cases neg with
     | false=>exact vO pins s σ H _ _ v u Q I rx ry ⟨_,_,rfl,rfl,by rw [e,Bool.not_not];rw [Bool.false_xor] at q;exact q⟩
     | true=>exact oU pins s σ H _ _ v u Q I rx ry ⟨_,_,rfl,rfl,by rw [e,Bool.not_not];rw [Bool.true_xor] at q;exact q⟩
  | _=>cases hc
 | _=>cases dx<;>cases hc
theorem sD:(∃ k,oIn a b=.ok (.bl k))\/oIn a b=.bad:=by
 unfold oIn
 split<;>first
  | exact .inr rfl
  | (split<;>first | exact .inl ⟨_,rfl⟩ | exact .inr rfl)
theorem M0:i6 oIn:=fun x y C z=>by rcases sD (a:=x) (b:=y) with ⟨k,e⟩ | e<;>rw [e] at z<;>cases z
theorem DJ:i6 gB:=fun x y C z=>by unfold gB at z;rcases sD (a:=x) (b:=y) with ⟨k,e⟩ | e<;>rw [e] at z<;>cases z
theorem A9:OpR X (compareOp .In) (rD X oIn):=by
 intro pins s σ H x y v u Q I rx ry ⟨dx,dy,d,r1,r2,e,q⟩
 rcases sD (a:=dx) (b:=dy) with ⟨k,e'⟩ | e'<;>rw [e'] at e<;>cases e
 exact wX false I rx ry r1 r2 e' (by rw [Bool.false_xor];exact q _ _ ↥19 (.bl _))
theorem vN:OpR X (compareOp .NotIn) (rD X gB):=by
 intro pins s σ H x y v u Q I rx ry ⟨dx,dy,d,r1,r2,e,q⟩
 unfold gB at e
 rcases sD (a:=dx) (b:=dy) with ⟨k,e'⟩ | e'<;>rw [e'] at e<;>cases e
 exact wX true I rx ry r1 r2 e' (by rw [Bool.true_xor];exact q _ _ ↥19 (.bl _))
end
section
variable {X:Cx} {pos:Pos} {a b c e:Expr} {ga gb gc g:E} {k:Nat}
theorem gP (hu:Room k X.A) (ha:SE X a ga) (hb:SE X b gb):SE X (.Compare a [.Eq] [b] pos) (EV.bin oEq ga gb):=uG M4 (Bc hu.units) ha hb (fb _)
theorem M6 (hu:Room k X.A) (ha:SE X a ga) (hb:SE X b gb):SE X (.Compare a [.NotEq] [b] pos) (EV.bin oNe ga gb):=uG MY (A7 hu.units) ha hb (fb _)
theorem cW (hu:Room k X.A) (ha:SE X a ga) (hb:SE X b gb):ST X (.Compare a [.Eq] [b] pos) (EV.bin oEq ga gb):=ot M4 (Bc hu.units) ha hb (fb _)
theorem yi (hu:Room k X.A) (ha:SE X a ga) (hb:SE X b gb):ST X (.Compare a [.NotEq] [b] pos) (EV.bin oNe ga gb):=ot MY (A7 hu.units) ha hb (fb _)
theorem Kk (ha:SE X a ga) (hb:SE X b gb) (hm:behindInMarks .In b=false:=by rfl):SE X (.Compare a [.In] [b] pos) (EV.bin oIn ga gb):=uG M0 A9 ha hb hm
theorem EZ (ha:SE X a ga) (hb:SE X b gb) (hm:behindInMarks .In b=false:=by rfl):ST X (.Compare a [.In] [b] pos) (EV.bin oIn ga gb):=ot M0 A9 ha hb hm
theorem Cu (ha:SE X a ga) (hb:SE X b gb) (hm:behindInMarks .NotIn b=false:=by rfl):ST X (.Compare a [.NotIn] [b] pos) (EV.bin gB ga gb):=ot DJ vN ha hb hm
theorem HB (r:Rep X.K X.mg H v d):qJ d=.ok (.bl (decide (v=.non)))/\qG d=.ok (.bl (!decide (v=.non))):=by
 cases r<;>exact ⟨rfl,rfl⟩
theorem HA (h:tE X (un qJ ga) σ H Q):tE X ga σ H fun x H1=>tE X (con .non) σ H1 fun y H2=>y=.non/\Q (.bl (decide (x=.non))) H2:=by
 obtain ⟨δ,hσ,h⟩:=h
 refine ⟨δ,hσ,(RQ.bind h).to fun x H1 s1 ⟨_,d,r,q⟩=>⟨δ,hσ.mono s1,fun v H2 s2 r2 => ?_⟩⟩
 cases r2
 rw [(HB r).1] at q
 exact ⟨rfl,q _ _ s2 (.bl _)⟩
theorem mL (h:tT X g σ H Q):tE X g σ H fun v H'=>∃ k,v=.bl k/\Q k H':=by
 obtain ⟨δ,hσ,h⟩:=h
 refine ⟨δ,hσ,?_⟩
 cases q:g δ with
 | ok d =>
  rw [q] at h
  cases d with
  | bl k=>exact fun v H' s r=>by cases r;exact ⟨k,rfl,h H' s⟩
  | _=>exact False.elim h
 | ex C=>rw [q] at h;exact h
 | bad=>rw [q] at h;exact False.elim h
theorem Cv (ha:SE X a ga):ST X (.Compare a [.Is] [.Constant .none j p2] pos) (un qJ ga):=PT.weak (vE G1 ha En (fb _)) fun σ H Q h=>HA (mL h)
theorem gn (h:SE X e g) (he:∀ whole,isTrue e X.env whole=(do let v<-whole;standAt e.pos;holding [v] (truthy v)):=by intro _;rfl):ST X e g:=PT.weak (Gz h he) fun σ H Q q=>mL q
theorem RT.truth (h:RT X σ H (r.bind fun d=>truth d t f) Q):RT X σ H r fun k H'=>aq H H'/\if k=true then RT X σ H' t Q else RT X σ H' f Q:=by
 cases r with
 | ok d =>
  cases d with
  | bl k =>
   cases k with
   | true=>exact fun H' s=>⟨s,E3 (RT.mono s h)⟩
   | false=>exact fun H' s=>⟨s,Bi (RT.mono s h)⟩
  | _=>exact False.elim h
 | ex C=>exact h
 | bad=>exact False.elim h
theorem RT.to (h:RT X σ H r Q) (g:∀ k H',aq H H'->Q k H'->Q' k H'):RT X σ H r Q':=by
 cases r with
 | ok d =>
  cases d with
  | bl k=>exact fun H' s=>g k H' s (h H' s)
  | _=>exact False.elim h
 | ex C=>exact h
 | bad=>exact False.elim h
theorem RQ.truthT (h:RQ X σ H (r.bind fun d=>truth d t f) Q):RT X σ H r fun k H'=>aq H H'/\if k=true then RQ X σ H' t Q else RQ X σ H' f Q:=by
 cases r with
 | ok d =>
  cases d with
  | bl k =>
   cases k with
   | true=>exact fun H' s=>⟨s,E3 (RQ.mono s h)⟩
   | false=>exact fun H' s=>⟨s,Bi (RQ.mono s h)⟩
  | _=>exact False.elim h
 | ex C=>exact h
 | bad=>exact False.elim h
theorem RQ.truth (h:RQ X σ H (r.bind fun d=>truth d t f) Q):RQ X σ H r fun v H'=>∃ k,v=.bl k/\if k=true then RQ X σ H' t Q else RQ X σ H' f Q:=by
 cases r with
 | ok d =>
  cases d with
  | bl k =>
   cases k with
   | true=>exact fun v H' s r=>by cases r;exact ⟨true,rfl,E3 (RQ.mono s h)⟩
   | false=>exact fun v H' s r=>by cases r;exact ⟨false,rfl,Bi (RQ.mono s h)⟩
  | _=>exact False.elim h
 | ex C=>exact h
 | bad=>exact False.elim h
theorem l9 {k:Bool} {A B A' B':Prop} (h:if k=true then A else B) (f:A->A') (g:B->B'):if k=true then A' else B':=by
 cases k with
 | true=>exact E3 (f (by simpa using h))
 | false=>exact Bi (g (by simpa using h))
theorem jv (h:ST X a ga):ST X (.UnaryOp .Not a pos) (lP ga):=PT.weak (GA h) fun σ H Q ⟨δ,hσ,q⟩=>⟨δ,hσ,(RT.truth q).to fun k H' s ⟨_,z⟩=>by
 cases k with
 | true=>exact (show RT X σ H' (.ok ↥33) Q by simpa using z) H' ↥19
 | false=>exact (show RT X σ H' (.ok ↥34) Q by simpa using z) H' ↥19⟩
theorem t_w (h:SW X e g):ST X e g:=PW.pt h
theorem gQ (h:ST X a ga):SW X (.BoolOp .And [a] pos) ga:=C0 h
theorem j1 (h:ST X a ga):SW X (.BoolOp .Or [a] pos) ga:=Gw h
theorem w_and {rest:List Expr} (h:ST X a ga) (hb:SW X (.BoolOp .And (b::rest) pos) gb):SW X (.BoolOp .And (a::b::rest) pos) (fk ga gb) :=
 PW.weak (Gx h hb) fun σ H Q ⟨δ,hσ,q⟩=>⟨δ,hσ,(RT.truth q).to fun k H' s ⟨_,z⟩=>l9 z (fun z=>⟨δ,hσ.mono s,z⟩) (fun z=>z H' ↥19)⟩
theorem w_or {rest:List Expr} (h:ST X a ga) (hb:SW X (.BoolOp .Or (b::rest) pos) gb):SW X (.BoolOp .Or (a::b::rest) pos) (or_ ga gb) :=
 PW.weak (JE h hb) fun σ H Q ⟨δ,hσ,q⟩=>⟨δ,hσ,(RT.truth q).to fun k H' s ⟨_,z⟩=>l9 z (fun z=>z H' ↥19) (fun z=>⟨δ,hσ.mono s,z⟩)⟩
theorem dX {op} (h:SE X a g):SE X (.BoolOp op [a] pos) g:=GI h
theorem fE {rest:List Expr} (h:SE X a ga) (hb:SE X (.BoolOp .And (b::rest) pos) gb):SE X (.BoolOp .And (a::b::rest) pos) (fk ga gb) :=
 PE.weak (GP h hb) fun σ H Q ⟨δ,hσ,q⟩=>⟨δ,hσ,(RQ.truth q).to fun v H' s ⟨k,e,z⟩=>⟨k,e,l9 z (fun z=>⟨δ,hσ.mono s,z⟩) (fun z=>z _ H' ↥19 (.bl _))⟩⟩
theorem El {rest:List Expr} (h:SE X a ga) (hb:SE X (.BoolOp .Or (b::rest) pos) gb):SE X (.BoolOp .Or (a::b::rest) pos) (or_ ga gb) :=
 PE.weak (JL h hb) fun σ H Q ⟨δ,hσ,q⟩=>⟨δ,hσ,(RQ.truth q).to fun v H' s ⟨k,e,z⟩=>⟨k,e,l9 z (fun z=>z _ H' ↥19 (.bl _)) (fun z=>⟨δ,hσ.mono s,z⟩)⟩⟩
theorem Em (h:SE X a ga):SE X (.UnaryOp .Not a pos) (lP ga):=PE.weak (GJ h) fun σ H Q ⟨δ,hσ,q⟩=>⟨δ,hσ,(RQ.truth q).to fun v H' s ⟨k,e,z⟩=>⟨k,e,by
 cases k with
 | true=>exact (show RQ X σ H' (.ok ↥33) Q by simpa using z) _ H' ↥19 (.bl _)
 | false=>exact (show RQ X σ H' (.ok ↥34) Q by simpa using z) _ H' ↥19 (.bl _)⟩⟩
theorem xr (h:ST X c gc) (ha:SE X a ga) (hb:SE X b gb):SE X (.IfExp c a b pos) (ife gc ga gb) :=
 PE.weak (zr h ha hb) fun σ H Q ⟨δ,hσ,q⟩=>⟨δ,hσ,(RQ.truthT q).to fun k H' s ⟨_,z⟩=>l9 z (fun z=>⟨δ,hσ.mono s,z⟩) (fun z=>⟨δ,hσ.mono s,z⟩)⟩
theorem vj {op op':CmpOp} {f f':D->D->R D} (nx:i6 f) (nx':i6 f') (ho:OpR X (compareOp op) (rD X f)) (ho':OpR X (compareOp op') (rD X f')) (ha:SE X a ga) (hb:SE X b gb) (hc:SE X c gc)
  (hm:lastMarks [op,op'] [b,c]=false:=by with_unfolding_all rfl):ST X (.Compare a [op,op'] [b,c] pos) (chain f f' ga gb gc):=by
 refine PT.weak (zm ho ho' ha hb hc hm) fun σ H Q h => ?_
 obtain ⟨δ,hσ,q⟩:=mL h
 refine ⟨δ,hσ,(RQ.bind q).to fun x H1 s1 ⟨_,dx,r1,q1⟩=>⟨δ,hσ.mono s1,(RQ.bind q1).to fun y H2 s2 ⟨_,dy,r2,q2⟩ => ?_⟩⟩
 have q3:=RQ.truth q2
 refine RQ.op nx (r1.mono s2) r2 (q3.to fun v H3 s3 ⟨k,e,z⟩=>⟨k,e,l9 z (fun z=>⟨δ,((hσ.mono s1).mono s2).mono s3,(RQ.bind z).to fun w H4 s4 ⟨_,dw,r4,q4⟩ => ?_⟩) (fun z=>z _ H3 ↥19 (.bl _))⟩)
 exact RQ.op nx' ((r2.mono s3).mono s4) r4 q4
theorem fm:SA X [] []:=PA.weak gz fun σ H Q ⟨δ,hσ,h⟩=>h [] H (aq.refl H) .nil
theorem RA.cons (h:RA X σ H (evs (g::gs) δ) Q):RQ X σ H (g δ) fun v H1=>RA X σ H1 (evs gs δ) fun vs H2=>aq H1 H2->∀ d,Rep X.K X.mg H1 v d->Q (v::vs) H2:=by
 unfold evs at h
 cases q:g δ with
 | ok d =>
  rw [q] at h
  refine fun v H1 s1 r1 => ?_
  simp only [R.bind] at h
  cases q2:evs gs δ with
  | ok ds =>
   rw [q2] at h
   exact fun vs H2 s2 rs s2' d' r'=>h (v::vs) H2 (s1.trans s2) (.cons (r1.mono s2) rs)
  | ex C=>rw [q2] at h;exact fun Ca hc H' s'=>h Ca hc H' (s1.trans s')
  | bad=>rw [q2] at h;exact h
 | ex C=>rw [q] at h;exact h
 | bad=>rw [q] at h;exact h
theorem RA.to (h:RA X σ H r Q) (g:∀ v H',aq H H'->Q v H'->Q' v H'):RA X σ H r Q':=by
 cases r with
 | ok d=>exact fun v H' s r=>g v H' s (h v H' s r)
 | ex C=>exact h
 | bad=>exact h
theorem aj (ha:SE X e g) (hr:SA X es gs) (hs:starEach (e::es) X.env=↥27::starEach es X.env:=by rfl):SA X (e::es) (g::gs) :=
 PA.weak (dG ha hr hs) fun σ H Q ⟨δ,hσ,h⟩=>by
  refine ⟨δ,hσ,?_⟩
  cases q:g δ with
  | ok d =>
   have h':=RA.cons h
   rw [q] at h'
   exact fun v H1 s1 r1=>⟨δ,hσ.mono s1,(h' v H1 s1 r1).to fun vs H2 s2 z=>z s2 d r1⟩
  | ex C =>
   have h':=RA.cons h
   rw [q] at h'
   exact h'
  | bad =>
   have h':=RA.cons h
   rw [q] at h'
   exact h'
theorem bJ {x1} (h:SA X es gs) (hl:es.length<=1000) (hg:gs.length=es.length:=by rfl):SE X (.Tuple es x1 pos) (gy gs) :=
 PE.weak (A3 h) fun σ H Q ⟨δ,hσ,q⟩=>⟨δ,hσ,by
  have q':=RA.bind q
  cases e:evs gs δ with
  | ok ds =>
   have hd:ds.length=gs.length:=evs_len e
   rw [e] at q'
   refine fun vs H1 s1 rs => ?_
   obtain ⟨_,ds',rs',q2⟩:=q' vs H1 s1 rs
   refine ⟨by rw [rs.length,hd,hg];exact Nat.le_of_lt (j4 hl),fun p hp=>q2 _ _ (av hp _) (.tup (SqT.of aA) (rs'.mono (av hp _)))⟩
  | ex C=>rw [e] at q';exact q'
  | bad=>rw [e] at q';exact q'⟩
where
 evs_len {δ:Dt}:∀ {gs:List E} {ds:List D},evs gs δ=.ok ds->ds.length=gs.length
  | [],ds,e=>by cases e;rfl
  | g::gs,ds,e=>by
   unfold evs at e
   cases q:g δ with
   | ok d =>
    rw [q] at e
    simp only [R.bind] at e
    cases q2:evs gs δ with
    | ok ds'=>rw [q2] at e;cases e;simp [evs_len q2]
    | ex C=>rw [q2] at e;cases e
    | bad=>rw [q2] at e;cases e
   | ex C=>rw [q] at e;cases e
   | bad=>rw [q] at e;cases e
theorem jG (h:SA X es gs) (hl:es.length<=1000) (hg:gs.length=es.length:=by rfl):SE X (.List es pos) (qP gs) :=
 PE.weak (A5 h) fun σ H Q ⟨δ,hσ,q⟩=>⟨δ,hσ,by
  have q':=RA.bind q
  cases e:evs gs δ with
  | ok ds =>
   have hd:ds.length=gs.length:=bJ.evs_len e
   rw [e] at q'
   refine fun vs H1 s1 rs => ?_
   obtain ⟨_,ds',rs',q2⟩:=q' vs H1 s1 rs
   refine ⟨by rw [rs.length,hd,hg];exact Nat.le_of_lt (j4 hl),fun p hp=>q2 _ _ (av hp _) (.lst (SqL.of aA) (rs'.mono (av hp _)))⟩
  | ex C=>rw [e] at q';exact q'
  | bad=>rw [e] at q';exact q'⟩
theorem OL:i6 oIx:=fun x y C z=>by
 unfold oIx at z
 split at z
 ·split at z<;>cases z
 ·split at z<;>cases z
 ·split at z
  ·split at z<;>cases z
  ·cases z
 ·cases z
theorem tG (rs:Reps X.K X.mg H xs ds) (h:((EV.ixN ds.length i).bind fun j=>ds[j]?)=some d):∃ v,atI xs i=some v/\Rep X.K X.mg H v d:=by
 have el:=rs.length
 cases q:EV.ixN ds.length i with
 | none=>rw [q] at h;cases h
 | some j =>
  rw [q] at h
  obtain ⟨v,h1,h2⟩:=rs.get h
  refine ⟨v,?_,h2⟩
  unfold atI
  rw [el,show L2.ixN ds.length i=some j from q]
  exact h1
theorem O4:IxR X (rD X oIx):=by
 intro value slice pins s σ H x y v u Q I rx ry ⟨dx,dy,d,r1,r2,e,q⟩ hs
 unfold oIx at e
 split at e
 ·split at e
  ·rename_i h
   cases e;cases r1;cases r2
   rename_i a xs hq rs
   obtain ⟨w,h1,h2⟩:=tG rs h
   exact kH value slice pins s σ H _ _ v u Q I rx ry ⟨a,xs,_,w,rfl,rfl,hq,h1,q _ _ ↥19 h2⟩ hs
  ·cases e
 ·split at e
  ·rename_i h
   cases e;cases r1;cases r2
   rename_i a xs hq rs
   obtain ⟨w,h1,h2⟩:=tG rs h
   exact DX value slice pins s σ H _ _ v u Q I rx ry ⟨a,xs,_,w,rfl,rfl,hq,h1,q _ _ ↥19 h2⟩ hs
  ·cases e
 ·split at e
  ·rename_i hz
   split at e
   ·rename_i c h
    cases e;cases r1;cases r2
    refine Ht value slice pins s σ H _ _ v u Q I rx ry ⟨_,_,c,rfl,rfl,Nat.le_trans hz (by rw [sizeLine_eq];decide),?_,q _ _ ↥19 (.str _)⟩ hs
    exact h
   ·cases e
  ·cases e
 ·cases e
theorem jd (ha:SE X a ga) (hb:SE X b gb) (hs:rQ b:=by intro _ _;rfl):SE X (.Subscript a b pos) (EV.bin oIx ga gb) :=
 PE.weak (GL O4 ha hb hs) fun σ H Q h=>by
  obtain ⟨δ,hσ,q⟩:=xI h
  refine ⟨δ,hσ,q.to fun x H1 s1 ⟨δ1,hσ1,q1⟩=>⟨δ1,hσ1,q1.to fun y H2 s2 ⟨dx,dy,r1,r2,q2⟩=>RQ.op OL r1 r2 q2⟩⟩
end
end ES
namespace ES
open PySem PySem.Spec PyProof.Rows L2 EV
unseal SE ST SW SA
abbrev Os:=List (Nat×Addr)
def iZ (os:Os):List Addr:=os.map (·.2)
def hide (H:Hp) (os:Os):Hp:=fun a=>if a∈iZ os then none else H a
theorem nC (H:Hp):hide H []=H:=by
 funext a
 unfold hide iZ
 simp
theorem gN {H:Hp} {os:Os} {a:Addr} (h:a∈iZ os):hide H os a=none:=if_pos h
theorem bw {H:Hp} {os:Os} {a:Addr} (h:a∉iZ os):hide H os a=H a:=if_neg h
theorem aC (H:Hp) (os:Os):aq ↥20 H:=fun b o e=>by
 unfold hide at e
 split at e
 ·cases e
 ·exact e
theorem fB (os:Os) (s:aq H H'):aq ↥20 (hide H' os):=fun b o e=>by
 unfold hide at e ⊢
 split at e
 ·cases e
 ·rename_i h
  rw [if_neg h]
  exact s b o e
structure StO (X:Cx) (H:Hp) (σ:L2.St) (δ:Dt) (os:Os):Prop where
 st:Stt X.K X.mg ↥20 σ δ
 lst:∀ p∈os,∃ xs ds,H p.2=some (.lst xs)/\σ[p.1]? = some (some (.ref p.2))/\δ[p.1]? = some (some (.own ds))/\Reps X.K X.mg ↥20 xs ds
 own:∀ i ds,δ[i]? = some (some (.own ds))->∃ a,(i,a)∈os
 inj:∀ i j a,(i,a)∈os->(j,a)∈os->i=j
theorem fY {os:Os} {a:Addr} (h:a∈iZ os):∃ p∈os,p.2=a:=by
 obtain ⟨p,hp,e⟩:=List.mem_map.mp h
 exact ⟨p,hp,e⟩
theorem cR {os:Os} {p:Nat×Addr} (h:p∈os):p.2∈iZ os:=List.mem_map.mpr ⟨p,h,rfl⟩
def AZ (h:Heap) (os:Os):List ↥10:=lZ (iZ os) h
section
variable {X:Cx} {pins:List ↥10} {σ:L2.St} {H H':Hp} {s s':Shared} {os:Os}
def Iu (H:Hp) (os:Os):Prop:=∀ a∈iZ os,∃ xs,H a=some (.lst xs)
theorem jS (I:Inv X pins σ H s) (hl:Iu H os):Inv X (pins++AZ s.heap os) σ ↥20 s:=by
 have ne:∀ {b:Addr} {o:HO},H b=some o->(∀ xs,o ≠ .lst xs)->hide H os b=some o:=fun {b o} e n=>by
  rw [bw fun z => ?_];exact e
  obtain ⟨xs,q⟩:=hl b z
  rw [e] at q
  exact n xs (Option.some.inj q)
 refine ⟨I.ok,I.os,I.bare,⟨I.base.keep,I.base.slot,fun b o e n hx => ?_,I.base.there,fun b xs e => ?_,fun b o u e => ?_,fun b ps e => ?_⟩,I.loc,I.cell,?_,fun x c e => ?_,fun p hp => ?_,fun a o e => ?_,I.len⟩
 ·unfold hide;split
  ·rfl
  ·exact I.base.free b o e n hx
 ·exact ne (I.base.tups b xs e) fun _ z=>nomatch z
 ·exact ne (I.base.frzs b o u e) fun _ z=>nomatch z
 ·obtain ⟨more,q⟩:=I.base.tbls b ps e
  exact ⟨more,ne q fun _ z=>nomatch z⟩
 ·unfold hide;split
  ·rfl
  ·exact I.free
 ·unfold hide;split
  ·rfl
  ·exact I.freeC x c e
 ·rw [<- List.append_assoc] at hp
  rcases List.mem_append.mp hp with z | z
  ·obtain ⟨e,n,r⟩:=I.pin p z
   refine ⟨e,?_,r⟩
   unfold hide;split
   ·rfl
   ·exact n
  ·obtain ⟨hb,e⟩:=oX z
   obtain ⟨xs,q⟩:=hl p.1 hb
   obtain ⟨_,its,n,_,e'⟩:=I.hok p.1 _ q
   rw [e] at e'
   have e2:p.2={ cls:=.type "list",data:=.seq its.toArray n }:=Option.some.inj e'
   refine ⟨e,gN hb,fun z => ?_,fun z => ?_,fun v z => ?_⟩
   ·rw [z,I.free] at q;cases q
   ·have hx:p.1∉X.ex:=fun w=>I.ok.exfs p.1 w z
    obtain ⟨_,o0,ho0,_⟩:=I.ok.funs.mem z
    rw [I.base.free p.1 o0 ho0 (I.ok.frf p.1 z) hx] at q;cases q
   ·rw [e2] at z;cases z
 ·have hna:a∉iZ os:=fun z=>by rw [gN z] at e;cases e
  rw [bw hna] at e
  exact (I.hok a o e).stay (fun _ _ _ q=>q) (fun b q=>ne q fun _ z=>nomatch z) fun b xs q=>ne q fun _ z=>nomatch z
def d4 (H H':Hp) (os:Os):Hp:=fun a=>if a∈iZ os then H a else H' a
theorem ig (h:∀ a∈iZ os,H' a=none):hide (d4 H H' os) os=H':=by
 funext a
 unfold hide d4
 by_cases z:a∈iZ os
 ·rw [if_pos z,h a z]
 ·rw [if_neg z,if_neg z]
theorem jR (hx:X.ex=[]) (I0:Inv X pins σ H s) (hl:Iu H os) (I:Inv X (pins++AZ s.heap os) σ H' s'):Inv X pins σ (d4 H H' os) s'/\∀ a∈iZ os,H' a=none:=by
 have pin:∀ a∈iZ os,∃ o,s.heap.get? a=some o/\s'.heap.get? a=some o/\H' a=none/\a≠X.env.locals/\a∉X.fs:=fun a ha=>by
  obtain ⟨xs,q⟩:=hl a ha
  obtain ⟨o,e⟩:∃ o,s.heap.get? a=some o:=by
   obtain ⟨_,its,n,_,e⟩:=I0.hok a _ q
   exact ⟨_,e⟩
  obtain ⟨e1,e2,e3,e4,_⟩:=I.pin (a,o) (List.mem_append_right _ (List.mem_append_right _ (cU ha e)))
  exact ⟨o,e,e1,e2,e3,e4⟩
 have hn:∀ a∈iZ os,H' a=none:=fun a ha=>(pin a ha).choose_spec.2.2.1
 have vis:∀ {b:Addr} {o:HO},H' b=some o->d4 H H' os b=some o:=fun {b o} e=>by
  unfold d4;rw [if_neg fun z => ?_];exact e
  rw [hn b z] at e;cases e
 refine ⟨⟨I.ok,I.os,I.bare,⟨I.base.keep,I.base.slot,fun b o e n hx' => ?_,I.base.there,fun b xs e=>vis (I.base.tups b xs e),fun b o u e=>vis (I.base.frzs b o u e),fun b ps e => ?_⟩,I.loc,I.cell,?_,fun x c e => ?_,fun p hp => ?_,fun a o e => ?_,I.len⟩,hn⟩
 ·unfold d4;split
  ·exact I0.base.free b o e n hx'
  ·exact I.base.free b o e n hx'
 ·obtain ⟨more,q⟩:=I.base.tbls b ps e
  exact ⟨more,vis q⟩
 ·unfold d4;split
  ·exact I0.free
  ·exact I.free
 ·unfold d4;split
  ·exact I0.freeC x c e
  ·exact I.freeC x c e
 ·obtain ⟨e,n,r⟩:=I.pin p (by rw [<- List.append_assoc];exact List.mem_append_left _ hp)
  refine ⟨e,?_,r⟩
  unfold d4;split
  ·exact (I0.pin p hp).2.1
  ·exact n
 ·by_cases z:a∈iZ os
  ·obtain ⟨ob,e0,e1,_⟩:=pin a z
   unfold d4 at e
   rw [if_pos z] at e
   obtain ⟨xs,q⟩:=hl a z
   rw [e] at q
   have q':o=.lst xs:=Option.some.inj q
   subst q'
   obtain ⟨hz,its,n,r,e2⟩:=I0.hok a _ e
   rw [e0] at e2
   have e3:ob=_:=Option.some.inj e2
   subst e3
   exact ⟨hz,its,n,r,e1⟩
  ·unfold d4 at e
   rw [if_neg z] at e
   exact (I.hok a o e).stay (fun _ _ _ q=>q) (fun b q=>vis q) fun b xs q=>vis q
end
section
variable {K:PySem.W.Frag} {mg:Str->Option Value} {H H':Hp}
def NoL (H H':Hp):Prop:=∀ b o,H b=some o->(∀ xs,o ≠ .lst xs)->(∀ ob xs,o ≠ .frz ob (.lst xs))->H' b=some o
theorem yY (k:NoL H H') (h:SqT K H a xs):SqT K H' a xs:=by
 rcases h with (h | ⟨o,h⟩) | h
 ·exact .inl (.inl (k _ _ h (fun _ z=>nomatch z) fun _ _ z=>nomatch z))
 ·exact .inl (.inr ⟨o,k _ _ h (fun _ z=>nomatch z) fun _ _ z=>by cases z⟩)
 ·exact .inr h
mutual
theorem m8 (k:NoL H H'):∀ {v:V} {d:D},d.flat=true->Rep K mg H v d->Rep K mg H' v d
 | _,_,_,.non=>.non
 | _,_,_,.bl b=>.bl b
 | _,_,_,.int i=>.int i
 | _,_,_,.str x=>.str x
 | _,.tup ds,f,.tup h r=>.tup (yY k h) (eA k (by simpa [D.flat] using f) r)
 | _,.lst ds,f,_=>by simp [D.flat] at f
 | _,_,_,.ty n=>.ty n
 | _,_,_,.cls h=>.cls h
 | _,_,_,.exc h e=>.exc h (k _ _ e (fun _ z=>nomatch z) fun _ _ z=>nomatch z)
 | _,.ins n ds,f,.ins h e r=>.ins h (k _ _ e (fun _ z=>nomatch z) fun _ _ z=>nomatch z) (sq k (by simpa [D.flat] using f) r)
theorem eA (k:NoL H H'):∀ {vs:List V} {ds:List D},D.flats ds=true->Reps K mg H vs ds->Reps K mg H' vs ds
 | _,_,_,.nil=>.nil
 | _,d::r,f,.cons h t=>by
  have f':d.flat=true/\D.flats r=true:=by simpa [D.flats] using f
  exact .cons (m8 k f'.1 h) (eA k f'.2 t)
theorem sq (k:NoL H H'):∀ {vs:List (Str×V)} {ds:List (String×D)},D.flatf ds=true->Repf K mg H vs ds->Repf K mg H' vs ds
 | _,_,_,.nil=>.nil
 | _,(_,d)::r,f,.cons h t=>by
  have f':d.flat=true/\D.flatf r=true:=by simpa [D.flatf] using f
  exact .cons (m8 k f'.1 h) (sq k f'.2 t)
end
theorem sL {os:Os} (hl:Iu H os):NoL H ↥20:=fun b o e n _=>by
 rw [bw fun z => ?_];exact e
 obtain ⟨xs,q⟩:=hl b z
 rw [e] at q
 exact n xs (Option.some.inj q)
end
section
variable {X:Cx} {σ:L2.St} {δ:Dt} {H H':Hp} {os:Os}
theorem StO.lsts (S:StO X H σ δ os):Iu H os:=fun a ha=>by
 obtain ⟨p,hp,rfl⟩:=fY ha
 obtain ⟨xs,_,h,_⟩:=S.lst p hp
 exact ⟨xs,h⟩
theorem StO.nil (h:Stt X.K X.mg H σ δ) (hn:∀ (i:Nat) (ds:List D),δ[i]? ≠ some (some (.own ds))):StO X H σ δ []:=⟨by rw [nC];exact h,fun p hp=>(nomatch hp),fun i ds e=>absurd e (hn i ds),fun _ _ _ z=>(nomatch z)⟩
theorem StO.mono (S:StO X H σ δ os) (s:aq H H'):StO X H' σ δ os :=
 ⟨S.st.mono (fB os s),fun p hp=>let ⟨xs,ds,a,b,c,d⟩:=S.lst p hp;⟨xs,ds,s _ _ a,b,c,d.mono (fB os s)⟩,S.own,S.inj⟩
theorem StO.shown (S:StO X H σ δ os) (s:aq ↥20 H') (hn:∀ a∈iZ os,H' a=none):StO X (d4 H H' os) σ δ os:=by
 have e:=ig (H:=H) hn
 refine ⟨by rw [e];exact S.st.mono s,fun p hp => ?_,S.own,S.inj⟩
 obtain ⟨xs,ds,a,b,c,d⟩:=S.lst p hp
 exact ⟨xs,ds,by unfold d4;rw [if_pos (cR hp)];exact a,b,c,by rw [e];exact d.mono s⟩
theorem StO.view (S:StO X H σ δ os):Stt X.K X.mg H σ (view δ):=by
 refine ⟨by unfold EV.view;rw [List.length_map];exact S.st.1,fun i d e n => ?_⟩
 unfold EV.view at e
 rw [List.getElem?_map] at e
 cases q:δ[i]? with
 | none=>rw [q] at e;cases e
 | some c =>
  rw [q] at e
  cases c with
  | none=>cases e
  | some d0 =>
   by_cases ho:∃ ds,d0=.own ds
   ·obtain ⟨ds,rfl⟩:=ho
    have e':D.lst ds=d:=Option.some.inj (Option.some.inj e)
    subst e'
    obtain ⟨a,ha⟩:=S.own i ds q
    obtain ⟨xs,ds',h1,h2,h3,h4⟩:=S.lst _ ha
    rw [q] at h3
    cases h3
    exact ⟨.ref a,h2,.lst (SqL.of h1) (h4.mono (aC H os))⟩
   ·have e':d0=d:=by
     cases d0<;>first | exact absurd ⟨_,rfl⟩ ho | exact Option.some.inj (Option.some.inj e)
    subst e'
    obtain ⟨v,h1,h2⟩:=S.st.2 i d0 q n
    exact ⟨v,h1,h2.mono (aC H os)⟩
theorem StO.noOwn (S:StO X H σ δ os) (s:aq ↥20 H'):Stt X.K X.mg H' σ (noOwn δ):=by
 refine ⟨by unfold EV.noOwn;rw [List.length_map];exact S.st.1,fun i d e n => ?_⟩
 unfold EV.noOwn at e
 rw [List.getElem?_map] at e
 cases q:δ[i]? with
 | none=>rw [q] at e;cases e
 | some c =>
  rw [q] at e
  cases c with
  | none=>cases e
  | some d0 =>
   by_cases ho:∃ ds,d0=.own ds
   ·obtain ⟨ds,rfl⟩:=ho
    cases e
   ·have e':d0=d:=by
     cases d0<;>first | exact absurd ⟨_,rfl⟩ ho | exact Option.some.inj (Option.some.inj e)
    subst e'
    obtain ⟨v,h1,h2⟩:=S.st.2 i d0 q n
    exact ⟨v,h1,h2.mono s⟩
end
def FQ (X:Cx) (σ:L2.St) (H:Hp) (os:Os) (δ:Dt) (r:R D) (Q:VK):Prop:=match r with
 | .ok d=>∀ v H',StO X H' σ δ os->aq ↥20 (hide H' os)->Rep X.K X.mg (hide H' os) v d->Q v H'
 | .ex C=>∀ Ca,X.mg C=some (.ref Ca)->∀ H',aq ↥20 H'->Stt X.K X.mg H' σ (noOwn δ)->ew X Ca σ H'
 | .bad=>False
def tF (X:Cx) (g:E):TE:=fun σ H Q=>∃ δ os,StO X H σ δ os/\FQ X σ H os δ (g δ) Q
def FT (X:Cx) (σ:L2.St) (H:Hp) (os:Os) (δ:Dt) (r:R D) (Q:Bool->Hp->Prop):Prop:=match r with
 | .ok (.bl b)=>∀ H',StO X H' σ δ os->aq ↥20 (hide H' os)->Q b H'
 | .ex C=>∀ Ca,X.mg C=some (.ref Ca)->∀ H',aq ↥20 H'->Stt X.K X.mg H' σ (noOwn δ)->ew X Ca σ H'
 | _=>False
def tFT (X:Cx) (g:E):TT:=fun σ H Q=>∃ δ os,StO X H σ δ os/\FT X σ H os δ (g δ) Q
section
variable {X:Cx} {e:Expr} {g:E}
theorem xg (hx:X.ex=[]) (h:SE X e g):PE X e (tF X g):=by
 intro pins s σ H Q I ⟨δ,os,S,q⟩
 have hl:=S.lsts
 have hw:RQ X σ ↥20 (g δ) (fun v H1=>aq ↥20 H1/\∃ d,g δ=.ok d/\Rep X.K X.mg H1 v d):=by
  cases r:g δ with
  | ok d=>exact fun v H' s r=>⟨s,d,rfl,r⟩
  | ex C =>
   rw [r] at q
   exact fun Ca hc H' s'=>q Ca hc H' s' (S.noOwn s')
  | bad=>rw [r] at q;exact q
 refine thn (h _ s σ _ _ (jS I hl) ⟨δ,S.st,hw⟩) fun u s' ⟨v,H1,I1,rv,sm,d,e,rd⟩ => ?_
 obtain ⟨I2,hn⟩:=jR hx I hl I1
 rw [e] at q
 have eh:=ig (H:=H) hn
 exact ⟨v,_,I2,rv,q v _ (S.shown sm hn) (by rw [eh];exact sm) (by rw [eh];exact rd)⟩
theorem HI (hx:X.ex=[]) (h:ST X e g):PT X e (tFT X g):=by
 intro pins s σ H Q I ⟨δ,os,S,q⟩
 have hl:=S.lsts
 have hw:RT X σ ↥20 (g δ) (fun b H1=>aq ↥20 H1/\g δ=.ok (.bl b)):=by
  cases r:g δ with
  | ok d =>
   rw [r] at q
   cases d with
   | bl b=>exact fun H' s=>⟨s,rfl⟩
   | _=>exact False.elim q
  | ex C =>
   rw [r] at q
   exact fun Ca hc H' s'=>q Ca hc H' s' (S.noOwn s')
  | bad=>rw [r] at q;exact False.elim q
 refine thn (h _ s σ _ _ (jS I hl) ⟨δ,S.st,hw⟩) fun b s' ⟨H1,I1,sm,e⟩ => ?_
 obtain ⟨I2,hn⟩:=jR hx I hl I1
 rw [e] at q
 have eh:=ig (H:=H) hn
 exact ⟨_,I2,q _ (S.shown sm hn) (by rw [eh];exact sm)⟩
def tB (X:Cx) (g:E):TE:=fun σ H Q=>∃ δ os,StO X H σ δ os/\(∀ d,g (view δ)=.ok d->d.flat=true)/\FQ X σ H os δ (g (view δ)) Q
def tBT (X:Cx) (g:E):TT:=fun σ H Q=>∃ δ os,StO X H σ δ os/\FT X σ H os δ (g (view δ)) Q
theorem rB (h:SE X e g):PE X e (tB X g):=by
 intro pins s σ H Q I ⟨δ,os,S,hf,q⟩
 refine h pins s σ H Q I ⟨_,S.view,?_⟩
 cases r:g (view δ) with
 | ok d =>
  rw [r] at q
  refine fun v H' s r'=>q v H' (S.mono s) (fB os s) (m8 (sL ((S.mono s).lsts)) (hf d r) r')
 | ex C =>
  rw [r] at q
  exact fun Ca hc H' s'=>q Ca hc H' ((aC H os).trans s') (S.noOwn ((aC H os).trans s'))
 | bad=>rw [r] at q;exact q
theorem Eu (h:ST X e g):PT X e (tBT X g):=by
 intro pins s σ H Q I ⟨δ,os,S,q⟩
 refine h pins s σ H Q I ⟨_,S.view,?_⟩
 cases r:g (view δ) with
 | ok d =>
  rw [r] at q
  cases d with
  | bl b=>exact fun H' s=>q H' (S.mono s) (fB os s)
  | _=>exact False.elim q
 | ex C =>
  rw [r] at q
  exact fun Ca hc H' s'=>q Ca hc H' ((aC H os).trans s') (S.noOwn ((aC H os).trans s'))
 | bad=>rw [r] at q;exact False.elim q
end
def OQ (X:Cx) (D:Ends) (F:Hp):O->Prop
 | .nx δ=>∀ σ H os,StO X H σ δ os->aq F ↥20->D.nx σ H
 | .bk δ=>∀ σ H os,StO X H σ δ os->aq F ↥20->D.bk σ H
 | .ct δ=>∀ σ H os,StO X H σ δ os->aq F ↥20->D.ct σ H
 | .rt d=>∀ v H,aq F H->Rep X.K X.mg H v d->D.rt v H
 | .ex C δ=>∀ σ H,aq F H->Stt X.K X.mg H σ δ->∀ Ca,X.mg C=some (.ref Ca)->ew X Ca σ H
 | .mk C δ=>∀ σ H,aq F H->∀ Ca,X.mg C=some (.ref Ca)->em X Ca σ H
 | .hx C δ=>∀ σ H,aq F H->Stt X.K X.mg H σ δ->∀ Ca,X.mg C=some (.ref Ca)->ehx X Ca σ H
 | .bad=>False
def tS (X:Cx) (g:S):TS:=fun D σ H=>∃ δ os,StO X H σ δ os/\OQ X D ↥20 (g δ)
@[irreducible] def SS (X:Cx) (st:Stmt) (g:S):Prop:=PS X st (tS X g)
@[irreducible] def SSs (X:Cx) (st:List Stmt) (g:S):Prop:=PSs X st (tS X g)
unseal SS SSs
theorem OQ.mono {X:Cx} {D:Ends} {F F':Hp} {o:O} (s:aq F F') (h:OQ X D F o):OQ X D F' o:=by
 cases o with
 | nx δ=>exact fun σ H os S s'=>h σ H os S (s.trans s')
 | bk δ=>exact fun σ H os S s'=>h σ H os S (s.trans s')
 | ct δ=>exact fun σ H os S s'=>h σ H os S (s.trans s')
 | rt d=>exact fun v H s' r=>h v H (s.trans s') r
 | ex C δ=>exact fun σ H s' S=>h σ H (s.trans s') S
 | mk C δ=>exact fun σ H s'=>h σ H (s.trans s')
 | hx C δ=>exact fun σ H s' S=>h σ H (s.trans s') S
 | bad=>exact h
theorem OQ.lv {X:Cx} {D:Ends} {F:Hp} {o:O} {n:L2.St->Hp->Prop} (hn:∀ δ,o ≠ .nx δ) (h:OQ X D F o):OQ X { D with nx:=n } F o:=by
 cases o with
 | nx δ=>exact absurd rfl (hn δ)
 | _=>exact h
section
variable {X:Cx} {N:List Str} {H:Hp} {σ:L2.St} {δ:Dt} {os:Os}
theorem aO (os:Os) (i:Nat):∀ p∈os.filter (fun p=>p.1 != i),p∈os/\p.1≠i:=fun p hp=>by
 have:=List.mem_filter.mp hp
 exact ⟨this.1,by simpa using this.2⟩
theorem pE (h:∀ p∈os',p∈os):aq ↥20 (hide H os'):=fun b o e=>by
 have hb:b∉iZ os:=fun z=>by rw [gN z] at e;cases e
 rw [bw hb] at e
 rw [bw fun z => ?_];exact e
 obtain ⟨p,hp,rfl⟩:=fY z
 exact hb (cR (h p hp))
theorem StO.set (S:StO X H σ δ os) (r:Rep X.K X.mg ↥20 v d):StO X H (σ.set i (some v)) (δ.set i (some d)) (os.filter fun p=>p.1 != i)/\aq ↥20 (hide H (os.filter fun p=>p.1 != i)):=by
 have sm:aq ↥20 (hide H (os.filter fun p=>p.1 != i)):=pE fun p hp=>(aO os i p hp).1
 refine ⟨⟨(S.st.mono sm).set (r.mono sm),fun p hp => ?_,fun j ds e => ?_,fun a b c h1 h2=>S.inj a b c (aO os i _ h1).1 (aO os i _ h2).1⟩,sm⟩
 ·obtain ⟨hp',ne⟩:=aO os i p hp
  obtain ⟨xs,ds,h1,h2,h3,h4⟩:=S.lst p hp'
  exact ⟨xs,ds,h1,by rw [List.getElem?_set_ne (Ne.symm ne)];exact h2,by rw [List.getElem?_set_ne (Ne.symm ne)];exact h3,h4.mono sm⟩
 ·by_cases hj:j=i
  ·subst hj
   by_cases hl:j<δ.length
   ·rw [List.getElem?_set_self hl] at e
    have e':d=.own ds:=Option.some.inj (Option.some.inj e)
    subst e'
    cases r
   ·rw [List.getElem?_eq_none (by simp;omega)] at e
    cases e
  ·rw [List.getElem?_set_ne (Ne.symm hj)] at e
   obtain ⟨a,ha⟩:=S.own j ds e
   exact ⟨a,List.mem_filter.mpr ⟨ha,by simpa using hj⟩⟩
structure Sx (X:Cx) (N:List Str):Prop where
 sc:Sc X N
 ex:X.ex=[]
variable {e c:Expr} {g gc:E} {pos:Pos} {st:Stmt} {rest body els:List Stmt} {gs gr gb ge:S}
theorem FQ.then {r:R EV.D} {Q:VK} {D:Ends} {f:EV.D->O} (h:OQ X D ↥20 (match r with | .ok d=>f d | .ex C=>.ex C (noOwn δ) | .bad=>.bad))
  (hq:∀ d v H',r=.ok d->StO X H' σ δ os->aq ↥20 (hide H' os)->Rep X.K X.mg (hide H' os) v d->OQ X D (hide H' os) (f d)->Q v H'):FQ X σ H os δ r Q:=by
 cases r with
 | ok d=>exact fun v H' S s r=>hq d v H' rfl S s r (OQ.mono s h)
 | ex C=>exact fun Ca hc H' s' st=>h σ H' s' st Ca hc
 | bad=>exact h
theorem ar:SSs X [] ao:=PSs.weak qB fun D σ H ⟨δ,os,S,h⟩=>h σ H os S ↥19
theorem ai (h:SS X st gs):SSs X [st] gs:=nh h
theorem af (h:SS X st gs) (hr:SSs X rest gr):SSs X (st::rest) (seq gs gr):=PSs.weak (dq h hr) fun D σ H ⟨δ,os,S,h⟩=>⟨δ,os,S,by
 unfold seq at h
 cases q:gs δ with
 | nx δ' =>
  rw [q] at h
  exact fun σ' H' os' S' s'=>⟨δ',os',S',OQ.mono s' h⟩
 | _=>rw [q] at h;exact OQ.lv (fun _ z=>nomatch z) h⟩
theorem Jw (C:Sx X N) (i:Nat) (hN:N[i]? = some x) (hx:Sto X x) (h:SE X e g) (hsw:swapsWith e (some (.Name x pos')) pos.line X.env=pure false:=by rfl):SS X (.Assign [.Name x pos'] e pos) (assign i g) :=
 PS.weak (oM (i:=i) (by rw [C.sc.n];exact C.sc.nd) (by rw [C.sc.n];exact hN) hx.1 (xg C.ex h) hsw hx.2) fun D σ H ⟨δ,os,S,q⟩=>⟨δ,os,S,FQ.then q fun d v H' e S' s r q'=>by
  obtain ⟨S2,s2⟩:=S'.set (i:=i) r
  exact q' _ _ _ S2 s2⟩
theorem Gj (C:Sx X N) (h:SE X e g) (hs:swapsWith e none pos.line X.env=pure false:=by rfl):SS X (.Expr e pos) (expr g) :=
 PS.weak (kg (xg C.ex h) hs) fun D σ H ⟨δ,os,S,q⟩=>⟨δ,os,S,FQ.then q fun d v H' e S' s r q'=>q' _ _ _ S' ↥19⟩
theorem Jx (C:Sx X N) (h:SE X e g):SS X (.Return (some e) pos) (ret g) :=
 PS.weak (vF (xg C.ex h)) fun D σ H ⟨δ,os,S,q⟩=>⟨δ,os,S,FQ.then q fun d v H' e S' s r q'=>q' v H' (aC _ _) (r.mono (aC _ _))⟩
theorem FT.then {r:R EV.D} {Q:Bool->Hp->Prop} {D:Ends} {ta fa:O} (h:OQ X D ↥20 (match r with | .ok ↥34=>ta | .ok ↥33=>fa | .ex C=>.ex C (noOwn δ) | _=>.bad))
  (hq:∀ b H',StO X H' σ δ os->aq ↥20 (hide H' os)->OQ X D (hide H' os) (if b=true then ta else fa)->Q b H'):FT X σ H os δ r Q:=by
 cases r with
 | ok d =>
  cases d with
  | bl b =>
   cases b with
   | true=>exact fun H' S s=>hq true H' S s (by rw [if_pos rfl];exact OQ.mono s h)
   | false=>exact fun H' S s=>hq false H' S s (by rw [if_neg ↥3];exact OQ.mono s h)
  | _=>exact h
 | ex C=>exact fun Ca hc H' s' st=>h σ H' s' st Ca hc
 | bad=>exact h
theorem NI (C:Sx X N) (hc:ST X c gc) (ha:SSs X body gb) (hb:SSs X els ge):SS X (.If c body els pos) (ifs gc gb ge) :=
 PS.weak (zo (HI C.ex hc) ha hb) fun D σ H ⟨δ,os,S,q⟩=>⟨δ,os,S,FT.then q fun b H' S' s q'=>by
  cases b with
  | true=>exact E3 ⟨δ,os,S',by simpa using q'⟩
  | false=>exact Bi ⟨δ,os,S',by simpa using q'⟩⟩
theorem jf {α:Type} {xs:List α} {n:Nat} {x:α} (h:xs[n]? = some x):xs.drop n=x::xs.drop (n+1):=by
 obtain ⟨h1,h2⟩:=List.getElem?_eq_some_iff.mp h
 rw [List.drop_eq_getElem_cons h1,h2]
def Pv (X:Cx) (D:Ends) (F F1:Hp) (i:Nat) (gb:S) (ds:List EV.D) (n:Nat) (σ:L2.St) (H:Hp):Prop:=∃ δ os,StO X H σ δ os/\aq F1 ↥20/\aq F F1/\OQ X D F (forL i gb (ds.drop n) δ)
theorem rW {D:Ends} {F F1:Hp} {i n:Nat} {ds:List EV.D} {d:EV.D} {v:V} {δ:Dt} {os:Os} (hd:ds[n]? = some d) (S:StO X H σ δ os) (s1:aq F1 ↥20) (s0:aq F F1) (q:OQ X D F (forL i gb (ds.drop n) δ)) (r:Rep X.K X.mg ↥20 v d) :
  rh i v σ H fun σ2 H2=>tS X gb { D with nx:=Pv X D F F1 i gb ds (n+1),ct:=Pv X D F F1 i gb ds (n+1),bk:=D.nx } σ2 H2:=by
 rw [jf hd] at q
 obtain ⟨S2,s2⟩:=S.set (i:=i) r
 refine ⟨_,_,S2,?_⟩
 unfold forL trn at q
 have s3:=(s0.trans s1).trans s2
 cases e:gb (δ.set i (some d)) with
 | nx δ1=>rw [e] at q;exact fun σ' H' os' S' s'=>⟨δ1,os',S',(s1.trans s2).trans s',s0,q⟩
 | ct δ1=>rw [e] at q;exact fun σ' H' os' S' s'=>⟨δ1,os',S',(s1.trans s2).trans s',s0,q⟩
 | bk δ1=>rw [e] at q;exact fun σ' H' os' S' s'=>q σ' H' os' S' (s3.trans s')
 | rt d'=>rw [e] at q;exact fun v' H' s' r'=>q v' H' (s3.trans s') r'
 | ex C δ1=>rw [e] at q;exact fun σ' H' s' r'=>q σ' H' (s3.trans s') r'
 | mk C δ1=>rw [e] at q;exact fun σ' H' s'=>q σ' H' (s3.trans s')
 | hx C δ1=>rw [e] at q;exact fun σ' H' s' r'=>q σ' H' (s3.trans s') r'
 | bad=>rw [e] at q;exact q
theorem qo {D:Ends} {F F1:Hp} {i n:Nat} {ds:List EV.D} {d:EV.D} {v:V} (hd:ds[n]? = some d) (r:∀ H',aq F1 H'->Rep X.K X.mg H' v d) (p:Pv X D F F1 i gb ds n σ H) :
  rh i v σ H fun σ2 H2=>tS X gb { D with nx:=Pv X D F F1 i gb ds (n+1),ct:=Pv X D F F1 i gb ds (n+1),bk:=D.nx } σ2 H2:=by
 obtain ⟨δ,os,S,s1,s0,q⟩:=p
 exact rW hd S s1 s0 q (r _ s1)
theorem HR {D:Ends} {F F1:Hp} {i n:Nat} {ds:List EV.D} (hn:ds.length<=n) (p:Pv X D F F1 i gb ds n σ H):D.nx σ H:=by
 obtain ⟨δ,os,S,s1,s0,q⟩:=p
 rw [List.drop_eq_nil_of_le hn] at q
 exact q σ H os S (s0.trans s1)
structure Lp (X:Cx):Prop where
 own:PassesOwn ↥5 X.A X.env X.xe
 calm:X.calm=true
theorem CU {lo hi:Int} {k:Nat} (h:k<(hi - lo).toNat):(oJ lo hi)[k]? = some (.int (lo+k)):=by
 unfold oJ
 rw [List.getElem?_map,List.getElem?_range h]
 rfl
theorem sj (lo hi:Int):(oJ lo hi).length=(hi - lo).toNat:=by simp [oJ]
end
end ES
namespace ES
open PySem PySem.Spec PyProof.Rows L2 EV
unseal SE ST SW SA SS SSs
theorem oZ {P:Program} {w:World} {H:Hp} {h:Heap} {a:Addr} {o:HO} (x:gO P w H h a o):∃ ob,h.get? a=some ob:=by
 cases o with
 | lst xs=>obtain ⟨_,_,_,_,e⟩:=x;exact ⟨_,e⟩
 | tup xs=>obtain ⟨_,_,_,ob,e,_⟩:=x;exact ⟨_,e⟩
 | dK kvs=>obtain ⟨_,_,_,_,ob,_,_,e,_⟩:=x;exact ⟨_,e⟩
 | dT kvs=>obtain ⟨_,_,_,_,ob,_,_,e,_⟩:=x;exact ⟨_,e⟩
 | set S n=>obtain ⟨ob,_,_,_,e,_⟩:=x;exact ⟨_,e⟩
 | ins C dx fs=>obtain ⟨_,_,_,e,_⟩:=x;exact ⟨_,e⟩
 | own y=>exact x
 | xd fs=>obtain ⟨_,⟨_,_,_,e,_⟩,_⟩:=x;exact ⟨_,e⟩
 | rng lo hi=>obtain ⟨_,_,_,e⟩:=x;exact ⟨_,e⟩
 | frz ob u=>obtain ⟨e,_⟩:=x;exact ⟨_,e⟩
 | tbl ps=>exact ⟨_,(show h.get? a=some _ from x)⟩
 | met f y=>exact ⟨_,(show h.get? a=some _ from x)⟩
 | ext φ=>obtain ⟨_,e,_⟩:=x;exact e
theorem ve {fs:List Addr} {H H':Hp} {h h1 h2 B:Heap} (u:Un fs [] H H' h h1) (same:aq H H') (i1:∀ b o,h.get? b=some o->H b=none->b∉fs->B.get? b=some o)
  (i2:∀ b u o,H' b=some u->h1.get? b=some o->B.get? b=some o) (st:B.StaysIn h2) (up:h1.UpToSlots h2) (ff:∀ b∈fs,∀ o,h1.get? b=some o->∀ vs,o.data ≠ .fields vs):Un fs [] H H' h h2:=by
 have slot:∀ b o,h.get? b=some o->H b=none->b∈fs->b∉([]:List Addr)->∃ sl,h2.get? b=some { o with slots:=sl }:=fun b o e n hb hx=>by
  obtain ⟨sl,e1⟩:=u.slot b o e n hb hx
  obtain ⟨sl2,e2⟩:=up b _ e1 (ff b hb _ e1)
  exact ⟨sl2,e2⟩
 refine ⟨fun b o e n hb _=>st b o (i1 b o e n hb),slot,u.free,fun b o e hx => ?_,u.tups,u.frzs,u.tbls⟩
 cases n:H b with
 | none =>
  by_cases hb:b∈fs
  ·obtain ⟨sl,e2⟩:=slot b o e n hb hx
   exact ⟨_,e2⟩
  ·exact ⟨o,st b o (i1 b o e n hb)⟩
 | some x =>
  obtain ⟨o',e1⟩:=u.there b o e hx
  exact ⟨o',st b o' (i2 b x o' (same b x n) e1)⟩
theorem nv {P:Program} {w:World} {H':Hp} {h1 h2 B:Heap} (hok:HOk P w H' h1) (i2:∀ b u o,H' b=some u->h1.get? b=some o->B.get? b=some o) (st:B.StaysIn h2):HOk P w H' h2:=fun a o e =>
 (hok a o e).stay (fun b u hb q=>by
  rcases hb with rfl | hb
  ·exact st b u (i2 b o u e q)
  ·exact st b u (i2 b _ u hb q)) (fun _ q=>q) fun _ _ q=>q
theorem sS {P:Program} {w:World} {H':Hp} {h1 h2 B:Heap} (hok:HOk P w H' h1) (i2:∀ b u o,H' b=some u->h1.get? b=some o->B.get? b=some o) (st:B.StaysIn h2):∀ b u o,H' b=some u->h2.get? b=some o->B.get? b=some o:=fun b u o e q=>by
 obtain ⟨ob,e1⟩:=oZ (hok b u e)
 have e2:=i2 b u ob e e1
 have e3:=st b ob e2
 rw [q] at e3
 cases e3
 exact e2
theorem uC {base h:Heap} {l:List Env} (x:h.FunFrames base l):∀ b∈frs l,∀ o,h.get? b=some o->∀ vs,o.data ≠ .fields vs:=fun b hb o e=>by
 obtain ⟨_,o',e',d⟩:=x.mem hb
 rw [e] at e'
 cases e'
 exact d
section
variable {X:Cx} {pins:List ↥10} {σ:L2.St} {H H':Hp} {s s':Shared} {C ea:Addr}
structure Own (X:Cx):Prop where
 stk:X.stack=X.env::X.outer
 frm:X.env.frame=some X.env.locals
 ex:X.ex=[]
theorem Own.frs (h:Own X):L2.frs X.stack=X.env.locals::X.fs:=by
 rw [h.stk]
 unfold L2.frs
 rw [List.filterMap_cons,h.frm]
 rfl
theorem iu (I:Inv X pins σ H s) (O:Own X) {B:Heap} (i1:∀ b o,s.heap.get? b=some o->H b=none->b∉L2.frs X.stack->B.get? b=some o):∀ b o,X.s₀.heap.get? b=some o->X.H₀ b=none->b∉X.fs->B.get? b=some o:=fun b o e n hb=>by
 have hx:b∉X.ex:=by rw [O.ex];simp
 refine i1 b o (I.base.keep b o e n hb hx) (I.base.free b o e n hx) fun z => ?_
 rw [O.frs] at z
 rcases List.mem_cons.mp z with q | q
 ·exact absurd (Nat.lt_of_lt_of_le (Heap.lt_size e) I.ok.above) (by rw [q];exact Nat.lt_irrefl _)
 ·exact hb q
theorem wA (I:Inv X pins σ H s) (O:Own X) (h:s.heap.get? ea=none):X.s₀.heap.get? ea=none:=by
 cases q:X.s₀.heap.get? ea with
 | none=>rfl
 | some o =>
  obtain ⟨o',e⟩:=I.base.there ea o q (by rw [O.ex];simp)
  rw [h] at e
  cases e
theorem nN (I:Inv X pins σ H s) (O:Own X):Un X.fs [] X.H₀ H X.s₀.heap s.heap:=by
 have z:=I.base
 rw [O.ex] at z
 exact z
theorem xj (I:Inv X pins σ H s) (F:FlyX X.prog X.w X.stack H s C H' ea s'):Inv X pins σ H' s':=I.call' (ch:=[]) F.os F.un F.hok F.bare fun b z=>absurd z (by simp)
theorem wQ {M:Model} {E:Value->Shared->Prop} {Q:Unit->Shared->Prop} (I:Inv X pins σ H s) (O:Own X) (F:FlyX X.prog X.w X.stack H s C H' ea s') (same:aq X.H₀ H')
  (hQ:∀ s'',FlyX X.prog X.w X.outer X.H₀ X.s₀ C H' ea s''->Q () s''):wpAny M X.A (leaving X.env (.ref ea)) Q E s':=by
 obtain ⟨a0,B,hfl,i1,i2⟩:=F.fly
 have I':=xj I F
 have ff:=uC hfl.2.2.1
 rw [O.stk] at hfl
 refine wpAny_leaves_onW (by rw [I.ok.frames,O.stk]) O.frm hfl fun h' f1 up=>hQ _ ⟨F.os.trans I.os,F.bare,?_,nv F.hok i2 f1.1,same,wA I O F.new,a0,B,f1,iu I O i1,sS F.hok i2 f1.1⟩
 exact ve (nN I' O) same (iu I O i1) i2 f1.1 up fun b hb=>ff b (by rw [O.frs];exact List.mem_cons_of_mem _ hb)
theorem qS {M:Model} {E:Value->Shared->Prop} {Q:Unit->Shared->Prop} (O:Own X) (F:HeldX X pins σ C H' ea s') (same:aq X.H₀ H')
  (hQ:∀ s'',FlyX X.prog X.w X.outer X.H₀ X.s₀ C H' ea s''->Q () s''):wpAny M X.A (leaving X.env (.ref ea)) Q E s':=by
 obtain ⟨a0,B,hh,i1,i2⟩:=F.fly
 have I:=F.inv
 have ff:=uC hh.2.2.1
 rw [O.stk] at hh
 unfold leaving
 refine wpAny_bind (wpAny_noteFrame_againW O.frm hh.2.2.2 ?_)
 refine wpAny_landsW hh fun h' f1 up => ?_
 obtain ⟨k1,k2,⟨_,_,k3⟩,k4⟩:=f1
 refine hQ _ ⟨I.os,I.bare,?_,nv I.hok i2 k1,same,F.new,a0,B,⟨k1,k2,k3,k4⟩,i1,sS I.hok i2 k1⟩
 exact ve (nN I O) same i1 i2 k1 up fun b hb=>ff b (by rw [O.frs];exact List.mem_cons_of_mem _ hb)
theorem qR {M:Model} {E:Value->Shared->Prop} {Q:Unit->Shared->Prop} {h1:Heap} {vs:List Value} (I:Inv X pins σ H s) (O:Own X) (made:Heap.MadeExcOf s.heap h1 ea (.ref C) vs) (same:aq X.H₀ H)
  (hQ:∀ s'',FlyX X.prog X.w X.outer X.H₀ X.s₀ C H ea s''->Q () s''):wpAny M X.A (leaving X.env (.ref ea)) Q E { s with heap:=h1 }:=by
 have hst:=I.stack
 have ff:=uC hst
 have i1:∀ b o,s.heap.get? b=some o->H b=none->b∉L2.frs X.stack->(PySem.W.hideAll s.heap (L2.frs X.stack)).get? b=some o:=fun b o e _ hb=>PySem.W.hideAll_get _ e hb
 have i2:∀ b u o,H b=some u->s.heap.get? b=some o->(PySem.W.hideAll s.heap (L2.frs X.stack)).get? b=some o:=fun b u o e q=>PySem.W.hideAll_get _ q fun z=>by
  rw [I.stkFree b z] at e
  cases e
 have hl:=PySem.W.funFrames_hide (as:=L2.frs X.stack) hst fun env he b hb=>List.mem_filterMap.mpr ⟨env,he,hb⟩
 rw [O.stk] at hl
 refine wpAny_leaves_madeW (s:={ s with heap:=h1 }) (base:=PySem.W.hideAll s.heap (L2.frs X.stack)) (by rw [I.ok.frames,O.stk]) O.frm (fun b o e=>PySem.W.of_hideAll _ e) (by rw [O.stk] at *;exact hl) made fun h' t f1 _ _ up=>hQ _ ⟨I.os,I.bare,?_,nv I.hok i2 f1.1,same,wA I O made.new,_,_,f1,iu I O i1,sS I.hok i2 f1.1⟩
 exact ve (nN I O) same (iu I O i1) i2 f1.1 ((Heap.UpToSlots.of_keeps made.keeps).trans up) fun b hb=>ff b (by rw [O.frs];exact List.mem_cons_of_mem _ hb)
end
def CXF (P:Program) (w:World):CXT:=fun outer H s E e s'=>∃ C H' ea,e=.ref ea/\FlyX P w outer H s C H' ea s'/\E (.ref C) none H'
def spP (K:PySem.W.Frag) (mg:Str->Option Value) (f:List D->R D):Sp:=fun vs H Q E=>∃ ds,Reps K mg H vs ds/\match f ds with
 | .ok d=>∀ v H',aq H H'->Rep K mg H' v d->Q v H'
 | .ex C=>∀ Ca,mg C=some (.ref Ca)->∀ H',aq H H'->E (.ref Ca) none H'
 | .bad=>False
theorem kq {CX:CXT} {P:Program} {w:World} {K:PySem.W.Frag} {mg:Str->Option Value} {base:Heap} {N:List Str} {qual:Str} {sc:Scope} {f:Addr} {cdv:Value} {A:Around} {outer:List Env} {s:Shared} {H:Hp} {E:XK} :
  Own (uT CX P w K mg base N qual sc f cdv A outer s H E):=⟨rfl,rfl,rfl⟩
section
variable {P:Program} {w:World} {K:PySem.W.Frag} {mg:Str->Option Value} {base:Heap} {N:List Str} {qual:Str} {sc:Scope} {f:Addr} {cdv:Value} {A:Around} {outer:List Env} {s:Shared} {H H':Hp} {E:XK} {C:Addr} {σ:L2.St}
theorem Bl (same:aq H H') (hE:E (.ref C) none H'):ew (uT (CXF P w) P w K mg base N qual sc f cdv A outer s H E) C σ H' :=
 fun pins H1 s1 ea s' I F=>wQ I kq F same fun s'' F'=>⟨C,H',ea,rfl,F',hE⟩
theorem xq (same:aq H H') (hE:E (.ref C) none H'):ehx (uT (CXF P w) P w K mg base N qual sc f cdv A outer s H E) C σ H' :=
 fun pins ea s' F=>qS kq F same fun s'' F'=>⟨C,H',ea,rfl,F',hE⟩
theorem Bn (same:aq H H') (hE:E (.ref C) none H'):em (uT (CXF P w) P w K mg base N qual sc f cdv A outer s H E) C σ H' :=
 fun pins s1 h' ea vs I made=>qR I kq made same fun s'' F'=>⟨C,H',ea,rfl,F',hE⟩
end
structure ScF (N G ps:List Str) (sc:Scope):Prop where
 fs:FnScope N ps sc
 loc:∀ x∈N,Loc sc x
 glb:∀ x∈G,sc.names.lookup x=some .globalImplicit
 dbg:∀ x∈N,↥37=false/\(x == ("__classdict__":Str))=false
 dbgG:∀ x∈G,↥37=false/\x≠"__name__"
structure Pl (X:Cx) (N G:List Str):Prop extends Sx X N where
 sto:∀ x∈N,Sto X x
 gb:∀ x∈G,Gb X x
noncomputable instance locDec {sc:Scope} {x:Str}:Decidable (Loc sc x):=inferInstanceAs (Decidable (_\/_))
theorem Bh {sc:Scope} {x:Str} (h:Loc sc x):Vis sc x:=h.elim .inl fun z=>.inr (.inl z)
theorem ow {K:PySem.W.Frag} {mg:Str->Option Value} {H:Hp} {N:List Str} {n m:Nat}:∀ {vs:List V} {ds:List D},Reps K mg H vs ds->ds.length=n->N.length=m->Stt K mg H (L2.start N vs) (EV.start n m ds):=by
 intro vs ds r hn hm
 have hl:=r.length
 refine ⟨by simp [L2.start,EV.start,hl,hn,hm],fun i d e _ => ?_⟩
 unfold EV.start at e
 by_cases hi:i<ds.length
 ·rw [List.getElem?_append_left (by simpa using hi),List.getElem?_map] at e
  cases q:ds[i]? with
  | none=>rw [q] at e;cases e
  | some d' =>
   rw [q] at e
   have e':d'=d:=Option.some.inj (Option.some.inj e)
   subst e'
   obtain ⟨v,h1,h2⟩:=r.get q
   exact ⟨v,by unfold L2.start;rw [List.getElem?_append_left (by simp;omega),List.getElem?_map,h1];rfl,h2⟩
 ·rw [List.getElem?_append_right (by simpa using hi),List.getElem?_replicate] at e
  split at e<;>cases e
theorem j3 {K:PySem.W.Frag} {mg:Str->Option Value} {H:Hp} {n m:Nat} {vs:List V} {ds:List D} (r:Reps K mg H vs ds) (i:Nat) (es:List D):(EV.start n m ds)[i]? ≠ some (some (.own es)):=fun e=>by
 unfold EV.start at e
 by_cases hi:i<ds.length
 ·rw [List.getElem?_append_left (by simpa using hi),List.getElem?_map] at e
  cases q:ds[i]? with
  | none=>rw [q] at e;cases e
  | some d' =>
   rw [q] at e
   have e':d'=.own es:=Option.some.inj (Option.some.inj e)
   subst e'
   obtain ⟨v,h1,h2⟩:=r.get q
   cases h2
 ·rw [List.getElem?_append_right (by simpa using hi),List.getElem?_replicate] at e
  split at e<;>cases e
theorem Kg {P:Program} {w:World} {K:PySem.W.Frag} {mg:Str->Option Value} {base:Heap} {x qual:Str} {st:Stmt} {f:Addr} {fd:FuncData} {N G ps:List Str} {k n m:Nat} {g:S}
  (F:Fun K x qual st f fd) (S:ScF N G ps (aa st)) (hn:ps.length=n) (hm:N.length=m)
  (hbody:∀ X:Cx,X.prog=P->X.w=w->X.K=K->X.mg=mg->X.base=base->Room k X.A->Lp X->Own X->Pl X N G->X.env.scope=aa st->SSs X (ah st) g) :
  FnOk P w K mg base (CXF P w) (k+1) f fd ps (spP K mg (fn n m g)):=by
 obtain ⟨oc,od,kV,doc,pm,an,cdv,ct,osl,rfl,lk,hcd⟩:=F.ex
 have len:∀ {ds:List D},fn n m g ds ≠ .bad->ds.length=n:=fun {ds} h=>by
  unfold fn at h
  split at h
  ·assumption
  ·exact absurd rfl h
 refine Ee lk hcd S.fs (fun vs H Q E h => ?_) fun A outer s H vs Q E hr h => ?_
 ·obtain ⟨ds,rs,h⟩:=h
  rw [rs.length,hn]
  refine len fun z => ?_
  rw [z] at h
  exact h
 ·obtain ⟨ds,rs,h⟩:=h
  have hl:ds.length=n:=len fun z=>by rw [z] at h;exact h
  refine ⟨_,hbody (uT (CXF P w) P w K mg base N qual (aa st) f cdv A outer s H E) rfl rfl rfl rfl rfl hr ⟨PassesOwn.leaving,rfl⟩ kq ⟨⟨⟨rfl,S.fs.nd,fun y hy=>Bh (S.loc y hy),S.dbg⟩,rfl⟩,fun y hy=>⟨S.loc y hy,.inl rfl⟩,fun y hy=>⟨S.glb y hy,(S.dbgG y hy).1,(S.dbgG y hy).2⟩⟩ rfl,_,[],StO.nil (ow rs hl hm) (j3 rs),?_⟩
  rw [nC]
  unfold fn at h
  rw [if_pos hl] at h
  cases e:g (EV.start n m ds) with
  | nx δ=>rw [e] at h;exact fun σ H' os _ s'=>h .non H' (s'.trans (aC _ _)) .non
  | rt d=>rw [e] at h;exact fun v H' s' r=>h v H' s' r
  | ex C δ=>rw [e] at h;exact fun σ H' s' _ Ca hc=>Bl s' (h Ca hc H' s')
  | mk C δ=>rw [e] at h;exact fun σ H' s' Ca hc=>Bn s' (h Ca hc H' s')
  | hx C δ=>rw [e] at h;exact fun σ H' s' _ Ca hc=>xq s' (h Ca hc H' s')
  | bk δ=>rw [e] at h;exact False.elim h
  | ct δ=>rw [e] at h;exact False.elim h
  | bad=>rw [e] at h;exact False.elim h
abbrev at5 (X:Cx) (P:Program) (w:World) (K:PySem.W.Frag) (mg:Str->Option Value) (base:Heap):Cx:={ X with prog:=P,w:=w,K:=K,mg:=mg,base:=base }
theorem pG {P:Program} {w:World} {K:PySem.W.Frag} {mg:Str->Option Value} {base:Heap} {x qual:Str} {st:Stmt} {f:Addr} {fd:FuncData} {N G ps:List Str} {k n m:Nat} {g:S}
  (F:Fun K x qual st f fd) (S:ScF N G ps (aa st)) (hn:ps.length=n) (hm:N.length=m)
  (hbody:∀ X:Cx,Room k (at5 X P w K mg base).A->Lp (at5 X P w K mg base)->Own (at5 X P w K mg base)->Pl (at5 X P w K mg base) N G->(at5 X P w K mg base).env.scope=aa st->SSs (at5 X P w K mg base) (ah st) g) :
  FnOk P w K mg base (CXF P w) (k+1) f fd ps (spP K mg (fn n m g)):=Kg F S hn hm fun X hP hw hK hM hB hr L O Pl hS=>by
 subst hP hw hK hM hB
 exact hbody X hr L O Pl hS
theorem us1 {C:List Value->Prop} (h:∀ a,C [a]) (us:List Value) (hl:us.length=1):C us:=by
 match us,hl with
 | [_],_=>exact h _
theorem us2 {C:List Value->Prop} (h:∀ a b,C [a,b]) (us:List Value) (hl:us.length=2):C us:=by
 match us,hl with
 | a::us,hl=>exact us1 (C:=fun us=>C (a::us)) (h a) us (Nat.succ.inj hl)
theorem us3 {C:List Value->Prop} (h:∀ a b c,C [a,b,c]) (us:List Value) (hl:us.length=3):C us:=by
 match us,hl with
 | a::us,hl=>exact us2 (C:=fun us=>C (a::us)) (h a) us (Nat.succ.inj hl)
theorem us4 {C:List Value->Prop} (h:∀ a b c d,C [a,b,c,d]) (us:List Value) (hl:us.length=4):C us:=by
 match us,hl with
 | a::us,hl=>exact us3 (C:=fun us=>C (a::us)) (h a) us (Nat.succ.inj hl)
theorem us5 {C:List Value->Prop} (h:∀ a b c d e,C [a,b,c,d,e]) (us:List Value) (hl:us.length=5):C us:=by
 match us,hl with
 | a::us,hl=>exact us4 (C:=fun us=>C (a::us)) (h a) us (Nat.succ.inj hl)
theorem us6 {C:List Value->Prop} (h:∀ a b c d e f,C [a,b,c,d,e,f]) (us:List Value) (hl:us.length=6):C us:=by
 match us,hl with
 | a::us,hl=>exact us5 (C:=fun us=>C (a::us)) (h a) us (Nat.succ.inj hl)
theorem dZ {K:PySem.W.Frag} {x qual:Str} {st:Stmt} {f:Addr} {fd:FuncData} {ps:List Str} (F:Fun K x qual st f fd) (hp:ps.length=1)
  (h:∀ (kV doc pm:Value) (an:Option Addr) (cdv ct:Value) (a:Value),bindArgs ↥0 ⟨[a],[]⟩=pure (ps.zip [a])):Binds K fd ps [] :=
 F.binds fun kV doc pm an cdv ct us hl=>us1 (C:=fun us=>bindArgs ↥0 ⟨us,[]⟩=pure (ps.zip us)) (h kV doc pm an cdv ct) us (hl.trans hp)
theorem ck {K:PySem.W.Frag} {x qual:Str} {st:Stmt} {f:Addr} {fd:FuncData} {ps:List Str} (F:Fun K x qual st f fd) (hp:ps.length=2)
  (h:∀ (kV doc pm:Value) (an:Option Addr) (cdv ct:Value) (a b:Value),bindArgs ↥0 ⟨[a,b],[]⟩=pure (ps.zip [a,b])):Binds K fd ps [] :=
 F.binds fun kV doc pm an cdv ct us hl=>us2 (C:=fun us=>bindArgs ↥0 ⟨us,[]⟩=pure (ps.zip us)) (h kV doc pm an cdv ct) us (hl.trans hp)
theorem dY {K:PySem.W.Frag} {x qual:Str} {st:Stmt} {f:Addr} {fd:FuncData} {ps:List Str} (F:Fun K x qual st f fd) (hp:ps.length=3)
  (h:∀ (kV doc pm:Value) (an:Option Addr) (cdv ct:Value) (a b c:Value),bindArgs ↥0 ⟨[a,b,c],[]⟩=pure (ps.zip [a,b,c])):Binds K fd ps [] :=
 F.binds fun kV doc pm an cdv ct us hl=>us3 (C:=fun us=>bindArgs ↥0 ⟨us,[]⟩=pure (ps.zip us)) (h kV doc pm an cdv ct) us (hl.trans hp)
theorem pP {K:PySem.W.Frag} {x qual:Str} {st:Stmt} {f:Addr} {fd:FuncData} {ps:List Str} (F:Fun K x qual st f fd) (hp:ps.length=4)
  (h:∀ (kV doc pm:Value) (an:Option Addr) (cdv ct:Value) (a b c d:Value),bindArgs ↥0 ⟨[a,b,c,d],[]⟩=pure (ps.zip [a,b,c,d])):Binds K fd ps [] :=
 F.binds fun kV doc pm an cdv ct us hl=>us4 (C:=fun us=>bindArgs ↥0 ⟨us,[]⟩=pure (ps.zip us)) (h kV doc pm an cdv ct) us (hl.trans hp)
theorem Bq {K:PySem.W.Frag} {x qual:Str} {st:Stmt} {f:Addr} {fd:FuncData} {ps:List Str} (F:Fun K x qual st f fd) (hp:ps.length=5)
  (h:∀ (kV doc pm:Value) (an:Option Addr) (cdv ct:Value) (a b c d e:Value),bindArgs ↥0 ⟨[a,b,c,d,e],[]⟩=pure (ps.zip [a,b,c,d,e])):Binds K fd ps [] :=
 F.binds fun kV doc pm an cdv ct us hl=>us5 (C:=fun us=>bindArgs ↥0 ⟨us,[]⟩=pure (ps.zip us)) (h kV doc pm an cdv ct) us (hl.trans hp)
theorem xH {K:PySem.W.Frag} {x qual:Str} {st:Stmt} {f:Addr} {fd:FuncData} {ps:List Str} (F:Fun K x qual st f fd) (hp:ps.length=6)
  (h:∀ (kV doc pm:Value) (an:Option Addr) (cdv ct:Value) (a b c d e f:Value),bindArgs ↥0 ⟨[a,b,c,d,e,f],[]⟩=pure (ps.zip [a,b,c,d,e,f])):Binds K fd ps [] :=
 F.binds fun kV doc pm an cdv ct us hl=>us6 (C:=fun us=>bindArgs ↥0 ⟨us,[]⟩=pure (ps.zip us)) (h kV doc pm an cdv ct) us (hl.trans hp)
structure FnP (P:Program) (w:World) (K:PySem.W.Frag) (mg:Str->Option Value) (base:Heap) (x:Str) (k:Nat) (f:List D->R D):Prop where
 ex:∃ fa fd ps,FnOk P w K mg base (CXF P w) k fa fd ps (spP K mg f)/\mg x=some (.ref fa)/\PySem.W.keepIn K (.ref fa)=true/\Binds K fd ps []
theorem HL {P:Program} {w:World} {K:PySem.W.Frag} {mg:Str->Option Value} {base:Heap} {x:Str} {fa:Addr} {fd:FuncData} {ps:List Str} {k:Nat} {f:List D->R D}
  (F:FnOk P w K mg base (CXF P w) k fa fd ps (spP K mg f)) (kp:PySem.W.keepIn K (.ref fa)=true) (hm:mg x=some (.ref fa)) (hb:Binds K fd ps []):FnP P w K mg base x k f:=⟨fa,fd,ps,F,hm,kp,hb⟩
structure Callee (X:Cx) (x:Str) (f:List D->R D):Prop where
 ex:∃ k fa fd ps,FnOk X.prog X.w X.K X.mg X.base (CXF X.prog X.w) k fa fd ps (spP X.K X.mg f)/\Room k X.A/\X.mg x=some (.ref fa)/\PySem.W.keepIn X.K (.ref fa)=true/\Binds X.K fd ps []
theorem FnP.callee {X:Cx} {x:Str} {k j:Nat} {f:List D->R D} (F:FnP X.prog X.w X.K X.mg X.base x k f) (hr:Room j X.A) (h:k<=j):Callee X x f:=by
 obtain ⟨fa,fd,ps,a,b,c,d⟩:=F.ex
 exact ⟨k,fa,fd,ps,a,hr.mono h,b,c,d⟩
section
variable {X:Cx} {x:Str} {f:List D->R D} {e:Expr} {es:List Expr} {gs:List E} {p pos:Pos}
theorem Gm {k:Nat} {fa:Addr} {fd:FuncData} {ps:List Str} {pins:List ↥10} {σ:L2.St} {H:Hp} {s:Shared} {Q:VK} {us:List Value} {vs:List V} {ds:List D}
  (F:FnOk X.prog X.w X.K X.mg X.base (CXF X.prog X.w) k fa fd ps (spP X.K X.mg f)) (hr:Room k X.A) (hb:Binds X.K fd ps []) (I:Inv X pins σ H s) (r:Vals vs us) (rs:Reps X.K X.mg H vs ds) (q:RQ X σ H (f ds) Q) :
  wpAny ↥5 X.A (PySem.call (.ref fa) us) (EP X pins σ Q) X.xe s:=by
 have hsp:spP X.K X.mg f vs H Q (fun c _ H'=>∃ C Ca,f ds=.ex C/\X.mg C=some (.ref Ca)/\c=.ref Ca/\aq H H'):=⟨ds,rs,by
  cases e:f ds with
  | ok d=>rw [e] at q;exact q
  | ex C=>exact fun Ca hc H' s'=>⟨C,Ca,rfl,hc,rfl,s'⟩
  | bad=>rw [e] at q;exact q⟩
 have hl:us.length=ps.length:=by rw [<- r.length];exact F.len _ _ _ _ hsp
 have hb':=hb s us I.kIn (by rw [List.append_nil];exact hl)
 rw [List.append_nil] at hb'
 refine wpAny_call (codeAny_mono (F.run X.A X.stack s H ⟨us,[]⟩ us vs _ _ hr I.env0 hb' r hsp) fun r s' hq => ?_)
 cases r with
 | error er =>
  obtain ⟨C',H',ea,rfl,FX,C,Ca,e1,hc,e2,s2⟩:=hq
  cases e2
  rw [e1] at q
  exact q C' hc H' s2 pins H s ea s' I FX
 | ok fl =>
  cases fl with
  | ret u=>exact I.after hq
  | next=>exact False.elim hq
  | brk=>exact False.elim hq
  | cont=>exact False.elim hq
theorem pI (c:Callee X x f) (G:Gb X x) (ha:SA X (e::es) gs) (he:starEach (e::es) X.env=↥27::starEach es X.env:=by rfl) (hpl:(backTo pos (starEach es X.env)).any (·.1)=false:=by rfl) :
  SE X (.Call (.Name x p) (e::es) [] pos) (EV.call f gs):=by
 obtain ⟨k,fa,fd,ps,F,hr,hm,hk,hb⟩:=c.ex
 intro pins s σ H Q I ⟨δ,hσ,h⟩
 refine wpAny_Call_Name_kw (kF I G.g hm ?_ G.d)
 refine PySem.W.callWith_K (h₀:=X.base) I.ok.mod.kin hk (thn (ha pos pins s σ H _ I ⟨δ,hσ,RA.bind h⟩) fun us s1 ⟨vs,H1,I1,r,sm,ds,rs,q⟩=>⟨I1.kIn,Gm F hr hb I1 r rs q⟩) he hpl
end
theorem Dc {K:PySem.W.Frag} {h:Heap} {C:Addr} {bmB:List Value} {newId:String} (KX:K.In h) (q:PySem.W.excIn K C bmB newId=true) :
  ∃ bm M nm qn bs hd sn sub ab col dd k0 k1 k2 k3 k5 mN,h.get? C=some (excClassObj nm qn C M bs bm hd sn sub ab col dd k0 k1 k2 k3 k5 newId)/\h.Ns M mN/\mN "__init__"=none/\OwnTail h bmB bm:=by
 unfold PySem.W.excIn at q
 split at q
 ·rename_i d1 cd sl hlk
  split at q
  ·rename_i C' bm k0 k1 k2 k3 n k5 e1 e2
   simp only [Bool.and_eq_true,beq_iff_eq,Bool.not_eq_true'] at q
   obtain ⟨⟨⟨⟨⟨r1,r2⟩,r3⟩,r4⟩,r5⟩,r6⟩:=q
   subst r1 r2
   obtain ⟨nm,bs,mro,ns,qn,hd,sn,sub,ab,col,del⟩:=cd
   dsimp only at e1 r3 r5 r6
   subst e1 r3
   have e3:sl = #[k0,k1,k2,k3,some (.builtin n),k5]:=by
    obtain ⟨l⟩:=sl
    simp only at e2
    rw [e2]
   subst e3
   exact ⟨bm,ns,nm,qn,bs,hd,sn,sub,ab,col,d1,k0,k1,k2,k3,k5,_,KX _ _ hlk,.of_isNs (PySem.W.isNs_of_in KX r5),PySem.W.nsMap_none_of_in KX r5 r6,PySem.W.tail_of_in KX r4⟩
  ·cases q
 ·cases q
def bmV:List Value:=[.type "ValueError",.type "Exception",.type "BaseException",.type "object"]
section
variable {X:Cx} {pos:Pos} {x:String} {C:Addr}
theorem m5 (hc:X.calm=true) {np cp p3:Pos} {m:Str} {j:Nat} (G:Gb X x) (hm:X.mg x=some (.ref C)) (hq:PySem.W.excIn X.K C bmV "ValueError.__new__"=true) :
  SS X (.Raise (some (.Call (.Name x np) [.Constant (.str m) j p3] [] cp)) none pos) (raise x):=by
 intro pins s σ H D I ⟨δ,os,S,h⟩
 obtain ⟨bm,M,nm,qn,bs,hd,sn,sub,ab,col,dd,k0,k1,k2,k3,k5,mN,hC,hN,hni,T⟩:=Dc I.mod.kin hq
 have FB:ExcBaseFacts "ValueError" "ValueError.__new__" "ValueError.__init__" bmV:=PySem.F.excBase_ValueError
 refine wpAny_Raise_call_subT (C:=C) (nm:=nm) (q:=qn) (N:=M) (bs:=bs) (bm:=bm) (hdct:=hd) (sn:=sn) (sub:=sub) (ab:=ab) (col:=col) (dd:=dd) (k0:=k0) (k1:=k1) (k2:=k2) (k3:=k3) (k5:=k5)
  FB (mN:=mN) (T.hasType FB.hasBase) (I.ok.hd hc) rfl hni (kF I G.g hm ⟨rfl,?_⟩ G.d)
 have hsp:=(dG (X:=X) (A4 (x:=m) (j:=j) (pos:=p3)) gz) cp pins s σ H (fun vs H1=>vs.length=1/\H1=H) I (show (1=1/\H=H) from ⟨rfl,rfl⟩)
 refine Calls.evalArgs_plain (thn hsp fun us s2 ⟨vs,H1,I1,r,q1,q2⟩ => ?_)
 subst q2
 have hl:us.length=1:=by rw [<- r.length];exact q1
 exact ⟨rfl,by show us.length<=_;rw [hl,sizeLine_eq];decide,I1.bk _ _ hC,hN.keeps I1.bk,T.keeps I1.bk,fun h' e1 made=>h σ H1 (aC _ _) C hm pins s2 h' e1 us I1 made⟩
end
section
variable {K:PySem.W.Frag} {M:Model} {h:Heap} {C C' e:Addr}
end
section
variable {X:Cx} {pins:List ↥10} {σ:L2.St} {H H':Hp} {s s':Shared} {C ea:Addr} {W:Value->Shared->Prop}
end
structure Catch (K:PySem.W.Frag) (C C':Addr):Prop where
 c1:(PySem.W.clsIn K C').isSome=true
 c2:PySem.W.typeIn K (.ref C')=some (.type "type")
 c3:PySem.W.subIn K (.type "type") ↥6=some false
 c4:PySem.W.mroIn K C' (.type "BaseException")=some true
 c5:PySem.W.mroIn K C (.ref C')=some true
section
variable {X:Cx} {N G:List Str} {pos np hpos:Pos} {n:Str} {cls:String} {C':Addr} {body suite:List Stmt} {b₀:Stmt} {gb gs:S}
end
end ES
namespace ES
open PySem PySem.Spec PyProof.Rows L2 EV
unseal SE ST SW SA SS SSs
def rC (X:Cx) (f:List D->R D):List V->Hp->VK->Prop:=fun vs H Q=>∃ ds d,Reps X.K X.mg H vs ds/\f ds=.ok d/\∀ v H',aq H H'->Rep X.K X.mg H' v d->Q v H'
def NoX (f:List D->R D):Prop:=∀ ds C,f ds ≠ .ex C
theorem RQ.cl (nx:NoX f) (r:Reps X.K X.mg H vs ds) (h:RQ X σ H (f ds) Q):rC X f vs H Q:=by
 cases e:f ds with
 | ok d=>rw [e] at h;exact ⟨ds,d,r,e,h⟩
 | ex C=>exact absurd e (nx ds C)
 | bad=>rw [e] at h;exact False.elim h
section
variable {X:Cx} {x:Str} {id T:String} {f:List D->R D} {e o:Expr} {es:List Expr} {gs:List E} {g:E} {p pos apos:Pos}
theorem cE (hc:eZ X (.builtin id) (rC X f)) (nx:NoX f) (G:Gb X x) (hm:X.mg x=none) (hv:bootBuiltins x=some (.builtin id)) (ha:SA X (e::es) gs)
  (he:starEach (e::es) X.env=↥27::starEach es X.env:=by rfl) (hpl:(backTo pos (starEach es X.env)).any (·.1)=false:=by rfl):SE X (.Call (.Name x p) (e::es) [] pos) (EV.call f gs) :=
 PE.weak (sv hc G.g hm hv ha G.n G.d he hpl) fun σ H Q ⟨δ,hσ,h⟩=>⟨δ,hσ,(RA.bind h).to fun vs H' s ⟨_,ds,rs,q⟩=>RQ.cl nx rs q⟩
theorem je (hc:eZ X (.type T) (rC X f)) (nx:NoX f) (G:Gb X x) (hm:X.mg x=none) (hv:bootBuiltins x=some (.type T)) (ha:SA X (e::es) gs)
  (he:starEach (e::es) X.env=↥27::starEach es X.env:=by rfl) (hpl:(backTo pos (starEach es X.env)).any (·.1)=false:=by rfl):SE X (.Call (.Name x p) (e::es) [] pos) (EV.call f gs) :=
 PE.weak (oN hc G.g hm hv ha G.n G.d he hpl) fun σ H Q ⟨δ,hσ,h⟩=>⟨δ,hσ,(RA.bind h).to fun vs H' s ⟨_,ds,rs,q⟩=>RQ.cl nx rs q⟩
theorem kd (r:Reps X.K X.mg H vs [d]):∃ v,vs=[v]/\Rep X.K X.mg H v d:=by
 cases r with
 | cons r rr=>cases rr;exact ⟨_,rfl,r⟩
theorem CY (r:Reps X.K X.mg H vs [d,d']):∃ v v',vs=[v,v']/\Rep X.K X.mg H v d/\Rep X.K X.mg H v' d':=by
 cases r with
 | cons r rr =>
  cases rr with
  | cons r' rr=>cases rr;exact ⟨_,_,rfl,r,r'⟩
theorem kv:NoX nY:=fun ds C z=>by unfold nY at z;split at z<;>first | cases z | exact dQ z
theorem kO:eZ X (.builtin "len") (rC X nY):=by
 intro pins s σ H xs us Q I rs ⟨ds,d,r,e,q⟩
 unfold nY at e
 split at e
 ·cases e
  obtain ⟨v,rfl,r1⟩:=kd r
  cases r1 with
  | @lst a ys _ hq rr=>exact jg pins s σ H _ us Q I rs ⟨a,ys,rfl,.inl hq,by rw [rr.length];exact q _ _ ↥19 (.int _)⟩
 ·cases e
  obtain ⟨v,rfl,r1⟩:=kd r
  cases r1 with
  | @tup a ys _ hq rr=>exact jg pins s σ H _ us Q I rs ⟨a,ys,rfl,.inr hq,by rw [rr.length];exact q _ _ ↥19 (.int _)⟩
 ·split at e
  ·rename_i hz
   cases e
   obtain ⟨v,rfl,r1⟩:=kd r
   cases r1
   exact pL pins s σ H _ us Q I rs ⟨_,rfl,Nat.le_trans hz (by rw [sizeLine_eq];decide),q _ _ ↥19 (.int _)⟩
  ·cases e
 ·cases e
theorem Hf:NoX EI:=fun ds C z=>by unfold EI at z;split at z<;>cases z
theorem Ig:eZ X (.builtin "abs") (rC X EI):=by
 intro pins s σ H xs us Q I rs ⟨ds,d,r,e,q⟩
 unfold EI at e
 split at e
 ·cases e
  obtain ⟨v,rfl,r1⟩:=kd r
  cases r1
  exact Av pins s σ H _ us Q I rs ⟨_,rfl,q _ _ ↥19 (.int _)⟩
 ·cases e
theorem G9:NoX Br:=fun ds C z=>by unfold Br at z;split at z<;>cases z
theorem Ib (hc:X.calm=true):eZ X (.builtin "max") (rC X Br):=by
 intro pins s σ H xs us Q I rs ⟨ds,d,r,e,q⟩
 unfold Br at e
 split at e
 ·cases e
  obtain ⟨v,v',rfl,r,r'⟩:=CY r
  cases r;cases r'
  exact xG hc pins s σ H _ us Q I rs ⟨_,_,rfl,q _ _ ↥19 (.int _)⟩
 ·cases e
theorem J2:NoX EF:=fun ds C z=>by unfold EF at z;split at z<;>cases z
theorem Kl (hc:X.calm=true):eZ X (.builtin "min") (rC X EF):=by
 intro pins s σ H xs us Q I rs ⟨ds,d,r,e,q⟩
 unfold EF at e
 split at e
 ·cases e
  obtain ⟨v,v',rfl,r,r'⟩:=CY r
  cases r;cases r'
  exact xF hc pins s σ H _ us Q I rs ⟨_,_,rfl,q _ _ ↥19 (.int _)⟩
 ·cases e
theorem qL:NoX uQ:=fun ds C z=>by unfold uQ at z;split at z<;>cases z
theorem rA:eZ X (.type "int") (rC X uQ):=by
 intro pins s σ H xs us Q I rs ⟨ds,d,r,e,q⟩
 unfold uQ at e
 split at e
 ·cases e
  obtain ⟨v,rfl,r1⟩:=kd r
  cases r1
  exact pM pins s σ H _ us Q I rs (.inl ⟨_,rfl,q _ _ ↥19 (.int _)⟩)
 ·cases e
  obtain ⟨v,rfl,r1⟩:=kd r
  cases r1
  exact pM pins s σ H _ us Q I rs (.inr ⟨_,rfl,q _ _ ↥19 (.int _)⟩)
 ·cases e
theorem Ha:NoX rM:=fun ds C z=>by unfold rM at z;split at z<;>cases z
theorem Ie:eZ X (.type "list") (rC X rM):=by
 intro pins s σ H xs us Q I rs ⟨ds,d,r,e,q⟩
 unfold rM at e
 split at e
 ·cases e
  obtain ⟨v,rfl,r1⟩:=kd r
  cases r1 with
  | @lst a ys _ hq rr=>exact fG pins s σ H _ us Q I rs ⟨a,ys,rfl,.inl hq,fun l hl=>q _ _ (av hl _) (.lst (SqL.of aA) (rr.mono (av hl _)))⟩
 ·cases e
  obtain ⟨v,rfl,r1⟩:=kd r
  cases r1 with
  | @tup a ys _ hq rr=>exact fG pins s σ H _ us Q I rs ⟨a,ys,rfl,.inr hq,fun l hl=>q _ _ (av hl _) (.lst (SqL.of aA) (rr.mono (av hl _)))⟩
 ·cases e
theorem pC:∀ {xs:List V} {ds:List D} {ns:List Int} {us:List Value},intsOf ds=some ns->Reps X.K X.mg H xs ds->Vals xs us->∃ ts:List (Int×Tok),us=ts.map (fun p=>Value.int p.1 p.2)/\ts.map (·.1)=ns
 | _,[],_,_,e,.nil,.nil=>by cases e;exact ⟨[],rfl,rfl⟩
 | _,.int i::r,ns,_,e,.cons h t,.cons h' t'=>by
  cases h
  unfold intsOf at e
  cases q:intsOf r with
  | none=>rw [q] at e;cases e
  | some ms =>
   rw [q] at e
   have e':i::ms=ns:=Option.some.inj e
   subst e'
   obtain ⟨tk,rfl⟩:=h'
   obtain ⟨ts,e1,e2⟩:=pC q t t'
   exact ⟨(i,tk)::ts,by rw [e1];rfl,by rw [List.map_cons,e2]⟩
 | _,.non::_,_,_,e,_,_=>by cases e
 | _,.bl _::_,_,_,e,_,_=>by cases e
 | _,.str _::_,_,_,e,_,_=>by cases e
 | _,.tup _::_,_,_,e,_,_=>by cases e
 | _,.lst _::_,_,_,e,_,_=>by cases e
 | _,.own _::_,_,_,e,_,_=>by cases e
 | _,.ty _::_,_,_,e,_,_=>by cases e
 | _,.cls _::_,_,_,e,_,_=>by cases e
 | _,.exc _::_,_,_,e,_,_=>by cases e
 | _,.ins _ _::_,_,_,e,_,_=>by cases e
theorem wD:MtR X "int.bit_length" (fun x xs H Q=>∃ i,x=.int i/\xs=[]/\Q (.int (nb i)) H):=by
 intro pins s σ H x xs v us Q I rx rs ⟨i,ex,exs,q⟩
 subst ex exs
 obtain ⟨t,rfl⟩:=rx
 cases rs
 refine call_int_bit_length ⟨.int (nb i),H,I.tok _,⟨_,by rw [wB]⟩,q⟩
theorem tf (ho:SE X o g) (hbase:attributeBase o "bit_length" X.env (eval o X.env)=eval o X.env:=by rfl) (hline:(apos.endLine == pos.line)=true:=by rfl):SE X (.Call (.Attribute o "bit_length" apos) [] [] pos) (EV.call iX [g]) :=
 PE.weak (GO PySem.F.plainAttrs_int PySem.F.slot_int_bit_length PySem.F.type_int_bit_length wD ho hbase hline) fun σ H Q ⟨δ,hσ,h⟩=>⟨δ,hσ,by
  have h':RQ X σ H ((g δ).bind fun d=>iX [d]) Q:=by
   unfold EV.call evs at h
   cases r:g δ with
   | ok d=>rw [r] at h;exact h
   | ex C=>rw [r] at h;exact h
   | bad=>rw [r] at h;exact h
  refine (RQ.bind h').to fun v H' s ⟨_,d,r,q⟩ => ?_
  unfold iX at q
  split at q
  ·rename_i e
   cases e
   cases r
   exact ⟨rfl,_,rfl,rfl,q _ _ ↥19 (.int _)⟩
  ·exact False.elim q⟩
def tyV (mg:Str->Option Value):D->Option Value
 | .non=>some (.type "NoneType")
 | .bl _=>some (.type "bool")
 | .int _=>some (.type "int")
 | .str _=>some (.type "str")
 | .tup _=>some ↥6
 | .lst _=>some (.type "list")
 | .exc n=>mg n
 | _=>none
def Na (mg:Str->Option Value):D->Option Value
 | .ty n=>some (.type n)
 | .cls n=>mg n
 | _=>none
def Isi (X:Cx) (c:D):Prop:=∀ d k t u,iW [d,c]=.ok (.bl k)->tyV X.mg d=some t->Na X.mg c=some u->PySem.W.kitOne X.K t u=some k
def lH (X:Cx):Prop:=∀ (e C:Addr) (n:String),ak.contains n=true->X.mg n=some (.ref C)->PySem.W.KitX X.K (.ref e) (.ref C) (fun h=>∃ o vs,h.get? e=some o/\o.cls=.ref C/\o.data=.fields vs)
theorem xU:(∃ d c k,ds=[d,c]/\iW ds=.ok (.bl k))\/iW ds=.bad:=by
 rcases ds with _ | ⟨d,_ | ⟨c,_ | ⟨x,y⟩⟩⟩
 ·exact .inr rfl
 ·exact .inr rfl
 ·cases c<;>first
   | exact .inr rfl
   | (cases d<;>first
     | exact .inr rfl
     | exact Hz rfl)
 ·first
   | exact .inr rfl
   | (cases c<;>exact .inr rfl)
theorem xn (h:iW [.exc n,c]=.ok (.bl k)):ak.contains n=true:=by
 cases c with
 | cls B =>
  have z:=(eG h).1
  rw [Bool.and_eq_true] at z
  exact z.1
 | ty B =>
  have z:=(eG h).1
  rw [Bool.and_eq_true] at z
  exact z.1
 | _=>cases h
theorem Km (hI:Isi X c) (hE:lH X):eZ X (.builtin "isinstance") (fun vs H Q=>∃ dx d,Reps X.K X.mg H vs [dx,c]/\iW [dx,c]=.ok d/\∀ v H',aq H H'->Rep X.K X.mg H' v d->Q v H'):=by
 intro pins s σ H xs us Q I rs ⟨dx0,d,r,e,q⟩
 rcases xU (ds:=[dx0,c]) with ⟨dx,dc,k,ez,e'⟩ | e'<;>rw [e'] at e<;>cases e
 cases ez
 obtain ⟨v,v',rfl,r1,r2⟩:=CY r
 cases rs with
 | cons h1 h2 =>
  cases h2 with
  | cons h2 h3 =>
   cases h3
   rename_i u w
   have fin:∀ tk,EP X pins σ Q (.bool k) { s with toks:=tk }:=fun tk=>⟨.bl k,H,I.tok tk,rfl,q _ _ ↥19 (.bl k)⟩
   have hw:Na X.mg c=some w:=by
    cases r2 with
    | ty n=>cases h2;rfl
    | cls hc=>cases h2;exact hc
    | _=>cases dx0<;>cases e'
   cases r1 with
   | non=>cases (show u=Value.none from h1);exact PySem.W.kia_one PySem.W.kitx_none I.kIn True.intro (hI _ k _ _ e' rfl hw) (fun z=>nomatch z) fin
   | bl y=>cases (show u=Value.bool y from h1);exact PySem.W.kia_one PySem.W.kitx_bool I.kIn True.intro (hI _ k _ _ e' rfl hw) (fun z=>nomatch z) fin
   | int i=>obtain ⟨t,z⟩:=(show ∃ t,u=Value.int i t from h1);cases z;exact PySem.W.kia_one PySem.W.kitx_int I.kIn True.intro (hI _ k _ _ e' rfl hw) (fun z=>nomatch z) fin
   | str y=>obtain ⟨t,z⟩:=(show ∃ t,u=Value.str y t from h1);cases z;exact PySem.W.kia_one PySem.W.kitx_str I.kIn True.intro (hI _ k _ _ e' rfl hw) (fun z=>nomatch z) fin
   | @tup a ys ds hq rr =>
    cases (show u=Value.ref a from h1)
    obtain ⟨its,_,⟨o,g1,g2,_⟩,_⟩:=I.tuple hq
    exact PySem.W.kia_one PySem.W.kitx_tuple I.kIn ⟨o,g1,g2⟩ (hI _ k _ _ e' rfl hw) (fun z=>nomatch z) fin
   | @lst a ys ds hq rr =>
    cases (show u=Value.ref a from h1)
    obtain ⟨its,_,⟨o,n,g1,g2,_⟩,_⟩:=I.list hq
    exact PySem.W.kia_one PySem.W.kitx_list I.kIn ⟨o,g1,g2⟩ (hI _ k _ _ e' rfl hw) (fun z=>nomatch z) fin
   | @exc a C n hn hq =>
    cases (show u=Value.ref a from h1)
    exact PySem.W.kia_one (hE a C n (xn e') hn) I.kIn (I.hok a _ hq).1 (hI _ k _ _ e' hn hw) (fun z=>nomatch z) fin
   | ty n=>cases c<;>cases e'
   | cls _=>cases c<;>cases e'
   | ins _ _ _=>cases c<;>cases e'
theorem rj (hI:Isi X c) (hE:lH X) (G:Gb X "isinstance") (hm:X.mg "isinstance"=none) (ha:SE X e g) (hb:SE X e2 (con c))
  (hs:starEach [e,e2] X.env=↥27::starEach [e2] X.env:=by rfl) (hs2:starEach [e2] X.env=[(false,eval e2 X.env)]:=by rfl) (hpl:(backTo pos (starEach [e2] X.env)).any (·.1)=false:=by rfl) :
  SE X (.Call (.Name "isinstance" p) [e,e2] [] pos) (EV.call iW [g,con c]) :=
 PE.weak (sv (Km hI hE) G.g hm PyProof.Rows.boot_isinstance (aj ha (aj hb fm hs2) hs) G.n G.d hs hpl) fun σ H Q ⟨δ,hσ,h⟩=>⟨δ,hσ,by
  cases r:g δ with
  | ok d =>
   have e1:evs [g,con c] δ=.ok [d,c]:=by simp [evs,r,con,R.bind]
   unfold EV.call at h
   rw [e1] at h ⊢
   refine fun vs H' s rs => ?_
   have h':RQ X σ H' (iW [d,c]) Q:=RQ.mono s h
   rcases xU (ds:=[d,c]) with ⟨_,_,k,_,e'⟩ | e'
   ·rw [e'] at h';exact ⟨d,_,rs,e',h'⟩
   ·rw [e'] at h';exact False.elim h'
  | ex C =>
   have e1:evs [g,con c] δ=.ex C:=by simp [evs,r,R.bind]
   unfold EV.call at h
   rw [e1] at h ⊢
   exact h
  | bad =>
   have e1:evs [g,con c] δ=.bad:=by simp [evs,r,R.bind]
   unfold EV.call at h
   rw [e1] at h
   exact False.elim h⟩
end
end ES
namespace ES
open PySem PySem.Spec PyProof.Rows L2 EV
unseal SE ST SW SA SS SSs
section
variable {prog:Program} {w:World} {A:Around} {s:Shared} {K:PySem.W.Frag} {e C:Addr}
open PySem.W PySem.Builtin PySem.Builtin.Getset_descriptor in
theorem Fo {R:Result->Shared->Prop} {tp:Value} (L1:Looks ↥16 s.heap (isSubtype (.ref C) (.type "object")) true) (L0:Looks ↥16 s.heap (typeOf (.ref e)) (.ref C)) (done:R (.ok (.ret (.ref C))) s) :
  codeAny ↥16 A (.call (.builtin "getset_descriptor.__get__") ⟨[.builtin "object.__class__",.ref e,tp],[]⟩) R s:=by
 obtain ⟨hh,g,dr,t,os⟩:=s
 refine codeAny_call_builtin KF.slot_gs.plain KF.entry_gs (KF.slot_gs.check _ _ _ _ _ _ _ _ KF.type_class (KF.args_gs _ _ tp) ?_)
 unfold Builtin.«getset_descriptor.__get__»;unfold descrGet;rw [dga_obj]
 refine wpAny_bind (wpAny_pure ?_)
 simp only [descrGetter,descrCheckInstance,descrNameAndClass,isInstance,KF.owner_class]
 repeat lk
 refine ⟨Code.quiet_builtin _ (by decide +kernel),?_⟩
 refine codeAny_builtin KF.entry_class ?_
 unfold Builtin.«object.__class__»;unfold shownTypeOf
 repeat lk
 exact done
open PySem.W PySem.Builtin PySem.Builtin.Getset_descriptor in
theorem yr {E:Value->Shared->Prop} {Q:Fin->Shared->Prop} {tk:Tok} (L1:Looks ↥16 s.heap (isSubtype (.ref C) (.type "object")) true) (L0:Looks ↥16 s.heap (typeOf (.ref e)) (.ref C))
  (L2:Looks ↥16 s.heap (typeLookup (.ref C) "__class__") (some (.builtin "object.__class__"))) (done:Q (.done (.ret (.ref C))) s) :
  wpAny ↥16 A (Builtin.«object.__getattribute__» ⟨[.ref e,.str "__class__" tk],[]⟩) Q E s:=by
 obtain ⟨hh,g,dr,t,os⟩:=s
 have f5:=F.typeOf_object_class
 have f6:=F.slot_gs_get.lookup
 have f7:=F.slot_gs_set.lookup
 have hT5:(⟨hh,g,dr,t,os⟩:Shared).TypeIs (.builtin "object.__class__") "getset_descriptor":=F.typeOf_object_class
 repeat (any_goals (first | assumption | with_reducible refine L0.at ?_ | with_reducible refine L2.at ?_ | wp_step))
 refine Fo L1 L0 ?_
 repeat (any_goals (first | assumption | wp_step))
open PySem.W PySem.Builtin PySem.Builtin.Getset_descriptor in
theorem yt {M:Model} {E:Value->Shared->Prop} {nameV:Value} {Q:Unit->Shared->Prop} (L3:Looks M s.heap (isSubtype (.ref C) (.type "BaseException")) true) (L0:Looks M s.heap (typeOf (.ref e)) (.ref C)) (done:Q () s) :
  wpAny M A (checkBuiltinCall "BaseException.__getattribute__" ⟨[.ref e,nameV],[]⟩) Q E s:=by
 obtain ⟨hh,g,dr,t,os⟩:=s
 have k1:builtinKind "BaseException.__getattribute__"=some .slot:=by decide +kernel
 have k2:splitId "BaseException.__getattribute__"=some ("BaseException","__getattribute__"):=by decide +kernel
 have ha:=F.args_bexc_ga (.ref e) nameV
 simp only [checkBuiltinCall,k1,k2]
 refine wpAny_bind ?_
 unfold isInstance
 repeat (first | with_reducible refine L0.at ?_ | with_reducible refine L3.at ?_ | wp_step)
 exact done
structure XCls (K:PySem.W.Frag) (C:Addr):Prop where
 c0:PySem.W.mroIn K C (.type "object")=some true
 c1:PySem.W.mroIn K C (.type "BaseException")=some true
 c2:PySem.W.findIn K (.ref C) "__class__"=some (some (.builtin "object.__class__"))
 c3:PySem.W.findIn K (.ref C) "__getattribute__"=some (some (.builtin "BaseException.__getattribute__"))
 c4:PySem.W.findIn K (.ref C) "__getattr__"=some none
 c5:∃ cd,PySem.W.clsIn K C=some cd
open PySem.W PySem.Builtin PySem.Builtin.Getset_descriptor in
theorem IL {E:Value->Shared->Prop} {Q:Value->Shared->Prop} {tk:Tok} (FB:ExcAttrFacts "ValueError") (L0:Looks ↥16 s.heap (typeOf (.ref e)) (.ref C)) (c:XCls K C) (KX:K.In s.heap) (done:Q (.ref C) s) :
  wpAny ↥16 A (getAttrBy (.ref e) (.str "__class__" tk) false) Q E s:=by
 have L1:Looks ↥16 s.heap (isSubtype (.ref C) (.type "object")) true:=looks_mroIn KX c.c0
 have L3:Looks ↥16 s.heap (isSubtype (.ref C) (.type "BaseException")) true:=looks_mroIn KX c.c1
 have L2:Looks ↥16 s.heap (typeLookup (.ref C) "__class__") (some (.builtin "object.__class__")):=looks_findIn KX c.c2
 have L4:Looks ↥16 s.heap (typeLookup (.ref C) "__getattribute__") (some (.builtin "BaseException.__getattribute__")):=looks_findIn KX c.c3
 have L5:Looks ↥16 s.heap (typeLookup (.ref C) "__getattr__") none:=looks_findIn KX c.c4
 obtain ⟨hh,g,dr,t,os⟩:=s
 have f3:=FB.ga.bind (.ref e)
 have q2:(Value.builtin "BaseException.__getattribute__" == Value.builtin "object.__getattribute__")=false:=by decide +kernel
 have q0:(false&&onTheHeap (Value.builtin "BaseException.__getattribute__"))=false:=rfl
 have q1:(onTheHeap (Value.ref C)&&Value.builtin "BaseException.__getattribute__" == Value.builtin "object.__getattribute__")=false:=by rw [q2];rfl
 repeat (any_goals (first | assumption | with_reducible refine L0.at ?_ | with_reducible refine L4.at ?_ | with_reducible refine L5.at ?_ | wp_step))
 refine codeAny_call_builtin FB.ga.plain F.entry_bexc_ga (yt L3 L0 (yr L1 L0 L2 ?_))
 repeat (any_goals (first | assumption | wp_step))
open PySem.W in
theorem Eg (c:XCls K C):KitX K (.ref e) (.ref C) (fun h=>∃ o vs,h.get? e=some o/\o.cls=.ref C/\o.data=.fields vs) where
 ty:=fun M h KX ⟨o,vs,h1,h2,h3⟩=>h2▸(Looks.ld h1).andThen .now
 it:=fun M h KX _=>by
  obtain ⟨cd,hc⟩:=c.c5
  unfold clsIn at hc
  split at hc
  ·rename_i hlk
   intro A' Q' E' s' k q
   unfold isType loadHead
   exact wpAny_bind (wpAny_loadPart (k _ _ (KX _ _ hlk)) (wpAny_pure q))
  ·cases hc
 ne:=fun h tp dd its n sl KX htp=>by
  obtain ⟨cd,hc⟩:=c.c5
  unfold clsIn at hc
  split at hc
  ·rename_i hlk
   have h1:=KX _ _ hlk
   by_cases z:C=tp
   ·subst z
    rw [htp] at h1
    cases h1
   ·simpa using z
  ·cases hc
 ca:=fun {prog w A E Q s} KX ⟨o,vs,h1,h2,h3⟩ q=>by
  obtain ⟨hh,g,dr,t,os⟩:=s
  have L0:Looks ↥16 hh (typeOf (.ref e)) (.ref C):=h2▸(Looks.ld h1).andThen .now
  have by_:∀ {tk:Tok} {t':Nat} {E':Value->Shared->Prop} {Q':Value->Shared->Prop},Q' (.ref C) ⟨hh,g,dr,t',os⟩->wpAny ↥16 A (getAttrBy (.ref e) (.str "__class__" tk) false) Q' E' ⟨hh,g,dr,t',os⟩:=fun {tk t' E' Q'} done=>IL (s:=⟨hh,g,dr,t',os⟩) PySem.F.excAttr_ValueError L0 c KX done
  clear h1
  unfold getAttr? getAttrBy?
  repeat (any_goals (first | assumption | with_reducible apply by_ | wp_step))
end
theorem iv (h:∀ (n:String) (C:Addr),ak.contains n=true->X.mg n=some (.ref C)->XCls X.K C):lH X:=fun e C n hx hn=>Eg (h n C hx hn)
end ES
namespace ES
open PySem PySem.Spec PyProof.Rows L2 EV
unseal SE ST SW SA SS SSs
theorem mG {G:List Str} (i:Nat) {x:Str} (h:G[i]? = some x:=by rfl):x∈G:=List.mem_of_getElem? h
structure XF (K:PySem.W.Frag) (mg:Str->Option Value) (n:String):Prop where
 ex:mg n=none\/∃ C,mg n=some (.ref C)/\XCls K C
theorem mJ {K:PySem.W.Frag} {mg:Str->Option Value} (h:∀ n∈ak,XF K mg n) (n:String) (C:Addr) (hn:ak.contains n=true) (hm:mg n=some (.ref C)):XCls K C:=by
 rcases (h n (by simpa using hn)).ex with z | ⟨C',z,x⟩
 ·rw [hm] at z;cases z
 ·rw [hm] at z;cases z;exact x
structure CF (K:PySem.W.Frag) (mg:Str->Option Value) (B:Addr) (n:String):Prop where
 ex:mg n=none\/∃ C,mg n=some (.ref C)/\PySem.W.mroIn K C (.ref B)=some true
structure CB (K:PySem.W.Frag) (B:Addr):Prop where
 c1:∃ cd,PySem.W.clsIn K B=some cd
 c2:PySem.W.typeIn K (.ref B)=some (.type "type")
 c3:PySem.W.subIn K (.type "type") ↥6=some false
 c4:PySem.W.mroIn K B (.type "BaseException")=some true
theorem kI (hn:n≠"ValueError") (i0:PySem.W.kitOne X.K (.type "NoneType") (.type n)=some false) (i1:PySem.W.kitOne X.K (.type "bool") (.type n)=some (n == "int"||n == "bool")) (i2:PySem.W.kitOne X.K (.type "int") (.type n)=some (n == "int"))
  (i3:PySem.W.kitOne X.K (.type "str") (.type n)=some (n == "str")) (i4:PySem.W.kitOne X.K ↥6 (.type n)=some (n == "tuple")) (i5:PySem.W.kitOne X.K (.type "list") (.type n)=some (n == "list")):Isi X (.ty n):=by
 intro d k t u e ht hu
 cases hu
 cases d with
 | exc C =>
  have z:=(eG e).1
  rw [Bool.and_eq_true,beq_iff_eq] at z
  exact absurd z.2 hn
 | non=>cases ht;obtain ⟨_,rfl⟩:=eG e;exact i0
 | bl b=>cases ht;obtain ⟨_,rfl⟩:=eG e;exact i1
 | int b=>cases ht;obtain ⟨_,rfl⟩:=eG e;exact i2
 | str b=>cases ht;obtain ⟨_,rfl⟩:=eG e;exact i3
 | tup b=>cases ht;obtain ⟨_,rfl⟩:=eG e;exact i4
 | lst b=>cases ht;obtain ⟨_,rfl⟩:=eG e;exact i5
 | _=>cases e
structure IF (K:PySem.W.Frag) (mg:Str->Option Value) (c:Value) (k:Bool) (n:String):Prop where
 ex:mg n=none\/∃ C,mg n=some (.ref C)/\PySem.W.kitOne K (.ref C) c=some k
theorem gD:∀ {ns:List Int},PySem.W.WData.weightAll (ns.map PySem.W.WData.int)<=2^20->∀ n∈ns,nb n<=2^20
 | [],_,_,h=>nomatch h
 | m::r,hw,n,h=>by
  rw [List.map_cons,PySem.W.WData.weightAll] at hw
  rcases List.mem_cons.mp h with rfl | h
  ·have:PySem.W.WData.weight (.int n)=Builtin.Int.intBits n:=by simp only [PySem.W.WData.weight,Builtin.Int.intBits]
   rw [wB]
   omega
  ·exact gD (ns:=r) ⋯ n h
open PySem.W PySem.Calls Att in
theorem rO {l:OpenLaw} {n:Nat} {q:Program} {loose:List Str} {XP:(Str->Option Value)->Heap->Prop} {YP:World->Heap->Prop} {d:DefRec}
  (hn:l.most=some n) (hdf:d.params.defaults=[])
  (call:∀ (w:World) (s₀ s₁:Shared) (mg mb:Str->Option Value) (fa:Addr) (a:Addr) (vs:List Value) (ns:List Int),
   Ground q loose [] XP w s₀ mg mb s₁.heap->YP w s₁.heap->mg d.name=some (.ref fa) ->
   s₁.heap.get? a=some { cls:=.type "list",data:=.seq vs.toArray }->IntsAre vs ns->ns.length<=n->(∀ m∈ns,nb m<=2^20)->s₁.gens = #[] ->
   codeAny (model l.prog w) callerA (.call (.ref fa) ⟨[.ref a],[]⟩) (fun r s'=>r=.ok (.ret (.bool true))/\OldK s₁.heap s'.heap/\s'.os=s₁.os/\AllBare s'.gens) s₁) :
  WalkO q loose XP YP l.row.toRowW d [] (fun f vs=>PySem.call f vs):=by
 intro w s₀ s₁ mg mb G Y fa o pm cd doc dV kV ho hd hcd hD hmg hg args vals as hpre hlay hrd hwl hlo
 obtain rfl:dV=.none:=Dflts.none hD hdf
 obtain rfl:kV=.none:=Dflts.noKw hD
 obtain ⟨a,vs,ns,rfl,rfl,hobj,hints,hlen⟩:=vp hn hpre hwl
 have hb:∀ m∈ns,nb m<=2^20:=by
  have h1:=(layableW_iff.mp (layW_cons hlay).1).2.2
  rw [WData.weight] at h1
  exact gD h1
 refine enter_call (codeAny_mono (call w s₀ s₁ mg mb fa a vs ns G Y hmg hobj hints hlen hb hg) fun r s' hq => ?_)
 obtain ⟨rfl,h2,h3,h4⟩:=hq
 exact ⟨.inl ⟨.bool true,.bool true,[],rfl,fun _=>rfl,.bool true,vG l _,fun _=>⟨List.Pairwise.nil,fun _ hm=>(nomatch hm)⟩⟩,h2,h3,h4⟩
theorem yy {l:PySem.W.OpenLaw} {k:Nat} {q:Program} {loose:List Str} {XP:(Str->Option Value)->Heap->Prop} {YP:World->Heap->Prop} {d:DefRec} {K:Params->PySem.W.Frag} {x:Str} {f:List D->R D}
  (hf:Good f) (hn:l.most=some 63) (hdf:d.params.defaults=[]) (hr:Room k callerA)
  (hY:∀ (w:World) (h:Heap),YP w h->(K w.params).In h)
  (F:∀ (w:World) (mg:Str->Option Value) (fa:Addr) (h:Heap),(K w.params).In h->h.Ns mainGlobals mg->mg d.name=some (.ref fa) ->
   ∃ fd:FuncData,(∀ (s:Shared) (u:Value),BindsTo s fd ⟨[u],[]⟩ [(x,u)]) /\
    ∀ base:Heap,(K w.params).In base->base.Ns mainGlobals mg->FnOk l.prog w (K w.params) mg base (CXF l.prog w) k fa fd [x] (spP (K w.params) mg f)) :
  PySem.W.WalkO q loose XP YP l.row.toRowW d [] (fun f vs=>PySem.call f vs):=by
 refine rO hn hdf fun w s₀ s₁ mg mb fa a vs ns G Y hmg hobj hints hlen hbits hg => ?_
 have KX:=hY w _ Y
 obtain ⟨fd,hb,hF⟩:=F w mg fa _ KX G.T.g hmg
 refine zZ KX G.T.g G.T.b G.T.builtins G.T.nolimit hg hobj hints (Nat.le_trans hlen ↥3) hr hF hb (fun H hO hS=>⟨[.lst (ns.map .int)],.cons (.lst hS (Reps.ints ns)) .nil,?_⟩) fun H e s' ⟨_,_,_,_,_,z⟩=>z
 rw [hf ns hlen hbits]
 exact fun v H' _ r=>by cases r;rfl
end ES
namespace ES
open PySem PySem.Spec PyProof.Rows L2 EV
unseal SE ST SW SA SS SSs
structure FldOk (X:Cx) (cn f:String):Prop where
 ex:∃ C,X.mg cn=some (.ref C)/\Cls X.K C/\iz X.K C f
structure MethOk (X:Cx) (cn m:String) (F:List D->R D):Prop where
 ex:∃ C fa k fd ps,X.mg cn=some (.ref C)/\Cls X.K C/\Meth X.K C m fa/\FnOk X.prog X.w X.K X.mg X.base (CXF X.prog X.w) k fa fd ps (spP X.K X.mg F)/\Room k X.A/\Binds X.K fd ps []
section
variable {X:Cx} {o e:Expr} {es:List Expr} {go:E} {gs:List E} {pos apos p:Pos} {cn f m:String} {F:List D->R D}
theorem xu (h:FldOk X cn f) (ho:SE X o go) (hb:attributeBase o f X.env (eval o X.env)=eval o X.env:=by rfl):SE X (.Attribute o f pos) (un (uS cn f) go):=by
 obtain ⟨C,hC,cl,na⟩:=h.ex
 refine PE.weak (GN ho hb) fun σ H Q ⟨δ,hσ,h⟩=>⟨δ,hσ,(RQ.bind h).to fun v H' s ⟨_,d,r,q⟩ => ?_⟩
 cases r with
 | @ins a C' dx n fs ds hn ha rf =>
  unfold uS at q
  simp only at q
  split at q
  ·rename_i hcn
   rw [beq_iff_eq] at hcn
   subst hcn
   split at q
   ·rename_i d hd
    obtain ⟨v,e1,e2⟩:=rf.lookup hd
    rw [hC] at hn
    cases hn
    exact ⟨a,C,dx,fs,v,rfl,ha,cl,na,e1,q _ _ ↥19 e2⟩
   ·exact False.elim q
  ·exact False.elim q
 | _=>exact False.elim q
theorem DT {σ:L2.St} {H:Hp} {δ:Dt} {d:D} {es:List E} {Q:VK} (h:RQ X σ H (if dU cn m d then (evs es δ).bind fun ds=>F (d::ds) else .bad) Q):dU cn m d=true/\RA X σ H (evs es δ) fun vs H'=>aq H H'/\∃ ds,Reps X.K X.mg H' vs ds/\RQ X σ H' (F (d::ds)) Q:=by
 by_cases hm:dU cn m d=true
 ·rw [if_pos hm] at h
  refine ⟨hm,?_⟩
  have h2:RQ X σ H ((evs es δ).bind fun ds=>F (d::ds)) Q:=h
  cases r:evs es δ with
  | ok ds=>rw [r] at h2;exact fun vs H' s rs=>⟨s,ds,rs,RQ.mono s h2⟩
  | ex C=>rw [r] at h2;exact h2
  | bad=>rw [r] at h2;exact h2
 ·rw [if_neg hm] at h;exact False.elim h
theorem sZ (h:MethOk X cn m F) (ho:SE X o go) (ha:SA X (e::es) gs)
  (hst:starEach (e::es) X.env=↥27::starEach es X.env:=by rfl) (hpl:(backTo pos (starEach es X.env)).any (·.1)=false:=by rfl)
  (ht:eval (.Call (.Attribute o m apos) (e::es) [] pos) X.env=(do
   let ov<-eval o X.env
   standAt apos.atName
   let (f,first)<-holding [ov] (getMethod ov m pl)
   callWith pos f first (backTo pos (starEach (e::es) X.env)) (backToKw pos (keywordEach [] X.env))):=by rfl) :
  SE X (.Call (.Attribute o m apos) (e::es) [] pos) (E1 cn m F go gs):=by
 obtain ⟨C,fa,k,fd,ps,hC,cl,hm,FO,hr,hb⟩:=h.ex
 intro pins s σ H Q I ⟨δ,hσ,h⟩
 refine PySem.W.methodCall_KW (pl:=pl) (thn (ho pins s σ H _ I ⟨δ,hσ,RQ.bind h⟩) fun u s1 ⟨x,H1,I1,rx,sm,d,rd,q⟩ => ?_) ht
 obtain ⟨im,qa⟩:=DT q
 cases rd with
 | @ins a C' dx n fs ds hn hA rf =>
  unfold dU at im
  rw [Bool.and_eq_true,beq_iff_eq] at im
  obtain ⟨e1,e2⟩:=im
  subst e1
  rw [hC] at hn
  cases hn
  have l:fs.lookup (m:Str)=none:=rf.lookupN (by simpa using e2)
  obtain rfl:u=Value.ref a:=rx
  refine uA I1 hA cl hm l ?_
  refine PySem.W.callWith_K (first:=[.ref a]) (h₀:=X.base) I.ok.mod.kin hm.kp (thn (ha pos pins s1 σ H1 _ I1 ⟨δ,hσ.mono sm,qa⟩) fun us s2 ⟨vs,H2,I2,r,sm2,ds',rs,q2⟩=>⟨I2.kIn,?_⟩) hst hpl
  exact Gm (us:=.ref a::us) (vs:=.ref a::vs) FO hr hb I2 (.cons rfl r) (.cons (.ins hC (sm2 _ _ hA) (rf.mono sm2)) rs) q2
 | _=>cases im
def spI (K:PySem.W.Frag) (f:Str):Sp:=fun vs H Q _=>∃ x v C dx,vs=[.ref x,v]/\H x=some (.ins C dx [])/\Cls K C/\iz K C f/\Q .non (upd H x (.ins C dx [(f,v)]))
theorem D0 {P:Program} {w:World} {K:PySem.W.Frag} {mg:Str->Option Value} {base:Heap} {x qual ps pa f:Str} {st:Stmt} {fa:Addr} {fd:FuncData} {p1 p2 p3 p4:Pos} {k:Nat} (F:Fun K x qual st fa fd)
  (S:FnScope [ps,pa] [ps,pa] (aa st)) (h0:(aa st).names.lookup ps=some .local) (h1:(aa st).names.lookup pa=some .local) (d0:(ps == ("__debug__":Str))=false/\(ps == ("__classdict__":Str))=false) (d1:(pa == ("__debug__":Str))=false/\(pa == ("__classdict__":Str))=false)
  (hb:ah st=[.Assign [.Attribute (.Name ps p1) f p2] (.Name pa p3) p4]) (hsw:∀ env,swapsWith (.Name pa p3) (some (.Attribute (.Name ps p1) f p2)) p4.line env=pure false):FnOk P w K mg base CX0 (k+1) fa fd [ps,pa] (spI K f):=by
 refine F.ok S (fun vs H Q E h => ?_) fun cdv A outer s H vs Q E hr h => ?_
 ·obtain ⟨_,_,_,_,rfl,_⟩:=h
  rfl
 ·obtain ⟨a,v,C,dx,rfl,hH,cl,na,q⟩:=h
  rw [hb]
  refine ⟨_,nh (GD (hU (i:=0) rfl (.inl h0) d0.1 d0.2) (hU (i:=1) rfl (.inl h1) d1.1 d1.2) (hsw _)),?_⟩
  exact ⟨v,rfl,_,rfl,a,C,dx,[],rfl,hH,cl,na,by decide,q⟩
structure MakeOk (X:Cx) (cn f:String):Prop where
 ex:∃ C fa k fd ps,X.mg cn=some (.ref C)/\Cls X.K C/\iz X.K C f/\Mk X.K C fa/\FnOk X.prog X.w X.K X.mg X.base CX0 k fa fd ps (spI X.K f)/\Room (k+1) X.A/\Binds X.K fd ps []
theorem Eo (h:MakeOk X cn f) (G:Gb X cn) (ha:SA X (e::es) gs) (he:starEach (e::es) X.env=↥27::starEach es X.env:=by rfl) (hpl:(backTo pos (starEach es X.env)).any (·.1)=false:=by rfl) :
  SE X (.Call (.Name cn p) (e::es) [] pos) (EV.call (mk1 cn f) gs):=by
 obtain ⟨C,fa,k,fd,ps,hC,cl,na,M,F,hr,hb⟩:=h.ex
 refine PE.weak (C7 (E:=fun _ _ _=>False) M F hr G.g hC hb .nil JO ha G.d he hpl) fun σ H Q ⟨δ,hσ,h⟩=>⟨δ,hσ,(RA.bind h).to fun vs H' s ⟨_,ds,rs,q⟩ x dx hx hdx hne => ?_⟩
 unfold mk1 at q
 split at q
 ·rename_i d
  obtain ⟨v,rfl,r⟩:=kd rs
  refine ⟨x,v,C,dx,rfl,aA,cl,na,rfl,?_⟩
  have s1:aq H' (upd H' dx (.own x)):=av hdx _
  have hx1:(upd H' dx (.own x)) x=none:=by rw [aL (Ne.symm hne)];exact hx
  have s2:aq (upd H' dx (.own x)) (upd (upd H' dx (.own x)) x (.ins C dx [])):=av hx1 _
  have s3:aq H' (upd (upd (upd H' dx (.own x)) x (.ins C dx [])) x (.ins C dx [((f:Str),v)])):=fun b o e=>by
   have hb:b≠x:=bL e hx
   rw [aL hb,aL hb]
   exact s1 b o e
  exact q _ _ s3 (.ins hC aA (.cons (r.mono s3) .nil))
 ·exact False.elim q
end
end ES
namespace ES
open PySem PySem.Spec PyProof.Rows L2 EV
unseal SE ST SW SA SS SSs
def xZ (X:Cx) (J:It) (H:Hp) (ds:List D):Prop:=∀ Hc,aq H Hc ->
 (∀ i d,ds[i]? = some d->J.go i Hc/\∀ x H',J.yld i Hc x H'->aq Hc H'/\∀ Hq,aq H Hq->(∀ b o,H' b=some o->Hc b=none->Hq b=some o)->Rep X.K X.mg Hq x d)/\∀ i,ds.length<=i->J.stop i Hc
theorem ql {X:Cx} {H Hc H':Hp} {x:V} {d:D} (e:H'=Hc) (r:Rep X.K X.mg H x d):aq Hc H'/\∀ Hq,aq H Hq->(∀ b o,H' b=some o->Hc b=none->Hq b=some o)->Rep X.K X.mg Hq x d :=
 ⟨by rw [e];exact aq.refl _,fun Hq s _=>r.mono s⟩
def RI (X:Cx) (σ:L2.St) (H:Hp) (r:R (List D)) (Q:It->Hp->Prop):Prop:=match r with
 | .ok ds=>∀ J H',aq H H'->xZ X J H' ds->Q J H'
 | .ex C=>∀ Ca,X.mg C=some (.ref Ca)->∀ H',aq H H'->ew X Ca σ H'
 | .bad=>False
def tI (X:Cx) (g:IT):TI:=fun σ H Q=>∃ δ,Stt X.K X.mg H σ δ/\RI X σ H (g δ) Q
@[irreducible] def SI (X:Cx) (tg iter:Expr) (g:IT):Prop:=PI X tg iter (tI X g)
unseal SI
section
variable {X:Cx} {tg e a b:Expr} {g ga gb:E} {σ:L2.St} {H H1:Hp}
theorem RI.mono (s:aq H H1) (h:RI X σ H r Q):RI X σ H1 r Q:=by
 cases r with
 | ok d=>exact fun v H' s' r=>h v H' (s.trans s') r
 | ex C=>exact fun Ca hc H' s'=>h Ca hc H' (s.trans s')
 | bad=>exact h
theorem RI.bind (h:RI X σ H (r.bind f) Q):RQ X σ H r (fun v H'=>aq H H'/\∃ d,Rep X.K X.mg H' v d/\RI X σ H' (f d) Q):=by
 cases r with
 | ok d=>exact fun v H' s r=>⟨s,d,r,h.mono s⟩
 | ex C=>exact h
 | bad=>exact h
theorem PI.weak (h:PI X tg e t) (w:∀ σ H Q,t' σ H Q->t σ H Q):PI X tg e t':=fun pins s σ H Q I q=>h pins s σ H Q I (w σ H Q q)
theorem Bj (h:SE X e g):SI X tg e (itL g):=PI.weak (C6 h) fun σ H Q ⟨δ,hσ,q⟩=>⟨δ,hσ,(RI.bind q).to fun v H' s ⟨_,d,r,q⟩=>by
 cases d with
 | lst ds =>
  cases r with
  | @lst p xs _ hq rs =>
   refine ⟨p,rfl,⟨xs,hq⟩,q _ _ ↥19 fun Hc sc=>⟨fun i d hd => ?_,fun i hi=>⟨xs,sc.seq hq,by rw [rs.length];exact hi⟩⟩⟩
   obtain ⟨v,e1,r1⟩:=rs.get hd
   exact ⟨⟨xs,v,sc.seq hq,e1⟩,fun x H'' ⟨e2,y⟩=>by
    have:=y xs (sc.seq hq)
    rw [e1] at this
    cases this
    exact ql e2 r1⟩
 | _=>exact False.elim q⟩
theorem J9 (h:SE X e g):SI X tg e (itT g):=PI.weak (GH h) fun σ H Q ⟨δ,hσ,q⟩=>⟨δ,hσ,(RI.bind q).to fun v H' s ⟨_,d,r,q⟩=>by
 cases d with
 | tup ds =>
  cases r with
  | @tup p xs _ hq rs =>
   refine ⟨p,rfl,⟨xs,hq⟩,q _ _ ↥19 fun Hc sc=>⟨fun i d hd => ?_,fun i hi=>⟨xs,fo sc hq,by rw [rs.length];exact hi⟩⟩⟩
   obtain ⟨v,e1,r1⟩:=rs.get hd
   exact ⟨⟨xs,v,fo sc hq,e1⟩,fun x H'' ⟨e2,y⟩=>by
    have:=y xs (fo sc hq)
    rw [e1] at this
    cases this
    exact ql e2 r1⟩
 | _=>exact False.elim q⟩
theorem yx {lo hi:Int}:xZ X (Itr lo (hi - lo).toNat) H (oJ lo hi):=fun Hc sc=>⟨fun i d hd=>by
  have hl:=(List.getElem?_eq_some_iff.mp hd).1
  rw [sj] at hl
  rw [CU hl] at hd
  cases hd
  exact ⟨hl,fun x H' ⟨e,ex⟩=>by subst ex;exact ql e (.int _)⟩,fun i hi'=>by rw [sj] at hi';exact hi'⟩
theorem HE (G:Gb X "range") (hm:X.mg "range"=none) (h:SE X e g) (hs:starEach [e] X.env=[↥27]:=by rfl):SI X tg (.Call (.Name "range" p) [e] [] pos) (J8 g) :=
 PI.weak (vJ G.g hm (dG h gz hs) hs) fun σ H Q ⟨δ,hσ,q⟩=>⟨δ,hσ,(RI.bind q).to fun v H' s ⟨_,d,r,q⟩=>by
  cases d with
  | int hi =>
   cases r
   unfold Im at q
   simp only at q
   split at q
   ·rename_i hb
    refine ⟨hi,rfl,hb.1,hb.2,q _ _ ↥19 ?_⟩
    have:=yx (X:=X) (lo:=0) (hi:=hi) (H:=H')
    rw [Int.sub_zero] at this
    exact this
   ·exact False.elim q
  | _=>exact False.elim q⟩
end
def FI (X:Cx) (σ:L2.St) (H:Hp) (os:Os) (δ:Dt) (r:R (List D)) (Q:It->Hp->Prop):Prop:=match r with
 | .ok ds=>∀ J H',StO X H' σ δ os->aq ↥20 (hide H' os)->xZ X J (hide H' os) ds->Q J H'
 | .ex C=>∀ Ca,X.mg C=some (.ref Ca)->∀ H',aq ↥20 H'->Stt X.K X.mg H' σ (noOwn δ)->ew X Ca σ H'
 | .bad=>False
def tFI (X:Cx) (g:IT):TI:=fun σ H Q=>∃ δ os,StO X H σ δ os/\FI X σ H os δ (g δ) Q
section
variable {X:Cx} {N:List Str} {tg e:Expr} {g:IT}
theorem HJ (hx:X.ex=[]) (h:SI X tg e g):PI X tg e (tFI X g):=by
 intro pins s σ H Q I ⟨δ,os,S,q⟩
 have hl:=S.lsts
 have hw:RI X σ ↥20 (g δ) (fun J H1=>aq ↥20 H1/\∃ ds,g δ=.ok ds/\xZ X J H1 ds):=by
  cases r:g δ with
  | ok d=>exact fun v H' s r=>⟨s,d,rfl,r⟩
  | ex C =>
   rw [r] at q
   exact fun Ca hc H' s'=>q Ca hc H' s' (S.noOwn s')
  | bad=>rw [r] at q;exact q
 refine thn (h _ s σ _ _ (jS I hl) ⟨δ,S.st,hw⟩) fun v s1 h1=>thn h1 fun itv s2 h2 => ?_
 obtain ⟨it,fp,tn,J,H1,e1,I1,T,st,fpk,sm,ds,e2,wk⟩:=h2
 obtain ⟨I2,hn⟩:=jR hx I hl I1
 rw [e2] at q
 have eh:=ig (H:=H) hn
 refine ⟨it,fp,tn,J,d4 H H1 os,e1,I2,T,st,fun b hb => ?_,q J _ (S.shown sm hn) (by rw [eh];exact sm) (by rw [eh];exact wk)⟩
 obtain ⟨f0,f1,f2,f3,f4,f5⟩:=fpk b hb
 have nb:b∉iZ os:=fun z=>by
  obtain ⟨xs,hh⟩:=hl b z
  obtain ⟨o,eo⟩:∃ o,s.heap.get? b=some o:=by
   obtain ⟨_,its,n,_,eo⟩:=I.hok b _ hh
   exact ⟨_,eo⟩
  exact f5 (b,o) (List.mem_append_right _ (List.mem_append_right _ (cU z eo))) rfl
 refine ⟨by unfold d4;rw [if_neg nb];exact f0,f1,f2,f3,f4,fun p hp=>f5 p ?_⟩
 rw [<- List.append_assoc]
 exact List.mem_append_left _ hp
variable {body:List Stmt} {gb:S} {pos:Pos}
theorem lW (C:Sx X N) (L:Lp X) (i:Nat) (hN:N[i]? = some x) (hx:Sto X x) (he:SI X (.Name x pos') e g) (hb:SSs X body gb) (hs:∀ x,foldedSetIterable e X.env x=pure x:=by intro _;rfl) :
  SS X (.For (.Name x pos') e body [] pos) (xi i g gb):=by
 refine PS.weak (GB L.own L.calm (HJ C.ex he) (qE (i:=i) (by rw [C.sc.n];exact C.sc.nd) (by rw [C.sc.n];exact hN) hx.1 hx.2) hb hs) fun D σ H ⟨δ,os,S,q⟩=>⟨δ,os,S,?_⟩
 unfold xi ovI at q
 cases r:g δ with
 | ok ds =>
  rw [r] at q
  intro J H1 S1 s1 wk
  refine ⟨fun n m σ' H'=>m=ds.length - n/\n<=ds.length/\Pv X D ↥20 (hide H1 os) i gb ds n σ' H',⟨ds.length,by simp,Nat.zero_le _,δ,os,S1,aq.refl _,s1,by rw [List.drop_zero];exact q⟩,?_⟩
  rintro n m σ' H' ⟨rfl,hn,p⟩
  obtain ⟨δ',os',S',s',s0,q'⟩:=id p
  have w:=wk H' (s'.trans (aC _ _))
  by_cases hlt:n<ds.length
  ·have hd:ds[n]? = some ds[n]:=List.getElem?_eq_getElem hlt
   refine .inr ⟨(w.1 n _ hd).1,Pv X D ↥20 (hide H1 os) i gb ds (n+1),fun σ2 H2 z=>⟨ds.length - (n+1),⋯,rfl,⋯,z⟩,fun x H'' y => ?_⟩
   obtain ⟨e1,r1⟩:=(w.1 n _ hd).2 x H'' y
   have sm:=s'.trans (fB os' e1)
   exact rW hd (S'.mono e1) sm s0 q' (r1 _ sm fun b o z1 z2=>by
    rw [bw fun z=>by obtain ⟨xs,hx⟩:=S'.lsts b z;rw [z2] at hx;cases hx]
    exact z1)
  ·exact .inl ⟨w.2 n ⋯,HR ⋯ p⟩
 | ex C=>rw [r] at q;exact fun Ca hc H' s' st=>q σ H' s' st Ca hc
 | bad=>rw [r] at q;exact q
end
end ES
namespace ES
open PySem PySem.Spec PyProof.Rows L2 EV
unseal SE ST SW SA SS SSs SI
def ym (env:Env):List (Str×NameKind)->List (Str×Addr)->List (Str×Addr)
 | [],cs=>cs
 | (n,k)::r,cs=>ym env r (if k == .free then (n,(env.cells.lookup n).getD 0)::cs else cs)
theorem uH (h:∀ y,(y,NameKind.free)∈sc.names->∃ c,env.cells.lookup y=some c):closureFor sc env=pure (ym env sc.names []):=by
 unfold closureFor
 have key:∀ (l:List (Str×NameKind)) (cs:List (Str×Addr)),(∀ y,(y,NameKind.free)∈l->∃ c,env.cells.lookup y=some c) ->
   (forIn l cs fun x (r:List (Str×Addr))=>(match x with | (name,kind)=>if (kind == NameKind.free)=true then do let a<-cellOf env name;pure (ForInStep.yield ((name,a)::r)) else pure (ForInStep.yield r)):Sem _)=pure (ym env l cs):=by
  intro l
  induction l with
  | nil=>intro cs _;rfl
  | cons p r ih =>
   intro cs hl
   obtain ⟨n,k⟩:=p
   rw [List.forIn_cons]
   by_cases hk:(k == NameKind.free)=true
   ·obtain ⟨c,hc⟩:=hl n (by rw [beq_iff_eq] at hk;subst hk;exact .head _)
    simp only [hk,if_true,cellOf,hc,ym]
    exact ih _ fun y hy=>hl y (.tail _ hy)
   ·simp only [hk,Bool.false_eq_true,if_false,ym]
    exact ih _ fun y hy=>hl y (.tail _ hy)
 simp only [key sc.names [] h]
 rfl
theorem Bp:∀ {l:List (Str×NameKind)} {cs:List (Str×Addr)},(∀ y,(y,NameKind.free)∈l->∃ c,env.cells.lookup y=some c)->(∀ y c,cs.lookup y=some c->env.cells.lookup y=some c)->∀ y c,(ym env l cs).lookup y=some c->env.cells.lookup y=some c
 | [],_,_,h=>h
 | (n,k)::r,cs,hl,h=>by
  refine Bp (l:=r) (fun y hy=>hl y (.tail _ hy)) fun y c e => ?_
  by_cases hk:(k == NameKind.free)=true
  ·rw [if_pos hk,List.lookup_cons] at e
   cases q:(y == n) with
   | true =>
    rw [q] at e
    obtain ⟨c',hc⟩:=hl n (by rw [beq_iff_eq] at hk;subst hk;exact .head _)
    rw [beq_iff_eq] at q
    subst q
    rw [hc] at e ⊢
    simpa using e
   | false=>rw [q] at e;exact h y c e
  ·rw [if_neg hk] at e;exact h y c e
theorem xE:∀ {l:List (Str×NameKind)} {cs:List (Str×Addr)} {y:Str},((y,NameKind.free)∈l\/∃ c,cs.lookup y=some c)->∃ c,(ym env l cs).lookup y=some c
 | [],_,_,h=>h.elim (fun z=>nomatch z) id
 | (n,k)::r,cs,y,h=>by
  refine xE (l:=r) ?_
  rcases h with h | ⟨c,h⟩
  ·rcases List.mem_cons.mp h with z | z
   ·cases z
    exact .inr ⟨_,by rw [if_pos (show (NameKind.free == NameKind.free)=true from rfl),List.lookup_cons,beq_self_eq_true]⟩
   ·exact .inl z
  ·refine .inr ?_
   by_cases hk:(k == NameKind.free)=true
   ·rw [if_pos hk,List.lookup_cons]
    cases q:(y == n) with
    | true=>exact ⟨_,rfl⟩
    | false=>exact ⟨c,h⟩
   ·rw [if_neg hk];exact ⟨c,h⟩
theorem fq (hk:k ≠ .free):sc.names.lookup x=some k->(relabel sc env).names.lookup x=some k:=by
 unfold relabel
 simp only
 generalize sc.names=l
 induction l with
 | nil=>intro h;cases h
 | cons p r ih =>
  obtain ⟨n,k'⟩:=p
  intro h
  rw [List.lookup_cons] at h
  rw [List.map_cons]
  cases q:(x == n) with
  | true =>
   rw [q] at h
   have e:k'=k:=by simpa using h
   subst e
   have:(k' == NameKind.free)=false:=by simpa using hk
   simp [this,List.lookup_cons,q]
  | false =>
   rw [q] at h
   split<;>(rw [List.lookup_cons,q];exact ih h)
theorem i7 (hf:env.scope.kind=.function) (hc:env.kindOf x=some .cell):sc.names.lookup x=some .free->(relabel sc env).names.lookup x=some .cell:=by
 unfold relabel
 simp only
 generalize sc.names=l
 induction l with
 | nil=>intro h;cases h
 | cons p r ih =>
  obtain ⟨n,k'⟩:=p
  intro h
  rw [List.lookup_cons] at h
  rw [List.map_cons]
  cases q:(x == n) with
  | true =>
   rw [q] at h
   have e:k'=.free:=by simpa using h
   subst e
   rw [beq_iff_eq] at q
   subst q
   simp [hf,hc,List.lookup_cons]
  | false =>
   rw [q] at h
   split<;>(rw [List.lookup_cons,q];exact ih h)
theorem lX:(relabel sc env).names.lookup x=some k->sc.names.lookup x=some k\/(sc.names.lookup x=some .free/\k=.cell):=by
 unfold relabel
 simp only
 generalize sc.names=l
 induction l with
 | nil=>intro h;cases h
 | cons p r ih =>
  obtain ⟨n,k'⟩:=p
  intro h
  rw [List.map_cons] at h
  rw [List.lookup_cons]
  cases q:(x == n) with
  | true =>
   split at h
   ·rename_i hc
    rw [List.lookup_cons,q] at h
    have e:NameKind.cell=k:=by simpa using h
    simp only [Bool.and_eq_true,beq_iff_eq] at hc
    exact .inr ⟨by rw [hc.1.1],e.symm⟩
   ·rw [List.lookup_cons,q] at h
    have e:k'=k:=by simpa using h
    exact .inl (by rw [e])
  | false=>split at h<;>(rw [List.lookup_cons,q] at h;exact ih h)
structure ScU (xs ks G:List Str) (sc:Scope):Prop where
 kind:sc.kind=.function
 noc:∀ y∈sc.names,y.2 ≠ .cell
 nms:∀ y∈sc.names,y.2=.local->sc.names.lookup y.1=some .local
 loc:∀ y∈xs,sc.names.lookup y=some .local
 fre:∀ y∈ks,sc.names.lookup y=some .free
 all:∀ y∈sc.names,y.2=.free->y.1∈ks
 glb:∀ y∈G,sc.names.lookup y=some .globalImplicit
 nd:(xs++ks).Nodup
 dbg:∀ y∈xs++ks,(y == ("__debug__":Str))=false/\(y == ("__classdict__":Str))=false
 dbgG:∀ y∈G,(y == ("__debug__":Str))=false/\y≠"__name__"
def cxU (X:Cx) (xs ks:List Str) (sc:Scope) (C:Addr) (fp:List Addr) (s:Shared) (H:Hp) (W:Value->Shared->Prop):Cx :=
 { X with N:=xs++ks,s₀:=s,H₀:=H,env:={ newEnv sc C X.env.globals (ym X.env sc.names []) X.env.qual none .none (some X.env) X.env.builtins with scope:=relabel sc X.env },outer:=X.stack,stack:=X.stack,ex:=fp,fn:=fun _=>false,pn:=[],xe:=W }
theorem Fu (u:Un fs ex H H' h h1) (hC:h.objs.size<=C) (sb:Heap.SameBut C h1 h2):Un fs ex H H' h h2:=by
 have ne:∀ {b:Addr} {o:Obj},h.get? b=some o->b≠C:=fun {b o} e=>Nat.ne_of_lt (Nat.lt_of_lt_of_le (Heap.lt_size e) hC)
 refine ⟨fun b o e n hb hx=>(sb.2 b (ne e)).trans (u.keep b o e n hb hx),fun b o e n hb hx => ?_,u.free,fun b o e hx => ?_,u.tups,u.frzs,u.tbls⟩
 ·obtain ⟨sl,q⟩:=u.slot b o e n hb hx
  exact ⟨sl,(sb.2 b (ne e)).trans q⟩
 ·obtain ⟨o',q⟩:=u.there b o e hx
  exact ⟨o',(sb.2 b (ne e)).trans q⟩
theorem Eb (hok:HOk P w H h1) (hC:H C=none) (sb:Heap.SameBut C h1 h2):HOk P w H h2:=fun b u e =>
 (hok b u e).stay (fun c o hc q=>(sb.2 c (fun z=>by
  subst z
  rcases hc with rfl | hc
  ·rw [hC] at e;cases e
  ·rw [hC] at hc;cases hc)).trans q) (fun _ q=>q) fun _ _ q=>q
def NB (prog:Program) (w:World) (A:Around) (env:Env) (R:Result->Shared->Prop):Value->Shared->Prop:=notedBy ↥16 A env fun x s'=>R (.error x) s'
theorem wL {prog:Program} {w:World} {A:Around} {R:Result->Shared->Prop} {s:Shared} {elt target iter:Expr} {ifs:List Expr} {scope:Scope} {pos:Pos} {it acc:Value} {env:Env} (J:Nat->Shared->Prop)
  (turn:∀ n s,J n s->wpAny ↥16 A (pyNext it) (fun r s1=>match r with
   | none=>R (.ok .next) s1
   | some v=>wpAny ↥16 A (letOwnedTupleGo target it v) (fun _ s2=>wpAny ↥16 A (assign target env v) (fun _ s3 =>
     wpAny ↥16 A (forIn ifs true fun c r=>if r=true then do let ok<-isTrue c env (eval c env);pure (ForInStep.yield ok) else pure (ForInStep.yield r)) (fun ok s4 =>
      if ok=true then wpAny ↥16 A (eval elt env) (fun x s5=>wpAny ↥16 A (PySem.call (.builtin "list.append") [acc,x]) (fun _ s6=>∃ m,m<n/\J m s6) (NB prog w A env R) s5) (NB prog w A env R) s4
      else ∃ m,m<n/\J m s4) (NB prog w A env R) s3) (NB prog w A env R) s2) (NB prog w A env R) s1) (NB prog w A env R) s)
  (n:Nat) (h:J n s):codeAny ↥16 A (.compLoop (.ListComp elt [⟨target,iter,ifs,0⟩] scope pos) 0 it acc env) R s:=by
 refine codeAny_loop rfl J (fun n s hJ => ?_) n h
 show wpAny _ _ ((compTurn (.ListComp elt [⟨target,iter,ifs,0⟩] scope pos) 0 it acc env).onRaise fun x=>do
  noteFrame x env
  theTreesLotGoes x) _ _ s
 refine wpAny_noted ?_
 rw [compTurn_list]
 refine wpAny_bind (wpAny_standAt (wpAny_bind (wpAny_mono (turn n s hJ) (fun r s1 h1 => ?_) fun _ _ z=>z)))
 cases r with
 | none=>exact wpAny_pure h1
 | some v =>
  refine wpAny_bind (wpAny_mono h1 (fun _ s2 h2 => ?_) fun _ _ z=>z)
  refine wpAny_bind (wpAny_mono h2 (fun _ s3 h3 => ?_) fun _ _ z=>z)
  refine wpAny_bind (wpAny_mono h3 (fun ok s4 h4 => ?_) fun _ _ z=>z)
  cases ok with
  | true =>
   rw [if_pos rfl] at h4
   simp only [if_true]
   refine wpAny_bind (wpAny_bind (wpAny_mono h4 (fun x s5 h5 => ?_) fun _ _ z=>z))
   exact wpAny_bind (wpAny_mono h5 (fun _ s6 h6=>wpAny_pure (wpAny_pure ⟨rfl,h6⟩)) fun _ _ z=>z)
  | false =>
   rw [if_neg Bool.false_ne_true] at h4
   simp only [Bool.false_eq_true,if_false]
   first
    | exact wpAny_pure ⟨rfl,h4⟩
    | exact wpAny_bind (wpAny_pure (wpAny_pure ⟨rfl,h4⟩))
def dh (M:Model) (A:Around) (E:Value->Shared->Prop) (use:Option (Value->Sem Unit)) (Q:Value->Shared->Prop) (acc:Value) (C:Addr) (fr:Option Addr) (r:Result) (s':Shared):Prop :=
 match r,use with
 | .ok _,none=>∃ m,s'.heap.Ns C m/\∀ h',Heap.SameBut C s'.heap h'->Q acc { s' with heap:=h' }
 | .ok _,some u=>wpAny M A (u acc) (fun _ s''=>∃ m,s''.heap.Ns C m/\∀ h',Heap.SameBut C s''.heap h'->Q .none { s'' with heap:=h' }) E s'
 | .error x,_=>∃ m,s'.heap.Ns C m/\∀ h',Heap.SameBut C s'.heap h'->∀ cenv:Env,cenv.frame=fr->wpAny M A (passOn "comprehension.variables-let-go" x cenv:Sem Value) (fun _ _=>False) E { s' with heap:=h' }
theorem kN {M:Model} {A:Around} {E:Value->Shared->Prop} {s:Shared} {env:Env} {e:Expr} {scope:Scope} {pos:Pos} {newAcc first:Sem Value} {g:Comprehension} {gs:List Comprehension} {cl:List (Str×Addr)} {use:Option (Value->Sem Unit)}
  {Q:Value->Shared->Prop}
  (hcl:clausesOf e=g::gs) (hs:∀ x,foldedSetIterable g.iter env x=pure x) (hclos:closureFor scope env=pure cl)
  (hkind:scope.kind=.function) (hnames:∀ x∈scope.names,x.2=.local->scope.names.lookup x.1=some .local)
  (h:wpAny M A first (fun x s₁=>wpAny M A (pyIter x) (fun it s₂=>wpAny M A newAcc (fun acc s₃ =>
   wpAny M A (newFunctionEnv scope env.globals cl [] env.qual none .none (some env)) (fun cenv s₄=>cenv.frame=env.frame /\
    codeAny M A (.compStart e 0 it acc { cenv with scope:=relabel scope env }) (dh M A E use Q acc cenv.locals env.frame) s₄) E s₃) E s₂) E s₁) E s) :
  wpAny M A (comprehension e scope env pos newAcc false first use) Q E s:=by
 unfold comprehension
 rw [hclos,hcl]
 refine wpAny_bind (wpAny_mono h (fun x s₁ h₁=>wpAny_bind (wpAny_standAt (wpAny_bind (wpAny_of_eq (hs x) (wpAny_bind (wpAny_holding (wpAny_mono h₁ (fun it s₂ h₂ =>
  wpAny_standIf (wpAny_bind (wpAny_mono h₂ (fun acc s₃ h₃=>wpAny_bind (wpAny_pure (wpAny_bind (wpAny_mono h₃ (fun cenv s₄ h₄ => ?_) fun _ _ h'=>h')))) fun _ _ h'=>h')))
   fun _ _ h'=>h'))))))) fun _ _ h'=>h')
 obtain ⟨hfr,h₄⟩:=h₄
 dsimp only
 have hv:∀ x∈(scope.names.filter fun x=>(x.2 == .local||x.2 == .cell)&&x.1 != (".0":Str)).reverse,x.2=.local ->
   Env.kindOf { cenv with scope:=relabel scope env } x.1=some .local:=fun x hx hl=>lookup_relabel_local (hnames x (List.mem_filter.mp (List.mem_reverse.mp hx)).1 hl)
 have hv':∀ x∈(scope.names.filter fun x=>(x.2 == .local||x.2 == .cell)&&x.1 != (".0":Str)).reverse.drop 1++(scope.names.filter fun x=>(x.2 == .local||x.2 == .cell)&&x.1 != (".0":Str)).reverse.take 1,
   x.2=.local->Env.kindOf { cenv with scope:=relabel scope env } x.1=some .local:=fun x hx hl=>by
  rcases List.mem_append.mp hx with h1 | h1
  ·exact hv x (List.mem_of_mem_drop h1) hl
  ·exact hv x (List.mem_of_mem_take h1) hl
 refine wpAny_holding (wpAny_bind (wpAny_attempt (wpAny_holding (wpAny_run (codeAny_mono h₄ fun r s' hr => ?_)))))
 cases r with
 | ok f =>
  cases use with
  | none =>
   obtain ⟨m,hn,hr⟩:=hr
   exact wpAny_bind (wpAny_holding (wpAny_comp_letGo (cenv:={ cenv with scope:=relabel scope env }) hkind _ s' m hv hn fun h' m' _ hs'=>wpAny_pure (hr h' hs')))
  | some u =>
   refine wpAny_bind (wpAny_rule (wpAny_bind (wpAny_holding (wpAny_mono hr (fun _ s'' hr' => ?_) fun _ _ h'=>h'))))
   obtain ⟨m,hn,hr'⟩:=hr'
   exact wpAny_bind (wpAny_comp_letGo (cenv:={ cenv with scope:=relabel scope env }) hkind _ s'' m hv' hn fun h' m' _ hs'=>wpAny_pure (hr' h' hs'))
 | error x =>
  have hr':∃ m,s'.heap.Ns cenv.locals m/\∀ h',Heap.SameBut cenv.locals s'.heap h'->∀ cenv':Env,cenv'.frame=env.frame->wpAny M A (passOn "comprehension.variables-let-go" x cenv':Sem Value) (fun _ _=>False) E { s' with heap:=h' }:=by cases use<;>exact hr
  obtain ⟨m,hn,hr⟩:=hr'
  exact wpAny_bind (wpAny_holding (wpAny_comp_letGo (cenv:={ cenv with scope:=relabel scope env }) hkind _ s' m hv hn fun h' m' _ hs'=>wpAny_mono (hr h' hs' _ hfr) (fun _ _ f=>f.elim) fun _ _ y=>y))
theorem vA {st:D->R (Option D)} {l:List D} {d:D} {r1:List D} {o:Option D} (h1:runC st l=.ok r1) (h2:st d=.ok o):runC st (l++[d])=.ok (r1++o.toList):=by
 induction l generalizing r1 with
 | nil =>
  cases h1
  rw [List.nil_append]
  unfold runC
  rw [h2]
  cases o<;>rfl
 | cons x l ih =>
  rw [List.cons_append]
  unfold runC at h1 ⊢
  cases q:st x with
  | ok o' =>
   rw [q] at h1
   simp only [R.bind] at h1 ⊢
   cases q2:runC st l with
   | ok r =>
    rw [q2] at h1
    rw [ih q2]
    cases o'<;>(cases h1;rfl)
   | ex C=>rw [q2] at h1;cases h1
   | bad=>rw [q2] at h1;cases h1
  | ex C=>rw [q] at h1;cases h1
  | bad=>rw [q] at h1;cases h1
theorem jQ (h:oh r=.ex C):False:=by cases r<;>cases h
theorem wz (h:oh r=.ok a):r=.ok a:=by
 cases r with
 | ok x=>exact h
 | ex C=>cases h
 | bad=>cases h
theorem qy {st:D->R (Option D)} {d:D} {l2:List D}:∀ {l1 r1:List D},runC st l1=.ok r1->(st d=.bad->runC st (l1++d::l2)=.bad)/\∀ C,st d=.ex C->runC st (l1++d::l2)=.ex C
 | [],_,_=>⟨fun e=>by rw [List.nil_append];unfold runC;rw [e];rfl,fun C e=>by rw [List.nil_append];unfold runC;rw [e];rfl⟩
 | a::l1,r1,h=>by
  unfold runC at h
  cases q:st a with
  | ok o =>
   rw [q] at h
   simp only [R.bind] at h
   cases q2:runC st l1 with
   | ok r =>
    obtain ⟨i1,i2⟩:=qy (d:=d) (l2:=l2) q2
    refine ⟨fun e => ?_,fun C e => ?_⟩
    ·rw [List.cons_append];unfold runC;rw [q,i1 e];rfl
    ·rw [List.cons_append];unfold runC;rw [q,i2 C e];rfl
   | ex C=>rw [q2] at h;cases h
   | bad=>rw [q2] at h;cases h
  | ex C=>rw [q] at h;cases h
  | bad=>rw [q] at h;cases h
theorem md:∀ {a:List D} {r:D},D.flats a=true->D.flat r=true->D.flats (a++[r])=true
 | [],r,_,h=>by show (D.flat r&&D.flats [])=true;rw [h];rfl
 | x::a,r,h,hr=>by
  have h':D.flat x=true/\D.flats a=true:=by simpa [D.flats] using h
  show (D.flat x&&D.flats (a++[r]))=true
  rw [h'.1,md h'.2 hr]
  rfl
def stG (pt:D->Option (List D)) (c elt:E) (ks:List Nat) (δ:Dt) (d:D):R (Option D):=match pt d with
 | some xs=>(oh (c (xs.map some++ks.map fun k=>δ.getD k none))).bind fun b=>truth b ((elt (xs.map some++ks.map fun k=>δ.getD k none)).bind fun r=>if D.flat r=true then .ok (some r) else .bad) (.ok none)
 | none=>.bad
theorem CI (h:EV.R.bad≠stG pt c elt ks δ d):∃ xs k,pt d=some xs/\c (xs.map some++ks.map fun k=>δ.getD k none)=.ok (.bl k) /\
  ((k=true/\stG pt c elt ks δ d=(elt (xs.map some++ks.map fun k=>δ.getD k none)).bind fun r=>if D.flat r=true then .ok (some r) else .bad)\/(k=false/\stG pt c elt ks δ d=.ok none)):=by
 unfold stG at h ⊢
 cases e:pt d with
 | none=>rw [e] at h;exact absurd rfl h
 | some xs =>
  rw [e] at h
  simp only at h ⊢
  cases q:oh (c (xs.map some++ks.map fun k=>δ.getD k none)) with
  | ok b =>
   have q':=wz q
   rw [q] at h
   simp only [R.bind] at h ⊢
   cases b with
   | bl k =>
    refine ⟨xs,k,rfl,q',?_⟩
    cases k with
    | true=>exact .inl ⟨rfl,rfl⟩
    | false=>exact .inr ⟨rfl,rfl⟩
   | _=>exact absurd rfl h
  | ex C=>exact (jQ q).elim
  | bad=>rw [q] at h;exact absurd rfl h
def Put (σ:L2.St) (vs:List V) (σ':L2.St):Prop:=σ'.length=σ.length/\(∀ (j:Nat) (v:V),vs[j]? = some v->σ'[j]? = some (some v))/\∀ j:Nat,vs.length<=j->σ'[j]? = σ[j]?
structure Tgt (X:Cx) (n:Nat) (pt:D->Option (List D)) (gT:TG):Prop where
 len:∀ d xs,pt d=some xs->xs.length=n
 put:∀ {d:D} {xs:List D} {v:V} {σ:L2.St} {H:Hp} {Q:L2.St->Hp->Prop},pt d=some xs->Rep X.K X.mg H v d->n<=σ.length->(∀ vs σ',Reps X.K X.mg H vs xs->Put σ vs σ'->Q σ' H)->gT v σ H Q
inductive Tst (X':Cx):List Expr->E->Prop
 | nil:Tst X' [] (con ↥34)
 | one {c:Expr} {g:E}:ST X' c g->Tst X' [c] g
theorem Ce {X':Cx} {ifs:List Expr} {g:E} (h:Tst X' ifs g) {pins:List ↥10} {s:Shared} {σ:L2.St} {H:Hp} {δ:Dt} {k:Bool} (I:Inv X' pins σ H s) (hσ:Stt X'.K X'.mg H σ δ) (hg:g δ=.ok (.bl k)) {E:Value->Shared->Prop} (hE:∀ e s,X'.xe e s->E e s) :
  wpAny (model X'.prog X'.w) X'.A (forIn ifs true fun c r=>if r=true then do let ok<-isTrue c X'.env (eval c X'.env);pure (ForInStep.yield ok) else pure (ForInStep.yield r)) (fun ok s'=>ok=k/\∃ H',Inv X' pins σ H' s'/\aq H H') E s:=by
 cases h with
 | nil=>cases hg;exact wpAny_tests_nil ⟨rfl,H,I,aq.refl _⟩
 | one h =>
  refine wpAny_mono (wpAny_tests_one (E:=X'.xe) (thn (h pins s σ H (fun b H'=>b=k/\aq H H') I ⟨δ,hσ,?_⟩) fun b s' ⟨H',I',e,sm⟩=>⟨e,H',I',sm⟩)) (fun _ _ x=>x) hE
  rw [hg]
  exact fun H' sm=>⟨rfl,sm⟩
theorem HM {base h h':Heap}:∀ {l:List Env},h.FunFrames base l->(∀ b∈frs l,h'.get? b=h.get? b)->h'.FunFrames base l
 | [],_,_=>trivial
 | env::r,⟨hk,⟨L,o,hf,hn,ho,hd⟩,hr⟩,k=>by
  have e:frs (env::r)=L::frs r:=by unfold frs;rw [List.filterMap_cons,hf]
  rw [e] at k
  exact ⟨hk,⟨L,o,hf,hn,(k L (.head _)).trans ho,hd⟩,HM hr fun b hb=>k b (.tail _ hb)⟩
theorem As {X:Cx} (O:Own X) {xs ksn:List Str} {sc:Scope} {fp:List Addr} {WW:Value->Shared->Prop} {pins pins':List ↥10} {σ σ6:L2.St} {H3 Hx H':Hp} {s3 sx s':Shared} {ea Ca:Addr} {use:Option (Value->Sem Unit)} {Qf:Value->Shared->Prop} {acc:Value} {cenv:Env}
  (I3:Inv X pins σ H3 s3) (f3:∀ b∈fp,uU X pins H3 b) (hcf:cenv.frame=X.env.frame) (Ix:Inv ↥12 pins' σ6 Hx sx) (FX:FlyX X.prog X.w X.stack Hx sx Ca H' ea s')
  (kx:∀ b u,H3 b=some u->∃ u',H' b=some u') (hx:∀ ea s',HeldX X pins σ Ca H' ea s'->X.xe (.ref ea) s') :
  NB X.prog X.w X.A cenv (dh ↥5 X.A X.xe use Qf acc s3.heap.objs.size X.env.frame) (.ref ea) s':=by
 have en:noteFrame (.ref ea) cenv=noteFrame (.ref ea) X.env:=by unfold noteFrame PySem.frameOf;rw [hcf]
 unfold NB notedBy
 rw [en]
 obtain ⟨a0,B,hfl,i1,i2⟩:=FX.fly
 have Iy:Inv ↥12 pins' σ6 H' s':=xj Ix FX
 have ff:=uC hfl.2.2.1
 rw [O.stk] at hfl
 refine wpAny_looks_onW (by rw [I3.ok.frames,O.stk]) O.frm hfl fun h4 held up => ?_
 have IX:Inv X pins σ Hx sx:=I3.call' (s':=sx) (ch:=fp) Ix.os Ix.base Ix.hok Ix.bare fun b hb=>⟨(f3 b hb).2.2.2.1,(f3 b hb).2.1,(f3 b hb).2.2.2.2.1,(f3 b hb).2.2.2.2.2⟩
 obtain ⟨m,⟨oC,es,ep,hoC,rC⟩,_⟩:=Ix.loc
 have hoC:sx.heap.get? s3.heap.objs.size=some oC:=hoC
 have nfr:s3.heap.objs.size∉frs X.stack:=fun z=>by
  rw [O.frs] at z
  rcases List.mem_cons.mp z with q | q
  ·exact absurd I3.lt (by rw [<- q];exact Nat.lt_irrefl _)
  ·exact I3.nofs ↥23 q
 have hBC:B.get? s3.heap.objs.size=some oC:=i1 _ _ hoC Ix.free nfr
 have h4C:h4.get? s3.heap.objs.size=some oC:=held.1 _ _ hBC
 refine ⟨m,⟨oC,es,ep,h4C,rC⟩,fun h5 sb5 cenv' hcf' => ?_⟩
 have kB:(PySem.W.hideAll B [s3.heap.objs.size]).StaysIn B:=fun b o e=>PySem.W.of_hideAll _ e
 have held':=PySem.W.heldW_base kB held
 have st4:∀ b o,(PySem.W.hideAll B [s3.heap.objs.size]).get? b=some o->b≠s3.heap.objs.size:=fun b o e z=>by
  rw [z,PySem.W.hideAll_none _ (by simp)] at e
  cases e
 obtain ⟨_,hne,hff,oe,vs,T,oT,ts,he,hcls,hd,h1,hnT,hTe,hT,hdT,h3⟩:=held
 have neC:∀ b,B.get? b=none->b≠s3.heap.objs.size:=fun b e z=>by rw [z,hBC] at e;cases e
 have he5:h5.get? ea=some oe:=(sb5.2 _ (neC _ hne)).trans he
 have hT5:h5.get? T=some oT:=(sb5.2 _ (neC _ hnT)).trans hT
 have hsz3:3<ts.size:=(Array.getElem?_eq_some_iff.mp h3).1
 unfold PySem.passOn
 refine wpAny_bind (wpAny_field he5 hd h1 ?_)
 rw [if_neg (by simp)]
 show wpAny _ _ (setFlight (.ref ea) cenv'.frame >>= _) _ _ _
 refine wpAny_bind ?_
 unfold setFlight
 refine wpAny_bind (wpAny_field he5 hd h1 ?_)
 rw [if_pos (show (Value.ref T != Value.none)=true from by simp),hcf',O.frm]
 refine wpAny_setField hT5 hdT hsz3 ?_
 refine wpAny_throw (hx ea _ ?_)
 have other:∀ b,b≠T->(h5.update T (Obj.mapFields (·.setIfInBounds 3 ((some X.env.locals).elim Value.none fun f=>rawInt f)))).get? b=h5.get? b:=fun b hb=>Heap.get?_update_other _ _ (Ne.symm hb)
 have hT6:=Heap.get?_update_self (Obj.mapFields (·.setIfInBounds 3 ((some X.env.locals).elim Value.none fun f=>rawInt f))) hT5 (Obj.isFreed_of_fields (Obj.data_mapFields hdT _))
 generalize h5.update T (Obj.mapFields (·.setIfInBounds 3 ((some X.env.locals).elim Value.none fun f=>rawInt f)))=h6 at other hT6 ⊢
 have k46:∀ b,b≠T->b≠s3.heap.objs.size->h6.get? b=h4.get? b:=fun b q1 q2=>(other b q1).trans (sb5.2 b q2)
 have st6:(PySem.W.hideAll B [s3.heap.objs.size]).StaysIn h6:=fun b o e=>by
  rw [k46 b (fun z=>by rw [z] at e;have:=kB _ _ e;rw [hnT] at this;cases this) (st4 b o e)]
  exact held'.1 b o e
 have i2':∀ b u o,H' b=some u->s'.heap.get? b=some o->(PySem.W.hideAll B [s3.heap.objs.size]).get? b=some o:=fun b u o e q=>PySem.W.hideAll_get _ (i2 b u o e q) fun z=>by
  have z':b=s3.heap.objs.size:=by simpa using z
  rw [z'] at e
  have:H' s3.heap.objs.size=none:=Iy.free
  rw [this] at e
  cases e
 have i1':∀ b o,s3.heap.get? b=some o->H3 b=none->b∉frs X.stack->b∉fp->(PySem.W.hideAll B [s3.heap.objs.size]).get? b=some o:=fun b o e n hb hp=>PySem.W.hideAll_get _ (i1 b o (Ix.base.keep b o e n hb hp) (Ix.base.free b o e n hp) hb) fun z=>by
  have z':b=s3.heap.objs.size:=by simpa using z
  exact absurd (Heap.lt_size e) (by rw [z'];exact Nat.lt_irrefl _)
 have u6:Un (frs X.stack) fp H3 H' s3.heap h6:=by
  have u:=Iy.base
  have slot:∀ b o,s3.heap.get? b=some o->H3 b=none->b∈frs X.stack->b∉fp->∃ sl,h6.get? b=some { o with slots:=sl }:=fun b o e n hb hp=>by
   obtain ⟨sl,e1⟩:=u.slot b o e n hb hp
   obtain ⟨sl2,e2⟩:=up b _ e1 (ff b hb _ e1)
   refine ⟨sl2,?_⟩
   rw [k46 b (fun z => ?_) (fun z=>nfr (z▸hb))]
   ·exact e2
   ·have:=uC hff b (by rw [<- O.stk];exact hb) oT (by rw [z];exact hT) ts
    exact this hdT
  refine ⟨fun b o e n hb hp=>st6 b o (i1' b o e n hb hp),slot,u.free,fun b o e hp => ?_,u.tups,u.frzs,u.tbls⟩
  cases n:H3 b with
  | none =>
   by_cases hb:b∈frs X.stack
   ·obtain ⟨sl,e2⟩:=slot b o e n hb hp
    exact ⟨_,e2⟩
   ·exact ⟨o,st6 b o (i1' b o e n hb hp)⟩
  | some x =>
   obtain ⟨o',e1⟩:=u.there b o e hp
   obtain ⟨x',n'⟩:=kx b x n
   exact ⟨o',st6 b o' (i2' b x' o' n' e1)⟩
 refine ⟨I3.call' (s':={ s' with heap:=h6 }) (ch:=fp) Iy.os u6 (nv Iy.hok i2' st6) Iy.bare fun b hb=>⟨(f3 b hb).2.2.2.1,(f3 b hb).2.1,(f3 b hb).2.2.2.2.1,(f3 b hb).2.2.2.2.2⟩,?_,a0,PySem.W.hideAll B [s3.heap.objs.size],?_,fun b o e n hb => ?_,sS Iy.hok i2' st6⟩
 ·exact wA IX O FX.new
 ·rw [O.stk]
  have nT:∀ b∈frs (X.env::X.outer),h6.get? b=h4.get? b:=fun b hb=>k46 b (fun z=>uC hff b hb oT (by rw [z];exact hT) ts hdT) (fun z=>nfr (by rw [O.stk];exact z▸hb))
  exact ⟨st6,held'.2.1,HM held'.2.2.1 nT,oe,vs,T,_,_,(k46 ea (Ne.symm hTe) (neC _ hne)).trans he,hcls,hd,h1,PySem.W.fresh_of_stays kB hnT,hTe,hT6,Obj.data_mapFields hdT _,by simp [hsz3]⟩
 ·exact PySem.W.hideAll_get _ (iu IX O i1 b o e n hb) fun z=>by
   have z':b=s3.heap.objs.size:=by simpa using z
   exact absurd (Nat.lt_of_lt_of_le (Heap.lt_size e) I3.sz) (by rw [z'];exact Nat.lt_irrefl _)
section
variable {X:Cx}
set_option maxHeartbeats 2000000 in
theorem pJ (hc:X.calm=true) {N:List Str} (S:Sc X N) {xs ksn G:List Str} {ks:List Nat} {tg elt iter:Expr} {ifs:List Expr} {pos ps:Pos} {sc:Scope} {git:IT} {gc ge:E} {pt:EV.D->Option (List EV.D)} {gT:TG} (SC:ScU xs ksn G sc)
  (hks:ks.map (fun k=>N.getD k "")=ksn) (hlt:∀ k∈ks,k<N.length) (hcell:∀ y∈ksn,X.env.scope.names.lookup y=some .cell)
  (he:SI X tg iter git) (TT:Tgt X xs.length pt gT)
  (htg:∀ C fp s H W,Sc ↥7 (xs++ksn)->↥36->PG ↥7 tg gT)
  (htst:∀ C fp s H W,Sc ↥7 (xs++ksn)->(∀ y∈G,Gb ↥7 y)->Tst ↥7 ifs gc)
  (helt:∀ C fp s H W,Sc ↥7 (xs++ksn)->(∀ y∈G,Gb ↥7 y)->SE ↥7 elt ge)
  (hs:∀ z,foldedSetIterable iter X.env z=pure z) {use:Option (Value->Sem Unit)} {Qf:Value->Shared->Prop}
  {pins:List ↥10} {s:Shared} {σ:L2.St} {H:Hp} {δ:Dt} (I:Inv X pins σ H s) (hσ:Stt X.K X.mg H σ δ)
  (hgit:∀ C,git δ=.ex C->∀ Ca,X.mg C=some (.ref Ca)->∀ H',aq H H'->ew X Ca σ H')
  {ds:List EV.D} (hds:git δ ≠ .bad) (hds':∀ ds',git δ=.ok ds'->ds'=ds/\ds.length<=100000/\runC (stG pt gc ge ks δ) ds ≠ .bad/\∀ rs,runC (stG pt gc ge ks δ) ds=.ok rs->EV.D.flats rs=true)
  (hex:∀ C Ca,runC (stG pt gc ge ks δ) ds=.ex C->X.mg C=some (.ref Ca)->∀ H',aq H H'->∀ ea s',HeldX X pins σ Ca H' ea s'->X.xe (.ref ea) s') (hO:(∃ C,runC (stG pt gc ge ks δ) ds=.ex C)->Own X)
  (hfin:∀ (s1:Shared) (Hc:Hp) (D C:Addr) (ys:List V) (rs:List EV.D),git δ=.ok ds->runC (stG pt gc ge ks δ) ds=.ok rs->EV.D.flats rs=true->H D=none->Hc D=some (.lst ys)->Reps X.K X.mg Hc ys rs->aq H Hc ->
   uU X pins Hc C->Inv X pins σ Hc s1->(∃ m,s1.heap.Ns C m)->(∀ h',Heap.SameBut C s1.heap h'->Inv X pins σ Hc { s1 with heap:=h' })->dh ↥5 X.A X.xe use Qf (.ref D) C X.env.frame (.ok .next) s1) :
  wpAny ↥5 X.A (comprehension ↥31 sc X.env ps (newList []) false (eval iter X.env) use) Qf X.xe s:=by
 have lenks:ksn.length=ks.length:=by rw [<- hks,List.length_map]
 have atk:∀ (j:Nat) (y:Str),ksn[j]? = some y->∃ k,ks[j]? = some k/\N[k]? = some y:=fun j y e=>by
  rw [<- hks,List.getElem?_map] at e
  cases q:ks[j]? with
  | none=>rw [q] at e;cases e
  | some k =>
   rw [q] at e
   have e':N.getD k ""=y:=Option.some.inj e
   have hk:=hlt k (List.mem_of_getElem? q)
   exact ⟨k,rfl,by rw [<- e',List.getD_eq_getElem?_getD,List.getElem?_eq_getElem hk];rfl⟩
 have frec:∀ y,(y,NameKind.free)∈sc.names->∃ c,X.env.cells.lookup y=some c:=fun y hy=>I.ok.has y (.inl (hcell y (SC.all _ hy rfl)))
 refine kN (use:=use) rfl hs (uH frec) SC.kind SC.nms ?_
 have sub:∀ y c,(ym X.env sc.names []).lookup y=some c->X.env.cells.lookup y=some c:=Bp frec fun y c e=>nomatch e
 have hq:RI X σ H (git δ) (fun J H'=>aq H H'/\∃ ds,git δ=.ok ds/\xZ X J H' ds):=by
  cases r:git δ with
  | ok ds=>exact fun J H' s w=>⟨s,ds,rfl,w⟩
  | ex C=>exact hgit C r
  | bad=>exact absurd r hds
 refine thn (he pins s σ H _ I ⟨δ,hσ,hq⟩) fun v s1 h1=>thn h1 fun itv s2 h2 => ?_
 obtain ⟨it,fp,tn,J,H2,e,I2,T,st2,f2,sm2,ds',eds,wk⟩:=h2
 subst e
 obtain ⟨eq0,hz,nbad,hfl⟩:=hds' ds' eds
 rw [eq0] at eds wk
 have hσ2:Stt X.K X.mg H2 σ δ:=hσ.mono sm2
 refine wpAny_newList ?_ (Nat.zero_le _)
 have I3:Inv X pins σ (upd H2 s2.heap.objs.size (.lst [])) { s2 with heap:=s2.heap.push { cls:=.type "list",data:=.seq ([]:List Value).toArray } }:=I2.lnew (t':=s2.toks) .nil (Nat.zero_le _)
 have hnew:H2 s2.heap.objs.size=none:=I2.fresh
 have sm3:aq H2 (upd H2 s2.heap.objs.size (.lst [])):=av hnew _
 generalize hD:s2.heap.objs.size=D at *
 generalize hH3:upd H2 D (.lst [])=H3 at *
 have hD3:H3 D=some (.lst []):=by rw [<- hH3];exact aA
 have keep3:∀ b o,s2.heap.get? b=some o->(s2.heap.push { cls:=.type "list",data:=.seq ([]:List Value).toArray }).get? b=some o:=fun b o q=>Heap.get?_push_of_some _ q
 have st3:tn 0 (s2.heap.push { cls:=.type "list",data:=.seq ([]:List Value).toArray }):=T.keep 0 _ _ st2 fun b _ o q=>keep3 b o q
 have ne3:∀ b∈fp,b≠D:=fun b hb z=>by
  obtain ⟨o,e,_⟩:=T.obj 0 _ st2 b hb
  exact absurd (Heap.lt_size e) (by rw [z,<-hD];exact Nat.lt_irrefl _)
 have f3:∀ b∈fp,uU X pins H3 b:=fun b hb=>⟨by rw [<- hH3,aL (ne3 b hb)];exact (f2 b hb).1,(f2 b hb).2⟩
 generalize hs3:({ s2 with heap:=s2.heap.push { cls:=.type "list",data:=.seq ([]:List Value).toArray } }:Shared)=s3 at *
 have st3':tn 0 s3.heap:=by rw [<- hs3];exact st3
 refine wpAny_newFunctionEnv SC.noc (fun y z=>nomatch z) (fun h4 ns4 sb4=>⟨rfl,?_⟩) SC.kind
 generalize hWW:NB X.prog X.w X.A (cxU X xs ksn sc s3.heap.objs.size fp s3 H3 (fun _ _=>False)).env (dh ↥5 X.A X.xe use Qf (.ref D) s3.heap.objs.size X.env.frame)=WW
 have kp4:∀ b o,s3.heap.get? b=some o->h4.get? b=some o:=fun b o q=>by
  rw [sb4.2 b (Nat.ne_of_lt (Heap.lt_size q))]
  exact Heap.get?_push_of_some _ q
 have nst:∀ b∈fp,b∉frs X.stack:=fun b hb z=>by
  rcases List.mem_cons.mp (I3.stkSub b z) with q | q
  ·exact (f3 b hb).2.1 q
  ·exact (f3 b hb).2.2.1 q
 have neC:∀ b∈fp,b≠s3.heap.objs.size:=fun b hb=>by
  obtain ⟨ob,e,_⟩:=T.obj 0 _ st3' b hb
  exact Nat.ne_of_lt (Heap.lt_size e)
 have fpcl:∀ b∈fp,∀ y c,(ym X.env sc.names []).lookup y=some c->c≠b:=fun b hb y c e=>(f3 b hb).2.2.2.2.1 y c (sub y c e)
 have ok4:(cxU X xs ksn sc s3.heap.objs.size fp s3 H3 WW).Ok:=by
  have o:=I3.ok
  refine ⟨o.mod,SC.kind,o.glob,o.blt,Nat.le_refl _,fun y z c e1 e2=>o.inj y z c (sub y c e1) (sub z c e2),fun y hy => ?_,fun y c z e=>absurd z Bool.false_ne_true,o.hd,o.frames,.inl rfl,fun b hb=>⟨neC b hb,fpcl b hb⟩,I3.bs,Nat.le_trans o.bsz I3.sz,fun b ob e hb => ?_,fun b hb=>nst b hb,I3.stack,I3.stkFree⟩
  ·have hy:(relabel sc X.env).names.lookup y=some .cell\/(relabel sc X.env).names.lookup y=some .free:=hy
   have hf:sc.names.lookup y=some .free:=by
    rcases hy with hy | hy
    ·rcases lX hy with q | ⟨q,_⟩
     ·exact absurd rfl (SC.noc _ (PySem.mem_of_lookup q))
     ·exact q
    ·rcases lX hy with q | ⟨_,q⟩
     ·exact q
     ·cases q
   exact xE (.inl (PySem.mem_of_lookup hf))
  ·rcases (f3 b hb).2.2.2.1 with q | q
   ·exact o.noex b ob e q
   ·exact absurd (Heap.lt_size (o.bs b ob e).1) (Nat.not_lt.mpr q)
 have fun4:X.env.scope.kind=.function:=I3.ok.kind
 have S4:Sc ↥12 (xs++ksn):=by
  refine ⟨rfl,SC.nd,fun y hy => ?_,SC.dbg⟩
  rcases List.mem_append.mp hy with z | z
  ·exact .inl (fq ↥3 (SC.loc y z))
  ·exact .inr (.inl (i7 fun4 (hcell y z) (SC.fre y z)))
 have G4:∀ y∈G,Gb ↥12 y:=fun y hy=>⟨fq ↥3 (SC.glb y hy),(SC.dbgG y hy).1,(SC.dbgG y hy).2⟩
 have E4:=helt s3.heap.objs.size fp s3 H3 WW S4 G4
 have T4:=htst s3.heap.objs.size fp s3 H3 WW S4 G4
 have P4:=htg s3.heap.objs.size fp s3 H3 WW S4 fun y hy=>fq ↥3 (SC.loc y hy)
 have hCn:H3 s3.heap.objs.size=none:=I3.fresh
 have hσ3:Stt X.K X.mg H3 σ δ:=hσ2.mono sm3
 have lenσ3:σ.length=N.length:=by rw [I3.len,S.n]
 have I4:Inv ↥12 [] (List.replicate xs.length none++ks.map fun k=>σ.getD k none) H3 { s3 with heap:=h4,toks:=s3.toks+([]:List (Str×Value)).length }:=by
  refine ⟨ok4,rfl,I3.bare,Un.kept kp4,⟨_,ns4,fun j y v e1 e2 e3 => ?_⟩,fun y c e => ?_,hCn,fun y c e=>I3.freeC y c (sub y c e),fun p hp=>absurd (show p∈([]:List ↥10) from hp) (by simp),I3.hok.kept kp4,by show _=(xs++ksn).length;rw [List.length_append,List.length_append,List.length_replicate,List.length_map,lenks]⟩
  ·by_cases hj:j<xs.length
   ·rw [List.getElem?_append_left (by rw [List.length_replicate];exact hj),List.getElem?_replicate,if_pos hj] at e2
    cases e2
   ·have e1:(xs++ksn)[j]? = some y:=e1
    rw [List.getElem?_append_right ⋯] at e1
    rw [List.getElem?_append_right (by rw [List.length_replicate];omega),List.length_replicate] at e2
    generalize j - xs.length=j at e1 e2
    have e1':ksn[j]? = some y:=e1
    obtain ⟨k,ek,eN⟩:=atk j y e1'
    rw [List.getElem?_map,ek] at e2
    have e2':σ.getD k none=some v:=Option.some.inj e2
    have eσ:σ[k]? = some (some v):=by
     rw [List.getD_eq_getElem?_getD] at e2'
     cases q:σ[k]? with
     | none=>rw [q] at e2';cases e2'
     | some o=>rw [q] at e2';have:o=some v:=e2';rw [this]
    have hy:=List.mem_of_getElem? e1'
    have hyc:=hcell y hy
    obtain ⟨m',hn',hl'⟩:=I3.loc
    obtain ⟨u,ru,lu⟩:=hl' k y v (by rw [S.n];exact eN) eσ (.inr (.inl hyc))
    refine ⟨u,ru,?_⟩
    rcases lu with ⟨k1,_⟩ | ⟨_,c,hcc,ic⟩
    ·have:(some NameKind.local)=some .cell:=k1.symm.trans hyc
     cases this
    ·obtain ⟨c',hc'⟩:=xE (env:=X.env) (cs:=[]) (.inl (PySem.mem_of_lookup (SC.fre y hy)))
     have:c'=c:=by have:=sub y c' hc';rw [hcc] at this;exact (Option.some.inj this).symm
     subst this
     obtain ⟨oc,hoc,hd⟩:=ic
     exact .inr ⟨.inl (i7 fun4 hyc (SC.fre y hy)),c',hc',oc,kp4 _ _ hoc,hd⟩
  ·obtain ⟨v,oc,hoc,hd⟩:=I3.cell y c (sub y c e)
   exact ⟨v,oc,kp4 _ _ hoc,hd⟩
 have fpc:∀ {Hc:Hp},(∀ b∈fp,Hc b=none)->∀ b∈fp,uU ↥12 [] Hc b:=fun {Hc} hn b hb =>
  ⟨hn b hb,neC b hb,nst b hb,.inl hb,fpcl b hb,fun p hp=>absurd (show p∈([]:List ↥10) from hp) (by simp)⟩
 have st4:tn 0 h4:=T.keep 0 _ _ st3' fun b _ o q=>kp4 b o q
 have kc2:∀ {Hc:Hp},(∀ b o,b≠D->H3 b=some o->Hc b=some o)->aq H2 Hc:=fun {Hc} kc b o e=>kc b o (fun z=>by rw [z,hnew] at e;cases e) (sm3 b o e)
 have R4:codeAny ↥5 X.A (.compLoop ↥31 0 (.ref it) (.ref D) (cxU X xs ksn sc s3.heap.objs.size fp s3 H3 WW).env)
   (dh ↥5 X.A X.xe use Qf (.ref D) s3.heap.objs.size X.env.frame)
   { s3 with heap:=h4,toks:=s3.toks+([]:List (Str×Value)).length }:=by
  refine wL (fun n s'=>∃ i σc Hc ys rsi,Inv ↥12 [] σc Hc s'/\tn i s'.heap/\(∀ b∈fp,Hc b=none)/\n=ds.length - i/\i<=ds.length/\Hc D=some (.lst ys)/\runC (stG pt gc ge ks δ) (ds.take i)=.ok rsi/\ys.length<=i/\Reps X.K X.mg Hc ys rsi/\(∀ b o,b≠D->H3 b=some o->Hc b=some o)/\σc.drop xs.length=(ks.map fun k=>σ.getD k none)/\EV.D.flats rsi=true) ?_ ds.length
   ⟨0,_,H3,[],[],I4,st4,fun b hb=>(f3 b hb).1,rfl,Nat.zero_le _,hD3,by rw [List.take_zero];rfl,Nat.zero_le _,.nil,fun _ _ _ q=>q,by rw [List.drop_append_of_le_length (by rw [List.length_replicate];exact Nat.le_refl _)];simp,rfl⟩
  have hW':NB X.prog X.w X.A (cxU X xs ksn sc s3.heap.objs.size fp s3 H3 WW).env (dh ↥5 X.A X.xe use Qf (.ref D) s3.heap.objs.size X.env.frame)=WW:=hWW
  rw [hW']
  rintro n s' ⟨i,σc,Hc,ys,rsi,Ic,st,fr,rfl,hi,hDc,ersi,hyl,hys,kc,tlσ,fl1⟩
  have smc:=kc2 kc
  have wkc:=wk Hc smc
  by_cases hlt':i<ds.length
  ·have hd:ds[i]? = some ds[i]:=List.getElem?_eq_getElem hlt'
   generalize ds[i]=d at hd
   have etk:ds=ds.take i++(d::ds.drop (i+1)):=by
    have:=List.take_append_drop i ds
    rw [jf hd] at this
    exact this.symm
   have nst':EV.R.bad≠stG pt gc ge ks δ d:=fun z=>nbad (by rw [etk];exact (qy ersi).1 z.symm)
   obtain ⟨xd,k,ept,ek,kcase⟩:=CI nst'
   have ertk:∀ o,stG pt gc ge ks δ d=.ok o->runC (stG pt gc ge ks δ) (ds.take (i+1))=.ok (rsi++o.toList):=fun o eo=>by
    rw [List.take_add_one,hd]
    exact vA ersi eo
   have lxd:=TT.len d xd ept
   refine thn (T.item ↥12 rfl rfl rfl hc i [] s' σc Hc WW Ic (fpc fr) st (wkc.1 i d hd).1) fun r s1 ⟨u,hr,h4'⟩ => ?_
   subst hr
   refine thn h4' fun _ s5 ⟨v,H5,I5,r5,yl,st5,fr5⟩ => ?_
   obtain ⟨sm5,rd⟩:=(wkc.1 i d hd).2 v H5 yl
   have smc5:=smc.trans sm5
   have rd5:=rd H5 smc5 fun b o z _=>z
   have I5':=I5.pinned (fpc fr5) (T.obj _ _ st5)
   have pinf:∀ {σ7:L2.St} {H7:Hp} {s7:Shared},Inv ↥12 ([]++lZ fp s5.heap) σ7 H7 s7->∀ b∈fp,∀ o,s5.heap.get? b=some o->s7.heap.get? b=some o/\H7 b=none:=fun {σ7 H7 s7} I7 b hb o q =>
    have z:=I7.pin (b,o) (List.mem_append_right _ (List.mem_append_right _ (cU hb q)))
    ⟨z.1,z.2.1⟩
   have lenσ:σc.length=xs.length+ks.length:=by
    have:=Ic.len
    rw [this]
    show (xs++ksn).length=_
    rw [List.length_append,lenks]
   refine thn (P4 _ s5 σc H5 v u (fun σ6 H6=>∃ vs,Reps X.K X.mg H5 vs xd/\Put σc vs σ6/\H6=H5) I5' r5 (TT.put ept rd5 ⋯ fun vs σ' rv pu=>⟨vs,rv,pu,rfl⟩)) fun _ s6 ⟨σ6,H6,I6,vs,rv,pu,e6'⟩ => ?_
   subst e6'
   have lvs:vs.length=xs.length:=by rw [rv.length,lxd]
   have hσ6:Stt X.K X.mg H6 σ6 (xd.map some++ks.map fun k=>δ.getD k none):=by
    refine ⟨by rw [pu.1,lenσ,List.length_append,List.length_map,List.length_map,lxd],fun j d' e nown => ?_⟩
    by_cases hj:j<xd.length
    ·rw [List.getElem?_append_left (by rw [List.length_map];exact hj),List.getElem?_map] at e
     cases q:xd[j]? with
     | none=>rw [q] at e;cases e
     | some d'' =>
      rw [q] at e
      cases e
      obtain ⟨v',e1,e2⟩:=rv.get q
      exact ⟨v',pu.2.1 j v' e1,e2⟩
    ·rw [List.getElem?_append_right (by rw [List.length_map];omega),List.length_map,List.getElem?_map] at e
     cases ek':ks[j - xd.length]? with
     | none=>rw [ek'] at e;cases e
     | some k =>
      rw [ek'] at e
      have e':δ.getD k none=some d':=Option.some.inj e
      have eδ:δ[k]? = some (some d'):=by
       rw [List.getD_eq_getElem?_getD] at e'
       cases q:δ[k]? with
       | none=>rw [q] at e';cases e'
       | some o=>rw [q] at e';have:o=some d':=e';rw [this]
      obtain ⟨w,ew',rw'⟩:=hσ2.2 k d' eδ nown
      refine ⟨w,?_,rw'.mono smc5⟩
      rw [pu.2.2 j ⋯]
      have ht:(σc.drop xs.length)[j - xd.length]? = some (some w):=by
       rw [tlσ,List.getElem?_map,ek']
       show some (σ.getD k none)=_
       rw [List.getD_eq_getElem?_getD,ew']
       rfl
      rw [List.getElem?_drop,show xs.length+(j - xd.length)=j by omega] at ht
      exact ht
   have tl6:σ6.drop xs.length=(ks.map fun k=>σ.getD k none):=by
    rw [<- tlσ]
    refine List.ext_getElem? fun j => ?_
    rw [List.getElem?_drop,List.getElem?_drop]
    exact pu.2.2 _ ⋯
   have hD5:H6 D=some (.lst ys):=sm5 _ _ hDc
   have kc5:∀ b o,b≠D->H3 b=some o->H6 b=some o:=fun b o hb q=>sm5 _ _ (kc b o hb q)
   have hys5:=hys.mono sm5
   refine thn (Ce T4 I6 hσ6 ek (E:=WW) fun _ _ z=>z) fun ok s7 ⟨eok,H7,I7,sm7⟩ => ?_
   subst eok
   rcases kcase with ⟨rfl,eg⟩ | ⟨rfl,eo⟩
   ·rw [if_pos rfl]
    cases eg':ge (xd.map some++ks.map fun k=>δ.getD k none) with
    | bad=>rw [eg'] at eg;exact absurd eg.symm nst'
    | ex C =>
     rw [eg'] at eg
     have ext:runC (stG pt gc ge ks δ) ds=.ex C:=by rw [etk];exact (qy ersi).2 C eg
     refine thn (E4 _ s7 σ6 H7 (fun _ _=>False) I7 ⟨_,hσ6.mono sm7,?_⟩) fun _ _ ⟨_,_,_,_,z⟩=>z.elim
     rw [eg']
     intro Ca hCa H' sm8 pins' Hx sx ea s8 Ix FX
     show WW (.ref ea) s8
     rw [<- hWW]
     exact As (hO ⟨C,ext⟩) I3 f3 rfl Ix FX (fun b u e=>by
      by_cases hb:b=D
      ·rw [hb];exact ⟨_,sm8 _ _ (sm7 _ _ hD5)⟩
      ·exact ⟨_,sm8 _ _ (sm7 _ _ (kc5 b u hb e))⟩) (hex C Ca ext hCa H' (((sm2.trans smc5).trans sm7).trans sm8))
    | ok r =>
     rw [eg'] at eg
     simp only [R.bind] at eg
     have flo:EV.D.flat r=true:=by
      refine Classical.byContradiction fun z => ?_
      rw [if_neg z] at eg
      exact nst' eg.symm
     rw [if_pos flo] at eg
     refine thn (E4 _ s7 σ6 H7 (fun v8 H8=>aq H7 H8/\Rep X.K X.mg H8 v8 r) I7 ⟨_,hσ6.mono sm7,by rw [eg'];exact fun v8 H8 sm rp=>⟨sm,rp⟩⟩) fun u8 s8 ⟨v8,H8,I8,r8,sm8,rp8⟩ => ?_
     have sm78:=sm7.trans sm8
     have hD8:H8 D=some (.lst ys):=sm78 _ _ hD5
     refine thn (ia (X:=↥12) _ s8 _ H8 (.ref D) [v8] (.ref D) [u8] (fun _ H9=>H9=upd H8 D (.lst (ys++[v8]))) I8 rfl (.cons r8 .nil) ⟨D,ys,v8,rfl,rfl,hD8,by rw [sizeLine_eq];omega,rfl⟩) fun _ s9 ⟨_,H9,I9,_,e9⟩ => ?_
     subst e9
     have k9:NoL H8 (upd H8 D (.lst (ys++[v8]))):=fun b ob e n _=>by
      rw [aL fun z => ?_];exact e
      rw [z,hD8] at e
      exact n ys (Option.some.inj e).symm
     have k9':∀ b ob,b≠D->H8 b=some ob->upd H8 D (.lst (ys++[v8])) b=some ob:=fun b ob hb q=>by rw [aL hb];exact q
     refine ⟨ds.length - (i+1),⋯,i+1,_,_,ys++[v8],rsi++[r],I9.unpinned,T.keep _ _ _ st5 (fun b hb o q=>(pinf I9 b hb o q).1),fun b hb => ?_,rfl,⋯,aA,ertk _ eg,by rw [List.length_append];simp;omega,?_,fun b ob hb q=>k9' b ob hb (sm78 _ _ (kc5 b ob hb q)),tl6,md fl1 flo⟩
     ·obtain ⟨ob,e,_⟩:=T.obj _ _ st5 b hb
      exact (pinf I9 b hb ob e).2
     ·exact (eA k9 fl1 (hys5.mono sm78)).append (.cons (m8 k9 flo rp8) .nil)
   ·rw [if_neg Bool.false_ne_true]
    refine ⟨ds.length - (i+1),⋯,i+1,_,_,ys,rsi,I7.unpinned,T.keep _ _ _ st5 (fun b hb o q=>(pinf I7 b hb o q).1),fun b hb => ?_,rfl,⋯,sm7 _ _ hD5,by rw [ertk _ eo];simp,⋯,hys5.mono sm7,fun b ob hb q=>sm7 _ _ (kc5 b ob hb q),tl6,fl1⟩
    obtain ⟨ob,e,_⟩:=T.obj _ _ st5 b hb
    exact (pinf I7 b hb ob e).2
  ·have ei:i=ds.length:=⋯
   subst ei
   refine thn (T.done ↥12 rfl rfl rfl hc ds.length [] s' σc Hc WW Ic (fpc fr) st (wkc.2 _ ↥23)) fun r s1 ⟨hr,I9⟩ => ?_
   subst hr
   obtain ⟨m,hns,_⟩:=id I9.loc
   have I10:∀ h',Heap.SameBut s3.heap.objs.size s1.heap h'->Inv X pins σ Hc { s1 with heap:=h' }:=fun h' sb=>I3.call' (s':={ s1 with heap:=h' }) (ch:=fp) I9.os (Fu I9.base ↥23 sb) (Eb I9.hok I9.free sb) I9.bare fun b hb =>
    ⟨(f3 b hb).2.2.2.1,(f3 b hb).2.1,(f3 b hb).2.2.2.2.1,(f3 b hb).2.2.2.2.2⟩
   rw [List.take_of_length_le ↥23] at ersi
   have hHD:H D=none:=by
    cases q:H D with
    | none=>rfl
    | some o=>have:=sm2 D o q;rw [hnew] at this;cases this
   exact hfin s1 Hc D s3.heap.objs.size ys rsi eds ersi fl1 hHD hDc hys (sm2.trans smc) (I3.fpOk ↥23 I9.free)
    (I10 s1.heap (Heap.SameBut.refl _ _)) ⟨m,hns⟩ I10
 exact codeAny_compStart_list R4 (T.self _ 0 _ _ _ st4 R4)
def pt1 (d:D):Option (List D):=some [d]
theorem Kv:Tgt X 1 pt1 (rh 0):=⟨fun d xs e=>by cases e;rfl,fun {d xs v σ H Q} e r hl q=>by
 cases e
 refine q [v] _ (.cons r .nil) ⟨List.length_set ..,fun j w hj => ?_,fun j hj => ?_⟩
 ·cases j with
  | zero=>cases hj;exact List.getElem?_set_self ⋯
  | succ j=>simp at hj
 ·exact List.getElem?_set_ne (by have:1<=j:=hj;omega)⟩
theorem tg1:∀ C fp s H W,Sc ↥14 ([x]++ksn)->(∀ y∈[x],(cxU X [x] ksn sc C fp s H W).env.scope.names.lookup y=some .local)->PG ↥14 (.Name x px) (rh 0) :=
 fun C fp s H W S4 hl=>qE (i:=0) (by rw [S4.n];exact S4.nd) rfl (.inl (hl x (by simp))) (.inr (hl x (by simp)))
theorem Ga:∀ {ds rs:List EV.D},runC (EV.stC gc ge ks δ) ds=.ok rs->EV.D.flats rs=true->runC (stG pt1 gc ge ks δ) ds=.ok rs
 | [],rs,h,_=>h
 | d::ds,rs,h,hf=>by
  unfold runC at h ⊢
  cases q:EV.stC gc ge ks δ d with
  | ok o =>
   rw [q] at h
   simp only [R.bind] at h
   cases q2:runC (EV.stC gc ge ks δ) ds with
   | ok r =>
    rw [q2] at h
    have e:o.toList++r=rs:=by cases o<;>simpa using h
    have key:stG pt1 gc ge ks δ d=.ok o/\EV.D.flats r=true:=by
     unfold EV.stC at q
     unfold stG pt1
     simp only
     have ei:inC ks δ d=[d].map some++ks.map fun k=>δ.getD k none:=rfl
     rw [ei] at q
     cases q3:oh (gc ([d].map some++ks.map fun k=>δ.getD k none)) with
     | ok b =>
      rw [q3] at q
      cases b with
      | bl k =>
       cases k with
       | true =>
        simp only [R.bind,truth] at q ⊢
        cases q4:oh (ge ([d].map some++ks.map fun k=>δ.getD k none)) with
        | ok r' =>
         rw [q4] at q
         cases q
         rw [wz q4]
         rw [<- e] at hf
         have hf':EV.D.flat r'=true/\EV.D.flats r=true:=by simpa [EV.D.flats] using hf
         simp only
         rw [if_pos hf'.1]
         exact ⟨rfl,hf'.2⟩
        | ex C=>rw [q4] at q;cases q
        | bad=>rw [q4] at q;cases q
       | false =>
        simp only [R.bind,truth] at q ⊢
        cases q
        exact ⟨rfl,by rw [show r=rs from e];exact hf⟩
      | _=>cases q
     | ex C=>exact (jQ q3).elim
     | bad=>rw [q3] at q;cases q
    rw [key.1]
    simp only [R.bind]
    rw [Ga q2 key.2]
    simp only
    rw [<- e]
    cases o<;>rfl
   | ex C=>rw [q2] at h;cases h
   | bad=>rw [q2] at h;cases h
  | ex C=>rw [q] at h;cases h
  | bad=>rw [q] at h;cases h
structure CompOf (ce:E) (git:IT) (pt:EV.D->Option (List EV.D)) (gc ge:E) (ks:List Nat):Prop where
 ex:∀ δ C,git δ=.ex C->ce δ=.ex C
 bad:∀ δ,git δ=.bad->ce δ=.bad
 ok:∀ δ ds,git δ=.ok ds->ce δ=.bad\/(ds.length<=100000/\∃ rs,runC (stG pt gc ge ks δ) ds=.ok rs/\EV.D.flats rs=true/\ce δ=.ok (.lst rs))
theorem mh (hc:X.calm=true) {N:List Str} (S:Sc X N) {xs ksn G:List Str} {ks:List Nat} {tg elt iter:Expr} {ifs:List Expr} {pos ps:Pos} {sc:Scope} {git:IT} {gc ge ce:E} {pt:EV.D->Option (List EV.D)} {gT:TG} (CE:CompOf ce git pt gc ge ks) (SC:ScU xs ksn G sc)
  (hks:ks.map (fun k=>N.getD k "")=ksn) (hlt:∀ k∈ks,k<N.length) (hcell:∀ y∈ksn,X.env.scope.names.lookup y=some .cell)
  (he:SI X tg iter git) (TT:Tgt X xs.length pt gT)
  (htg:∀ C fp s H W,Sc ↥7 (xs++ksn)->↥36->PG ↥7 tg gT)
  (htst:∀ C fp s H W,Sc ↥7 (xs++ksn)->(∀ y∈G,Gb ↥7 y)->Tst ↥7 ifs gc)
  (helt:∀ C fp s H W,Sc ↥7 (xs++ksn)->(∀ y∈G,Gb ↥7 y)->SE ↥7 elt ge)
  (hs:∀ z,foldedSetIterable iter X.env z=pure z) {use:Option (Value->Sem Unit)} {Qf:Value->Shared->Prop} {Q:VK}
  {pins:List ↥10} {s:Shared} {σ:L2.St} {H:Hp} {δ:Dt} (I:Inv X pins σ H s) (hσ:Stt X.K X.mg H σ δ) (h:RQ X σ H (ce δ) Q)
  (hfin:∀ (s1:Shared) (Hc:Hp) (D C:Addr) (ys:List V) (rs:List EV.D),ce δ=.ok (.lst rs)->EV.D.flats rs=true->H D=none->Hc D=some (.lst ys)->Reps X.K X.mg Hc ys rs->aq H Hc->Q (.ref D) Hc ->
   uU X pins Hc C->Inv X pins σ Hc s1->(∃ m,s1.heap.Ns C m)->(∀ h',Heap.SameBut C s1.heap h'->Inv X pins σ Hc { s1 with heap:=h' })->dh ↥5 X.A X.xe use Qf (.ref D) C X.env.frame (.ok .next) s1) :
  wpAny ↥5 X.A (comprehension ↥31 sc X.env ps (newList []) false (eval iter X.env) use) Qf X.xe s:=by
 have key:git δ ≠ .bad/\(∀ C,git δ=.ex C->∀ Ca,X.mg C=some (.ref Ca)->∀ H',aq H H'->ew X Ca σ H')/\∃ ds,(∀ ds',git δ=.ok ds'->ds'=ds)/\∀ ds',git δ=.ok ds'->ds.length<=100000/\∃ rs,runC (stG pt gc ge ks δ) ds=.ok rs/\EV.D.flats rs=true/\ce δ=.ok (.lst rs):=by
  cases r:git δ with
  | bad=>rw [CE.bad δ r] at h;exact False.elim h
  | ex C=>rw [CE.ex δ C r] at h;exact ⟨(fun z=>nomatch z),(fun C' e=>by cases e;exact h),[],(fun _ e=>nomatch e),(fun _ e=>nomatch e)⟩
  | ok ds =>
   refine ⟨fun z=>(nomatch z),fun C' e=>(nomatch e),ds,fun _ e=>by cases e;rfl,fun _ e => ?_⟩
   rcases CE.ok δ ds r with z | z
   ·rw [z] at h;exact False.elim h
   ·exact z
 obtain ⟨k1,k2,ds,k3,k4⟩:=key
 by_cases g:∃ ds',git δ=.ok ds'
 ·obtain ⟨ds',eds⟩:=g
  obtain ⟨hz,rs,er,fl,ec⟩:=k4 ds' eds
  refine pJ hc S SC hks hlt hcell he TT htg htst helt hs (use:=use) I hσ k2 (ds:=ds) k1 (fun d e=>⟨k3 d e,hz,(fun z=>by rw [er] at z;cases z),(fun rs' e'=>by rw [er] at e';cases e';exact fl)⟩) (fun C Ca e=>by rw [er] at e;cases e) (fun ⟨C,e⟩=>by rw [er] at e;cases e) fun s1 Hc D C ys rs' e1 e2 e3 e4 e5 e6 e7 e8 e9 e10 e11 => ?_
  rw [er] at e2
  cases e2
  rw [ec] at h
  exact hfin s1 Hc D C ys rs ec fl e4 e5 e6 e7 (h _ _ e7 (.lst (SqL.of e5) e6)) e8 e9 e10 e11
 ·have no:∀ d,git δ ≠ .ok d:=fun d e=>g ⟨d,e⟩
  exact pJ hc S SC hks hlt hcell he TT htg htst helt hs (use:=use) I hσ k2 (ds:=[]) k1 (fun d e=>absurd e (no d)) (fun C Ca e=>nomatch e) (fun ⟨C,e⟩=>nomatch e) fun s1 Hc D C ys rs' e1=>absurd e1 (no _)
theorem pK:CompOf (fF git ks gc ge) git pt1 gc ge ks where
 ex:=fun δ C e=>by unfold fF;rw [e];rfl
 bad:=fun δ e=>by unfold fF;rw [e];rfl
 ok:=fun δ ds e=>by
  unfold fF
  rw [e]
  simp only [R.bind]
  by_cases hz:ds.length<=100000
  ·rw [if_pos hz]
   cases r:runC (EV.stC gc ge ks δ) ds with
   | bad=>exact .inl rfl
   | ex C =>
    exfalso
    have:∀ l C,runC (EV.stC gc ge ks δ) l ≠ .ex C:=fun l C=>by
     induction l with
     | nil=>exact fun z=>nomatch z
     | cons a l ih =>
      intro z
      unfold runC at z
      cases q:EV.stC gc ge ks δ a with
      | ok o =>
       rw [q] at z
       simp only [R.bind] at z
       cases q2:runC (EV.stC gc ge ks δ) l with
       | ok r=>rw [q2] at z;cases z
       | ex C'=>exact ih.elim (by rw [q2] at z;cases z;exact q2)
       | bad=>rw [q2] at z;cases z
      | ex C' =>
       unfold EV.stC at q
       cases q3:oh (gc (inC ks δ a)) with
       | ok d =>
        rw [q3] at q
        cases d with
        | bl b =>
         cases b with
         | true =>
          simp only [R.bind,truth] at q
          cases q4:oh (ge (inC ks δ a)) with
          | ok r=>rw [q4] at q;cases q
          | ex C''=>exact jQ q4
          | bad=>rw [q4] at q;cases q
         | false=>cases q
        | _=>cases q
       | ex C''=>exact jQ q3
       | bad=>rw [q3] at q;cases q
      | bad=>rw [q] at z;cases z
    exact this _ _ r
   | ok rs =>
    simp only [dH]
    by_cases hf:EV.D.flats rs=true
    ·rw [if_pos hf]
     exact .inr ⟨hz,rs,Ga r hf,hf,rfl⟩
    ·rw [if_neg hf]
     exact .inl rfl
  ·rw [if_neg hz]
   exact .inl rfl
theorem Ep (hc:X.calm=true) {N:List Str} (S:Sc X N) {xs ksn G:List Str} {ks:List Nat} {tg elt iter:Expr} {ifs:List Expr} {pos:Pos} {sc:Scope} {git:IT} {gc ge ce:E} {pt:EV.D->Option (List EV.D)} {gT:TG} (CE:CompOf ce git pt gc ge ks) (SC:ScU xs ksn G sc)
  (hks:ks.map (fun k=>N.getD k "")=ksn) (hlt:∀ k∈ks,k<N.length) (hcell:∀ y∈ksn,X.env.scope.names.lookup y=some .cell)
  (he:SI X tg iter git) (TT:Tgt X xs.length pt gT)
  (htg:∀ C fp s H W,Sc ↥7 (xs++ksn)->↥36->PG ↥7 tg gT)
  (htst:∀ C fp s H W,Sc ↥7 (xs++ksn)->(∀ y∈G,Gb ↥7 y)->Tst ↥7 ifs gc)
  (helt:∀ C fp s H W,Sc ↥7 (xs++ksn)->(∀ y∈G,Gb ↥7 y)->SE ↥7 elt ge)
  (hs:∀ z,foldedSetIterable iter X.env z=pure z):SE X ↥31 ce:=by
 intro pins s σ H Q I ⟨δ,hσ,h⟩
 rw [eval_ListComp]
 exact mh hc S CE SC hks hlt hcell he TT htg htst helt hs (use:=none) I hσ h fun s1 Hc D C ys rs e1 e2 e3 e4 e5 e6 q fC I1 ⟨m,ns⟩ turn=>⟨m,ns,fun h' sb=>⟨.ref D,Hc,turn h' sb,rfl,q⟩⟩
theorem Aq (hc:X.calm=true) {N:List Str} (S:Sc X N) {x:Str} {ksn G:List Str} {ks:List Nat} {elt iter:Expr} {ifs:List Expr} {px pos:Pos} {sc:Scope} {git:IT} {gc ge:E} (SC:ScU [x] ksn G sc)
  (hks:ks.map (fun k=>N.getD k "")=ksn) (hlt:∀ k∈ks,k<N.length) (hcell:∀ y∈ksn,X.env.scope.names.lookup y=some .cell)
  (he:SI X (.Name x px) iter git)
  (htst:∀ C fp s H W,Sc ↥14 ([x]++ksn)->(∀ y∈G,Gb ↥14 y)->Tst ↥14 ifs gc)
  (helt:∀ C fp s H W,Sc ↥14 ([x]++ksn)->(∀ y∈G,Gb ↥14 y)->SE ↥14 elt ge)
  (hs:∀ z,foldedSetIterable iter X.env z=pure z:=by intro _;rfl):SE X (.ListComp elt [⟨.Name x px,iter,ifs,0⟩] sc pos) (fF git ks gc ge) :=
 Ep hc S pK SC hks hlt hcell he Kv tg1 htst helt hs
theorem td (hc:X.calm=true) {N:List Str} (S:Sc X N) {x:Str} {ksn G:List Str} {ks:List Nat} {elt iter:Expr} {px pos:Pos} {sc:Scope} {git:IT} {ge:E} (SC:ScU [x] ksn G sc)
  (hks:ks.map (fun k=>N.getD k "")=ksn) (hlt:∀ k∈ks,k<N.length) (hcell:∀ y∈ksn,X.env.scope.names.lookup y=some .cell)
  (he:SI X (.Name x px) iter git)
  (helt:∀ C fp s H W,Sc ↥14 ([x]++ksn)->(∀ y∈G,Gb ↥14 y)->SE ↥14 elt ge)
  (hs:∀ z,foldedSetIterable iter X.env z=pure z:=by intro _;rfl):SE X (.ListComp elt [⟨.Name x px,iter,[],0⟩] sc pos) (comp git ks ge) :=
 Aq hc S SC hks hlt hcell he (fun _ _ _ _ _ _ _=>.nil) helt hs
end
end ES
namespace ES
open PySem PySem.Spec PyProof.Rows L2 EV
unseal SE ST SW SA SS SSs SI
structure GC (X:Cx) (x:String) (d:D):Prop where
 ex:∃ v u,X.mg x=some u/\RelV v u/\∀ H,Rep X.K X.mg H v d
section
variable {X:Cx} {pos p:Pos} {x:String} {d:D} {e e2:Expr} {g:E}
theorem Po (G:Gb X x) (h:GC X x d):SE X (.Name x pos) (con d):=by
 obtain ⟨v,u,hm,r,hr⟩:=h.ex
 exact rl (vK (v:=v) G.g hm r G.d) hr
theorem Ed {a:Addr} {dd:Option Addr} {ss:List String} {its:Array Value} {n:Nat} {sl:Array (Option Value)} (hm:X.mg x=some (.ref a)) (hk:X.K.lookup a=some ⟨.type "tuple",dd,.seq its n,sl⟩) (hi:Vals (ss.map fun s=>V.str (Str.ofString s)) its.toList) (hz:its.size<=1000):GC X x (.tup (ss.map fun s=>D.str (Str.ofString s))):=by
 refine ⟨.ref a,.ref a,hm,rfl,fun H=>.tup (.inr ⟨_,its,n,hk,rfl,rfl,Nat.le_of_lt (j4 hz),hi⟩) ?_⟩
 clear hi
 induction ss with
 | nil=>exact .nil
 | cons s r ih=>exact .cons (.str _) ih
theorem om:∀ {ss:List String} {ts:List Tok} {its:List Value},its=(ss.zip ts).map (fun p=>Value.str (Str.ofString p.1) p.2)->ts.length=ss.length->Vals (ss.map fun s=>V.str (Str.ofString s)) its
 | [],_,_,e,_=>by subst e;exact .nil
 | s::r,[],_,_,h=>by simp at h
 | s::r,t::ts,_,e,h=>by
  subst e
  exact .cons ⟨t,rfl⟩ (om (ts:=ts) rfl (by simpa using h))
end
section
variable {X:Cx} {x y:Str} {ksn:List Str} {sc:Scope} {C:Addr} {fp:List Addr} {s:Shared} {H:Hp} {f:List D->R D} {cn m:String} {F:List D->R D}
end
def cF:Stmt->List Stmt
 | .ClassDef _ _ _ b _ _ _ _ _ _ _=>b
 | _=>[]
end ES
namespace ES
open EV
end ES
namespace ES
open PySem PySem.Spec PyProof.Rows L2 EV
unseal SE ST SW SA SS SSs SI
def ROp (X:Cx) (σ:L2.St) (H:Hp) (r:R (Option Int)) (Q:Option Int->Hp->Prop):Prop:=match r with
 | .ok o=>∀ H',aq H H'->Q o H'
 | .ex C=>∀ Ca,X.mg C=some (.ref Ca)->∀ H',aq H H'->ew X Ca σ H'
 | .bad=>False
def tPo (X:Cx) (g:Option E):TO:=fun σ H Q=>∃ δ,Stt X.K X.mg H σ δ/\ROp X σ H (part g δ) Q
@[irreducible] def SO (X:Cx) (e:Option Expr) (g:Option E):Prop:=PO X e (tPo X g)
unseal SO
section
variable {X:Cx} {tg e a:Expr} {lo hi:Option Expr} {g:E} {gl gu:Option E} {σ:L2.St} {H H1:Hp} {pos p2:Pos}
theorem PO.weak (h:PO X o t) (w:∀ σ H Q,t' σ H Q->t σ H Q):PO X o t':=fun pins s σ H Q I q=>h pins s σ H Q I (w σ H Q q)
theorem su:SO X none none:=PO.weak C5 fun σ H Q ⟨δ,hσ,q⟩=>q H ↥19
theorem jP (h:SE X e g):SO X (some e) (some g):=PO.weak (C4 h) fun σ H Q ⟨δ,hσ,q⟩=>⟨δ,hσ,by
 simp only [EV.part] at q
 cases r:g δ with
 | ok d =>
  rw [r] at q
  cases d with
  | int i=>exact fun v H' s r=>by cases r;exact ⟨i,rfl,q H' s⟩
  | _=>exact False.elim q
 | ex C=>rw [r] at q;exact q
 | bad=>rw [r] at q;exact q⟩
theorem ROp.bind (h:RQ X σ H (r.bind f) Q):ROp X σ H r (fun o H'=>aq H H'/\RQ X σ H' (f o) Q):=by
 cases r with
 | ok d=>exact fun H' s=>⟨s,h.mono s⟩
 | ex C=>exact h
 | bad=>exact h
theorem ROp.to (h:ROp X σ H r Q) (g:∀ o H',aq H H'->Q o H'->Q' o H'):ROp X σ H r Q':=by
 cases r with
 | ok d=>exact fun H' s=>g d H' s (h H' s)
 | ex C=>exact h
 | bad=>exact h
theorem sk (rs:Reps X.K X.mg H xs ds) (l u:Option Int):Reps X.K X.mg H (Bo xs l u) (EV.cut ds l u):=by
 unfold Bo EV.cut
 rw [rs.length]
 exact (rs.drop _).take _
def rS (X:Cx):V->Option Int->Option Int->Hp->VK->Prop:=fun x l u H Q=>∃ dx d,Rep X.K X.mg H x dx/\oSl dx l u=.ok d/\∀ v H',aq H H'->Rep X.K X.mg H' v d->Q v H'
theorem NH:SlR X (rS X):=by
 intro pins s σ H x v vl vu l u sl Q I rx hs pl pu ⟨dx,d,r,e,q⟩
 unfold oSl at e
 split at e
 ·split at e
  ·cases e
  ·rename_i hn
   cases e;cases r
   rename_i p xs hq rs
   refine Gd pins s σ H _ v vl vu l u sl Q I rx hs pl pu ⟨p,xs,rfl,hq,?_,fun p hp=>q _ _ (av hp _) (.tup (SqT.of aA) ((sk rs l u).mono (av hp _)))⟩
   rw [rs.length]
   exact hn
 ·cases e;cases r
  rename_i p xs hq rs
  exact CJ pins s σ H _ v vl vu l u sl Q I rx hs pl pu ⟨p,xs,rfl,hq,fun p hp=>q _ _ (av hp _) (.lst (SqL.of aA) ((sk rs l u).mono (av hp _)))⟩
 ·cases e
theorem Ek (ha:SE X a g) (hl:SO X lo gl) (hu:SO X hi gu):SE X (.Subscript a (.Slice lo hi none p2) pos) (slc g gl gu) :=
 PE.weak (zq NH ha hl hu) fun σ H Q ⟨δ,hσ,q⟩=>⟨δ,hσ,(RQ.bind q).to fun x H1 _ ⟨s1,d,r1,q1⟩=>⟨δ,hσ.mono s1,(ROp.bind q1).to fun l H2 _ ⟨s2,q2⟩=>⟨δ,hσ.mono (s1.trans s2),(ROp.bind q2).to fun u H3 _ ⟨s3,q3⟩=>by
  have r3:=r1.mono (s2.trans s3)
  cases e:oSl d l u with
  | ok z=>rw [e] at q3;exact ⟨d,z,r3,e,q3⟩
  | ex C =>
   exfalso
   unfold oSl at e
   split at e
   ·split at e<;>cases e
   ·cases e
   ·cases e
  | bad=>rw [e] at q3;exact False.elim q3⟩⟩⟩
theorem jE (h:SE X e g):SI X tg e (itA g):=fun pins s σ H Q I ⟨δ,hσ,q⟩=>by
 unfold itA at q
 cases r:g δ with
 | ok d =>
  rw [r] at q
  cases d with
  | lst ds=>exact Bj h pins s σ H Q I ⟨δ,hσ,by unfold itL;rw [r];exact q⟩
  | tup ds=>exact J9 h pins s σ H Q I ⟨δ,hσ,by unfold itT;rw [r];exact q⟩
  | _=>exact False.elim q
 | ex C=>exact Bj h pins s σ H Q I ⟨δ,hσ,by unfold itL;rw [r] at q ⊢;exact q⟩
 | bad=>rw [r] at q;exact False.elim q
end
theorem Ku {P:String->Prop} (h0:P "MillError") (h1:P "NoSize") (h2:P "NoBits") (h3:P "NoParts") (h4:P "NoRank") (h5:P "NotFinite") (h6:P "NoWay") (h7:P "NoFlags") (h8:P "NoFraction") (h9:P "Unlike") (h10:P "Empty") (h11:P "NoLeft") (h12:P "NoText") (h13:P "NoRow") (h14:P "NoName") (h15:P "Stopped"):∀ n∈ak,P n:=by
 intro n hn
 simp only [ak,List.mem_cons,List.not_mem_nil,or_false] at hn
 rcases hn with rfl | rfl | rfl | rfl | rfl | rfl | rfl | rfl | rfl | rfl | rfl | rfl | rfl | rfl | rfl | rfl
 all_goals assumption
end ES
namespace ES
open PySem PySem.Spec PyProof.Rows L2 EV
unseal SE ST SW SA SS SSs SI SO
section
variable {X:Cx} {tg:Expr} {H:Hp} {a b c:Expr} {ga gb gc:E}
end
end ES
namespace ES
open PySem PySem.Spec PyProof.Rows L2 EV
unseal SE ST SW SA SS SSs SI SO
section
variable {X:Cx} {N:List Str} {H:Hp} {σ:L2.St} {δ:Dt} {os:Os}
theorem CC (h:Stt X.K X.mg H σ δ):Stt X.K X.mg H σ (δ.set i (some (.own ds))):=by
 refine ⟨by rw [List.length_set];exact h.1,fun j d e n => ?_⟩
 by_cases hj:j=i
 ·subst hj
  by_cases hl:j<δ.length
  ·rw [List.getElem?_set_self hl] at e
   have e':.own ds=d:=Option.some.inj (Option.some.inj e)
   exact absurd e'.symm (n ds)
  ·rw [List.getElem?_eq_none (by simp;omega)] at e
   cases e
 ·rw [List.getElem?_set_ne (Ne.symm hj)] at e
  exact h.2 j d e n
theorem nz (h:a∈iZ os):hide (upd H a o) os=hide H os:=by
 funext b
 unfold hide
 by_cases hb:b∈iZ os
 ·rw [if_pos hb,if_pos hb]
 ·rw [if_neg hb,if_neg hb]
  exact aL fun z=>hb (by rw [z];exact h)
theorem StO.write (S:StO X H σ δ os) (ha:(i,a)∈os) (r:Reps X.K X.mg ↥20 xs ds):StO X (upd H a (.lst xs)) σ (δ.set i (some (.own ds))) os:=by
 have eh:hide (upd H a (.lst xs)) os=hide H os:=nz (cR ha)
 obtain ⟨_,_,_,h2,h3,_⟩:=S.lst _ ha
 have hl:i<δ.length:=(List.getElem?_eq_some_iff.mp h3).1
 refine ⟨by rw [eh];exact CC S.st,fun p hp => ?_,fun j es e => ?_,S.inj⟩
 ·rw [eh]
  by_cases hj:p.1=i
  ·have e2:p.2=a:=by
    obtain ⟨_,_,_,q2,_,_⟩:=S.lst p hp
    rw [hj,h2] at q2
    exact (V.ref.inj (Option.some.inj (Option.some.inj q2))).symm
   refine ⟨xs,ds,by rw [e2];exact aA,by rw [hj,e2];exact h2,by rw [hj];exact List.getElem?_set_self hl,r⟩
  ·obtain ⟨ys,es,q1,q2,q3,q4⟩:=S.lst p hp
   have ne:p.2≠a:=fun z=>hj (S.inj p.1 i a (by rw [<- z];exact hp) ha)
   exact ⟨ys,es,by rw [aL ne];exact q1,q2,by rw [List.getElem?_set_ne (Ne.symm hj)];exact q3,q4⟩
 ·by_cases hj:j=i
  ·subst hj;exact ⟨a,ha⟩
  ·rw [List.getElem?_set_ne (Ne.symm hj)] at e
   exact S.own j es e
theorem StO.begin (S:StO X H σ δ os) (hi:i<σ.length) (hn:H a=none) (r:Reps X.K X.mg ↥20 xs ds) :
  StO X (upd H a (.lst xs)) (σ.set i (some (.ref a))) (δ.set i (some (.own ds))) ((i,a)::os.filter fun p=>p.1 != i)/\aq ↥20 (hide (upd H a (.lst xs)) ((i,a)::os.filter fun p=>p.1 != i)):=by
 have hd:i<δ.length:=by rw [<- S.st.1];exact hi
 have sm:aq ↥20 (hide (upd H a (.lst xs)) ((i,a)::os.filter fun p=>p.1 != i)):=fun b o e=>by
  have hb:b∉iZ os:=fun z=>by rw [gN z] at e;cases e
  rw [bw hb] at e
  have ne:b≠a:=fun z=>by rw [z,hn] at e;cases e
  rw [bw fun z => ?_,aL ne];exact e
  obtain ⟨p,hp,e2⟩:=fY z
  rcases List.mem_cons.mp hp with q | q
  ·exact ne (by rw [<- e2,q])
  ·exact hb (by rw [<- e2];exact cR (aO os i p q).1)
 have naos:∀ p∈os,p.2≠a:=fun p hp z=>by
  obtain ⟨_,_,q,_⟩:=S.lst p hp
  rw [z,hn] at q
  cases q
 refine ⟨⟨?_,fun p hp => ?_,fun j es e => ?_,fun j k b h1 h2 => ?_⟩,sm⟩
 ·have st:=S.st.mono sm
  refine ⟨by rw [List.length_set,List.length_set];exact st.1,fun j d e n => ?_⟩
  by_cases hj:j=i
  ·subst hj
   rw [List.getElem?_set_self hd] at e
   exact absurd (Option.some.inj (Option.some.inj e)).symm (n ds)
  ·rw [List.getElem?_set_ne (Ne.symm hj)] at e
   obtain ⟨v,e1,e2⟩:=st.2 j d e n
   exact ⟨v,by rw [List.getElem?_set_ne (Ne.symm hj)];exact e1,e2⟩
 ·rcases List.mem_cons.mp hp with q | q
  ·subst q
   exact ⟨xs,ds,aA,List.getElem?_set_self hi,List.getElem?_set_self hd,r.mono sm⟩
  ·obtain ⟨hp',ne⟩:=aO os i p q
   obtain ⟨ys,es,q1,q2,q3,q4⟩:=S.lst p hp'
   exact ⟨ys,es,by rw [aL (naos p hp')];exact q1,by rw [List.getElem?_set_ne (Ne.symm ne)];exact q2,by rw [List.getElem?_set_ne (Ne.symm ne)];exact q3,q4.mono sm⟩
 ·by_cases hj:j=i
  ·subst hj;exact ⟨a,.head _⟩
  ·rw [List.getElem?_set_ne (Ne.symm hj)] at e
   obtain ⟨b,hb⟩:=S.own j es e
   exact ⟨b,.tail _ (List.mem_filter.mpr ⟨hb,by simpa using hj⟩)⟩
 ·rcases List.mem_cons.mp h1 with q1 | q1<;>rcases List.mem_cons.mp h2 with q2 | q2
  ·cases q1;cases q2;rfl
  ·cases q1;exact absurd rfl (naos _ (aO os i _ q2).1)
  ·cases q2;exact absurd rfl (naos _ (aO os i _ q1).1)
  ·exact S.inj j k b (aO os i _ q1).1 (aO os i _ q2).1
theorem StO.pub (S:StO X H σ δ os) (i:Nat):∃ os',StO X H σ (EV.pub i δ) os'/\aq ↥20 (hide H os'):=by
 unfold EV.pub
 split
 ·rename_i ds e
  obtain ⟨a,ha⟩:=S.own i ds e
  obtain ⟨xs,ds',h1,h2,h3,h4⟩:=S.lst _ ha
  rw [e] at h3
  cases h3
  have sm:aq ↥20 (hide H (os.filter fun p=>p.1 != i)):=pE fun p hp=>(aO os i p hp).1
  have hl:i<δ.length:=(List.getElem?_eq_some_iff.mp e).1
  have na:a∉iZ (os.filter fun p=>p.1 != i):=fun z=>by
   obtain ⟨p,hp,e2⟩:=fY z
   obtain ⟨hp',ne⟩:=aO os i p hp
   exact ne (S.inj p.1 i a (by rw [<- e2];exact hp') ha)
  refine ⟨_,⟨?_,fun p hp => ?_,fun j es q => ?_,fun j k b h1 h2=>S.inj j k b (aO os i _ h1).1 (aO os i _ h2).1⟩,sm⟩
  ·have st:=S.st.mono sm
   refine ⟨by rw [List.length_set];exact st.1,fun j d q n => ?_⟩
   by_cases hj:j=i
   ·subst hj
    rw [List.getElem?_set_self hl] at q
    have q':D.lst ds=d:=Option.some.inj (Option.some.inj q)
    subst q'
    exact ⟨.ref a,h2,.lst (SqL.of (by rw [bw na];exact h1)) (h4.mono sm)⟩
   ·rw [List.getElem?_set_ne (Ne.symm hj)] at q
    exact st.2 j d q n
  ·obtain ⟨hp',ne⟩:=aO os i p hp
   obtain ⟨ys,es,q1,q2,q3,q4⟩:=S.lst p hp'
   exact ⟨ys,es,q1,q2,by rw [List.getElem?_set_ne (Ne.symm ne)];exact q3,q4.mono sm⟩
  ·by_cases hj:j=i
   ·subst hj
    rw [List.getElem?_set_self hl] at q
    cases q
   ·rw [List.getElem?_set_ne (Ne.symm hj)] at q
    obtain ⟨b,hb⟩:=S.own j es q
    exact ⟨b,List.mem_filter.mpr ⟨hb,by simpa using hj⟩⟩
 ·exact ⟨os,S,aq.refl _⟩
variable {e:Expr} {g:E} {pos:Pos} {st:Stmt} {gs:S}
theorem zd (i:Nat) (h:SS X st gs):SS X st (C1 i gs):=PS.weak h fun D σ H ⟨δ,os,S,q⟩=>by
 obtain ⟨os',S',sm⟩:=S.pub i
 exact ⟨_,os',S',OQ.mono sm q⟩
theorem r9 (C:Sx X N) (i:Nat) (hN:N[i]? = some x) (hx:Sto X x) (hsw:swapsWith (.List [] pl) (some (.Name x pos')) pos.line X.env=pure false:=by rfl):SS X (.Assign [.Name x pos'] (.List [] pl) pos) (oQ i):=by
 intro pins s σ H D I ⟨δ,os,S,q⟩
 refine oM (i:=i) (by rw [C.sc.n];exact C.sc.nd) (by rw [C.sc.n];exact hN) hx.1 (A5 gz) hsw hx.2 pins s σ H D I ⟨Nat.zero_le _,fun p hp => ?_⟩
 have hi:i<σ.length:=by
  rw [I.len,C.sc.n]
  exact (List.getElem?_eq_some_iff.mp hN).1
 obtain ⟨S',sm⟩:=S.begin (i:=i) hi hp .nil
 exact q _ _ _ S' sm
theorem gY (C:Sx X N) (i:Nat) (hN:N[i]? = some x) (he:SE X e g)
  (hbase:attributeBase (.Name x p1) "append" X.env (eval (.Name x p1) X.env)=eval (.Name x p1) X.env:=by rfl)
  (hfew:((backTo p3 (starEach [e] X.env)).all (fun x => !x.1)&&(backToKw p3 (keywordEach [] X.env)).all (fun x=>x.1.isSome)
   && decide ([e].length+([]:List Keyword).length+(if ([]:List Keyword).isEmpty then 0 else 1)<30))=true:=by rfl)
  (hline:(p2.endLine == p3.line)=true:=by rfl) (hs:starEach [e] X.env=[↥27]:=by rfl)
  (hsw:swapsWith (.Call (.Attribute (.Name x p1) "append" p2) [e] [] p3) none pos.line X.env=pure false:=by rfl) :
  SS X (.Expr (.Call (.Attribute (.Name x p1) "append" p2) [e] [] p3) pos) (gA i g):=by
 have hm:x∈N:=List.mem_of_getElem? hN
 refine PS.weak (kg (zt PySem.F.plainAttrs_list PySem.F.slot_list_append PySem.F.type_list_append ia (hU (i:=i) (by rw [C.sc.n];exact hN) (C.sc.vis x hm) (C.sc.dbg x hm).1 (C.sc.dbg x hm).2) (dG (rB he) gz hs) hbase hfew hline hs (by rfl)) hsw) fun D σ H ⟨δ,os,S,q⟩ => ?_
 unfold gA gq at q
 split at q
 ·rename_i ds ei
  obtain ⟨a,ha⟩:=S.own i ds ei
  obtain ⟨xs,ds',h1,h2,h3,h4⟩:=S.lst _ ha
  rw [ei] at h3
  cases h3
  refine ⟨.ref a,h2,.inl ⟨rfl,xs,SqL.of h1⟩,δ,os,S,?_,?_⟩
  ·intro d ed
   unfold Bt at q
   rw [ed] at q
   simp only at q
   split at q
   ·rename_i z;exact z.1
   ·exact False.elim q
  ·unfold Bt at q
   cases r:g (view δ) with
   | ok d =>
    rw [r] at q
    simp only at q
    split at q
    ·rename_i z
     intro v H' S' sm rp
     obtain ⟨xs',ds',k1,k2,k3,k4⟩:=S'.lst _ ha
     rw [ei] at k3
     cases k3
     refine ⟨a,xs',v,rfl,rfl,k1,by rw [k4.length,sizeLine_eq];omega,?_⟩
     have S2:=S'.write ha (k4.append (.cons rp .nil))
     exact q _ _ _ S2 (by rw [nz (cR ha)];exact sm)
    ·exact False.elim q
   | ex C=>rw [r] at q;exact fun Ca hc H' s' st=>q σ H' s' st Ca hc
   | bad=>rw [r] at q;exact False.elim q
 ·exact False.elim q
end
end ES
namespace ES
open PySem PySem.Spec PyProof.Rows L2 EV
unseal SE ST SW SA SS SSs SI SO
section
variable {X:Cx} {N:List Str} {H:Hp} {σ:L2.St} {δ:Dt} {os:Os}
theorem StO.adopt (S:StO X H σ δ os) (sm:aq H Hc) (hi:i<σ.length) (hn:H a=none) (ha:Hc a=some (.lst xs)) (r:Reps X.K X.mg Hc xs ds) (fl:EV.D.flats ds=true) :
  StO X Hc (σ.set i (some (.ref a))) (δ.set i (some (.own ds))) ((i,a)::os.filter fun p=>p.1 != i)/\aq ↥20 (hide Hc ((i,a)::os.filter fun p=>p.1 != i)):=by
 have hd:i<δ.length:=by rw [<- S.st.1];exact hi
 have sm2:aq ↥20 (hide Hc ((i,a)::os.filter fun p=>p.1 != i)):=fun b o e=>by
  have hb:b∉iZ os:=fun z=>by rw [gN z] at e;cases e
  rw [bw hb] at e
  have ne:b≠a:=fun z=>by rw [z,hn] at e;cases e
  rw [bw fun z => ?_];exact sm b o e
  obtain ⟨p,hp,e2⟩:=fY z
  rcases List.mem_cons.mp hp with q | q
  ·exact ne (by rw [<- e2,q])
  ·exact hb (by rw [<- e2];exact cR (aO os i p q).1)
 have naos:∀ p∈os,p.2≠a:=fun p hp z=>by
  obtain ⟨_,_,q,_⟩:=S.lst p hp
  rw [z,hn] at q
  cases q
 have ls:Iu Hc ((i,a)::os.filter fun p=>p.1 != i):=fun b hb=>by
  obtain ⟨p,hp,e2⟩:=fY hb
  rcases List.mem_cons.mp hp with q | q
  ·exact ⟨xs,by rw [<- e2,q];exact ha⟩
  ·obtain ⟨ys,_,q1,_⟩:=S.lst p (aO os i p q).1
   exact ⟨ys,by rw [<- e2];exact sm _ _ q1⟩
 refine ⟨⟨?_,fun p hp => ?_,fun j es e => ?_,fun j k b h1 h2 => ?_⟩,sm2⟩
 ·have st:=S.st.mono sm2
  refine ⟨by rw [List.length_set,List.length_set];exact st.1,fun j d e n => ?_⟩
  by_cases hj:j=i
  ·subst hj
   rw [List.getElem?_set_self hd] at e
   exact absurd (Option.some.inj (Option.some.inj e)).symm (n ds)
  ·rw [List.getElem?_set_ne (Ne.symm hj)] at e
   obtain ⟨v,e1,e2⟩:=st.2 j d e n
   exact ⟨v,by rw [List.getElem?_set_ne (Ne.symm hj)];exact e1,e2⟩
 ·rcases List.mem_cons.mp hp with q | q
  ·subst q
   exact ⟨xs,ds,ha,List.getElem?_set_self hi,List.getElem?_set_self hd,eA (sL ls) fl r⟩
  ·obtain ⟨hp',ne⟩:=aO os i p q
   obtain ⟨ys,es,q1,q2,q3,q4⟩:=S.lst p hp'
   exact ⟨ys,es,sm _ _ q1,by rw [List.getElem?_set_ne (Ne.symm ne)];exact q2,by rw [List.getElem?_set_ne (Ne.symm ne)];exact q3,q4.mono sm2⟩
 ·by_cases hj:j=i
  ·subst hj;exact ⟨a,.head _⟩
  ·rw [List.getElem?_set_ne (Ne.symm hj)] at e
   obtain ⟨b,hb⟩:=S.own j es e
   exact ⟨b,.tail _ (List.mem_filter.mpr ⟨hb,by simpa using hj⟩)⟩
 ·rcases List.mem_cons.mp h1 with q1 | q1<;>rcases List.mem_cons.mp h2 with q2 | q2
  ·cases q1;cases q2;rfl
  ·cases q1;exact absurd rfl (naos _ (aO os i _ q2).1)
  ·cases q2;exact absurd rfl (naos _ (aO os i _ q1).1)
  ·exact S.inj j k b (aO os i _ q1).1 (aO os i _ q2).1
theorem vn {pins:List ↥10} {s:Shared} {i:Nat} {y:Str} {py:Pos} {a C:Addr} {m:Str->Option Value} (Cx:Sx X N) (hN:N[i]? = some y) (hy:Sto X y) (I:Inv X pins σ H s) (fC:uU X pins H C) (ns:s.heap.Ns C m) :
  wpAny ↥5 X.A (assign (.Name y py) X.env (.ref a)) (fun _ s2=>∃ m,s2.heap.Ns C m/\∀ h',Heap.SameBut C s2.heap h'->Inv X pins (σ.set i (some (.ref a))) H { s2 with heap:=h' }) X.xe s:=by
 obtain ⟨o,es,ep,ho,hd,hk⟩:=id ns
 have Ip:=I.pinned (fp:=[C]) (fun b hb=>by rw [List.mem_singleton] at hb;rw [hb];exact fC) (fun b hb=>by
  rw [List.mem_singleton] at hb
  rw [hb]
  exact ⟨o,ho,fun v z=>by rw [hd] at z;cases z⟩)
 refine thn (qE (X:=X) (pos:=py) (i:=i) (x:=y) (by rw [Cx.sc.n];exact Cx.sc.nd) (by rw [Cx.sc.n];exact hN) hy.1 hy.2 _ s σ H (.ref a) (.ref a) (fun σ6 H6=>σ6=σ.set i (some (.ref a))/\H6=H) Ip rfl ⟨rfl,rfl⟩) fun _ s2 ⟨σ6,H6,I6,e6,e7⟩ => ?_
 subst e6 e7
 have hp:=(I6.pin (C,o) (List.mem_append_right _ (List.mem_append_right _ (cU (List.mem_singleton.mpr rfl) ho)))).1
 refine ⟨m,ns.at' fun o' e' => ?_,fun h' sb => ?_⟩
 ·rw [ho] at e'
  cases e'
  exact hp
 ·obtain ⟨f0,f1,f2,f3,f4,f5⟩:=fC
  exact I6.unpinned.turned (t':=s2.toks) (fun b o hb e=>(sb.2 b hb).trans e) f0 f1 f3 f4 f5
variable {e c k v:Expr} {g gc gk gv:E} {pos:Pos} {st:Stmt} {body els:List Stmt} {gs gb ge:S}
theorem CQ (hc:ST X c gc) (ha:SSs X body gb) (hb:SSs X els ge):SS X (.If c body els pos) (Ac gc gb ge) :=
 PS.weak (zo (Eu hc) ha hb) fun D σ H ⟨δ,os,S,q⟩=>⟨δ,os,S,FT.then q fun b H' S' s q'=>by
  cases b with
  | true=>exact E3 ⟨δ,os,S',by simpa using q'⟩
  | false=>exact Bi ⟨δ,os,S',by simpa using q'⟩⟩
theorem Gi (C:Sx X N) (i:Nat) (hN:N[i]? = some x) (hx:Sto X x) (h:SE X e g) (hsw:swapsWith e (some (.Name x pos')) pos.line X.env=pure false:=by rfl):SS X (.Assign [.Name x pos'] e pos) (iY i g) :=
 PS.weak (oM (i:=i) (by rw [C.sc.n];exact C.sc.nd) (by rw [C.sc.n];exact hN) hx.1 (rB h) hsw hx.2) fun D σ H ⟨δ,os,S,q⟩=>by
  unfold iY E6 at q
  refine ⟨δ,os,S,fun d ed => ?_,?_⟩
  ·rw [ed] at q
   simp only at q
   split at q
   ·assumption
   ·exact False.elim q
  ·cases r:g (view δ) with
   | ok d =>
    rw [r] at q
    simp only at q
    split at q
    ·intro v H' S' s rp
     obtain ⟨S2,s2⟩:=S'.set (i:=i) rp
     exact q _ _ _ S2 (s.trans s2)
    ·exact False.elim q
   | ex C=>rw [r] at q;exact fun Ca hc H' s' st=>q σ H' s' st Ca hc
   | bad=>rw [r] at q;exact False.elim q
theorem j2 (hS:env.scope=sc0)
  (h:((if sc0.kind.isAnnotationScope then ScopeKind.function else sc0.kind) == ScopeKind.function&&sc0.names.lookup t == some NameKind.local&&pt.line == (Expr.ListComp elt gens sc pos).pos.line && !(sc.names.any fun (n,k)=>n == t&&(k == .local||k == .cell)))=true) :
  swapsWith (.ListComp elt gens sc pos) (some (.Name t pt)) line env=pure true:=by
 subst hS
 show (pure ((if env.scope.kind.isAnnotationScope then ScopeKind.function else env.scope.kind) == ScopeKind.function&&env.scope.names.lookup t == some NameKind.local&&pt.line == (Expr.ListComp elt gens sc pos).pos.line && !(sc.names.any fun (n,k)=>n == t&&(k == .local||k == .cell))):Sem Bool)=pure true
 rw [h]
theorem ug (Cx:Sx X N) (hc:X.calm=true) (i:Nat) {y:Str} {py spos:Pos} (hN:N[i]? = some y) (hy:Sto X y) {xs ksn G:List Str} {ks:List Nat} {tg elt iter:Expr} {ifs:List Expr} {sc:Scope} {git:IT} {gt ge' ce:E} {pt:EV.D->Option (List EV.D)} {gT:TG} (CE:CompOf ce git pt gt ge' ks) (SC:ScU xs ksn G sc)
  (hks:ks.map (fun k=>N.getD k "")=ksn) (hlt:∀ k∈ks,k<N.length) (hcell:∀ y∈ksn,X.env.scope.names.lookup y=some .cell)
  (he:SI X tg iter git) (TT:Tgt X xs.length pt gT)
  (htg:∀ C fp s H W,Sc ↥7 (xs++ksn)->↥36->PG ↥7 tg gT)
  (htst:∀ C fp s H W,Sc ↥7 (xs++ksn)->(∀ y∈G,Gb ↥7 y)->Tst ↥7 ifs gt)
  (helt:∀ C fp s H W,Sc ↥7 (xs++ksn)->(∀ y∈G,Gb ↥7 y)->SE ↥7 elt ge')
  (hsw:swapsWith ↥31 (some (.Name y py)) spos.line X.env=pure true)
  (hs:∀ z,foldedSetIterable iter X.env z=pure z) :
  SS X (.Assign [.Name y py] ↥31 spos) (fA i ce):=by
 intro pins s σ H D I ⟨δ,os,S,q⟩
 have hi:i<σ.length:=by
  rw [I.len,Cx.sc.n]
  exact (List.getElem?_eq_some_iff.mp hN).1
 unfold fA AV at q
 rw [exec_Assign_Name_used _ _ _ _ hsw]
 refine wpAny_bind (wpAny_standAt (wpAny_bind ?_))
 show wpAny _ X.A (do let _<-comprehension ↥31 sc X.env _ (newList []) false (eval iter X.env) (some (assign (.Name y py) X.env))) _ _ s
 refine wpAny_bind (wpAny_mono (mh (Q:=fun _ _=>True) (Qf:=fun _ s'=>SP X pins D .next s') hc Cx.sc CE SC hks hlt hcell he TT htg htst helt hs (use:=some (assign (.Name y py) X.env)) I S.view ?_ ?_) (fun _ s' hq=>wpAny_pure (wpAny_pure hq)) fun _ _ e=>e)
 ·cases r:ce (view δ) with
  | ok d=>exact fun _ _ _ _=>trivial
  | ex C=>rw [r] at q;exact fun Ca hc H' s'=>q σ H' ((aC H os).trans s') (S.noOwn ((aC H os).trans s')) Ca hc
  | bad=>rw [r] at q;exact False.elim q
 ·intro s1 Hc A C ys rs e1 fl hA hAc rr sm _ fC I1 ⟨m,ns⟩ _
  rw [e1] at q
  obtain ⟨S2,sm2⟩:=S.adopt sm hi hA hAc rr fl
  refine thn (vn (a:=A) (py:=py) Cx hN hy I1 fC ns) fun _ s2 ⟨m2,ns2,hq⟩=>⟨m2,ns2,fun h' sb=>⟨_,Hc,hq h' sb,q _ _ _ S2 sm2⟩⟩
theorem j9 (Cx:Sx X N) (hc:X.calm=true) (i:Nat) {y:Str} {py spos:Pos} (hN:N[i]? = some y) (hy:Sto X y) {x:Str} {ksn G:List Str} {ks:List Nat} {elt iter:Expr} {ifs:List Expr} {px:Pos} {sc:Scope} {git:IT} {gt ge':E} (SC:ScU [x] ksn G sc)
  (hks:ks.map (fun k=>N.getD k "")=ksn) (hlt:∀ k∈ks,k<N.length) (hcell:∀ y∈ksn,X.env.scope.names.lookup y=some .cell)
  (he:SI X (.Name x px) iter git)
  (htst:∀ C fp s H W,Sc ↥14 ([x]++ksn)->(∀ y∈G,Gb ↥14 y)->Tst ↥14 ifs gt)
  (helt:∀ C fp s H W,Sc ↥14 ([x]++ksn)->(∀ y∈G,Gb ↥14 y)->SE ↥14 elt ge')
  (hsw:swapsWith (.ListComp elt [⟨.Name x px,iter,ifs,0⟩] sc pos) (some (.Name y py)) spos.line X.env=pure true)
  (hs:∀ z,foldedSetIterable iter X.env z=pure z:=by intro _;rfl) :
  SS X (.Assign [.Name y py] (.ListComp elt [⟨.Name x px,iter,ifs,0⟩] sc pos) spos) (fA i (fF git ks gt ge')) :=
 ug Cx hc i hN hy pK SC hks hlt hcell he Kv tg1 htst helt hsw hs
end
end ES
namespace ES
open PySem PySem.Spec PyProof.Rows L2 EV
unseal SE ST SW SA SS SSs SI SO
def RF (X:Cx) (σ:L2.St) (H:Hp) (r:R D) (Q:VK):Prop:=match r with
 | .ok (.lst rs)=>∀ a xs H',aq H H'->H a=none->H' a=some (.lst xs)->Reps X.K X.mg H' xs rs->EV.D.flats rs=true->Q (.ref a) H'
 | .ex C=>∀ Ca,X.mg C=some (.ref Ca)->∀ H',aq H H'->ew X Ca σ H'
 | _=>False
def FE (X:Cx) (e:Expr) (g:E):Prop:=PE X e fun σ H Q=>∃ δ,Stt X.K X.mg H σ δ/\RF X σ H (g δ) Q
def OQF (X:Cx) (D:Ends) (F:Hp):O->Prop
 | .rt (.lst rs)=>∀ a xs H,aq F H->F a=none->H a=some (.lst xs)->Reps X.K X.mg H xs rs->EV.D.flats rs=true->D.rt (.ref a) H
 | .rt _=>False
 | o=>OQ X D F o
def tSF (X:Cx) (g:S):TS:=fun D σ H=>∃ δ os,StO X H σ δ os/\OQF X D ↥20 (g δ)
@[irreducible] def SSF (X:Cx) (st:List Stmt) (g:S):Prop:=PSs X st (tSF X g)
unseal SSF
section
variable {X:Cx} {N:List Str}
variable {st:Stmt} {rest:List Stmt} {gs gr:S} {e:Expr} {g:E} {pos:Pos}
theorem vo {H Hc:Hp} {os:Os} (hn:∀ a∈iZ os,Hc a=none):aq Hc (d4 H Hc os):=fun b o q=>by
 unfold d4
 rw [if_neg fun z=>by rw [hn b z] at q;cases q]
 exact q
end
def spF (K:PySem.W.Frag) (mg:Str->Option Value) (f:List D->R D):Sp:=fun vs H Q E=>∃ ds,Reps K mg H vs ds/\match f ds with
 | .ok (.lst rs)=>∀ a xs H',aq H H'->H a=none->H' a=some (.lst xs)->Reps K mg H' xs rs->EV.D.flats rs=true->Q (.ref a) H'
 | .ex C=>∀ Ca,mg C=some (.ref Ca)->∀ H',aq H H'->E (.ref Ca) none H'
 | _=>False
structure FnF (P:Program) (w:World) (K:PySem.W.Frag) (mg:Str->Option Value) (base:Heap) (x:Str) (k:Nat) (f:List D->R D):Prop where
 ex:∃ fa fd ps,FnOk P w K mg base (CXF P w) k fa fd ps (spF K mg f)/\mg x=some (.ref fa)/\PySem.W.keepIn K (.ref fa)=true/\Binds K fd ps []
structure CalleeF (X:Cx) (x:Str) (f:List D->R D):Prop where
 ex:∃ k fa fd ps,FnOk X.prog X.w X.K X.mg X.base (CXF X.prog X.w) k fa fd ps (spF X.K X.mg f)/\Room k X.A/\X.mg x=some (.ref fa)/\PySem.W.keepIn X.K (.ref fa)=true/\Binds X.K fd ps []
section
variable {X:Cx} {N:List Str} {x:Str} {f:List D->R D} {e:Expr} {es:List Expr} {gs:List E} {p pos:Pos} {g:E}
theorem oH (C:Sx X N) (i:Nat) {y:Str} {pos':Pos} (hN:N[i]? = some y) (hy:Sto X y) (h:FE X e g) (hsw:swapsWith e (some (.Name y pos')) pos.line X.env=pure false:=by rfl):SS X (.Assign [.Name y pos'] e pos) (kr i g):=by
 intro pins s σ H D I ⟨δ,os,S,q⟩
 have hi:i<σ.length:=by
  rw [I.len,C.sc.n]
  exact (List.getElem?_eq_some_iff.mp hN).1
 have hl:=S.lsts
 unfold kr AV at q
 refine wpAny_Assign_Name (thn (h _ s σ _ (fun v Hc=>∃ a xs rs,v=.ref a/\g δ=.ok (.lst rs)/\aq ↥20 Hc/\hide H os a=none/\Hc a=some (.lst xs)/\Reps X.K X.mg Hc xs rs/\EV.D.flats rs=true) (jS I hl) ⟨δ,S.st,?_⟩) fun u s1 ⟨v,Hc,I1,rv,a,xs,rs,ev,eg,sm,hn,ha,rr,fl⟩ => ?_) hsw
 ·cases r:g δ with
  | ok d =>
   rw [r] at q
   cases d with
   | lst rs=>exact fun a xs H' sm hn ha rr fl=>⟨a,xs,rs,rfl,rfl,sm,hn,ha,rr,fl⟩
   | _=>exact False.elim q
  | ex C=>rw [r] at q;exact fun Ca hc H' s'=>q σ H' s' (S.noOwn s') Ca hc
  | bad=>rw [r] at q;exact False.elim q
 ·obtain ⟨I2,hz⟩:=jR C.ex I hl I1
  rw [eg] at q
  subst ev
  have ss:=vo (H:=H) hz
  have na:a∉iZ os:=fun z=>by rw [hz a z] at ha;cases ha
  have sH:aq H (d4 H Hc os):=fun b o e=>by
   unfold d4
   by_cases hb:b∈iZ os
   ·rw [if_pos hb];exact e
   ·rw [if_neg hb]
    exact sm b o (by rw [bw hb];exact e)
  obtain ⟨S2,sm2⟩:=S.adopt (i:=i) sH hi (by rw [bw na] at hn;exact hn) (ss a _ ha) (rr.mono ss) fl
  exact mM I2 (by rw [C.sc.n];exact C.sc.nd) (by rw [C.sc.n];exact hN) hy.1 rv (fun s2 I3=>⟨_,_,I3,q _ _ _ S2 sm2⟩) hy.2
end
end ES
namespace EV
def nW (k:Int):List D->R D
 | [.lst ds]=>match intsOf ds with
  | some []=>.ok (.int k)
  | some (n::ns)=>.ok (.int (ns.foldl min n))
  | none=>.bad
 | _=>.bad
def jh:List D->R D
 | [.lst ds]=>dH ds
 | [.tup ds]=>dH ds
 | _=>.bad
def boolsOf:List D->Option (List Bool)
 | []=>some []
 | .bl b::r=>(boolsOf r).map (b::·)
 | _=>none
def EH:List D->R D
 | [.lst ds]=>match boolsOf ds with | some bs=>.ok (.bl (bs.any id)) | none=>.bad
 | _=>.bad
def E5 (i:Nat) (δ:Dt) (ds:List D) (r:R D):O:=match r with
 | .ok (.tup es)=>if D.flats es=true/\ds.length+es.length<=100000 then .nx (δ.set i (some (.own (ds++es)))) else .bad
 | .ex C=>.ex C (noOwn δ)
 | _=>.bad
def i8 (i:Nat) (g:E):S:=fun δ=>gq i δ fun ds=>E5 i δ ds (g (view δ))
theorem yN:i8 i g δ=gq i δ fun ds=>E5 i δ ds (g (view δ)):=rfl
end EV
namespace ES
open PySem PySem.Spec PyProof.Rows L2 EV
unseal SE ST SW SA SS SSs SI SO
section
variable {X:Cx} {N:List Str} {e:Expr} {g:E} {pos:Pos}
end
end ES
namespace ES
open PySem PySem.Spec PyProof.Rows L2 EV
unseal SE ST SW SA SS SSs SI SO
section
variable {prog:Program} {w:World} {A:Around} {R:Result->Shared->Prop} {I:Addr} {fp wr:List Addr} {n:Nat} {P:Nat->Value->Prop} {St:Nat->Heap->Prop}
abbrev dfl (d:Value):List (Str×Value):=[(Str.ofString "default",d)]
theorem nt:(toString "min"++toString ".loop":String)="min.loop":=by decide
theorem wI (W:Walks prog w A.in1 I fp wr n P St) (bt:Nat->Nat->Bool) (hcmp:CmpOf prog w A.in1 .Lt P bt) (S:Addr) (hSf:S∉fp) :
  ∀ (k j:Nat) (s:Shared) (vb:Value) (c:Nat),n - (j+1)=k->j+1<=n->St (j+1) s.heap->P (argBest bt j) vb->s.heap.get? S=some { cls:=.type "list",dict:=none,data:=.seq #[vb,vb] c,slots := #[] } ->
   (∀ v h' tk,P (argBest bt (n - 1)) v->(∀ b o,b∉wr->b≠S->s.heap.get? b=some o->h'.get? b=some o)->R (.ok (.ret v)) { s with heap:=h',toks:=tk }) ->
   codeAny ↥16 A (.builtin "min.loop" ⟨[.ref I,.none,.ref S],dfl d⟩) R s:=by
 have hSw:S∉wr:=fun z=>hSf (W.sub _ z)
 intro k
 induction k with
 | zero =>
  intro j s vb c hk hj hst hPb hS hR
  have hin:j+1=n:=⋯
  refine codeAny_builtin PySem.F.entry_min_loop ?_;rw [Around.under_plainId PySem.F.plain_min_loop _]
  (show wpAny _ A.in1 (seqItems? (.ref S) >>= _) _ _ s);refine wpAny_bind (wpAny_seqItems hS rfl ?_)
  (show wpAny _ A.in1 (tryCatch (pyNext (.ref I)) _ >>= _) _ _ s);refine wpAny_bind (wpAny_tryCatch (W.done s _ _ (hin▸hst) fun h' tk hk' => ?_))
  have hS':=hk' S _ hSw hS
  (show wpAny _ A.in1 (updateSeq S (fun _ => #[]) >>= _) _ _ _);refine wpAny_bind ?_;refine wpAny_updateSeq hS' rfl (wpAny_bind (wpAny_letGo (wpAny_pure ?_)))
  exact hR vb _ tk (by rw [<- hin];exact hPb) fun b o hbw hbS e=>(Heap.get?_update_other _ _ (Ne.symm hbS)).trans (hk' b o hbw e)
 | succ k ih =>
  intro j s vb c hk hj hst hPb hS hR
  have hlt:j+1<n:=⋯
  refine codeAny_builtin PySem.F.entry_min_loop ?_;rw [Around.under_plainId PySem.F.plain_min_loop _]
  (show wpAny _ A.in1 (seqItems? (.ref S) >>= _) _ _ s);refine wpAny_bind (wpAny_seqItems hS rfl ?_)
  (show wpAny _ A.in1 (tryCatch (pyNext (.ref I)) _ >>= _) _ _ s);refine wpAny_bind (wpAny_tryCatch (W.item (j+1) s _ _ hlt hst fun v h' tk hP hst' hk' => ?_))
  have hS':=hk' S _ hSw hS
  (show wpAny _ A.in1 (tryCatch (holding [v,v] (richCompare .Lt v vb >>= _)) _ >>= _) _ _ _);refine wpAny_bind (wpAny_tryCatch (wpAny_holding (wpAny_bind (hcmp (j+1) (argBest bt j) v vb _ _ _ hP hPb ?_))))
  refine wpAny_bind (wpAny_holding (wpAny_truthy_bool ?_));refine wpAny_bind (wpAny_letGo (wpAny_pure ?_))
  cases hb:bt (j+1) (argBest bt j) with
  | true =>
   simp only [if_true];refine wpAny_bind ?_;refine wpAny_updateSeq hS' rfl (wpAny_bind (wpAny_letGo ?_));rw [nt]
   refine wpAny_pure ⟨plainId_quiet PySem.F.plain_min_loop _,ih (j+1) _ v _ ⋯ hlt (W.frame _ _ _ hst' fun b hbf o e => ?_) (by simp only [argBest,hb,if_true];exact hP) (Heap.get?_update_self _ hS' rfl) fun v' h'' tk'' hP' hk'' => ?_⟩
   ·exact (Heap.get?_update_other _ _ (fun z:S=b=>hSf (by rw [z];exact hbf))).trans e
   ·exact hR v' h'' tk'' hP' fun b o hbw hbS e=>hk'' b o hbw hbS ((Heap.get?_update_other _ _ (Ne.symm hbS)).trans (hk' b o hbw e))
  | false =>
   simp only [Bool.false_eq_true,if_false];refine wpAny_bind (wpAny_letGo ?_);rw [nt]
   exact wpAny_pure ⟨plainId_quiet PySem.F.plain_min_loop _,ih (j+1) _ vb c ⋯ hlt hst' (by simp only [argBest,hb,Bool.false_eq_true,if_false];exact hPb) hS' fun v' h'' tk'' hP' hk''=>hR v' h'' tk'' hP' fun b o hbw hbS e=>hk'' b o hbw hbS (hk' b o hbw e)⟩
theorem uu (W:Walks prog w A.in1 I fp wr n P St) (bt:Nat->Nat->Bool) (hcmp:CmpOf prog w A.in1 .Lt P bt) (S:Addr) (hSf:S∉fp) (hst:St 0 s.heap)
  (hS:s.heap.get? S=some { cls:=.type "list",dict:=none,data:=.seq #[] c,slots := #[] })
  (h0:n=0->∀ h' tk,(∀ b o,b∉wr->s.heap.get? b=some o->h'.get? b=some o)->R (.ok (.ret d)) { s with heap:=h',toks:=tk })
  (hR:0<n->∀ v h' tk,P (argBest bt (n - 1)) v->(∀ b o,b∉wr->b≠S->s.heap.get? b=some o->h'.get? b=some o)->R (.ok (.ret v)) { s with heap:=h',toks:=tk }) :
  codeAny ↥16 A (.builtin "min.loop" ⟨[.ref I,.none,.ref S],dfl d⟩) R s:=by
 have hSw:S∉wr:=fun z=>hSf (W.sub _ z)
 refine codeAny_builtin PySem.F.entry_min_loop ?_;rw [Around.under_plainId PySem.F.plain_min_loop _]
 (show wpAny _ A.in1 (seqItems? (.ref S) >>= _) _ _ s);refine wpAny_bind (wpAny_seqItems hS rfl ?_)
 by_cases hn:n=0
 ·(show wpAny _ A.in1 (tryCatch (pyNext (.ref I)) _ >>= _) _ _ s);refine wpAny_bind (wpAny_tryCatch (W.done s _ _ (hn▸hst) fun h' tk hk' => ?_))
  (show wpAny _ A.in1 (rule _ >>= _) _ _ _);refine wpAny_bind (wpAny_rule (wpAny_pure ?_))
  exact h0 hn h' tk hk'
 ·(show wpAny _ A.in1 (tryCatch (pyNext (.ref I)) _ >>= _) _ _ s);refine wpAny_bind (wpAny_tryCatch (W.item 0 s _ _ ⋯ hst fun v h' tk hP hst' hk' => ?_))
  have hS':=hk' S _ hSw hS
  (show wpAny _ A.in1 (updateSeq S (fun _ => #[v,v]) >>= _) _ _ _);refine wpAny_bind ?_;refine wpAny_updateSeq hS' rfl ?_;rw [nt]
  refine wpAny_pure ⟨plainId_quiet PySem.F.plain_min_loop _,wI W bt hcmp S hSf _ 0 _ v _ rfl ⋯ (W.frame _ _ _ hst' fun b hbf o e => ?_) hP (Heap.get?_update_self _ hS' rfl) fun v' h'' tk'' hP' hk'' => ?_⟩
  ·exact (Heap.get?_update_other _ _ (fun z:S=b=>hSf (by rw [z];exact hbf))).trans e
  ·exact hR ⋯ v' h'' tk'' hP' fun b o hbw hbS e=>hk'' b o hbw hbS ((Heap.get?_update_other _ _ (Ne.symm hbS)).trans (hk' b o hbw e))
end
section
variable {prog:Program} {w:World} {A:Around} {E:Value->Shared->Prop} {s:Shared} {l:Addr} {xs:Array (Int×Tok)}
theorem DW (h1:builtinKind i=none) (h2:plainId i=true) (h3:entryFor table i=some f) (h4:argsOk i ⟨us,ks⟩)
  (h:wpAny ↥16 A.in1 (f ⟨us,ks⟩) (fun x s'=>match x with | .done r=>(match (Except.ok r:Result) with | .ok (.ret v)=>Q v s' | .ok _=>False | .error e=>E e s') | .again c=>c.quiet=true/\codeAny ↥16 A c (fun r s'=>match r with | .ok (.ret v)=>Q v s' | .ok _=>False | .error e=>E e s') s') E s) :
  wpAny ↥16 A (call (.builtin i) us ks) Q E s:=by
 refine wpAny_call (codeAny_call_builtin h2 h3 ?_);simp only [checkBuiltinCall,h1]
 cases q:Manifest.signature? i with
 | none=>exact wpAny_pure h
 | some sg=>simp only [show Bind.checkArgs i sg ⟨us,ks⟩=pure () by simpa only [argsOk,q] using h4];exact wpAny_pure h
theorem xW (a v:Value):argsOk "min" ⟨[a],dfl v⟩:=by unfold argsOk;kernel_rfl
theorem wJ (hh:A.handled=none) (hl:s.heap.IsList l (intItems xs))
  (h:∀ v h' tk,(xs.size=0/\v=d\/0<xs.size/\(intItems xs)[argBest (fun i j=>decide (numAt xs i<numAt xs j)) (xs.size - 1)]? = some v)->(∀ b o,s.heap.get? b=some o->h'.get? b=some o)->Q v { s with heap:=h',toks:=tk }) :
  wpAny ↥16 A (call (.builtin "min") [.ref l] (dfl d)) Q E s:=by
 refine DW PySem.F.kind_min PySem.F.plain_min PySem.F.entry_min (xW _ _) ?_
 (show wpAny _ A.in1 (Builtin.Builtins.bindParams "min" ["key","default"] 0 ⟨[],dfl d⟩ >>= _) _ _ s);refine wpAny_bind (wpAny_of_eq (show Builtin.Builtins.bindParams "min" ["key","default"] 0 ⟨[],dfl d⟩=pure [none,some d] from rfl) ?_)
 refine wpAny_bind (wpAny_pure ?_);refine wpAny_bind (iter_intList hl fun s₂ e st hfp hlI => ?_)
 subst e
 refine wpAny_bind (wpAny_newObj_type ?_);rw [nt]
 have hz:(intItems xs).size=xs.size:=by simp [intItems]
 refine wpAny_pure ⟨plainId_quiet PySem.F.plain_min_loop _,uu (Walks.list (A:=A.in1) hh _ l hlI (intItems xs)) _ (CmpOf.ints_lt (numAt xs) (fun _ _=>intItems_at)) _ (fun z=>Nat.lt_irrefl _ (hfp _ z)) ((Walks.list (prog:=prog) (w:=w) (A:=A.in1) hh _ l hlI (intItems xs)).frame _ _ _ st fun b _ o e=>Heap.get?_push_of_some _ e) (Heap.get?_push_size _ rfl) (fun z h' tk hk => ?_) fun z v h' tk hP hk => ?_⟩
 ·exact h d h' tk (.inl ⟨by rw [<- hz];exact z,rfl⟩) (old_kept (l:=l) fun b o hb e=>hk b o hb (Heap.get?_push_of_some _ e))
 ·exact h v h' tk (.inr ⟨by rw [<- hz];exact z,by rw [<- hz];exact hP⟩) (old_kept (l:=l) fun b o hb e=>hk b o hb (Nat.ne_of_lt (Heap.lt_size e)) (Heap.get?_push_of_some _ e))
end
theorem tu {f:Nat->Int} {n:Int} {ns:List Int} (h0:f 0=n) (h1:∀ i,i<ns.length->ns[i]? = some (f (i+1))):∀ k,k<=ns.length->f (argBest (fun i j=>decide (f i<f j)) k)=(ns.take k).foldl min n
 | 0,_=>by rw [List.take_zero];exact h0
 | k+1,hk=>by
  have ih:=tu h0 h1 k ⋯
  rw [List.take_succ,h1 k ⋯,List.foldl_append]
  show f (if decide (f (k+1)<f (argBest _ k))=true then k+1 else argBest _ k)=min ((ns.take k).foldl min n) (f (k+1))
  rw [<- ih]
  by_cases g:f (k+1)<f (argBest (fun i j=>decide (f i<f j)) k)
  ·rw [if_pos (by simpa using g)];omega
  ·rw [if_neg (by simpa using g)];omega
section
variable {X:Cx} {N:List Str} {e:Expr} {g:E} {pos:Pos}
theorem G8:NoX (nW k):=fun ds C z=>by
 unfold nW at z
 split at z
 ·split at z<;>cases z
 ·cases z
theorem Ia (hc:X.calm=true) {k:Int} {t:Tok} (pins:List ↥10) (s:Shared) (σ:L2.St) (H:Hp) (xs:List V) (us:List Value) (Q:VK) (I:Inv X pins σ H s) (rs:Vals xs us) (h:rC X (nW k) xs H Q) :
  wpAny ↥5 X.A (call (.builtin "min") us (dfl (.int k t))) (EP X pins σ Q) X.xe s:=by
 obtain ⟨ds,d,r,e,q⟩:=h
 unfold nW at e
 split at e
 ·rename_i ds'
  cases hns:intsOf ds' with
  | none=>rw [hns] at e;cases e
  | some ns =>
   obtain ⟨v,rfl,r1⟩:=kd r
   cases r1 with
   | @lst a ys _ hq rr =>
    obtain ⟨its,rv,pl,_⟩:=I.list hq
    obtain ⟨ts,e1,e2⟩:=pC hns rr rv
    cases rs with
    | cons h1 h2 =>
     cases h2
     cases h1
     have hl:s.heap.IsList a (intItems ts.toArray):=by
      have:=pl.isList
      rw [e1] at this
      rw [show intItems ts.toArray=(ts.map fun p=>Value.int p.1 p.2).toArray by simp [intItems]]
      exact this
     refine wJ (I.ok.hd hc) hl fun v h' tk hv hk => ?_
     have fin:∀ (m:Int) (t':Tok),v=.int m t'->d=.int m->EP X pins σ Q v { s with heap:=h',toks:=tk }:=fun m t' ev ed=>by
      subst ev ed
      exact ⟨.int m,H,I.kept (t':=tk) hk,⟨_,rfl⟩,q _ _ ↥19 (.int _)⟩
     have hlen:ts.length=ns.length:=by rw [<- e2,List.length_map]
     cases ns with
     | nil =>
      rw [hns] at e
      rcases hv with ⟨_,hv⟩ | ⟨z,_⟩
      ·exact fin k t hv (R.ok.inj e).symm
      ·rw [List.size_toArray,hlen] at z;exact absurd z (Nat.lt_irrefl 0)
     | cons n ns =>
      rw [hns] at e
      rcases hv with ⟨z,_⟩ | ⟨_,hv⟩
      ·rw [List.size_toArray] at z;rw [z] at hlen;cases hlen
      ·obtain ⟨t',ev⟩:=intItems_at hv
       have at_:∀ i,numAt ts.toArray i=((n::ns)[i]?).getD 0:=fun i=>by
        rw [<- e2];unfold numAt;simp
       have bm:=tu (f:=numAt ts.toArray) (n:=n) (ns:=ns) (by rw [at_];rfl) (fun i hi=>by rw [at_];simp [List.getElem?_eq_getElem hi]) ns.length ↥23
       rw [List.take_length] at bm
       have hs:ts.toArray.size - 1=ns.length:=by rw [List.size_toArray,hlen,List.length_cons];omega
       rw [hs,bm] at ev
       exact fin _ t' ev (R.ok.inj e).symm
 ·cases e
theorem HS (hc:X.calm=true) (G:Gb X "min") (hm:X.mg "min"=none) {j} (ha:SA X [e] [g])
  (he:backTo pos (starEach [e] X.env)=↥27::backTo pos (starEach [] X.env):=by rfl) (hpl:(backTo pos (starEach [e] X.env)).any (·.1)=false:=by rfl) :
  SE X (.Call (.Name "min" p) [e] [⟨some "default",.Constant (.int k) j cp,kp⟩] pos) (EV.call (nW k) [g]):=by
 intro pins s σ H Q I ⟨δ,hσ,q⟩
 refine wpAny_Call_Name_kw (pz I G.g hm boot_min ?_ G.n G.d)
 refine callWith_kw (thn (ha pos pins s σ H (fun vs H'=>∃ ds,aq H H'/\Reps X.K X.mg H' vs ds/\RQ X σ H' (nW k ds) Q) I ⟨δ,hσ,?_⟩) fun us s1 ⟨vs,H1,I1,r1,ds,s01,rp,q1⟩ => ?_) he hpl
 ·exact (RA.bind q).to fun vs H' s ⟨s',ds,rs,q⟩=>⟨ds,s',rs,q⟩
 ·refine kws_cons (thn (ae pins s1 σ H1 (fun v H'=>v=.int k/\aq H1 H') I1 ⟨δ,hσ.mono s01,fun v H' s' r=>by cases r;exact ⟨rfl,s'⟩⟩) fun u s2 ⟨v,H2,I2,rv,ev,sm⟩=>kws_nil ?_)
  subst ev
  obtain ⟨t,rfl⟩:=rv
  obtain ⟨ds',d,r,e',q'⟩:=RQ.cl G8 rp q1
  exact Ia hc pins s2 σ H2 vs us Q I2 r1 ⟨ds',d,r.mono sm,e',fun v H' s'=>q' v H' (sm.trans s')⟩
end
end ES
namespace ES
open PySem PySem.Spec PyProof.Rows L2 EV
unseal SE ST SW SA SS SSs SI SO
set_option maxRecDepth 8000 in
theorem Ef (a:Addr) (xs:Array Value) (k:Nat) (t:Addr) (ys:Array Value) (m:Nat) (dd:Option Addr) (sl:Array (Option Value)) (z0:¬(!xs.isEmpty&&Builtin.List.listTooLong (xs.size+ys.size))=true) (z1:xs.size<=sizeLine) (z2:xs.size+ys.size<=sizeLine+1) :
  Meets (Builtin.«list.extend» ⟨[.ref a,.ref t],[]⟩) (fun _ R s=>s.heap.get? a=some { cls:=.type "list",dict:=none,data:=.seq xs k,slots := #[] }/\s.heap.get? t=some { cls:=.type "tuple",dict:=dd,data:=.seq ys m,slots:=sl }/\R (.ok (.ret Value.none)) { s with heap:=s.heap.update a (Obj.mapSeq fun x=>x++ys),toks:=s.toks }) :=
 .of_wp fun prog w A R s q=>by
  obtain ⟨hp,g,d,tk,os⟩:=s;obtain ⟨ha,ht,q⟩:=q;have f1:=PySem.AutoSeq1.idx_int;have f2:=PySem.AutoSeq1.sub_tuple_tuple;have f3:=PySem.AutoSeq1.sub_list_list;have f4:=PySem.AutoSeq1.sub_tuple_list;have f5:=PySem.AutoSeq1.sub_list_tuple
  have z3:(xs++ys).size<=sizeLine+1:=by rw [Array.size_append];exact z2
  wp_walk using (wpAny_updateSeq ha rfl (hz:=z1) (_hz':=z3)),PySem.AutoSeq1.wpAny_loadPart' ha,PySem.AutoSeq1.wpAny_loadPart' ht;exact ⟨_,rfl,q⟩
section
variable {X:Cx} {N:List Str} {e:Expr} {g:E} {pos:Pos}
def JB (X:Cx):V->List V->Hp->VK->Prop:=fun x vs H Q=>∃ l b xs zs,x=.ref l/\vs=[.ref b]/\H l=some (.lst xs)/\SqT X.K H b zs/\xs.length+zs.length<=sizeLine/\Q .non (upd H l (.lst (xs++zs)))
theorem DS:MtM X "list.extend" (JB X):=by
 intro pins s σ H x vs v us Q I rx rv h
 obtain ⟨l,b,xs,zs,rfl,rfl,hH,hB,hz,q⟩:=h
 cases rx
 obtain ⟨u,rfl,ru⟩:=rv.one
 cases ru
 obtain ⟨z,its,n,r,hl,e⟩:=I.lstM hH
 obtain ⟨its2,r2,⟨⟨cl,dd,da,sl⟩,e2,hc,n2,hd⟩,hl2⟩:=I.tuple hB
 simp only at hc hd
 subst hc hd
 have hl3:=r2.length
 have hsz:its.toArray.size+its2.toArray.size<=sizeLine:=by rw [List.size_toArray,List.size_toArray];omega
 have hlong:¬ (!its.toArray.isEmpty&&Builtin.List.listTooLong (its.toArray.size+its2.toArray.size))=true:=by rw [sI hsz,Bool.and_false];exact Bool.false_ne_true
 refine call_meets PySem.F.slot_list_extend ⟨_,e,rfl⟩ PySem.F.entry_list_extend (PySem.F.args_list_extend_2 _ _) (Ef l its.toArray n b its2.toArray n2 dd sl hlong (by rw [List.size_toArray];omega) ⋯) ⟨e,e2,?_⟩
 exact ⟨.non,_,I.lset (its':=its++its2) hH e (by simp) (r.append r2) (by rw [List.length_append];omega),rfl,q⟩
theorem ze (C:Sx X N) (i:Nat) (hN:N[i]? = some x) (he:SE X e g)
  (hbase:attributeBase (.Name x p1) "extend" X.env (eval (.Name x p1) X.env)=eval (.Name x p1) X.env:=by rfl)
  (hfew:((backTo p3 (starEach [e] X.env)).all (fun x => !x.1)&&(backToKw p3 (keywordEach [] X.env)).all (fun x=>x.1.isSome)
   && decide ([e].length+([]:List Keyword).length+(if ([]:List Keyword).isEmpty then 0 else 1)<30))=true:=by rfl)
  (hline:(p2.endLine == p3.line)=true:=by rfl) (hs:starEach [e] X.env=[↥27]:=by rfl)
  (hsw:swapsWith (.Call (.Attribute (.Name x p1) "extend" p2) [e] [] p3) none pos.line X.env=pure false:=by rfl) :
  SS X (.Expr (.Call (.Attribute (.Name x p1) "extend" p2) [e] [] p3) pos) (i8 i g):=by
 have hm:x∈N:=List.mem_of_getElem? hN
 refine PS.weak (kg (zt PySem.F.plainAttrs_list PySem.F.slot_list_extend PySem.F.type_list_extend DS (hU (i:=i) (by rw [C.sc.n];exact hN) (C.sc.vis x hm) (C.sc.dbg x hm).1 (C.sc.dbg x hm).2) (dG (rB he) gz hs) hbase hfew hline hs (by rfl)) hsw) fun D σ H ⟨δ,os,S,q⟩ => ?_
 unfold i8 gq at q
 split at q
 ·rename_i ds ei
  obtain ⟨a,ha⟩:=S.own i ds ei
  obtain ⟨xs,ds',h1,h2,h3,h4⟩:=S.lst _ ha
  rw [ei] at h3
  cases h3
  refine ⟨.ref a,h2,.inl ⟨rfl,xs,SqL.of h1⟩,δ,os,S,?_,?_⟩
  ·intro d ed
   unfold E5 at q
   rw [ed] at q
   cases d with
   | tup es =>
    simp only at q
    split at q
    ·rename_i z;exact z.1
    ·exact False.elim q
   | _=>exact False.elim q
  ·unfold E5 at q
   cases r:g (view δ) with
   | ok d =>
    rw [r] at q
    cases d with
    | tup es =>
     simp only at q
     split at q
     ·rename_i z
      intro v H' S' sm rp
      obtain ⟨xs',ds',k1,k2,k3,k4⟩:=S'.lst _ ha
      rw [ei] at k3
      cases k3
      cases rp with
      | @tup b ys _ hq rr =>
       refine ⟨a,b,xs',ys,rfl,rfl,k1,fo (aC _ _) hq,by rw [k4.length,rr.length,sizeLine_eq];omega,?_⟩
       have S2:=S'.write ha (k4.append rr)
       exact q _ _ _ S2 (by rw [nz (cR ha)];exact sm)
     ·exact False.elim q
    | _=>exact False.elim q
   | ex C=>rw [r] at q;exact fun Ca hc H' s' st=>q σ H' s' st Ca hc
   | bad=>rw [r] at q;exact False.elim q
 ·exact False.elim q
theorem ri (G:Gb X "list") (hm:X.mg "list"=none) (h:SE X e g) (he:starEach [e] X.env=[↥27]:=by rfl) (hpl:(backTo pos (starEach [] X.env)).any (·.1)=false:=by rfl) :
  FE X (.Call (.Name "list" p) [e] [] pos) (EV.call jh [g]):=by
 refine PE.weak (oN fG G.g hm boot_list (dG h gz he) G.n G.d he hpl) fun σ H Q ⟨δ,hσ,q⟩=>⟨δ,hσ,?_⟩
 unfold EV.call at q
 have fin:∀ {H':Hp} {a:Addr} {ys:List V} {ds:List D},RF X σ H (dH ds) Q->aq H H'->(SqL X.K H' a ys\/SqT X.K H' a ys)->Reps X.K X.mg H' ys ds->∃ p zs,[V.ref a]=[V.ref p]/\(SqL X.K H' p zs\/SqT X.K H' p zs)/\∀ l,H' l=none->Q (.ref l) (upd H' l (.lst zs)):=by
  intro H' a ys ds q sm hq rr
  unfold dH at q
  split at q
  ·rename_i fl
   have q':∀ a xs H'',aq H H''->H a=none->H'' a=some (.lst xs)->Reps X.K X.mg H'' xs ds->EV.D.flats ds=true->Q (.ref a) H'':=q
   exact ⟨a,ys,rfl,hq,fun l hl=>q' l ys _ (sm.trans (av hl _)) (by
    cases z:H l with
    | none=>rfl
    | some o=>rw [sm l o z] at hl;cases hl) aA (rr.mono (av hl _)) fl⟩
  ·exact False.elim q
 cases r:g δ with
 | ok d =>
  have ev:evs [g] δ=.ok [d]:=by unfold evs;rw [r];rfl
  rw [ev] at q
  simp only [R.bind] at q
  intro v H' sm rp
  cases d with
  | tup ds =>
   cases rp with
   | @tup a ys _ hq rr=>exact fin q sm (.inr hq) rr
  | lst ds =>
   cases rp with
   | @lst a ys _ hq rr=>exact fin q sm (.inl hq) rr
  | _=>exact False.elim q
 | ex C =>
  have ev:evs [g] δ=.ex C:=by unfold evs;rw [r];rfl
  rw [ev] at q
  exact q
 | bad =>
  have ev:evs [g] δ=.bad:=by unfold evs;rw [r];rfl
  rw [ev] at q
  exact False.elim q
theorem J5:NoX EH:=fun ds C z=>by
 unfold EH at z
 split at z
 ·split at z<;>cases z
 ·cases z
theorem mi:∀ {xs:List V} {ds:List D} {bs:List Bool} {us:List Value},boolsOf ds=some bs->Reps X.K X.mg H xs ds->Vals xs us->us=bs.map Value.bool
 | _,[],_,_,e,.nil,.nil=>by cases e;rfl
 | _,.bl b::r,bs,_,e,.cons h t,.cons h' t'=>by
  cases h
  unfold boolsOf at e
  cases q:boolsOf r with
  | none=>rw [q] at e;cases e
  | some ms =>
   rw [q] at e
   have e':b::ms=bs:=Option.some.inj e
   subst e'
   cases h'
   rw [mi q t t',List.map_cons]
 | _,.non::_,_,_,e,_,_=>by cases e
 | _,.int _::_,_,_,e,_,_=>by cases e
 | _,.str _::_,_,_,e,_,_=>by cases e
 | _,.tup _::_,_,_,e,_,_=>by cases e
 | _,.lst _::_,_,_,e,_,_=>by cases e
 | _,.own _::_,_,_,e,_,_=>by cases e
 | _,.ty _::_,_,_,e,_,_=>by cases e
 | _,.cls _::_,_,_,e,_,_=>by cases e
 | _,.exc _::_,_,_,e,_,_=>by cases e
 | _,.ins _ _::_,_,_,e,_,_=>by cases e
theorem Kn (hc:X.calm=true):eZ X (.builtin "any") (rC X EH):=by
 intro pins s σ H xs us Q I rs ⟨ds,d,r,e,q⟩
 unfold EH at e
 split at e
 ·rename_i ds'
  cases hbs:boolsOf ds' with
  | none=>rw [hbs] at e;cases e
  | some bs =>
   rw [hbs] at e
   cases e
   obtain ⟨v,rfl,r1⟩:=kd r
   cases r1 with
   | @lst a ys _ hq rr =>
    obtain ⟨its,rv,pl,_⟩:=I.list hq
    have e1:=mi hbs rr rv
    cases rs with
    | cons h1 h2 =>
     cases h2
     cases h1
     have hl:=pl.isList
     rw [e1] at hl
     have hlt:a<s.heap.objs.size:=by obtain ⟨_,z,_⟩:=hl;exact Heap.lt_size z
     refine call_any_walk (wpAny_pyIter_list hl ⟨_,_,_,_,_,_,fun i=>(bs[i]?).getD false,rfl,Walks.list (A:=X.A.in1) (I.ok.hd hc) _ a (Nat.ne_of_lt hlt) (bs.map Value.bool).toArray,⟨⟨_,Heap.get?_push_size _ rfl,rfl,rfl⟩,hl.push _⟩,?_,fun h' tk hk => ?_⟩)
     ·intro i v s' Q' E' hP hQ
      have hQ':Q' ((bs[i]?).getD false) s':=hQ
      have hP':((bs.map Value.bool).toArray)[i]? = some v:=hP
      rw [List.getElem?_toArray,List.getElem?_map] at hP'
      cases hb:bs[i]? with
      | none=>rw [hb] at hP';cases hP'
      | some b =>
       rw [hb] at hP' hQ'
       cases hP'
       exact wpAny_truthy_bool hQ'
     ·have hold:∀ b o,s.heap.get? b=some o->h'.get? b=some o:=fun b o z=>hk b o (fun hm=>by
       rcases List.mem_cons.mp hm with e2 | hm
       ·exact absurd (e2▸Heap.lt_size z) (Nat.lt_irrefl _)
       ·cases hm) (Heap.get?_push_of_some _ z)
      have ea:(List.range (bs.map Value.bool).toArray.size).any (fun i=>(bs[i]?).getD false)=bs.any id:=by
       rw [List.size_toArray,List.length_map]
       apply Bool.eq_iff_iff.mpr
       simp only [List.any_eq_true,List.mem_range,id]
       constructor
       ·rintro ⟨i,hi,z⟩
        rw [List.getElem?_eq_getElem hi] at z
        exact ⟨_,List.getElem_mem hi,z⟩
       ·rintro ⟨b,hb,z⟩
        obtain ⟨i,hi,rfl⟩:=List.getElem_of_mem hb
        exact ⟨i,hi,by rw [List.getElem?_eq_getElem hi];exact z⟩
      rw [ea]
      exact ⟨.bl _,H,I.kept (t':=tk) hold,rfl,q _ _ ↥19 (.bl _)⟩
 ·cases e
end
end ES
namespace ES
open PySem PySem.Spec PyProof.Rows L2 EV
structure DA (K:PySem.W.Frag) (n:Str) (st:Stmt):Prop where
 ex:∃ f fd,PySem.W.nsIn K mainGlobals n=some (some (.ref f))/\Fun K n n st f fd
theorem Er {K:PySem.W.Frag} {n:Str} {st:Stmt} {f:Addr} {oc:Value} {od an:Option Addr} {osl:Array (Option Value)} {kV doc pm cdv ct:Value} (a:PySem.W.nsIn K mainGlobals n=some (some (.ref f))) (l:K.lookup f=some ⟨oc,od,.func (PySem.W.fnOf n n (dg st) (ah st) (aa st) .none kV doc pm an cdv ct),osl⟩)
  (c:PySem.W.codeIn K cdv n=true) (k:PySem.W.keepIn K (.ref f)=true):DA K n st:=⟨_,_,a,kK l c k⟩
theorem DA.fn {P:Program} {w:World} {K:PySem.W.Frag} {h:Heap} {mg:Str->Option Value} {base:Heap} {n:Str} {st:Stmt} {N G ps:List Str} {k a m:Nat} {g:S}
  (q:DA K n st) (KX:K.In h) (GG:h.Ns mainGlobals mg) (S:ScF N G ps (aa st)) (hn:ps.length=a) (hm:N.length=m) (B:∀ {f:Addr} {fd:FuncData},Fun K n n st f fd->Binds K fd ps [])
  (hbody:∀ X:Cx,Room k (at5 X P w K mg base).A->Lp (at5 X P w K mg base)->Own (at5 X P w K mg base)->Pl (at5 X P w K mg base) N G->(at5 X P w K mg base).env.scope=aa st->SSs (at5 X P w K mg base) (ah st) g) :
  FnP P w K mg base n (k+1) (fn a m g):=by
 obtain ⟨f,fd,a,F⟩:=q.ex
 exact HL (pG F S hn hm hbody) F.kp (PySem.W.mg_of KX GG a) (B F)
theorem FnP.c (F:FnP X.prog X.w X.K X.mg X.base x k f) (hr:Room j X.A) (h:k<=j:=by decide):Callee X x f:=F.callee hr h
end ES
local macro_rules | `(tactic| walk_at "S")=>`(tactic| exact ⟨⟨rfl,rfl,rfl,by decide +kernel,by decide +kernel,by decide +kernel,by decide +kernel⟩,by decide +kernel,by decide +kernel,by decide +kernel,by decide +kernel⟩)
namespace EV
def Kx:List Nat->Dt->List D->Option Dt
 | [],δ,[]=>some δ
 | i::is,δ,d::ds=>Kx is (δ.set i (some d)) ds
 | _,_,_=>none
def Be:D->D->R D
 | .lst xs,.int k=>if 0<=k/\k<=1000/\xs.length*k.toNat<=100000 then .ok (.lst (List.replicate k.toNat xs).flatten) else .bad
 | _,_=>.bad
end EV
namespace ES
open PySem PySem.Spec PyProof.Rows L2 EV
unseal SE ST SW SA SS SSs SI SO
section
variable {X:Cx}
end
end ES
namespace ES
open PySem PySem.Spec PyProof.Rows L2 EV
unseal SE ST SW SA SS SSs SI SO
def gIs:List Nat->TGs
 | []=>Pa
 | i::is=>Kc (rh i) (gIs is)
section
variable {X:Cx} {N:List Str} {e:Expr} {es:List Expr} {g:IT} {gb:S} {body:List Stmt} {is:List Nat} {pos:Pos}
theorem NR:∀ {is:List Nat} {xs:List V} {ds:List D} {σ:L2.St} {δ δ2:Dt} {os:List (Nat×Addr)},StO X H σ δ os->Reps X.K X.mg ↥20 xs ds->Kx is δ ds=some δ2->(∀ σ2 os2,StO X H σ2 δ2 os2->aq ↥20 (hide H os2)->Q σ2 H)->gIs is xs σ H Q
 | [],xs,ds,σ,δ,δ2,os,S,r,e,q=>by
  cases r with
  | nil=>cases e;exact ⟨rfl,q _ _ S ↥19⟩
  | cons _ _=>cases e
 | i::is,xs,ds,σ,δ,δ2,os,S,r,e,q=>by
  cases r with
  | nil=>cases e
  | cons ra rr =>
   obtain ⟨S2,s2⟩:=S.set (i:=i) ra
   exact ⟨_,_,rfl,NR S2 (rr.mono s2) e fun σ2 os2 S3 s3=>q σ2 os2 S3 (s2.trans s3)⟩
end
end ES
namespace ES
open PySem PySem.Spec PyProof.Rows L2 EV
section
variable {X:Cx} {N G:List Str} {e e1 e2 e3 e4:Expr} {es:List Expr} {g g1 g2 g3 g4:E} {gs:List E} {x:Str} {p pos:Pos} {f:List D->R D}
theorem Pl.v (P:Pl X N G) (i:Nat) (h:N[i]? = some x:=by rfl):SE X (.Name x pos) (var i):=gw P.sc i h
theorem Pl.w (P:Pl X N G) (i:Nat) (h:G[i]? = some x:=by rfl):Gb X x:=P.gb _ (mG i h)
theorem Pl.set (P:Pl X N G) (i:Nat) (h:SE X e g) (hN:N[i]? = some x:=by rfl) (hsw:swapsWith e (some (.Name x p)) pos.line X.env=pure false:=by rfl):SS X (.Assign [.Name x p] e pos) (assign i g):=Jw P.toSx i hN (P.sto _ (mG i hN)) h hsw
theorem Pl.ret (P:Pl X N G) (h:SE X e g):SS X (.Return (some e) pos) (ret g):=Jx P.toSx h
theorem Pl.if_ {c:Expr} {gc:E} {body els:List Stmt} {gb ge:S} (P:Pl X N G) (hc:ST X c gc) (ha:SSs X body gb) (hb:SSs X els ge):SS X (.If c body els pos) (ifs gc gb ge):=NI P.toSx hc ha hb
theorem Pl.xp (P:Pl X N G) (h:SE X e g) (hs:swapsWith e none pos.line X.env=pure false:=by rfl):SS X (.Expr e pos) (expr g):=Gj P.toSx h hs
theorem Pl.y {j} (P:Pl X N G) (i:Nat) (h:N[i]? = some x:=by rfl):SE X (.Subscript (.Name x p1) (.Constant (.int k) j p2) pos) (bin oIx (var i) (con (.int k))):=jd (gw P.sc i h) ae
theorem Pl.call (P:Pl X N G) (i:Nat) (c:Callee X x f) (ha:SA X (e::es) gs) (h:G[i]? = some x:=by rfl) (he:starEach (e::es) X.env=↥27::starEach es X.env:=by rfl) (hpl:(backTo pos (starEach es X.env)).any (·.1)=false:=by rfl) :
  SE X (.Call (.Name x p) (e::es) [] pos) (EV.call f gs):=pI c (P.gb _ (mG i h)) ha he hpl
theorem a1 (h1:SE X e1 g1) (s1:starEach [e1] X.env=(false,eval e1 X.env)::starEach [] X.env:=by rfl):SA X [e1] [g1]:=aj h1 fm s1
theorem a2 (h1:SE X e1 g1) (h2:SE X e2 g2) (s1:starEach [e1,e2] X.env=(false,eval e1 X.env)::starEach [e2] X.env:=by rfl) (s2:starEach [e2] X.env=(false,eval e2 X.env)::starEach [] X.env:=by rfl):SA X [e1,e2] [g1,g2]:=aj h1 (aj h2 fm s2) s1
theorem a3 (h1:SE X e1 g1) (h2:SE X e2 g2) (h3:SE X e3 g3) (s1:starEach [e1,e2,e3] X.env=(false,eval e1 X.env)::starEach [e2,e3] X.env:=by rfl) (s2:starEach [e2,e3] X.env=(false,eval e2 X.env)::starEach [e3] X.env:=by rfl) (s3:starEach [e3] X.env=(false,eval e3 X.env)::starEach [] X.env:=by rfl):SA X [e1,e2,e3] [g1,g2,g3]:=aj h1 (aj h2 (aj h3 fm s3) s2) s1
end
end ES
local macro_rules | `(tactic| walk_at "C")=>`(tactic| exact ⟨rfl,by decide +kernel,by decide +kernel,by decide +kernel,by decide +kernel,by decide +kernel,by decide +kernel,by decide +kernel,by decide +kernel,by decide +kernel⟩)
namespace ES
open PySem PySem.Spec PyProof.Rows L2 EV
unseal SE ST SW SA SS SSs SI SO
theorem JA (a:Int) (t:Tok) (l:Addr) (xs:Array Value) (n:Nat) (d1:Option Addr) (s1:Array (Option Value)) :
  Meets (Builtin.«int.__rmul__» ⟨[.int a t,.ref l],[]⟩) (fun _ R s=>s.heap.get? l=some { cls:=.type "list",dict:=d1,data:=.seq xs n,slots:=s1 }/\R (.ok (.ret .notImplemented)) s) :=
 .of_wp fun prog w A R s h=>by
  obtain ⟨hp,g,dd,tk,os⟩:=s
  obtain ⟨ha,h⟩:=h
  wp_walk using AutoSeq1.wpAny_loadPart' ha
  exact ⟨_,rfl,h⟩
theorem OO (l:Addr) (xs:Array Value) (n:Nat) (k:Int) (t:Tok) (d1:Option Addr) (s1:Array (Option Value)) (h1:¬ (!Builtin.List.listFitsIndex k)=true) (h2:¬ xs.size*k.toNat>(2^63 - 1) / 8) (h3:¬ Builtin.List.listTooLong (xs.size*k.toNat)=true)
  (h4:¬ (List.foldl (fun x1 x2=>x1++x2) #[] (List.replicate (if xs.isEmpty=true then 0 else k.toNat) xs)).size>sizeLine) :
  Meets (Builtin.«list.__mul__» ⟨[.ref l,.int k t],[]⟩) (fun _ R s=>s.heap.get? l=some { cls:=.type "list",dict:=d1,data:=.seq xs n,slots:=s1 } /\
   R (.ok (.ret (Value.ref s.heap.objs.size))) { s with heap:=s.heap.push { cls:=.type "list",data:=.seq (List.foldl (fun x1 x2=>x1++x2) #[] (List.replicate (if xs.isEmpty=true then 0 else k.toNat) xs)) } }) :=
 .of_wp fun prog w A R s h=>by
  obtain ⟨hp,g,dd,tk,os⟩:=s
  obtain ⟨ha,h⟩:=h
  wp_walk using AutoSeq1.wpAny_loadPart' ha
  show wpAny _ _ (ite _ _ _) _ _ _
  rw [if_neg h4]
  wp_walk
  exact ⟨_,rfl,h⟩
theorem sr {K:PySem.W.Frag} {mg:Str->Option Value} {H:Hp} {xs:List V} {ds:List D} (r:Reps K mg H xs ds):∀ k:Nat,Reps K mg H (List.replicate k xs).flatten (List.replicate k ds).flatten
 | 0=>.nil
 | k+1=>by
  rw [List.replicate_succ,List.replicate_succ,List.flatten_cons,List.flatten_cons]
  exact r.append (sr r k)
section
variable {X:Cx} {pos:Pos} {a b:Expr} {ga gb:E}
theorem JZ:i6 Be:=fun x y C z=>by unfold Be at z;split at z<;>first | cases z | exact dQ z
theorem Dg:OpR X (binaryOp .Mult) (rD X Be):=by
 intro pins s σ H x y v u Q I rx ry ⟨dx,dy,d,r1,r2,e,q⟩
 unfold Be at e
 split at e
 ·rename_i xs' k
  split at e
  ·rename_i hz
   cases e
   cases r1 with
   | @lst l xs _ hH rr =>
    cases r2
    cases rx
    obtain ⟨t,rfl⟩:=ry
    obtain ⟨its,r,⟨⟨c1,d1,t1,s1⟩,n,e,g1,g2,g3⟩,_⟩:=I.list hH
    simp only at g1 g2 g3
    subst g1 g2 g3
    have hl:=r.length
    have hl':=rr.length
    have hsz:xs.length*k.toNat<=sizeLine:=by rw [hl'];exact Nat.le_trans hz.2.2 (by rw [sizeLine_eq];decide)
    have hlen:its.toArray.size*k.toNat<=sizeLine:=by rw [List.size_toArray,<-hl];exact hsz
    have hcap:¬ its.toArray.size*k.toNat>(2^63 - 1) / 8:=by
     have:(sizeLine:Nat)<=(2^63 - 1) / 8:=by decide
     omega
    have hfit:¬ (!Builtin.List.listFitsIndex k)=true:=by
     rw [fitsIndex_both ⋯ ⋯]
     exact Bool.false_ne_true
    have hlong:¬ Builtin.List.listTooLong (its.toArray.size*k.toNat)=true:=by
     rw [sI hlen]
     exact Bool.false_ne_true
    have hnew:List.foldl (fun x1 x2=>x1++x2) #[] (List.replicate (if its.toArray.isEmpty=true then 0 else k.toNat) its.toArray)=(List.replicate k.toNat its).flatten.toArray:=by
     have f0:∀ m:Nat,List.foldl (fun x1 x2=>x1++x2) #[] (List.replicate m its.toArray)=(List.replicate m its).flatten.toArray:=fun m=>by
      have:=foldl_rep its m []
      rw [List.nil_append] at this
      exact this
     rw [f0]
     cases its with
     | nil=>simp
     | cons a r'=>rw [if_neg (by simp)]
    have hbig:¬ (List.foldl (fun x1 x2=>x1++x2) #[] (List.replicate (if its.toArray.isEmpty=true then 0 else k.toNat) its.toArray)).size>sizeLine:=by
     rw [hnew,List.size_toArray,len_rep,Nat.mul_comm]
     rw [List.size_toArray] at hlen
     omega
    refine wpAny_binaryOp_repeat_ref (T:="list") (U:="int") ↥3 ⟨_,e,rfl⟩ (fun s'=>typeIs_int s' k t) noFill_list_mul F.fills_int_mul F.slot_int_rmul repeat_list F.slot_int_index.lookup
     (call_meets F.slot_int_rmul (typeIs_int s k t) F.entry_int_rmul (F.args_int_rmul_2 _ _) (JA k t l its.toArray n _ _)
      ⟨e,rfl,⟨_,e,rfl⟩,call_meets F.slot_list_mul ⟨_,e,rfl⟩ F.entry_list_mul (F.args_list_mul_2 _ _) (OO l its.toArray n k t _ _ hfit hcap hlong hbig) ⟨e,?_⟩⟩)
    rw [hnew]
    exact ⟨.ref _,_,I.lnew (t':=s.toks) (r.rep k.toNat) (by rw [len_rep,Nat.mul_comm];exact hsz),rfl,q _ _ (av I.fresh _) (.lst (SqL.of aA) ((sr rr k.toNat).mono (av I.fresh _)))⟩
  ·cases e
 ·cases e
theorem Kj (ha:SE X a ga) (hb:SE X b gb):SE X (.BinOp a .Mult b pos) (EV.bin Be ga gb):=kL JZ Dg ha hb
end
end ES
namespace EV
end EV
namespace ES
open PySem PySem.Spec PyProof.Rows L2 EV
unseal SE ST SW SA SS SSs SI SO
section
variable {X:Cx} {pos:Pos} {a b:Expr} {ga gb:E}
end
end ES
namespace EV
end EV
namespace ES
open PySem PySem.Spec PyProof.Rows L2 EV
unseal SE ST SW SA SS SSs SI SO
section
variable {X:Cx} {pos p p2:Pos} {a e:Expr} {g:E} {lo hi:Option Expr} {gl gu:Option E}
structure IsW (X:Cx) (n:String) (C:Addr):Prop where
 mg:X.mg n=some (.ref C)
 cl:Cls X.K C
 ha:PySem.W.findIn X.K (.ref C) "__class__"=some (some (.builtin "object.__class__"))
 hn:PySem.W.specialIn X.K (.builtin "object.__class__") "__get__"=some (some (.builtin "getset_descriptor.__get__"))
 htk:PySem.W.takesIn X.K (.builtin "object.__class__")=some true
 hm:PySem.W.mroIn X.K C (.type "object")=some true
 kit:PySem.W.kitOne X.K (.ref C) (.ref C)=some true
end
end ES
namespace EV
def zf (x:PySem.Str) (i:Int):PySem.Str:=if i<=x.cps.size then x else ⟨(List.replicate (i.toNat - x.cps.size) 48).toArray++x.cps⟩
end EV
namespace ES
open PySem PySem.Spec PyProof.Rows L2 EV
unseal SE ST SW SA SS SSs SI SO
section
variable {X:Cx} {pos:Pos} {a b:Expr} {ga gb:E}
end
end ES
namespace EV
end EV
namespace ES
open PySem PySem.Spec PyProof.Rows L2 EV
unseal SE ST SW SA SS SSs SI SO
section
variable {X:Cx} {pos:Pos} {a b:Expr} {ga gb:E}
end
end ES
namespace EV
def dv (l:List Nat):Nat:=l.foldl (fun a c=>a*10+(c - 48)) 0
end EV
namespace ES
open PySem PySem.Spec PyProof.Rows L2 EV
unseal SE ST SW SA SS SSs SI SO
section
variable {X:Cx} {pos:Pos} {tg e a b:Expr} {g ga gb:E}
end
end ES
namespace EV
end EV
namespace ES
open PySem PySem.Spec PyProof.Rows L2 EV
abbrev IsZ (h:Heap) (z TI TO:Addr) (f0:Value) (b:Bool):Prop :=
 h.get? z=some { cls:=.type "zip",dict:=none,data:=.fields #[f0,.bool b,.bool false,.ref TI,.ref TO],slots := #[] }
section
variable {prog:Program} {w:World} {A:Around} {E:Value->Shared->Prop} {s:Shared}
end
structure Zs (h:Heap) (z TI TO i1 i2 l1 l2 S N0:Addr) (xs ys:Array Value) (i:Nat) (acc:Array Value):Prop where
 zf:(IsZip h z TI TO .none/\∃ a b,IsPair h TO a b)\/∃ (T:Addr) (b:Bool),IsZ h z TI TO (rawInt T) b/\(∃ o,h.get? T=some o)/\N0<=T
 ti:IsPair h TI (.ref i1) (.ref i2)
 h1:h.IsListIter i1 l1 i
 h2:h.IsListIter i2 l2 i
 hl1:h.IsList l1 xs
 hl2:h.IsList l2 ys
 sz:N0<=h.objs.size
 al:acc.size=i
 ac:∀ (j:Nat) (v:Value),acc[j]? = some v->∃ (a:Addr) (x y:Value),v=Value.ref a/\xs[j]? = some x/\ys[j]? = some y/\IsPair h a x y/\N0<=a
 inj:∀ (j j':Nat) (a:Addr),acc[j]? = some (Value.ref a)->acc[j']? = some (Value.ref a)->j=j'
structure Zap (z TI TO i1 i2 l1 l2 S N0:Addr):Prop where
 D:ZipApart z TI TO i1 i2 l1 l2
 zN:z<N0
 TIN:TI<N0
 TON:TO<N0
 i1N:i1<N0
 i2N:i2<N0
 SN:S<N0
 Sz:S≠z
 STI:S≠TI
 STO:S≠TO
 Si1:S≠i1
 Si2:S≠i2
 Sl1:S≠l1
 Sl2:S≠l2
section
variable {prog:Program} {w:World} {A:Around} {R:Result->Shared->Prop} {z TI TO i1 i2 l1 l2 S N0:Addr} {xs ys:Array Value}
end
section
variable {prog:Program} {w:World} {A:Around} {E:Value->Shared->Prop} {s:Shared} {xs ys:Array Value}
end
section
variable {X:Cx} {pins:List ↥10} {σ:L2.St} {H H':Hp} {s:Shared}
end
unseal SE ST SW SA SS SSs SI SO
section
variable {X:Cx} {a b:Expr} {ga gb:E} {p p2 pos pos2:Pos}
end
end ES
namespace ES
open PySem PySem.Spec PyProof.Rows L2 EV
unseal SE ST SW SA SS SSs SI SO
section
variable {X:Cx} {N:List Str} {e e2:Expr} {g g2:E} {pos:Pos}
end
end ES
namespace EV
end EV
namespace ES
open PySem PySem.Spec PyProof.Rows L2 EV
unseal SE ST SW SA SS SSs SI SO
section
variable {prog:Program} {w:World} {A:Around} {E:Value->Shared->Prop} {s:Shared}
end
section
variable {X:Cx} {a b:Expr} {ga gb:E} {p p2 pos pos2:Pos}
end
end ES
namespace ES
open PySem PySem.Spec PyProof.Rows L2 EV
unseal SE ST SW SA SS SSs SI SO
section
variable {X:Cx} {pins:List ↥10} {σ:L2.St} {H:Hp} {s:Shared} {h':Heap}
end
section
variable {X:Cx} {a b:Expr} {ga gb:E} {p pos:Pos}
end
section
variable {X:Cx}
end
section
variable {prog:Program} {w:World} {A:Around} {E:Value->Shared->Prop} {s:Shared}
end
section
variable {X:Cx} {N:List Str} {e:Expr} {es:List Expr} {g:E} {is:List Nat} {pos:Pos}
end
end ES
namespace ES
open PySem PySem.Spec PyProof.Rows L2 EV
section
variable {K:PySem.W.Frag} {mg:Str->Option Value} {Cs ns:List (String×Addr)} {q:String×Addr}
end
end ES
namespace EV
def IC (i j:Nat):S:=fun δ=>match δ[i]?,δ[j]? with
 | some (some (.own ds)),some (some (.int k))=>if D.flats ds=true then .rt (.tup [.lst ds,.int k]) else .bad
 | some (some (.own ds)),some (some (.own es))=>if D.flats ds=true/\D.flats es=true then .rt (.tup [.lst ds,.lst es]) else .bad
 | _,_=>.bad
def okT (r:R D) (f:List D->D->O):O:=match r with | .ok (.tup [.lst ys,d])=>f ys d | _=>.bad
def okF (r:R D) (o:O):O:=match r with | .ok ↥33=>o | _=>.bad
def okL (r:R D) (f:List D->O):O:=match r with | .ok (.lst zs)=>f zs | _=>.bad
def okI (r:R D) (f:Int->O):O:=match r with | .ok (.int m)=>f m | _=>.bad
def okB (r:R D):O:=match r with | .ok (.bl b)=>.rt (.bl b) | _=>.bad
def few (rs:List D) (o:O):O:=if rs.length<100000 then o else .bad
def mj (i3 i4 i5:Nat) (g2 gc3 g4 g5 gc6 g7 g8:E):S:=fun δ=>gq i3 δ fun rs=>few rs <|
 okT (g2 (δ.set i3 (some (.lst rs)))) fun ys d =>
 let b1:=(δ.set i3 none).set i4 none
 let δ1:=(b1.set i3 (some (.lst rs))).set i4 (some (.tup [.lst ys,d]))
 few ys<|okF (gc3 δ1)<|okL (g4 δ1) fun zs =>
 let b2:=b1.set i5 none
 okI (g5 (((b2.set i3 (some (.lst rs))).set i4 (some (.tup [.lst ys,d]))).set i5 (some (.lst zs)))) fun m =>
 let δ3:=((b2.set i3 (some (.lst (rs++[.int m])))).set i4 (some (.tup [.lst ys,d]))).set i5 (some (.lst zs))
 okF (gc6 δ3)<|okI (g7 δ3) fun _=>okB (g8 ((b2.set i3 (some (.lst (rs++[.int m])))).set i5 (some (.lst zs))))
end EV
namespace ES
open PySem PySem.Spec PyProof.Rows L2 EV
unseal SE ST SW SA SS SSs SI SO SSF
def Fr (K:PySem.W.Frag) (mg:Str->Option Value) (H H':Hp) (v:V) (d:D):Prop:=(∃ i,v=.int i/\d=.int i)\/∃ b vs ds,v=.ref b/\d=.lst ds/\H b=none/\H' b=some (.lst vs)/\Reps K mg H' vs ds/\EV.D.flats ds=true
def FrT (K:PySem.W.Frag) (mg:Str->Option Value) (H H':Hp) (v:V) (d:D):Prop:=∃ t v1 v2 d1 d2,v=.ref t/\d=.tup [d1,d2]/\H' t=some (.tup [v1,v2])/\Fr K mg H H' v1 d1/\Fr K mg H H' v2 d2
section
variable {K:PySem.W.Frag} {mg:Str->Option Value} {F F' H:Hp} {v:V} {d:D}
theorem pj {b:Addr} (s:aq F F') (h:F' b=none):F b=none:=by
 cases q:F b with
 | none=>rfl
 | some o=>rw [s b o q] at h;cases h
theorem Fr.anti (s:aq F F') (h:Fr K mg F' H v d):Fr K mg F H v d:=by
 rcases h with h | ⟨b,vs,ds,h1,h2,h3,h4⟩
 ·exact .inl h
 ·exact .inr ⟨b,vs,ds,h1,h2,pj s h3,h4⟩
theorem FrT.anti (s:aq F F') (h:FrT K mg F' H v d):FrT K mg F H v d:=by
 obtain ⟨t,v1,v2,d1,d2,h1,h2,h3,h4,h5⟩:=h
 exact ⟨t,v1,v2,d1,d2,h1,h2,h3,h4.anti s,h5.anti s⟩
theorem Fr.rep (h:Fr K mg F H v d):Rep K mg H v d:=by
 rcases h with ⟨i,rfl,rfl⟩ | ⟨b,vs,ds,rfl,rfl,_,h,r,_⟩
 ·exact .int i
 ·exact .lst (SqL.of h) r
theorem Fr.keep {H':Hp} (f:Fr K mg F H v d) (n:NoL H H') (k:∀ b o,F b=none->H b=some o->H' b=some o):Rep K mg H' v d:=by
 rcases f with ⟨i,rfl,rfl⟩ | ⟨b,vs,ds,rfl,rfl,h0,h,r,fl⟩
 ·exact .int i
 ·exact .lst (SqL.of (k b _ h0 h)) (eA n fl r)
theorem FrT.rep (h:FrT K mg F H v d):Rep K mg H v d:=by
 obtain ⟨t,v1,v2,d1,d2,rfl,rfl,h3,h4,h5⟩:=h
 exact .tup (SqT.of h3) (.cons h4.rep (.cons h5.rep .nil))
end
def TQ (K:PySem.W.Frag) (mg:Str->Option Value) (H:Hp) (d:D) (Q:VK):Prop:=(∀ v H',aq H H'->FrT K mg H H' v d->Q v H')/\(d=.non->∀ H',aq H H'->Q .non H')
def RTT (X:Cx) (σ:L2.St) (H:Hp) (r:R D) (Q:VK):Prop:=match r with
 | .ok d=>TQ X.K X.mg H d Q
 | .ex C=>∀ Ca,X.mg C=some (.ref Ca)->∀ H',aq H H'->ew X Ca σ H'
 | .bad=>False
def TX (X:Cx) (e:Expr) (g:E):Prop:=PE X e fun σ H Q=>∃ δ,Stt X.K X.mg H σ δ/\RTT X σ H (g δ) Q
def OQT (X:Cx) (D:Ends) (F:Hp):O->Prop
 | .rt d=>∀ v H,aq F H->FrT X.K X.mg F H v d->D.rt v H
 | o=>OQ X D F o
def tST (X:Cx) (g:S):TS:=fun D σ H=>∃ δ os,StO X H σ δ os/\OQT X D ↥20 (g δ)
@[irreducible] def SST (X:Cx) (st:List Stmt) (g:S):Prop:=PSs X st (tST X g)
unseal SST
section
variable {X:Cx} {N:List Str}
theorem OQT.mono {D:Ends} {F F':Hp} {o:O} (s:aq F F') (h:OQT X D F o):OQT X D F' o:=by
 cases o with
 | rt d=>exact fun v H s' r=>h v H (s.trans s') (r.anti s)
 | nx δ=>exact OQ.mono (o:=.nx δ) s h
 | bk δ=>exact OQ.mono (o:=.bk δ) s h
 | ct δ=>exact OQ.mono (o:=.ct δ) s h
 | ex C δ=>exact OQ.mono (D:=D) (o:=.ex C δ) s h
 | mk C δ=>exact OQ.mono (D:=D) (o:=.mk C δ) s h
 | hx C δ=>exact OQ.mono (D:=D) (o:=.hx C δ) s h
 | bad=>exact False.elim h
variable {st:Stmt} {rest:List Stmt} {gs gr:S} {e:Expr} {g:E} {pos:Pos}
theorem oq (h:SS X st gs) (nr:∀ δ d,gs δ ≠ .rt d) (hr:SST X rest gr):SST X (st::rest) (seq gs gr):=PSs.weak (dq h hr) fun D σ H ⟨δ,os,S,h⟩=>⟨δ,os,S,by
 unfold seq at h
 cases q:gs δ with
 | nx δ' =>
  rw [q] at h
  exact fun σ' H' os' S' s'=>⟨δ',os',S',OQT.mono s' h⟩
 | rt d=>exact absurd q (nr δ d)
 | _=>rw [q] at h;exact OQ.lv (fun _ z=>nomatch z) h⟩
theorem vM {H:Hp} {σ:L2.St} {δ:Dt} {os:Os} {i:Nat} {ds:List D} {p:Addr} {o:HO} (S:StO X H σ δ os) (e:δ[i]? = some (some (.own ds))) (fl:EV.D.flats ds=true) (hp:H p=none) :
  ∃ v,σ[i]? = some (some v)/\Fr X.K X.mg ↥20 (upd H p o) v (.lst ds):=by
 obtain ⟨a,ha⟩:=S.own i ds e
 obtain ⟨xs,ds',h1,h2,h3,h4⟩:=S.lst _ ha
 rw [e] at h3
 cases h3
 exact ⟨_,h2,.inr ⟨a,xs,ds,rfl,rfl,gN (cR ha),av hp o _ _ h1,h4.mono ((aC H os).trans (av hp o)),fl⟩⟩
theorem Jj (C:Sx X N) (i j:Nat) {x y:Str} {p1 p2 p3:Pos} {k} (hx:N[i]? = some x) (hy:N[j]? = some y)
  (h1:starEach [.Name x p1,.Name y p2] X.env=(false,eval (.Name x p1) X.env)::starEach [.Name y p2] X.env:=by rfl) (h2:starEach [.Name y p2] X.env=(false,eval (.Name y p2) X.env)::starEach [] X.env:=by rfl) :
  SST X [.Return (some (.Tuple [.Name x p1,.Name y p2] k p3)) pos] (IC i j):=by
 have mx:x∈N:=List.mem_of_getElem? hx
 have my:y∈N:=List.mem_of_getElem? hy
 refine PSs.weak (nh (vF (A3 (dG (hU (i:=i) (by rw [C.sc.n];exact hx) (C.sc.vis x mx) (C.sc.dbg x mx).1 (C.sc.dbg x mx).2) (dG (hU (i:=j) (by rw [C.sc.n];exact hy) (C.sc.vis y my) (C.sc.dbg y my).1 (C.sc.dbg y my).2) gz h2) h1)))) fun D σ H ⟨δ,os,S,q⟩ => ?_
 have z2:2<=sizeLine:=by rw [sizeLine_eq];decide
 unfold IC at q
 split at q
 ·rename_i ds k ei ej
  split at q
  ·rename_i fl
   obtain ⟨a,ha⟩:=S.own i ds ei
   obtain ⟨xs,ds',h1,h2,h3,h4⟩:=S.lst _ ha
   obtain ⟨v,e1,e2⟩:=S.st.2 j _ ej (fun _ z=>nomatch z)
   cases e2
   refine ⟨_,h2,_,e1,z2,fun p hp=>q _ _ ((aC H os).trans (av hp _)) ?_⟩
   obtain ⟨v',e3,f⟩:=vM (o:=.tup [.ref a,.int k]) S ei fl hp
   rw [h2] at e3
   cases e3
   exact ⟨p,_,_,_,_,rfl,rfl,aA,f,.inl ⟨k,rfl,rfl⟩⟩
  ·exact False.elim q
 ·rename_i ds es ei ej
  split at q
  ·rename_i fl
   obtain ⟨a,ha⟩:=S.own i ds ei
   obtain ⟨_,_,_,h2,_,_⟩:=S.lst _ ha
   obtain ⟨b,hb⟩:=S.own j es ej
   obtain ⟨_,_,_,h3,_,_⟩:=S.lst _ hb
   refine ⟨_,h2,_,h3,z2,fun p hp=>q _ _ ((aC H os).trans (av hp _)) ?_⟩
   obtain ⟨v',e3,f⟩:=vM (o:=.tup [.ref a,.ref b]) S ei fl.1 hp
   obtain ⟨w',e4,f'⟩:=vM (o:=.tup [.ref a,.ref b]) S ej fl.2 hp
   rw [h2] at e3
   rw [h3] at e4
   cases e3
   cases e4
   exact ⟨p,_,_,_,_,rfl,rfl,aA,f,f'⟩
  ·exact False.elim q
 ·exact False.elim q
end
theorem Bf {a b:S} (ha:∀ δ d,a δ ≠ .rt d) (hb:∀ δ d,b δ ≠ .rt d):∀ δ d,seq a b δ ≠ .rt d:=fun δ d z=>by
 unfold seq O.then at z
 split at z
 ·exact hb _ _ z
 ·exact ha _ _ z
theorem wb {g:E}:∀ δ d,expr g δ ≠ .rt d:=fun δ d z=>by
 unfold expr at z
 cases r:g δ<;>rw [r] at z<;>cases z
theorem Hh {i:Nat} {δ:Dt} {r:R D} {d:D}:asg i δ r ≠ .rt d:=fun z=>by
 cases r<;>cases z
theorem ph {i:Nat} {g:E}:∀ δ d,assign i g δ ≠ .rt d:=fun δ d z=>Hh z
theorem uo {i:Nat} {g:E}:∀ δ d,iY i g δ ≠ .rt d:=fun δ d z=>by
 unfold iY E6 at z
 split at z
 ·split at z<;>cases z
 ·cases z
 ·cases z
theorem v7 {i:Nat}:∀ δ d,oQ i δ ≠ .rt d:=fun δ d z=>by cases z
theorem pf {i:Nat} {g:E}:∀ δ d,gA i g δ ≠ .rt d:=fun δ d z=>by
 unfold gA gq at z
 split at z
 ·unfold Bt at z
  split at z
  ·dsimp only at z
   split at z<;>cases z
  ·cases z
  ·cases z
 ·cases z
theorem DL {c:E} {a b:S} (ha:∀ δ d,a δ ≠ .rt d) (hb:∀ δ d,b δ ≠ .rt d):∀ δ d,Ac c a b δ ≠ .rt d:=fun δ d z=>by
 unfold Ac ifO at z
 split at z
 ·exact ha δ d z
 ·exact hb δ d z
 ·cases z
 ·cases z
theorem wa {i:Nat} {b:S} (hb:∀ δ d,b δ ≠ .rt d):∀ ds δ d,forL i b ds δ ≠ .rt d
 | [],δ,d=>fun z=>by cases z
 | x::xs,δ,d=>fun z=>by
  unfold forL at z
  cases r:b (δ.set i (some x)) with
  | rt d'=>exact hb _ _ r
  | _=>rw [r] at z;first | cases z | exact wa hb xs _ _ z
theorem DM {i:Nat} {it:IT} {b:S} (hb:∀ δ d,b δ ≠ .rt d):∀ δ d,xi i it b δ ≠ .rt d:=fun δ d z=>by
 unfold xi at z
 cases r:it δ<;>rw [r] at z
 ·exact wa hb _ _ _ z
 ·cases z
 ·cases z
def spT (K:PySem.W.Frag) (mg:Str->Option Value) (f:List D->R D):Sp:=fun vs H Q E=>∃ ds,Reps K mg H vs ds/\match f ds with
 | .ok d=>TQ K mg H d Q
 | .ex C=>∀ Ca,mg C=some (.ref Ca)->∀ H',aq H H'->E (.ref Ca) none H'
 | .bad=>False
theorem HK {P:Program} {w:World} {K:PySem.W.Frag} {mg:Str->Option Value} {base:Heap} {x qual:Str} {st:Stmt} {f:Addr} {fd:FuncData} {N G ps:List Str} {k n m:Nat} {g:S}
  (F:Fun K x qual st f fd) (S:ScF N G ps (aa st)) (hn:ps.length=n) (hm:N.length=m)
  (hbody:∀ X:Cx,Room k (at5 X P w K mg base).A->Lp (at5 X P w K mg base)->Own (at5 X P w K mg base)->Pl (at5 X P w K mg base) N G->(at5 X P w K mg base).env.scope=aa st->SST (at5 X P w K mg base) (ah st) g) :
  FnOk P w K mg base (CXF P w) (k+1) f fd ps (spT K mg (fn n m g)):=by
 obtain ⟨oc,od,kV,doc,pm,an,cdv,ct,osl,rfl,lk,hcd⟩:=F.ex
 have len:∀ {ds:List D},fn n m g ds ≠ .bad->ds.length=n:=fun {ds} h=>by
  unfold fn at h
  split at h
  ·assumption
  ·exact absurd rfl h
 refine Ee lk hcd S.fs (fun vs H Q E h => ?_) fun A outer s H vs Q E hr h => ?_
 ·obtain ⟨ds,rs,h⟩:=h
  rw [rs.length,hn]
  refine len fun z => ?_
  rw [z] at h
  exact h
 ·obtain ⟨ds,rs,h⟩:=h
  have hl:ds.length=n:=len fun z=>by rw [z] at h;exact h
  refine ⟨_,hbody (uT (CXF P w) P w K mg base N qual (aa st) f cdv A outer s H E) hr ⟨PassesOwn.leaving,rfl⟩ kq ⟨⟨⟨rfl,S.fs.nd,fun y hy=>Bh (S.loc y hy),S.dbg⟩,rfl⟩,fun y hy=>⟨S.loc y hy,.inl rfl⟩,fun y hy=>⟨S.glb y hy,(S.dbgG y hy).1,(S.dbgG y hy).2⟩⟩ rfl,_,[],StO.nil (ow rs hl hm) (j3 rs),?_⟩
  rw [nC]
  unfold fn at h
  rw [if_pos hl] at h
  cases e:g (EV.start n m ds) with
  | nx δ=>rw [e] at h;exact fun σ H' os S' s'=>h.2 rfl H' (s'.trans (aC _ _))
  | rt d=>rw [e] at h;exact h.1
  | ex C δ=>rw [e] at h;exact fun σ H' s' _ Ca hc=>Bl s' (h Ca hc H' s')
  | mk C δ=>rw [e] at h;exact fun σ H' s' Ca hc=>Bn s' (h Ca hc H' s')
  | hx C δ=>rw [e] at h;exact fun σ H' s' _ Ca hc=>xq s' (h Ca hc H' s')
  | bk δ=>rw [e] at h;exact False.elim h
  | ct δ=>rw [e] at h;exact False.elim h
  | bad=>rw [e] at h;exact False.elim h
structure FnT (P:Program) (w:World) (K:PySem.W.Frag) (mg:Str->Option Value) (base:Heap) (x:Str) (k:Nat) (f:List D->R D):Prop where
 ex:∃ fa fd ps,FnOk P w K mg base (CXF P w) k fa fd ps (spT K mg f)/\mg x=some (.ref fa)/\PySem.W.keepIn K (.ref fa)=true/\Binds K fd ps []
structure CalleeT (X:Cx) (x:Str) (f:List D->R D):Prop where
 ex:∃ k fa fd ps,FnOk X.prog X.w X.K X.mg X.base (CXF X.prog X.w) k fa fd ps (spT X.K X.mg f)/\Room k X.A/\X.mg x=some (.ref fa)/\PySem.W.keepIn X.K (.ref fa)=true/\Binds X.K fd ps []
theorem FnT.callee {X:Cx} {x:Str} {k j:Nat} {f:List D->R D} (F:FnT X.prog X.w X.K X.mg X.base x k f) (hr:Room j X.A) (h:k<=j):CalleeT X x f:=by
 obtain ⟨fa,fd,ps,a,b,c,d⟩:=F.ex
 exact ⟨k,fa,fd,ps,a,hr.mono h,b,c,d⟩
theorem FnT.p {P:Program} {w:World} {K:PySem.W.Frag} {mg:Str->Option Value} {base:Heap} {x:Str} {k:Nat} {f:List D->R D} (F:FnT P w K mg base x k f):FnP P w K mg base x k f:=by
 obtain ⟨fa,fd,ps,a,b⟩:=F.ex
 refine ⟨fa,fd,ps,a.imp fun vs H Q E ⟨ds,rs,h⟩=>⟨ds,rs,?_⟩,b⟩
 cases e:f ds with
 | ok d=>rw [e] at h;exact ⟨fun v H' s r=>h v H' s r.rep,fun z H' s=>h .non H' s (by rw [z];exact .non)⟩
 | ex C=>rw [e] at h;exact h
 | bad=>rw [e] at h;exact h
section
variable {X:Cx} {N:List Str} {x:Str} {f:List D->R D} {e:Expr} {es:List Expr} {gs:List E} {p pos:Pos} {g:E}
theorem TQ.mono {K:PySem.W.Frag} {mg:Str->Option Value} {H H1:Hp} {d:D} {Q:VK} (s:aq H H1) (h:TQ K mg H d Q):TQ K mg H1 d Q:=⟨fun v H' s' r=>h.1 v H' (s.trans s') (r.anti s),fun z H' s'=>h.2 z H' (s.trans s')⟩
theorem Jy {k:Nat} {fa:Addr} {fd:FuncData} {ps:List Str} {pins:List ↥10} {σ:L2.St} {H:Hp} {s:Shared} {Q:VK} {us:List Value} {vs:List V} {ds:List D}
  (F:FnOk X.prog X.w X.K X.mg X.base (CXF X.prog X.w) k fa fd ps (spT X.K X.mg f)) (hr:Room k X.A) (hb:Binds X.K fd ps []) (I:Inv X pins σ H s) (r:Vals vs us) (rs:Reps X.K X.mg H vs ds) (q:RTT X σ H (f ds) Q) :
  wpAny ↥5 X.A (PySem.call (.ref fa) us) (EP X pins σ Q) X.xe s:=by
 have hsp:spT X.K X.mg f vs H Q (fun c _ H'=>∃ C Ca,f ds=.ex C/\X.mg C=some (.ref Ca)/\c=.ref Ca/\aq H H'):=⟨ds,rs,by
  cases e:f ds with
  | ok d=>rw [e] at q;exact q
  | ex C=>exact fun Ca hc H' s'=>⟨C,Ca,rfl,hc,rfl,s'⟩
  | bad=>rw [e] at q;exact False.elim q⟩
 have hl:us.length=ps.length:=by rw [<- r.length];exact F.len _ _ _ _ hsp
 have hb':=hb s us I.kIn (by rw [List.append_nil];exact hl)
 rw [List.append_nil] at hb'
 refine wpAny_call (codeAny_mono (F.run X.A X.stack s H ⟨us,[]⟩ us vs _ _ hr I.env0 hb' r hsp) fun r s' hq => ?_)
 cases r with
 | error er =>
  obtain ⟨C',H',ea,rfl,FX,C,Ca,e1,hc,e2,s2⟩:=hq
  cases e2
  rw [e1] at q
  exact q C' hc H' s2 pins H s ea s' I FX
 | ok fl =>
  cases fl with
  | ret u=>exact I.after hq
  | next=>exact False.elim hq
  | brk=>exact False.elim hq
  | cont=>exact False.elim hq
theorem x_call (c:CalleeT X x f) (G:Gb X x) (ha:SA X (e::es) gs) (he:starEach (e::es) X.env=↥27::starEach es X.env:=by rfl) (hpl:(backTo pos (starEach es X.env)).any (·.1)=false:=by rfl) :
  TX X (.Call (.Name x p) (e::es) [] pos) (EV.call f gs):=by
 obtain ⟨k,fa,fd,ps,F,hr,hm,hk,hb⟩:=c.ex
 intro pins s σ H Q I ⟨δ,hσ,h⟩
 refine wpAny_Call_Name_kw (kF I G.g hm ?_ G.d)
 have hA:RA X σ H (evs gs δ) (fun vs H1=>aq H H1/\∃ ds,Reps X.K X.mg H1 vs ds/\RTT X σ H1 (f ds) Q):=by
  unfold EV.call at h
  cases r:evs gs δ with
  | ok ds =>
   rw [r] at h
   exact fun vs H1 sm rs=>⟨sm,ds,rs,by
    simp only [R.bind] at h
    cases q:f ds with
    | ok d=>rw [q] at h;exact TQ.mono sm h
    | ex C=>rw [q] at h;exact fun Ca hc H' s'=>h Ca hc H' (sm.trans s')
    | bad=>rw [q] at h;exact False.elim h⟩
  | ex C=>rw [r] at h;exact h
  | bad=>rw [r] at h;exact False.elim h
 refine PySem.W.callWith_K (h₀:=X.base) I.ok.mod.kin hk (thn (ha pos pins s σ H _ I ⟨δ,hσ,hA⟩) fun us s1 ⟨vs,H1,I1,r,sm,ds,rs,q⟩=>⟨I1.kIn,Jy F hr hb I1 r rs q⟩) he hpl
end
section
variable {X:Cx} {D:Ends} {F:Hp} {r:R EV.D}
theorem Dr {f:List EV.D->EV.D->O} (h:OQ X D F (okT r f)):∃ ys d,r=.ok (.tup [.lst ys,d])/\OQ X D F (f ys d):=by
 unfold okT at h
 split at h
 ·exact ⟨_,_,rfl,h⟩
 ·exact False.elim h
theorem vT {o:O} (h:OQ X D F (okF r o)):r=.ok ↥33/\OQ X D F o:=by
 unfold okF at h
 split at h
 ·exact ⟨rfl,h⟩
 ·exact False.elim h
theorem Ds {f:List EV.D->O} (h:OQ X D F (okL r f)):∃ ys,r=.ok (.lst ys)/\OQ X D F (f ys):=by
 unfold okL at h
 split at h
 ·exact ⟨_,rfl,h⟩
 ·exact False.elim h
theorem vR {f:Int->O} (h:OQ X D F (okI r f)):∃ m,r=.ok (.int m)/\OQ X D F (f m):=by
 unfold okI at h
 split at h
 ·exact ⟨_,rfl,h⟩
 ·exact False.elim h
theorem Du (h:OQ X D F (okB r)):∃ b,r=.ok (.bl b)/\OQ X D F (.rt (.bl b)):=by
 unfold okB at h
 split at h
 ·exact ⟨_,rfl,h⟩
 ·exact False.elim h
theorem xl {rs:List EV.D} {o:O} (h:OQ X D F (few rs o)):rs.length<100000/\OQ X D F o:=by
 unfold few at h
 split at h
 ·exact ⟨by assumption,h⟩
 ·exact False.elim h
end
section
variable {K:PySem.W.Frag} {mg:Str->Option Value} {H H' H'':Hp} {σ:L2.St} {δ:Dt} {i:Nat} {v:V} {d:D}
theorem Stt.put (h:Stt K mg H σ δ) (e:σ[i]? = some (some v)) (r:Rep K mg H v d):Stt K mg H σ (δ.set i (some d)):=by
 refine ⟨by rw [List.length_set];exact h.1,fun j d' q n => ?_⟩
 by_cases hj:j=i
 ·subst hj
  by_cases hl:j<δ.length
  ·rw [List.getElem?_set_self hl] at q
   cases q
   exact ⟨v,e,r⟩
  ·rw [List.getElem?_eq_none (by simp;omega)] at q
   cases q
 ·rw [List.getElem?_set_ne (Ne.symm hj)] at q
  exact h.2 j d' q n
theorem Stt.chg {w:Option V} (h:Stt K mg H σ δ):Stt K mg H (σ.set i w) (δ.set i none):=by
 refine ⟨by rw [List.length_set,List.length_set];exact h.1,fun j d' q n => ?_⟩
 by_cases hj:j=i
 ·subst hj
  by_cases hl:j<δ.length
  ·rw [List.getElem?_set_self hl] at q
   cases q
  ·rw [List.getElem?_eq_none (by simp;omega)] at q
   cases q
 ·rw [List.getElem?_set_ne (Ne.symm hj)] at q ⊢
  exact h.2 j d' q n
theorem Stt.del (h:Stt K mg H σ δ):Stt K mg H σ (δ.set i none):=by
 refine ⟨by rw [List.length_set];exact h.1,fun j d' q n => ?_⟩
 by_cases hj:j=i
 ·subst hj
  by_cases hl:j<δ.length
  ·rw [List.getElem?_set_self hl] at q
   cases q
  ·rw [List.getElem?_eq_none (by simp;omega)] at q
   cases q
 ·rw [List.getElem?_set_ne (Ne.symm hj)] at q
  exact h.2 j d' q n
theorem vz {a:Addr} {o:HO} (s:aq H H') (h:H a=none):aq H (upd H' a o):=fun b u q=>by rw [aL (bL q h)];exact s b u q
theorem NoL.of (s:aq H H'):NoL H H':=fun b o e _ _=>s b o e
theorem NoL.trans (s:NoL H H') (t:NoL H' H''):NoL H H'':=fun b o e n m=>t b o (s b o e n m) n m
theorem NoL.up {a:Addr} {xs:List V} {o:HO} (h:H a=some (.lst xs)):NoL H (upd H a o):=fun b u e n m=>by
 rw [aL fun z => ?_]
 ·exact e
 ·rw [z,h] at e
  cases e
  exact n xs rfl
end
section
variable {X:Cx} {N:List Str}
theorem zi (C:Sx X N) (i3 i4 i5:Nat) {x3 x4 x5:Str} (hN3:N[i3]? = some x3) (hN4:N[i4]? = some x4) (hN5:N[i5]? = some x5) (h4:Sto X x4) (h5:Sto X x5)
  {e2 c3 e4 e5 c6 e7 e8:Expr} {g2 gc3 g4 g5 gc6 g7 g8:E} {b3 b6:List Stmt} {q1 q2 q3 q4 q5 q6 q7 p4 p5 r1 r2 r3 r4 r5 r6 r7 r8:Pos} {kk}
  (k2:TX X e2 g2) (k3:ST X c3 gc3) (k4:FE X e4 g4) (k5:SE X e5 g5) (k6:ST X c6 gc6) (k7:SE X e7 g7) (k8:SE X e8 g8)
  (n34:i3≠i4:=by decide) (n35:i3≠i5:=by decide) (n45:i4≠i5:=by decide)
  (w2:swapsWith e2 (some (.Name x4 p4)) q1.line X.env=pure false:=by rfl) (w4:swapsWith e4 (some (.Name x5 p5)) q3.line X.env=pure false:=by rfl)
  (hb5:attributeBase (.Name x3 r1) "append" X.env (eval (.Name x3 r1) X.env)=eval (.Name x3 r1) X.env:=by rfl)
  (hf5:((backTo r3 (starEach [e5] X.env)).all (fun x => !x.1)&&(backToKw r3 (keywordEach [] X.env)).all (fun x=>x.1.isSome)
   && decide ([e5].length+([]:List Keyword).length+(if ([]:List Keyword).isEmpty then 0 else 1)<30))=true:=by rfl)
  (hl5:(r2.endLine == r3.line)=true:=by rfl) (hs5:starEach [e5] X.env=[(false,eval e5 X.env)]:=by rfl)
  (w5:swapsWith (.Call (.Attribute (.Name x3 r1) "append" r2) [e5] [] r3) none q4.line X.env=pure false:=by rfl)
  (hb7:attributeBase (.Subscript (.Name x4 r4) (.Constant (.int 0) kk r5) r6) "append" X.env (eval (.Subscript (.Name x4 r4) (.Constant (.int 0) kk r5) r6) X.env)=eval (.Subscript (.Name x4 r4) (.Constant (.int 0) kk r5) r6) X.env:=by rfl)
  (hf7:((backTo r8 (starEach [e7] X.env)).all (fun x => !x.1)&&(backToKw r8 (keywordEach [] X.env)).all (fun x=>x.1.isSome)
   && decide ([e7].length+([]:List Keyword).length+(if ([]:List Keyword).isEmpty then 0 else 1)<30))=true:=by rfl)
  (hl7:(r7.endLine == r8.line)=true:=by rfl) (hs7:starEach [e7] X.env=[(false,eval e7 X.env)]:=by rfl)
  (w7:swapsWith (.Call (.Attribute (.Subscript (.Name x4 r4) (.Constant (.int 0) kk r5) r6) "append" r7) [e7] [] r8) none q6.line X.env=pure false:=by rfl)
  (pi:rQ (.Constant (.int 0) kk r5):=by intro _ _;rfl) :
  SSs X [.Assign [.Name x4 p4] e2 q1,.If c3 b3 [] q2,.Assign [.Name x5 p5] e4 q3,.Expr (.Call (.Attribute (.Name x3 r1) "append" r2) [e5] [] r3) q4,.If c6 b6 [] q5,
   .Expr (.Call (.Attribute (.Subscript (.Name x4 r4) (.Constant (.int 0) kk r5) r6) "append" r7) [e7] [] r8) q6,.Return (some e8) q7] (mj i3 i4 i5 g2 gc3 g4 g5 gc6 g7 g8):=by
 intro pins s σ H D I ⟨δ,os,S,q⟩
 have m3:x3∈N:=List.mem_of_getElem? hN3
 have m4:x4∈N:=List.mem_of_getElem? hN4
 have nd:X.N.Nodup:=by rw [C.sc.n];exact C.sc.nd
 have l4:i4<σ.length:=by rw [I.len,C.sc.n];exact (List.getElem?_eq_some_iff.mp hN4).1
 have l5:i5<σ.length:=by rw [I.len,C.sc.n];exact (List.getElem?_eq_some_iff.mp hN5).1
 refine dq (oM (i:=i4) nd (by rw [C.sc.n];exact hN4) h4.1 k2 w2 h4.2) (dq (zo k3 oK qB) (dq (oM (i:=i5) nd (by rw [C.sc.n];exact hN5) h5.1 k4 w4 h5.2)
  (dq (kg (zt PySem.F.plainAttrs_list PySem.F.slot_list_append PySem.F.type_list_append ia (hU (i:=i3) (by rw [C.sc.n];exact hN3) (C.sc.vis x3 m3) (C.sc.dbg x3 m3).1 (C.sc.dbg x3 m3).2) (dG k5 gz hs5) hb5 hf5 hl5 hs5 (by rfl)) w5)
  (dq (zo k6 oK qB) (dq (kg (zt PySem.F.plainAttrs_list PySem.F.slot_list_append PySem.F.type_list_append ia (GL kH (hU (i:=i4) (by rw [C.sc.n];exact hN4) (C.sc.vis x4 m4) (C.sc.dbg x4 m4).1 (C.sc.dbg x4 m4).2) A6 pi) (dG k7 gz hs7) hb7 hf7 hl7 hs7 (by rfl)) w7)
  (nh (vF k8))))))) pins s σ H D I ?_
 unfold mj gq at q
 split at q
 ·rename_i rs e3
  obtain ⟨lr,q⟩:=xl q
  obtain ⟨ys,d,eg2,q⟩:=Dr q
  obtain ⟨ly,q⟩:=xl q
  obtain ⟨eg3,q⟩:=vT q
  obtain ⟨zs,eg4,q⟩:=Ds q
  obtain ⟨m,eg5,q⟩:=vR q
  obtain ⟨eg6,q⟩:=vT q
  obtain ⟨m',eg7,q⟩:=vR q
  obtain ⟨b,eg8,q⟩:=Du q
  obtain ⟨a,ha⟩:=S.own i3 rs e3
  obtain ⟨xs,rs',a1,a2,a3,a4⟩:=S.lst _ ha
  rw [e3] at a3
  cases a3
  have Fa:hide H os a=none:=gN (cR ha)
  have FH:=aC H os
  refine ⟨_,(S.st.mono FH).put a2 (.lst (SqL.of a1) (a4.mono FH)),?_⟩
  rw [eg2]
  refine ⟨fun v H1 s1 fT => ?_,fun z=>nomatch z⟩
  have rT:=fT.rep
  obtain ⟨t,v1,v2,d1,d2,ev,ed,ht,f1,f2⟩:=fT
  subst ev
  cases ed
  have f1':=f1
  obtain ⟨ba,vs,ds,rfl,ed,b0,b1,br,bf⟩:∃ b vs ds,v1=.ref b/\EV.D.lst ys=.lst ds/\H b=none/\H1 b=some (.lst vs)/\Reps X.K X.mg H1 vs ds/\EV.D.flats ds=true:=by
   rcases f1' with ⟨_,_,z⟩ | z
   ·cases z
   ·exact z
  cases ed
  have Fb:hide H os ba=none:=pj FH b0
  have ab:a≠ba:=fun z=>by rw [z,b0] at a1;cases a1
  have B1:∀ H',aq ↥20 H'->Stt X.K X.mg H' (σ.set i4 (some (.ref t))) ((δ.set i3 none).set i4 none):=fun H' sF=>((S.st.mono sF).del).chg
  have A1:(σ.set i4 (some (V.ref t)))[i3]? = some (some (.ref a)):=by rw [List.getElem?_set_ne n34.symm];exact a2
  have T1:=((B1 H1 (FH.trans s1)).put A1 (.lst (SqL.of (s1 _ _ a1)) (a4.mono (FH.trans s1)))).put (List.getElem?_set_self l4) rT
  refine ⟨_,T1,?_⟩
  rw [eg3]
  refine fun H2 s2=>Bi ⟨_,T1.mono s2,?_⟩
  rw [eg4]
  refine fun c cs H3 s3 c0 c1 cr cf => ?_
  have B2:∀ H',aq ↥20 H'->Stt X.K X.mg H' ((σ.set i4 (some (.ref t))).set i5 (some (.ref c))) (((δ.set i3 none).set i4 none).set i5 none):=fun H' sF=>(B1 H' sF).chg
  have A2:((σ.set i4 (some (V.ref t))).set i5 (some (V.ref c)))[i3]? = some (some (.ref a)):=by rw [List.getElem?_set_ne n35.symm];exact A1
  have T2:((σ.set i4 (some (V.ref t))).set i5 (some (V.ref c)))[i4]? = some (some (.ref t)):=by rw [List.getElem?_set_ne n45.symm];exact List.getElem?_set_self l4
  have C2:((σ.set i4 (some (V.ref t))).set i5 (some (V.ref c)))[i5]? = some (some (.ref c)):=List.getElem?_set_self (by rw [List.length_set];exact l5)
  have s13:=s2.trans s3
  have aH3:H3 a=some (.lst xs):=s13 _ _ (s1 _ _ a1)
  have ca:c≠a:=fun z=>by rw [z,s2 _ _ (s1 _ _ a1)] at c0;cases c0
  have cb:c≠ba:=fun z=>by rw [z,s2 _ _ b1] at c0;cases c0
  refine ⟨_,A2,.inl ⟨rfl,xs,SqL.of aH3⟩,_,(((B2 H3 (FH.trans (s1.trans s13))).put A2 (.lst (SqL.of aH3) (a4.mono (FH.trans (s1.trans s13))))).put T2 (rT.mono s13)).put C2 (.lst (SqL.of c1) cr),?_⟩
  rw [eg5]
  refine fun v H4 s4 rv => ?_
  cases rv
  have aH4:=s4 _ _ aH3
  refine ⟨a,xs,.int m,rfl,rfl,aH4,by rw [a4.length,sizeLine_eq];omega,?_⟩
  have s14:=s13.trans s4
  have FS5:aq ↥20 (upd H4 a (.lst (xs++[.int m]))):=vz (FH.trans (s1.trans s14)) Fa
  have n15:NoL H1 (upd H4 a (.lst (xs++[.int m]))):=(NoL.of s14).trans (NoL.up aH4)
  have k15:∀ b o,H b=none->H1 b=some o->upd H4 a (.lst (xs++[.int m])) b=some o:=fun b o n e=>by
   rw [aL fun z=>by rw [z,a1] at n;cases n]
   exact s14 b o e
  have n3:NoL H3 (upd H4 a (.lst (xs++[.int m]))):=(NoL.of s4).trans (NoL.up aH4)
  have c5:upd H4 a (.lst (xs++[.int m])) c=some (.lst cs):=by rw [aL ca];exact s4 _ _ c1
  have t5:=n15 t _ ht (fun _ z=>nomatch z) (fun _ _ z=>nomatch z)
  have T3:=(((B2 _ FS5).put A2 (.lst (SqL.of aA) ((a4.mono FS5).append (.cons (.int m) .nil)))).put T2 (.tup (SqT.of t5) (.cons (f1.keep n15 k15) (.cons (f2.keep n15 k15) .nil)))).put C2 (.lst (SqL.of c5) (eA n3 cf cr))
  refine ⟨_,T3,?_⟩
  rw [eg6]
  refine fun H6 s6=>Bi ?_
  have b6:=s6 _ _ (k15 ba _ b0 b1)
  refine ⟨_,T2,t,_,0,_,rfl,rfl,SqT.of (s6 _ _ t5),EL (j:=0) rfl,.inl ⟨rfl,vs,SqL.of b6⟩,_,T3.mono s6,?_⟩
  rw [eg7]
  refine fun v H7 s7 rv => ?_
  cases rv
  have b7:=s7 _ _ b6
  refine ⟨ba,vs,.int m',rfl,rfl,b7,by rw [br.length,sizeLine_eq];omega,?_⟩
  have s57:=s6.trans s7
  have FS8:aq ↥20 (upd H7 ba (.lst (vs++[.int m']))):=vz (FS5.trans s57) Fb
  refine ⟨_,((B2 _ FS8).put A2 (.lst (SqL.of (by rw [aL ab];exact s57 _ _ aA)) ((a4.mono FS8).append (.cons (.int m) .nil)))).put C2 (.lst (SqL.of (by rw [aL cb];exact s57 _ _ c5)) (eA (n3.trans ((NoL.of s57).trans (NoL.up b7))) cf cr)),?_⟩
  rw [eg8]
  exact fun v H9 s9 rv=>q v H9 (FS8.trans s9) rv
 ·exact False.elim q
end
end ES
namespace T
open EV
def cO:S :=
 seq (assign 1 (bin oMod (var 0) ⇑8))
 (seq (assign 2 (bin oDiv (var 0) ⇑8))
 (seq (ifs (bin oLt (var 1) ⇑4) (ret (bin oIx (qP [gy [⇑5,⇑10],gy [⇑8,⇑23],gy [⇑11,⇑52],gy [⇑15,⇑112]]) (var 1))) (ao))
 (seq (ifs (bin oLt (var 1) ⇑6) (ret (gy [bin bu ⇑2 (bin oMod (var 2) ⇑14),bin bu ⇑1 (bin oMod (bin oDiv (var 2) ⇑14) ⇑112)])) (ao))
 (ret (gy [bin bu ⇑2 (bin oMod (var 2) ⇑4),bin bu ⇑1 (bin oMod (bin oDiv (var 2) ⇑4) ⇑5)])))))
def bY:List D->R D:=fn 1 3 cO
def dA:S :=
 ret (bin oIx (qP [con (.str "even"),con (.str "away"),con (.str "nought"),con (.str "up"),con (.str "down")]) (bin oMod (var 0) ⇑5))
def cy:List D->R D:=fn 1 1 dA
def cg:S :=
 seq (assign 2 (bin bD ⇑1 (bin bu ↥13 ↥4)))
 (seq (assign 3 (bin cu (var 2) (bin bD ⇑1 ↥4)))
 (seq (assign 4 (bin oMod (var 1) ⇑6))
 (seq (assign 5 (bin oDiv (var 1) ⇑6))
 (seq (ifs (bin oLt (var 4) ⇑2) (seq (assign 10 (bin oMod (bin hZ (var 5) ⇑73846150927364518273645509182736455091829) (bin hZ ⇑2 (var 3))))
 (ret (bin bu (bin hZ (bin oDiv (var 10) (var 3)) (var 2)) (bin oMod (var 10) (var 3))))) (ao))
 (seq (assign 6 (bin hZ (bin oMod (var 5) ⇑2) (var 2)))
 (seq (assign 5 (bin oDiv (var 5) ⇑2))
 (seq (ifs (bin oEq (var 4) ⇑2) (ret (bin bu (var 6) (bin oMod (var 5) ⇑6))) (ao))
 (seq (ifs (bin oEq (var 4) ⇑3) (ret (bin cu (bin cu (bin bu (var 6) (var 3)) ⇑1) (bin oMod (var 5) ⇑4))) (ao))
 (seq (assign 7 (bin cu (bin bD ⇑1 (bin cu ↥13 ⇑1)) ⇑1))
 (seq (ifs (bin oEq (var 4) ⇑4) (ret (bin bu (bin cu (bin bu (var 6) (bin bD (var 7) ↥4)) ⇑2) (bin oMod (var 5) ⇑5))) (ao))
 (seq (assign 8 (call Br [⇑0,call EF [bin cu (bin bD ⇑1 ↥13) ⇑2,bin bu (bin cu (var 7) ⇑3) (bin oMod (var 5) ⇑8)]]))
 (seq (assign 9 (bin oMod (bin hZ (bin oDiv (var 5) ⇑8) ⇑73846150927364518273645509182736455091829) (bin bD ⇑1 ↥4)))
 (ret (bin bu (bin bu (var 6) (bin bD (var 8) ↥4)) (var 9)))))))))))))))
def bc:List D->R D:=fn 2 11 cg
def eR:S :=
 seq (assign 3 (bin bD ⇑1 (bin bu ↥13 ↥4)))
 (seq (assign 4 (bin cu (var 3) (bin bD ⇑1 ↥4)))
 (seq (ifs (fk (bin oGt (var 2) ⇑0) (bin oGt (bin oMod (var 1) (var 3)) (var 4))) (ret (bin bu (bin hZ (bin oDiv (var 1) (var 3)) (var 3)) (var 4))) (ao))
 (seq (ifs (fk (bin oGt (var 2) ⇑1) (bin oEq (bin oMod (var 1) (var 3)) ⇑0)) (ret (bin bu (var 1) ⇑1)) (ao))
 (ret (var 1)))))
def cZ:List D->R D:=fn 3 5 eR
def cQ:S :=
 seq (assign 2 (bin bD ⇑1 (bin bu ↥13 ↥4)))
 (seq (assign 3 (bin bD (bin cu (bin bD ⇑1 ↥13) ⇑1) ↥4))
 (seq (assign 4 (bin oMod (var 1) ⇑9))
 (seq (assign 5 (bin oDiv (var 1) ⇑9))
 (seq (ifs (bin oLt (var 4) ⇑3) (ret (bin oMod (bin hZ (var 5) ⇑73846150927364518273645509182736455091829) (bin hZ ⇑2 (var 2)))) (ao))
 (seq (assign 6 (bin hZ (bin oMod (var 5) ⇑2) (var 2)))
 (seq (assign 5 (bin oDiv (var 5) ⇑2))
 (seq (ifs (bin oEq (var 4) ⇑3) (ret (bin bu (var 6) (bin oMod (var 5) ⇑6))) (ao))
 (seq (ifs (bin oEq (var 4) ⇑4) (ret (bin bu (bin cu (bin bu (var 6) (var 3)) ⇑3) (bin oMod (var 5) ⇑5))) (ao))
 (seq (ifs (bin oEq (var 4) ⇑5) (ret (bin bu (bin cu (bin bu (var 6) (bin bD ⇑1 ↥4)) ⇑2) (bin oMod (var 5) ⇑4))) (ao))
 (seq (ifs (bin oEq (var 4) ⇑6) (ret (bin bu (bin cu (bin bu (var 6) (bin bD (bin cu (bin bD ⇑1 (bin cu ↥13 ⇑1)) ⇑1) ↥4)) ⇑2) (bin oMod (var 5) ⇑5))) (ao))
 (seq (ifs (bin oEq (var 4) ⇑7) (ret (bin bu (bin bu (bin bu (var 6) (var 3)) ⇑1) (bin oMod (var 5) (bin cu (bin bD ⇑1 ↥4) ⇑1)))) (ao))
 (seq (assign 7 (bin oIx (qP [⇑0,⇑1,bin cu (bin bD ⇑1 ↥4) ⇑1,bin bD ⇑1 (bin cu ↥4 ⇑1)]) (bin oMod (var 5) ⇑4)))
 (ret (bin bu (bin bu (var 6) (bin bD (bin oMod (bin oDiv (var 5) ⇑4) (bin bD ⇑1 ↥13)) ↥4)) (var 7)))))))))))))))
def bZ:List D->R D:=fn 2 8 cQ
def dB:S :=
 seq (assign 3 (bin bD ⇑1 (bin bu ↥13 ↥4)))
 (seq (oQ 4)
 (seq (xi 5 (itA (var 1)) (Ac (fk (bin oEq (bin oMod (var 5) ⇑7) ⇑6) (bin oGt (call nY [var 4]) ⇑0)) (gA 4 (bin oMod (bin bu (bin oIx (var 4) (un qI ⇑1)) (var 3)) (bin hZ ⇑2 (var 3)))) (ifs (bin oEq (bin oMod (var 2) ⇑3) ⇑0) (gA 4 (call bc [var 0,bin oDiv (var 5) ⇑7])) (gA 4 (call cZ [var 0,call bZ [var 0,bin oDiv (var 5) ⇑7],bin oMod (bin oMod (var 2) ⇑3) ⇑2])))))
 (C1 4 (ret (slc (bin Be (var 4) (bin bu ⇑1 (bin oMod (bin oDiv (var 2) ⇑3) ⇑3))) none (some ⇑200))))))
def cz:List D->R D:=fn 3 6 dB
def jT:S :=
 seq (ifs (bin gB (var 0) (con (.tup [.str "even",.str "away",.str "nought",.str "up",.str "down"]))) (raise "NoWay") (ao))
 (ret (call (mk1 "Way" "name") [var 0]))
def bp:List D->R D:=fn 1 1 jT
def f9:S :=
 ret (bin bD ⇑1 (bin bu ↥13 ↥4))
def bK:List D->R D:=fn 1 1 f9
def nF:S :=
 ret (bin bu (bin bu ↥13 ↥4) ⇑1)
def kj:List D->R D:=fn 1 1 nF
def jW:S :=
 seq (ifs (or_ (bin oLt (var 1) ⇑0) (bin oGe (var 1) (bin bD ⇑1 (call kj [var 0])))) (raise "NoBits") (ao))
 (seq (assign 2 (bin oMod (var 1) (call bK [var 0])))
 (seq (assign 3 (bin bD ⇑1 ↥4))
 (ret (gy [bin oDiv (var 1) (call bK [var 0]),bin oDiv (var 2) (var 3),bin oMod (var 2) (var 3)]))))
def bq:List D->R D:=fn 2 4 jW
def dD:S :=
 xi 2 (itA (var 1)) (expr (call bq [var 0,var 2]))
def cC:List D->R D:=fn 2 3 dD
def dC:S :=
 ret (bin cu (bin bD ⇑1 ↥13) ⇑1)
def aP:List D->R D:=fn 1 1 dC
def sU:S :=
 seq (assign 2 (call bq [var 0,var 1]))
 (seq (assign 3 (bin oIx (var 2) ⇑1))
 (seq (assign 4 (bin oIx (var 2) ⇑2))
 (seq (ifs (bin oEq (var 3) ⇑0) (ret (ife (bin oEq (var 4) ⇑0) (con (.str "nought")) (con (.str "faint")))) (ao))
 (seq (ifs (bin oEq (var 3) (call aP [var 0])) (ret (ife (bin oEq (var 4) ⇑0) (con (.str "endless")) (con (.str "none")))) (ao))
 (ret (con (.str "plain")))))))
def de:List D->R D:=fn 2 5 sU
def gj:S :=
 seq (fA 2 (fF (itA (var 1)) [0] (con ↥34) (call de [var 1,var 0])))
 (C1 2 (ret (bin oIn (con (.str "none")) (var 2))))
def dP:List D->R D:=fn 2 3 gj
def bE:S :=
 seq (assign 1 ↥4)
 (seq (assign 2 (bin oIx (var 0) ⇑2))
 (seq (ifs (bin oGe (var 2) ⇑0) (ret (gy [bin oIx (var 0) ⇑0,bin bD (var 1) (var 2),⇑1])) (ao))
 (ret (gy [bin oIx (var 0) ⇑0,var 1,bin bD ⇑1 (un qI (var 2))]))))
def aV:List D->R D:=fn 1 3 bE
def bG:S :=
 ifs (or_ (bin oLt (var 0) ⇑0) (bin oLt (var 1) ⇑1)) (raise "NoFraction") (ao)
def aX:List D->R D:=fn 2 2 bG
def jV:S :=
 seq (ifs (bin oGe (var 2) ⇑0) (ret (gy [var 0,bin bD (var 1) (var 2)])) (ao))
 (ret (gy [bin bD (var 0) (un qI (var 2)),var 1]))
def eB:List D->R D:=fn 3 3 jV
def sV:S :=
 ret (bin cu (bin bD ⇑1 (bin cu ↥13 ⇑1)) ⇑1)
def oP:List D->R D:=fn 1 1 sV
def Ai:S :=
 ret (bin cu (bin cu ⇑1 (call oP [var 0])) ↥4)
def ko:List D->R D:=fn 1 1 Ai
def bF:S :=
 seq (ifs (bin oEq (var 0) ⇑0) (ret ⇑0) (ao))
 (seq (ifs (bin oLt (var 1) (var 2)) (ret ⇑1) (ao))
 (ret (ife (bin oEq (var 1) (var 2)) ⇑2 ⇑3)))
def aW:List D->R D:=fn 3 3 bF
def ik:S :=
 ret (call aW [var 0,bin hZ ⇑2 (var 0),var 1])
def fw:List D->R D:=fn 2 2 ik
def jX:S :=
 seq (assign 2 (bin cu (call iX [var 0]) (call iX [var 1])))
 (seq (assign 3 (call eB [var 0,var 1,var 2]))
 (ret (ife (bin oLt (bin oIx (var 3) ⇑0) (bin oIx (var 3) ⇑1)) (var 2) (bin bu (var 2) ⇑1))))
def hX:List D->R D:=fn 2 4 jX
def xc:S :=
 seq (expr (call aX [var 1,var 2]))
 (seq (ifs (bin oEq (var 1) ⇑0) (ret (gy [⇑0,call ko [var 0],⇑0])) (ao))
 (seq (assign 3 (call Br [call ko [var 0],bin cu (bin cu (call hX [var 1,var 2]) ↥4) ⇑1]))
 (seq (assign 4 (call eB [var 1,var 2,var 3]))
 (ret (gy [bin oDiv (bin oIx (var 4) ⇑0) (bin oIx (var 4) ⇑1),var 3,call fw [bin oMod (bin oIx (var 4) ⇑0) (bin oIx (var 4) ⇑1),bin oIx (var 4) ⇑1]])))))
def qF:List D->R D:=fn 3 5 xc
def ir:S :=
 ret (bin bD (call aP [var 0]) ↥4)
def bg:List D->R D:=fn 1 1 ir
def jU:S :=
 ret (bin bu (bin hZ (var 1) (call bK [var 0])) (var 2))
def bV:List D->R D:=fn 3 3 jU
def dz:S :=
 seq (ifs (bin oEq (var 2) (call bg [var 0])) (ret (bin bu ⇑1 ⇑4)) (ao))
 (seq (assign 3 (bin oLt (var 1) (bin bD ⇑1 ↥4)))
 (ret (ife (var 3) (bin bu ⇑1 ⇑2) ⇑1)))
def cx:List D->R D:=fn 3 4 dz
def aQ:S :=
 seq (ifs (bin oEq (un (uS "Way" "name") (var 0)) (con (.str "up"))) (ret (bin oEq (var 1) ⇑0)) (ao))
 (ret (fk (bin oEq (un (uS "Way" "name") (var 0)) (con (.str "down"))) (bin oEq (var 1) ⇑1)))
def aJ:List D->R D:=fn 2 2 aQ
def df:S :=
 seq (ifs (bin oEq (var 3) ⇑0) (ret (con ↥33)) (ao))
 (seq (ifs (bin oEq (un (uS "Way" "name") (var 0)) ↥39) (ret (or_ (bin oEq (var 3) ⇑3) (fk (bin oEq (var 3) ⇑2) (var 2)))) (ao))
 (seq (ifs (bin oEq (un (uS "Way" "name") (var 0)) (con (.str "away"))) (ret (bin oGe (var 3) ⇑2)) (ao))
 (ret (E1 "Way" "flees_nought" aJ (var 0) [var 1]))))
def eC:List D->R D:=fn 4 4 df
def cD:S :=
 seq (ifs (bin oIn (un (uS "Way" "name") (var 0)) (gy [con (.str "even"),con (.str "away")])) (ret (con ↥34)) (ao))
 (ret (E1 "Way" "flees_nought" aJ (var 0) [var 1]))
def dt:List D->R D:=fn 2 2 cD
def ij:S :=
 seq (assign 6 (call bp [var 1]))
 (seq (assign 7 (bin bu (bin bD (bin cu (var 4) (call ko [var 0])) ↥4) (var 3)))
 (seq (assign 8 (call bg [var 0]))
 (seq (ifs (bin oGe (var 7) (var 8)) (seq (assign 9 (ife (E1 "Way" "bursts" dt (var 6) [var 2]) (var 8) (bin cu (var 8) ⇑1)))
 (ret (gy [call bV [var 0,var 2,var 9],bin bu ⇑1 ⇑4]))) (ao))
 (seq (ifs (bin oEq (var 5) ⇑0) (ret (gy [call bV [var 0,var 2,var 7],⇑0])) (ao))
 (seq (assign 9 (ife (E1 "Way" "grows" eC (var 6) [var 2,bin oEq (bin pe (var 7) ⇑1) ⇑1,var 5]) (bin bu (var 7) ⇑1) (var 7)))
 (ret (gy [call bV [var 0,var 2,var 9],call cx [var 0,var 7,var 9]])))))))
def ft:List D->R D:=fn 6 10 ij
def fD:S :=
 seq (expr (call bp [var 1]))
 (seq (assign 5 (call qF [var 0,var 3,var 4]))
 (ret (call ft [var 0,var 1,var 2,bin oIx (var 5) ⇑0,bin oIx (var 5) ⇑1,bin oIx (var 5) ⇑2])))
def bW:List D->R D:=fn 5 6 fD
def nG:S :=
 seq (assign 1 (call (nW 0) [comp (itA (var 0)) [] (bin oIx (var 0) ⇑2)]))
 (seq (assign 2 ⇑0)
 (seq (xi 3 (itA (var 0)) (seq (assign 4 (bin bD (bin oIx (var 3) ⇑1) (bin cu (bin oIx (var 3) ⇑2) (var 1))))
 (assign 2 (ife (bin oEq (bin oIx (var 3) ⇑0) ⇑1) (bin cu (var 2) (var 4)) (bin bu (var 2) (var 4))))))
 (ret (gy [ife (bin oLt (var 2) ⇑0) ⇑1 ⇑0,call EI [var 2],var 1]))))
def km:List D->R D:=fn 1 5 nG
def cN:S :=
 seq (expr (call bp [var 0]))
 (seq (ifs (fk (bin oIn ⇑0 (var 1)) (bin oIn ⇑1 (var 1))) (ret (ife (bin oEq (var 0) (con (.str "down"))) ⇑1 ⇑0)) (ao))
 (ret (ife (bin oIn ⇑1 (var 1)) ⇑1 ⇑0)))
def bX:List D->R D:=fn 2 2 cN
def bj:S :=
 seq (assign 3 (call aV [call km [var 2]]))
 (seq (ifs (bin oEq (bin oIx (var 3) ⇑1) ⇑0) (seq (assign 4 (call bX [var 1,comp (itA (var 2)) [] ↥13]))
 (ret (gy [call bV [var 0,var 4,⇑0],⇑0]))) (ao))
 (ret (call bW [var 0,var 1,bin oIx (var 3) ⇑0,bin oIx (var 3) ⇑1,bin oIx (var 3) ⇑2])))
def ax:List D->R D:=fn 3 5 bj
def eI:S :=
 ret (bin bu (call bg [var 0]) (bin bD ⇑1 (bin cu ↥4 ⇑1)))
def bb:List D->R D:=fn 1 1 eI
def bo:S :=
 seq (fA 3 (fF (itA (var 2)) [] (un qJ ↥4) ↥13))
 (seq (C1 3 (ifs (fk (bin oIn ⇑0 (var 3)) (bin oIn ⇑1 (var 3))) (ret (gy [call bb [var 0],⇑16])) (ao)))
 (seq (ifs (bin oGt (call nY [var 3]) ⇑0) (ret (gy [call bV [var 0,bin oIx (var 3) ⇑0,call bg [var 0]],⇑0])) (ao))
 (ret (call ax [var 0,var 1,var 2]))))
def aF:List D->R D:=fn 3 4 bo
def nD:S :=
 seq (assign 2 (call bq [var 0,var 1]))
 (seq (assign 3 (bin oIx (var 2) ⇑0))
 (seq (assign 4 (bin oIx (var 2) ⇑1))
 (seq (assign 5 (bin oIx (var 2) ⇑2))
 (seq (ifs (bin oEq (var 4) (call aP [var 0])) (raise "NotFinite") (ao))
 (seq (ifs (bin oEq (var 4) ⇑0) (ret (gy [var 3,var 5,call ko [var 0]])) (ao))
 (ret (gy [var 3,bin bu (bin bD ⇑1 ↥4) (var 5),bin cu (bin bu (call ko [var 0]) (var 4)) ⇑1])))))))
def ki:List D->R D:=fn 2 6 nD
def cc:S :=
 seq (ifs (bin oEq (call de [var 0,var 1]) (con (.str "endless"))) (ret (gy [bin oIx (call bq [var 0,var 1]) ⇑0,con .non,⇑0])) (ao))
 (ret (call ki [var 0,var 1]))
def az:List D->R D:=fn 2 2 cc
def cv:S :=
 seq (assign 3 (call az [var 0,var 1]))
 (seq (assign 4 (call az [var 0,var 2]))
 (seq (assign 5 (bin qK (bin oIx (var 3) ⇑0) (bin oIx (var 4) ⇑0)))
 (seq (ifs (or_ (un qJ (bin oIx (var 3) ⇑1)) (un qJ (bin oIx (var 4) ⇑1))) (ret (gy [var 5,con .non,⇑0])) (ao))
 (ret (gy [var 5,bin hZ (bin oIx (var 3) ⇑1) (bin oIx (var 4) ⇑1),bin bu (bin oIx (var 3) ⇑2) (bin oIx (var 4) ⇑2)])))))
def aY:List D->R D:=fn 3 6 cv
def b9:S :=
 seq (assign 3 (gy [call de [var 0,var 1],call de [var 0,var 2]]))
 (ret (fk (bin oIn (con (.str "nought")) (var 3)) (bin oIn (con (.str "endless")) (var 3))))
def aS:List D->R D:=fn 3 4 b9
def b8:S :=
 seq (expr (call bp [var 1]))
 (seq (kr 4 (call jh [var 3]))
 (seq (xi 5 (itA (var 2)) (i8 4 (var 5)))
 (seq (Ac (call dP [var 0,var 4]) (ret (gy [call bb [var 0],⇑0])) (ao))
 (seq (ifs (call EH [comp (itA (var 2)) [0] (call aS [var 1,bin oIx (var 0) ⇑0,bin oIx (var 0) ⇑1])]) (ret (gy [call bb [var 0],⇑16])) (ao))
 (seq (fA 6 (fF (itA (var 2)) [0] (con ↥34) (call aY [var 1,bin oIx (var 0) ⇑0,bin oIx (var 0) ⇑1])))
 (C1 6 (ret (call aF [var 0,var 1,bin bu (var 6) (comp (itA (var 3)) [0] (call az [var 1,var 0]))]))))))))
def ay:List D->R D:=fn 4 7 b8
def nH:S :=
 ret (call ay [var 0,var 1,qP [],qP [var 2,var 3]])
def iT:List D->R D:=fn 4 4 nH
def iq:S :=
 seq (expr (call bp [var 1]))
 (seq (expr (call cC [var 0,var 2]))
 (seq (oQ 3)
 (seq (assign 4 ⇑0)
 (seq (xi 5 (itA (var 2)) (Ac (bin oEq (call nY [var 3]) ⇑0) (gA 3 (var 5)) (seq (iY 6 (call iT [var 0,var 1,bin oIx (var 3) (un qI ⇑1),var 5]))
 (seq (gA 3 (bin oIx (var 6) ⇑0))
 (assign 4 (bin yj (var 4) (bin oIx (var 6) ⇑1)))))))
 (IC 3 4)))))
def cA:List D->R D:=fn 3 7 iq
def cP:S :=
 seq (ifs (bin oLt (var 1) (call nY [var 0])) (ret (bin oIx (var 0) (var 1))) (ao))
 (ret ⇑0)
def aT:List D->R D:=fn 2 2 cP
def eS:S :=
 seq (kr 3 (call jh [var 2]))
 (mj 3 4 5 (call cA [var 0,var 1,var 3]) (or_ (lP (call iW [var 4,con (.ty "tuple")])) (or_ (bin oNe (call nY [var 4]) ⇑2) (lP (call iW [bin oIx (var 4) ⇑0,con (.ty "list")])))) (call jh [bin oIx (var 4) ⇑0]) ⇑1 (bin oNe (bin oIx (var 4) ⇑0) (var 5)) ⇑0 (fk (bin oEq (var 3) (bin bu (var 2) (qP [⇑1]))) (or_ (bin oGt (call nY [var 2]) ⇑1) (bin oEq (var 5) (var 2)))))
def bI:List D->R D:=fn 3 6 eS
def eJ:S :=
 ret (fk (call iW [var 0,con (.ty "int")]) (lP (call iW [var 0,con (.ty "bool")])))
def aR:List D->R D:=fn 1 1 eJ
def eO:S :=
 seq (assign 2 (bin Bd (var 1) ↥4))
 (seq (ifs (bin oEq (var 2) ⇑0) (ret (var 1)) (ao))
 (ret (bin bD (bin bu (bin bD ⇑1 ↥4) (bin oMod (var 1) (bin bD ⇑1 ↥4))) (bin cu (var 2) ⇑1))))
def aK:List D->R D:=fn 2 3 eO
def ip:S :=
 seq (ifs (bin oEq (var 0) ↥39) (ret (or_ (bin oGt (var 2) ⇑0) (fk (bin oEq (var 2) ⇑0) (var 3)))) (ao))
 (seq (ifs (bin oEq (var 0) (con (.str "away"))) (ret (bin oGe (var 2) ⇑0)) (ao))
 (ret (var 1)))
def fz:List D->R D:=fn 4 4 ip
def gh:S :=
 seq (ifs (bin oEq (var 0) ↥39) (ret (or_ (bin oLt (var 2) ⇑0) (fk (bin oEq (var 2) ⇑0) (var 3)))) (ao))
 (seq (ifs (bin oEq (var 0) (con (.str "away"))) (ret (bin oLt (var 2) ⇑0)) (ao))
 (ret (lP (var 1))))
def dO:List D->R D:=fn 4 4 gh
def bM:S :=
 seq (ifs (or_ (lP (call iW [var 5,con (.ty "tuple")])) (or_ (bin oNe (call nY [var 5]) ⇑2) (or_ (lP (call aR [bin oIx (var 5) ⇑0])) (lP (call aR [bin oIx (var 5) ⇑1]))))) (ret (con ↥33)) (ao))
 (seq (assign 6 (bin cu (bin oIx (var 5) ⇑0) (bin bD (var 2) (bin bu ↥13 ↥4))))
 (seq (assign 7 (bin bD (bin cu (bin bD ⇑1 ↥13) ⇑1) ↥4))
 (seq (ifs (lP (chain oLe oLe ⇑0 (var 6) (var 7))) (ret (con ↥33)) (ao))
 (seq (assign 8 (bin hZ (call aK [var 0,var 6]) (var 4)))
 (seq (assign 9 (or_ ↥17 ↥15))
 (seq (ifs (fk (bin oEq (var 6) (var 7)) (bin oGe (var 3) (var 8))) (ret (fk (bin oEq (bin oIx (var 5) ⇑1) ⇑5) (or_ (bin oEq (var 1) ↥39) ↥28))) (ao))
 (seq (ifs (bin oEq (var 3) (var 8)) (ret (bin oEq (bin oIx (var 5) ⇑1) ⇑0)) (ao))
 (seq (assign 10 ⇑1)
 (seq (ifs (bin oLt (var 3) (bin bD (var 4) ↥4)) (assign 10 ⇑3) (ao))
 (seq (ifs (bin oGt (var 3) (var 8)) (seq (assign 12 (bin hZ (call aK [var 0,bin bu (var 6) ⇑1]) (var 4)))
 (seq (ifs (bin oGe (var 3) (var 12)) (ret (fk (bin oEq (bin oIx (var 5) ⇑1) ⇑5) (fk (bin oEq (var 6) (bin cu (var 7) ⇑1)) (fk (bin oNe (var 1) ↥39) ↥21)))) (ao))
 (ret (fk (bin oEq (bin oIx (var 5) ⇑1) (var 10)) (call dO [var 1,var 9,bin cu (bin cu (bin hZ ⇑2 (var 3)) (var 8)) (var 12),bin oEq (bin oMod (var 6) ⇑2) ⇑0]))))) (ao))
 (seq (ifs (bin oEq (var 6) (var 7)) (assign 10 ⇑5) (ao))
 (seq (assign 11 (bin hZ (call aK [var 0,bin cu (var 6) ⇑1]) (var 4)))
 (seq (ifs (bin oLe (var 3) (var 11)) (ret (con ↥33)) (ao))
 (ret (fk (bin oEq (bin oIx (var 5) ⇑1) (var 10)) (call fz [var 1,var 9,bin cu (bin cu (bin hZ ⇑2 (var 3)) (var 8)) (var 11),bin oEq (bin oMod (var 6) ⇑2) ⇑0]))))))))))))))))
def aH:List D->R D:=fn 6 13 bM
def gf:S :=
 seq (assign 6 (bin cu (var 5) (bin bD (var 2) (bin bu ↥13 ↥4))))
 (seq (assign 7 (bin bD (bin cu (bin bD ⇑1 ↥13) ⇑1) ↥4))
 (seq (ifs (lP (chain oLe oLe ⇑0 (var 6) (var 7))) (ret (un qI ⇑1)) (ao))
 (seq (assign 8 ⇑1)
 (seq (ifs (bin oLt (var 3) (bin bD (var 4) ↥4)) (assign 8 ⇑3) (ao))
 (seq (ifs (fk (bin oLt (var 6) (var 7)) (bin oEq (var 3) (bin hZ (call aK [var 0,var 6]) (var 4)))) (assign 8 ⇑0) (ifs (or_ (bin oEq (var 6) (var 7)) (bin oGe (var 3) (bin hZ (call aK [var 0,var 7]) (var 4)))) (assign 8 ⇑5) (ao)))
 (seq (ifs (call aH [var 0,var 1,var 2,var 3,var 4,gy [var 5,var 8]]) (ret (var 8)) (ao))
 (ret (un qI ⇑1))))))))
def dN:List D->R D:=fn 6 9 gf
def gi:S :=
 seq (assign 2 (bin bD ⇑1 (bin bu ↥13 ↥4)))
 (seq (assign 3 (call aK [var 0,bin oMod (var 1) (var 2)]))
 (seq (ifs (bin oGe (var 1) (var 2)) (ret (un qI (var 3))) (ao))
 (ret (var 3))))
def cT:List D->R D:=fn 2 4 gi
def eV:S :=
 seq (assign 5 (bin bD ⇑1 (bin bu ↥13 ↥4)))
 (seq (assign 6 (bin cu (var 5) (bin bD ⇑1 ↥4)))
 (seq (assign 7 (bin bu (var 6) (bin bD ⇑1 (bin cu ↥4 ⇑1))))
 (seq (ifs (or_ (bin oGt (bin oMod (var 2) (var 5)) (var 6)) (bin oGt (bin oMod (var 3) (var 5)) (var 6))) (ret (bin oIx (qP [un qI ⇑1,⇑0]) (call uQ [bin oEq (var 4) (var 7)]))) (ao))
 (seq (ifs (fk (bin oEq (bin oMod (var 2) (var 5)) (var 6)) (fk (bin oEq (bin oMod (var 3) (var 5)) (var 6)) (bin oNe (var 2) (var 3)))) (ret (bin oIx (qP [un qI ⇑1,⇑16]) (call uQ [bin oEq (var 4) (var 7)]))) (ao))
 (seq (ifs (bin oEq (bin oMod (var 2) (var 5)) (var 6)) (ret (bin oIx (qP [un qI ⇑1,⇑0]) (call uQ [bin oEq (var 4) (var 2)]))) (ao))
 (seq (ifs (bin oEq (bin oMod (var 3) (var 5)) (var 6)) (ret (bin oIx (qP [un qI ⇑1,⇑0]) (call uQ [bin oEq (var 4) (var 3)]))) (ao))
 (seq (assign 8 (bin bu (call cT [var 0,var 2]) (call cT [var 0,var 3])))
 (seq (ifs (bin oEq (var 8) ⇑0) (seq (assign 9 (bin oDiv (var 2) (var 5)))
 (seq (ifs (bin oNe (var 9) (bin oDiv (var 3) (var 5))) (assign 9 (call uQ [bin oEq (var 1) (con (.str "down"))])) (ao))
 (ret (bin oIx (qP [un qI ⇑1,⇑0]) (call uQ [bin oEq (var 4) (bin hZ (var 9) (var 5))]))))) (ao))
 (ret (call dN [var 0,var 1,call uQ [bin oLt (var 8) ⇑0],call EI [var 8],⇑1,var 4]))))))))))
def cm:List D->R D:=fn 5 10 eV
def Aj:S :=
 seq (assign 1 (call bY [call aT [var 0,⇑0]]))
 (seq (assign 2 (call cy [call aT [var 0,⇑1]]))
 (seq (assign 3 (call cz [var 1,slc (var 0) (some ⇑3) (some ⇑203),call aT [var 0,⇑2]]))
 (seq (assign 4 (call rM [var 3]))
 (seq (assign 5 (call cA [var 1,var 2,var 4]))
 (seq (ifs (or_ (bin oNe (var 4) (var 3)) (or_ (lP (call iW [var 5,con (.ty "tuple")])) (or_ (bin oNe (call nY [var 5]) ⇑2) (lP (call iW [bin oIx (var 5) ⇑0,con (.ty "list")]))))) (ret (con ↥33)) (ao))
 (seq (ifs (or_ (bin oNe (call nY [bin oIx (var 5) ⇑0]) (call nY [var 3])) (lP (call aR [bin oIx (var 5) ⇑1]))) (ret (con ↥33)) (ao))
 (seq (assign 6 ⇑0)
 (seq (xi 7 (J8 (call nY [var 3])) (seq (ifs (or_ (lP (call aR [bin oIx (bin oIx (var 5) ⇑0) (var 7)])) (fk (bin oEq (var 7) ⇑0) (bin oNe (bin oIx (bin oIx (var 5) ⇑0) ⇑0) (bin oIx (var 3) ⇑0)))) (ret (con ↥33)) (ao))
 (ifs (bin oGt (var 7) ⇑0) (seq (assign 8 (call cm [var 1,var 2,bin oIx (bin oIx (var 5) ⇑0) (bin cu (var 7) ⇑1),bin oIx (var 3) (var 7),bin oIx (bin oIx (var 5) ⇑0) (var 7)]))
 (seq (ifs (bin oLt (var 8) ⇑0) (ret (con ↥33)) (ao))
 (assign 6 (bin yj (var 6) (var 8))))) (ao))))
 (seq (ifs (or_ (bin oNe (bin oIx (var 5) ⇑1) (var 6)) (lP (call bI [var 1,var 2,var 3]))) (ret (con ↥33)) (ao))
 (ret (fk (call bI [var 1,var 2,slc (var 3) none (some ⇑1)]) (call bI [var 1,var 2,qP []]))))))))))))
def zw:List D->R D:=fn 1 9 Aj
end T
namespace T
open PySem PySem.Spec PyProof.Rows L2 EV ES
def top (i:Nat):Stmt:=PySem.Challenge.pw_roundmill_k40_in_turn.main.body.getD i ↥38
set_option maxHeartbeats 4000000
def fX:Stmt:=(cF (top 34)).getD 0 ↥38
def cJ:Stmt:=top 58
abbrev iD:List Str:=["_law_cell","_law_way","_law_rest"]
abbrev iJ:List Str:=[]
theorem lL:ScF iD iJ ["_law_cell"] (aa cJ):=by walk_at "S"
def dj:Stmt:=top 59
abbrev jj:List Str:=["_law_cell"]
abbrev jq:List Str:=[]
theorem mR:ScF jj jq ["_law_cell"] (aa dj):=by walk_at "S"
def bT:Stmt:=top 61
abbrev fL:List Str:=["_law_size","_law_cell","_law_half","_law_last","_law_way","_law_rest","_law_side","_law_middle","_law_field","_law_figures","_law_mixed"]
abbrev fP:List Str:=["max","min"]
theorem jB:ScF fL fP ["_law_size","_law_cell"] (aa bT):=by walk_at "S"
def d8:Stmt:=top 69
abbrev lg:List Str:=["_law_size","_law_bits","_law_plan","_law_half","_law_last"]
abbrev lC:List Str:=[]
theorem oB:ScF lg lC ["_law_size","_law_bits","_law_plan"] (aa d8):=by walk_at "S"
def cL:Stmt:=top 60
abbrev iF:List Str:=["_law_size","_law_cell","_law_half","_law_last","_law_way","_law_rest","_law_side","_law_figures"]
abbrev iL:List Str:=[]
theorem lN:ScF iF iL ["_law_size","_law_cell"] (aa cL):=by walk_at "S"
def dk:Stmt:=top 70
abbrev jk:List Str:=["_law_size","_law_cells","_law_plan","_law_half","_law_row","_law_cell"]
abbrev jr:List Str:=["len","_law_finite_by","_law_clean","_law_bits_by"]
theorem mS:ScF jk jr ["_law_size","_law_cells","_law_plan"] (aa dk):=by walk_at "S"
def jK:Stmt:=top 35
abbrev tH:List Str:=["name"]
abbrev tN:List Str:=["NAMES","NoWay","Way"]
theorem vq:ScF tH tN ["name"] (aa jK):=by walk_at "S"
def fQ:Stmt:=top 10
abbrev ml:List Str:=["size"]
abbrev mB:List Str:=[]
theorem qs:ScF ml mB ["size"] (aa fQ):=by walk_at "S"
def mY:Stmt:=top 7
abbrev yb:List Str:=["size"]
abbrev yf:List Str:=[]
theorem za:ScF yb yf ["size"] (aa mY):=by walk_at "S"
def jN:Stmt:=top 26
abbrev tL:List Str:=["size","bits","code","step"]
abbrev tQ:List Str:=["width","NoBits","sign_bit"]
theorem vv:ScF tL tQ ["size","bits"] (aa jN):=by walk_at "S"
def dn:Stmt:=top 27
abbrev jm:List Str:=["size","numbers","bits"]
abbrev jt:List Str:=["parted"]
theorem mV:ScF jm jt ["size","numbers"] (aa dn):=by walk_at "S"
def dm:Stmt:=top 11
abbrev jl:List Str:=["size"]
abbrev js:List Str:=[]
theorem mT:ScF jl js ["size"] (aa dm):=by walk_at "S"
def se:Stmt:=top 28
abbrev Bv:List Str:=["size","bits","parts","field","figures"]
abbrev Bx:List Str:=["parted","last_field"]
theorem CO:ScF Bv Bx ["size","bits"] (aa se):=by walk_at "S"
def fW:Stmt:=top 45
abbrev mz:List Str:=["size","numbers","kinds"]
abbrev mH:List Str:=[]
theorem qx:ScF mz mH ["size","numbers"] (aa fW):=by walk_at "S"
def bA:Stmt:=top 30
abbrev fc:List Str:=["value","whole","power"]
abbrev fh:List Str:=[]
theorem iQ:ScF fc fh ["value"] (aa bA):=by walk_at "S"
def bC:Stmt:=top 15
abbrev fg:List Str:=["top","bottom"]
abbrev fj:List Str:=["NoFraction"]
theorem iS:ScF fg fj ["top","bottom"] (aa bC):=by walk_at "S"
def jM:Stmt:=top 16
abbrev tK:List Str:=["top","bottom","power"]
abbrev tP:List Str:=[]
theorem vt:ScF tK tP ["top","bottom","power"] (aa jM):=by walk_at "S"
def sf:Stmt:=top 8
abbrev Bw:List Str:=["size"]
abbrev By:List Str:=[]
theorem CP:ScF Bw By ["size"] (aa sf):=by walk_at "S"
def zg:Stmt:=top 9
abbrev Io:List Str:=["size"]
abbrev Iv:List Str:=["bias"]
theorem Gf:ScF Io Iv ["size"] (aa zg):=by walk_at "S"
def bB:Stmt:=top 18
abbrev fe:List Str:=["over","number","middle"]
abbrev fi:List Str:=[]
theorem iR:ScF fe fi ["over","number","middle"] (aa bB):=by walk_at "S"
def gX:Stmt:=top 19
abbrev p8:List Str:=["over","step"]
abbrev qf:List Str:=["rest_by_middle"]
theorem uc:ScF p8 qf ["over","step"] (aa gX):=by walk_at "S"
def jO:Stmt:=top 17
abbrev tM:List Str:=["top","bottom","guess","parts"]
abbrev tR:List Str:=["scaled"]
theorem vy:ScF tM tR ["top","bottom"] (aa jO):=by walk_at "S"
def zh:Stmt:=top 20
abbrev Ir:List Str:=["size","top","bottom","power","parts"]
abbrev Iz:List Str:=["check_fraction","low","max","height","scaled","rest_of"]
theorem Gh:ScF Ir Iz ["size","top","bottom"] (aa zh):=by walk_at "S"
def hG:Stmt:=top 12
abbrev qc:List Str:=["size"]
abbrev qi:List Str:=["last_field"]
theorem uf:ScF qc qi ["size"] (aa hG):=by walk_at "S"
def jL:Stmt:=top 31
abbrev tJ:List Str:=["size","sign","code"]
abbrev tO:List Str:=["sign_bit"]
theorem vr:ScF tJ tO ["size","sign","code"] (aa jL):=by walk_at "S"
def di:Stmt:=top 38
abbrev ji:List Str:=["size","code","taken","faint"]
abbrev jo:List Str:=["endless","INEXACT","GREAT","SMALL"]
theorem mQ:ScF ji jo ["size","code","taken"] (aa di):=by walk_at "S"
def aB:Stmt:=(cF (top 34)).getD 3 ↥38
abbrev dE:List Str:=["self","sign"]
abbrev dF:List Str:=[]
theorem gG:ScF dE dF ["self","sign"] (aa aB):=by walk_at "S"
def bH:Stmt:=(cF (top 34)).getD 1 ↥38
abbrev lq:List Str:=["self","sign","odd","rest"]
abbrev lG:List Str:=[]
theorem oG:ScF lq lG ["self","sign","odd","rest"] (aa bH):=by walk_at "S"
def aZ:Stmt:=(cF (top 34)).getD 2 ↥38
abbrev jn:List Str:=["self","sign"]
abbrev ju:List Str:=[]
theorem mW:ScF jn ju ["self","sign"] (aa aZ):=by walk_at "S"
def gU:Stmt:=top 37
abbrev p6:List Str:=["size","way","sign","whole","power","rest","chosen","code","end","taken"]
abbrev qd:List Str:=["way_of","low","endless","signed","INEXACT","GREAT","lost_flags"]
theorem ua:ScF p6 qd ["size","way","sign","whole","power","rest"] (aa gU):=by walk_at "S"
def gW:Stmt:=top 39
abbrev p7:List Str:=["size","way","sign","top","bottom","parts"]
abbrev qe:List Str:=["way_of","cut","settled"]
theorem ub:ScF p7 qe ["size","way","sign","top","bottom"] (aa gW):=by walk_at "S"
def mZ:Stmt:=top 41
abbrev yc:List Str:=["terms","power","whole","term","part"]
abbrev yg:List Str:=["min","abs"]
theorem zb:ScF yc yg ["terms"] (aa mZ):=by walk_at "S"
def cI:Stmt:=top 42
abbrev iC:List Str:=["way","signs"]
abbrev iI:List Str:=["way_of"]
theorem lK:ScF iC iI ["way","signs"] (aa cI):=by walk_at "S"
def bQ:Stmt:=top 43
abbrev fI:List Str:=["size","way","terms","value","sign"]
abbrev fM:List Str:=["worth_fraction","total","nought_sign","signed","rounded"]
theorem jy:ScF fI fM ["size","way","terms"] (aa bQ):=by walk_at "S"
def d5:Stmt:=top 13
abbrev kX:List Str:=["size"]
abbrev lx:List Str:=["endless"]
theorem oy:ScF kX lx ["size"] (aa d5):=by walk_at "S"
def bR:Stmt:=top 49
abbrev fJ:List Str:=["size","way","terms","signs"]
abbrev fN:List Str:=["no_number","WRONG","len","signed","endless","settled_total"]
theorem jz:ScF fJ fN ["size","way","terms"] (aa bR):=by walk_at "S"
def mX:Stmt:=top 29
abbrev ya:List Str:=["size","bits","parts","sign","field","figures"]
abbrev ye:List Str:=["parted","last_field","NotFinite","low"]
theorem yZ:ScF ya ye ["size","bits"] (aa mX):=by walk_at "S"
def cH:Stmt:=top 46
abbrev iB:List Str:=["size","bits"]
abbrev iH:List Str:=["kind","parted","worth"]
theorem lJ:ScF iB iH ["size","bits"] (aa cH):=by walk_at "S"
def cq:Stmt:=top 48
abbrev gE:List Str:=["size","a","b","left","right","sign"]
abbrev gF:List Str:=["number_term"]
theorem j8:ScF gE gF ["size","a","b"] (aa cq):=by walk_at "S"
def bS:Stmt:=top 47
abbrev fK:List Str:=["size","a","b","kinds"]
abbrev fO:List Str:=["kind"]
theorem jA:ScF fK fO ["size","a","b"] (aa bS):=by walk_at "S"
def cG:Stmt:=top 50
abbrev iA:List Str:=["size","way","pairs","singles","numbers","pair","products"]
abbrev iG:List Str:=["way_of","list","any_none","no_number","any","WRONG","settled_terms"]
theorem lI:ScF iA iG ["size","way","pairs","singles"] (aa cG):=by walk_at "S"
def m6:Stmt:=top 52
abbrev yd:List Str:=["size","way","a","b"]
abbrev yh:List Str:=["settled_sum"]
theorem zc:ScF yd yh ["size","way","a","b"] (aa m6):=by walk_at "S"
def cY:Stmt:=top 54
abbrev qb:List Str:=["size","way","xs","steps","flags","bits","pair"]
abbrev qh:List Str:=["way_of","check_bits","len","added"]
theorem ue:ScF qb qh ["size","way","xs"] (aa cY):=by walk_at "S"
def cK:Stmt:=top 56
abbrev iE:List Str:=["_law_script","_law_k"]
abbrev iK:List Str:=["len"]
theorem lM:ScF iE iK ["_law_script","_law_k"] (aa cK):=by walk_at "S"
def d9:Stmt:=top 71
abbrev lh:List Str:=["_law_size","_law_way","_law_row","_law_handed","_law_found","_law_steps"]
abbrev lD:List Str:=["list","in_turn","isinstance","tuple","len"]
theorem oE:ScF lh lD ["_law_size","_law_way","_law_row"] (aa d9):=by walk_at "S"
def d6:Stmt:=top 57
abbrev kY:List Str:=["_law_found"]
abbrev lz:List Str:=["isinstance","int","bool"]
theorem oz:ScF kY lz ["_law_found"] (aa d6):=by walk_at "S"
def d7:Stmt:=top 62
abbrev kZ:List Str:=["_law_size","_law_code","_law_field"]
abbrev lA:List Str:=[]
theorem oA:ScF kZ lA ["_law_size","_law_code"] (aa d7):=by walk_at "S"
def gZ:Stmt:=top 65
abbrev p9:List Str:=["_law_way","_law_outward","_law_lean","_law_even"]
abbrev qg:List Str:=[]
theorem ud:ScF p9 qg ["_law_way","_law_outward","_law_lean","_law_even"] (aa gZ):=by walk_at "S"
def fS:Stmt:=top 64
abbrev mr:List Str:=["_law_way","_law_outward","_law_lean","_law_even"]
abbrev mD:List Str:=[]
theorem qu:ScF mr mD ["_law_way","_law_outward","_law_lean","_law_even"] (aa fS):=by walk_at "S"
def fV:Stmt:=top 66
abbrev mw:List Str:=["_law_size","_law_way","_law_sign","_law_tall","_law_bottom","_law_found","_law_code","_law_last","_law_here","_law_outward","_law_due","_law_before","_law_beyond"]
abbrev mF:List Str:=["isinstance","tuple","len","_law_whole","_law_value","_law_near","_law_far"]
theorem qw:ScF mw mF ["_law_size","_law_way","_law_sign","_law_tall","_law_bottom","_law_found"] (aa fV):=by walk_at "S"
def fR:Stmt:=top 67
abbrev mn:List Str:=["_law_size","_law_way","_law_sign","_law_tall","_law_bottom","_law_bits","_law_code","_law_last","_law_due"]
abbrev mC:List Str:=["_law_value","_law_fair"]
theorem qt:ScF mn mC ["_law_size","_law_way","_law_sign","_law_tall","_law_bottom","_law_bits"] (aa fR):=by walk_at "S"
def fU:Stmt:=top 63
abbrev mv:List Str:=["_law_size","_law_bits","_law_half","_law_value_here"]
abbrev mE:List Str:=["_law_value"]
theorem qv:ScF mv mE ["_law_size","_law_bits"] (aa fU):=by walk_at "S"
def eu:Stmt:=top 68
abbrev lj:List Str:=["_law_size","_law_way","_law_one","_law_two","_law_told_here","_law_half","_law_last","_law_plain","_law_exact","_law_sign"]
abbrev lE:List Str:=["int","_law_line","_law_told","abs"]
theorem oF:ScF lj lE ["_law_size","_law_way","_law_one","_law_two","_law_told_here"] (aa eu):=by walk_at "S"
def lO:Stmt:=top 72
abbrev Iq:List Str:=["_law_script","_law_size","_law_way","_law_row","_law_handed","_law_found","_law_flags","_law_k","_law_more"]
abbrev Iw:List Str:=["_law_size_by","_law_cell_at","_law_way_by","_law_row_by","list","in_turn","isinstance","tuple","len","_law_whole","range","_law_added","_law_apart"]
theorem Gg:ScF Iq Iw ["_law_script"] (aa lO):=by walk_at "S"
section
variable {X:Cx} {k:Nat} (hr:Room k X.A) (L:Lp X) (O:Own X)
include hr L O
theorem nR (P:Pl X iD iJ) (hS:X.env.scope=aa cJ)
     : SSs X (ah cJ) cO:=by
 unfold cO
 exact (af (P.set 1 (aN (P.v 0) ae))
 (af (P.set 2 (eY (P.v 0) ae))
 (af (P.if_ (qp (P.v 1) ae) (ai (P.ret (jd (jG (aj (bJ (a2 ae ae) ↥3) (aj (bJ (a2 ae ae) ↥3) (aj (bJ (a2 ae ae) ↥3) (aj (bJ (a2 ae ae) ↥3) fm)))) ↥3) (P.v 1)))) ar)
 (af (P.if_ (qp (P.v 1) ae) (ai (P.ret (bJ (a2 (aE ae (aN (P.v 2) ae)) (aE ae (aN (eY (P.v 2) ae) ae))) ↥3))) ar)
 (ai (P.ret (bJ (a2 (aE ae (aN (P.v 2) ae)) (aE ae (aN (eY (P.v 2) ae) ae))) ↥3)))))))
theorem pV (P:Pl X jj jq) (hS:X.env.scope=aa dj)
     : SSs X (ah dj) dA:=by
 unfold dA
 exact (ai (P.ret (jd (jG (aj bz (aj bz (aj bz (aj bz (aj bz fm))))) ↥3) (aN (P.v 0) ae))))
theorem kU (P:Pl X fL fP) (hS:X.env.scope=aa bT)
  (m_min:X.mg "min"=none) (m_max:X.mg "max"=none):SSs X (ah bT) cg:=by
 unfold cg
 exact (af (P.set 2 (bx ae (aE (P.y 0) (P.y 0))))
 (af (P.set 3 (aM (P.v 2) ↥29))
 (af (P.set 4 (aN (P.v 1) ae))
 (af (P.set 5 (eY (P.v 1) ae))
 (af (P.if_ (qp (P.v 4) ae) (af (P.set 10 (aN (dI (P.v 5) ae) (dI ae (P.v 3))))
 (ai (P.ret (aE (dI (eY (P.v 10) (P.v 3)) (P.v 2)) (aN (P.v 10) (P.v 3)))))) ar)
 (af (P.set 6 (dI (aN (P.v 5) ae) (P.v 2)))
 (af (P.set 5 (eY (P.v 5) ae))
 (af (P.if_ (cW hr (P.v 4) ae) (ai (P.ret (aE (P.v 6) (aN (P.v 5) ae)))) ar)
 (af (P.if_ (cW hr (P.v 4) ae) (ai (P.ret (aM (aM (aE (P.v 6) (P.v 3)) ae) (aN (P.v 5) ae)))) ar)
 (af (P.set 7 (aM (bx ae (aM (P.y 0) ae)) ae))
 (af (P.if_ (cW hr (P.v 4) ae) (ai (P.ret (aE (aM (aE (P.v 6) (bx (P.v 7) (P.y 0))) ae) (aN (P.v 5) ae)))) ar)
 (af (P.set 8 (cE (Ib L.calm) G9 (P.w 0) m_max boot_max (a2 ae (cE (Kl L.calm) J2 (P.w 1) m_min boot_min (a2 (aM ↥29 ae) (aE (aM (P.v 7) ae) (aN (P.v 5) ae)))))))
 (af (P.set 9 (aN (dI (eY (P.v 5) ae) ae) ↥29))
 (ai (P.ret (aE (aE (P.v 6) (bx (P.v 8) (P.y 0))) (P.v 9)))))))))))))))))
theorem rH (P:Pl X lg lC) (hS:X.env.scope=aa d8)
     : SSs X (ah d8) eR:=by
 unfold eR
 exact (af (P.set 3 (bx ae (aE (P.y 0) (P.y 0))))
 (af (P.set 4 (aM (P.v 3) ↥29))
 (af (P.if_ (t_w (w_and (yW (P.v 2) ae) (gQ (yW (aN (P.v 1) (P.v 3)) (P.v 4))))) (ai (P.ret (aE (dI (eY (P.v 1) (P.v 3)) (P.v 3)) (P.v 4)))) ar)
 (af (P.if_ (t_w (w_and (yW (P.v 2) ae) (gQ (cW hr (aN (P.v 1) (P.v 3)) ae)))) (ai (P.ret (aE (P.v 1) ae))) ar)
 (ai (P.ret (P.v 1)))))))
theorem nV (P:Pl X iF iL) (hS:X.env.scope=aa cL)
     : SSs X (ah cL) cQ:=by
 unfold cQ
 exact (af (P.set 2 (bx ae (aE (P.y 0) (P.y 0))))
 (af (P.set 3 (bx (aM ↥29 ae) (P.y 0)))
 (af (P.set 4 (aN (P.v 1) ae))
 (af (P.set 5 (eY (P.v 1) ae))
 (af (P.if_ (qp (P.v 4) ae) (ai (P.ret (aN (dI (P.v 5) ae) (dI ae (P.v 2))))) ar)
 (af (P.set 6 (dI (aN (P.v 5) ae) (P.v 2)))
 (af (P.set 5 (eY (P.v 5) ae))
 (af (P.if_ (cW hr (P.v 4) ae) (ai (P.ret (aE (P.v 6) (aN (P.v 5) ae)))) ar)
 (af (P.if_ (cW hr (P.v 4) ae) (ai (P.ret (aE (aM (aE (P.v 6) (P.v 3)) ae) (aN (P.v 5) ae)))) ar)
 (af (P.if_ (cW hr (P.v 4) ae) (ai (P.ret (aE (aM (aE (P.v 6) ↥29) ae) (aN (P.v 5) ae)))) ar)
 (af (P.if_ (cW hr (P.v 4) ae) (ai (P.ret (aE (aM (aE (P.v 6) (bx (aM (bx ae (aM (P.y 0) ae)) ae) (P.y 0))) ae) (aN (P.v 5) ae)))) ar)
 (af (P.if_ (cW hr (P.v 4) ae) (ai (P.ret (aE (aE (aE (P.v 6) (P.v 3)) ae) (aN (P.v 5) (aM ↥29 ae))))) ar)
 (af (P.set 7 (jd (jG (aj ae (aj ae (aj (aM ↥29 ae) (aj (bx ae (aM (P.y 0) ae)) fm)))) ↥3) (aN (P.v 5) ae)))
 (ai (P.ret (aE (aE (P.v 6) (bx (aN (eY (P.v 5) ae) ↥29) (P.y 0))) (P.v 7)))))))))))))))))
theorem pW (P:Pl X jk jr) (hS:X.env.scope=aa dk)
  (m_len:X.mg "len"=none) (c_law_finite_by:Callee X "_law_finite_by" bc) (c_law_clean:Callee X "_law_clean" cZ) (c_law_bits_by:Callee X "_law_bits_by" bZ):SSs X (ah dk) dB:=by
 unfold dB
 exact (af (P.set 3 (bx ae (aE (P.y 0) (P.y 0))))
 (af (r9 P.toSx 4 rfl (P.sto _ (mG 4)))
 (af (lW P.toSx L 5 rfl (P.sto _ (mG 5)) (jE (P.v 1)) (ai (CQ (t_w (w_and (cW hr (aN (P.v 5) ae) ae) (gQ (yW (cE kO kv (P.w 0) m_len PySem.boot_len (a1 (P.v 4))) ae)))) (ai (gY P.toSx 4 rfl (aN (aE (jd (P.v 4) (jF ae)) (P.v 3)) (dI ae (P.v 3))))) (ai (P.if_ (cW hr (aN (P.v 2) ae) ae) (ai (gY P.toSx 4 rfl (P.call 1 c_law_finite_by (a2 (P.v 0) (eY (P.v 5) ae))))) (ai (gY P.toSx 4 rfl (P.call 2 c_law_clean (a3 (P.v 0) (P.call 3 c_law_bits_by (a2 (P.v 0) (eY (P.v 5) ae))) (aN (aN (P.v 2) ae) ae))))))))))
 (ai (zd 4 (P.ret (Ek (Kj (P.v 4) (aE ae (aN (eY (P.v 2) ae) ae))) su (jP ae))))))))
theorem Ay (P:Pl X tH tN) (hS:X.env.scope=aa jK) {C_NoWay:Addr}
  (g_NAMES:GC X "NAMES" (.tup [.str "even",.str "away",.str "nought",.str "up",.str "down"])) (q_NoWay:X.mg "NoWay"=some (.ref  C_NoWay)) (xi_NoWay:PySem.W.excIn X.K C_NoWay bmV "ValueError.__new__"=true) (mk_Way:MakeOk X "Way" "name"):SSs X (ah jK) jT:=by
 unfold jT
 exact (af (P.if_ (Cu (P.v 0) (Po (P.w 0) g_NAMES)) (ai (m5 (x:="NoWay") L.calm (P.w 1) q_NoWay xi_NoWay)) ar)
 (ai (P.ret (Eo (cn:="Way") (f:="name") mk_Way (P.w 2) (a1 (P.v 0))))))
theorem uK (P:Pl X ml mB) (hS:X.env.scope=aa fQ)
     : SSs X (ah fQ) f9:=by
 unfold f9
 exact (ai (P.ret (bx ae (aE (P.y 0) (P.y 0)))))
theorem EC (P:Pl X yb yf) (hS:X.env.scope=aa mY)
     : SSs X (ah mY) nF:=by
 unfold nF
 exact (ai (P.ret (aE (aE (P.y 0) (P.y 0)) ae)))
theorem AB (P:Pl X tL tQ) (hS:X.env.scope=aa jN) {C_NoBits:Addr}
  (c_width:Callee X "width" kj) (q_NoBits:X.mg "NoBits"=some (.ref  C_NoBits)) (xi_NoBits:PySem.W.excIn X.K C_NoBits bmV "ValueError.__new__"=true) (c_sign_bit:Callee X "sign_bit" bK):SSs X (ah jN) jW:=by
 unfold jW
 exact (af (P.if_ (t_w (w_or (qp (P.v 1) ae) (j1 (AW (P.v 1) (bx ae (P.call 0 c_width (a1 (P.v 0)))))))) (ai (m5 (x:="NoBits") L.calm (P.w 1) q_NoBits xi_NoBits)) ar)
 (af (P.set 2 (aN (P.v 1) (P.call 2 c_sign_bit (a1 (P.v 0)))))
 (af (P.set 3 ↥29)
 (ai (P.ret (bJ (a3 (eY (P.v 1) (P.call 2 c_sign_bit (a1 (P.v 0)))) (eY (P.v 2) (P.v 3)) (aN (P.v 2) (P.v 3))) ↥3))))))
theorem pY (P:Pl X jm jt) (hS:X.env.scope=aa dn)
  (c_parted:Callee X "parted" bq):SSs X (ah dn) dD:=by
 unfold dD
 exact (ai (lW P.toSx L 2 rfl (P.sto _ (mG 2)) (jE (P.v 1)) (ai (P.xp (P.call 0 c_parted (a2 (P.v 0) (P.v 2)))))))
theorem pX (P:Pl X jl js) (hS:X.env.scope=aa dm)
     : SSs X (ah dm) dC:=by
 unfold dC
 exact (ai (P.ret (aM ↥29 ae)))
theorem Ih (P:Pl X Bv Bx) (hS:X.env.scope=aa se)
  (c_parted:Callee X "parted" bq) (c_last_field:Callee X "last_field" aP):SSs X (ah se) sU:=by
 unfold sU
 exact (af (P.set 2 (P.call 0 c_parted (a2 (P.v 0) (P.v 1))))
 (af (P.set 3 (P.y 2))
 (af (P.set 4 (P.y 2))
 (af (P.if_ (cW hr (P.v 3) ae) (ai (P.ret (xr (cW hr (P.v 4) ae) bz bz))) ar)
 (af (P.if_ (cW hr (P.v 3) (P.call 1 c_last_field (a1 (P.v 0)))) (ai (P.ret (xr (cW hr (P.v 4) ae) bz bz))) ar)
 (ai (P.ret bz)))))))
theorem uP (P:Pl X mz mH) (hS:X.env.scope=aa fW)
  (c_kind:Callee X "kind" de):SSs X (ah fW) gj:=by
 unfold gj
 exact (af (j9 P.toSx L.calm 2 rfl (P.sto _ (mG 2)) (x:="bits") (ksn:=["size"]) (G:=["kind"]) (ks:=[0]) (by walk_at "C") rfl ↥3 (by rw [hS];decide +kernel) (jE (P.v 1)) (fun C fp s H W S' G'=>.nil) (fun C fp s H W S' G'=>(pI ⟨c_kind.ex⟩ (G' _ (mG 0)) (a2 (gw S' 1 rfl) (gw S' 0 rfl)))) (j2 hS (by decide +kernel)))
 (ai (zd 2 (P.ret (Kk bz (P.v 2))))))
theorem jH (P:Pl X fc fh) (hS:X.env.scope=aa bA)
     : SSs X (ah bA) bE:=by
 unfold bE
 exact (af (P.set 1 (P.y 0))
 (af (P.set 2 (P.y 0))
 (af (P.if_ (AW (P.v 2) ae) (ai (P.ret (bJ (a3 (P.y 0) (bx (P.v 1) (P.v 2)) ae) ↥3))) ar)
 (ai (P.ret (bJ (a3 (P.y 0) (P.v 1) (bx ae (jF (P.v 2)))) ↥3))))))
theorem jJ (P:Pl X fg fj) (hS:X.env.scope=aa bC) {C_NoFraction:Addr}
  (q_NoFraction:X.mg "NoFraction"=some (.ref  C_NoFraction)) (xi_NoFraction:PySem.W.excIn X.K C_NoFraction bmV "ValueError.__new__"=true):SSs X (ah bC) bG:=by
 unfold bG
 exact (ai (P.if_ (t_w (w_or (qp (P.v 0) ae) (j1 (qp (P.v 1) ae)))) (ai (m5 (x:="NoFraction") L.calm (P.w 0) q_NoFraction xi_NoFraction)) ar))
theorem AA (P:Pl X tK tP) (hS:X.env.scope=aa jM)
     : SSs X (ah jM) jV:=by
 unfold jV
 exact (af (P.if_ (AW (P.v 2) ae) (ai (P.ret (bJ (a2 (P.v 0) (bx (P.v 1) (P.v 2))) ↥3))) ar)
 (ai (P.ret (bJ (a2 (bx (P.v 0) (jF (P.v 2))) (P.v 1)) ↥3))))
theorem Ii (P:Pl X Bw By) (hS:X.env.scope=aa sf)
     : SSs X (ah sf) sV:=by
 unfold sV
 exact (ai (P.ret (aM (bx ae (aM (P.y 0) ae)) ae)))
theorem Kq (P:Pl X Io Iv) (hS:X.env.scope=aa zg)
  (c_bias:Callee X "bias" oP):SSs X (ah zg) Ai:=by
 unfold Ai
 exact (ai (P.ret (aM (aM ae (P.call 0 c_bias (a1 (P.v 0)))) (P.y 0))))
theorem jI (P:Pl X fe fi) (hS:X.env.scope=aa bB)
     : SSs X (ah bB) bF:=by
 unfold bF
 exact (af (P.if_ (cW hr (P.v 0) ae) (ai (P.ret ae)) ar)
 (af (P.if_ (qp (P.v 1) (P.v 2)) (ai (P.ret ae)) ar)
 (ai (P.ret (xr (cW hr (P.v 1) (P.v 2)) ae ae)))))
theorem xO (P:Pl X p8 qf) (hS:X.env.scope=aa gX)
  (c_rest_by_middle:Callee X "rest_by_middle" aW):SSs X (ah gX) ik:=by
 unfold ik
 exact (ai (P.ret (P.call 0 c_rest_by_middle (a3 (P.v 0) (dI ae (P.v 0)) (P.v 1)))))
theorem AD (P:Pl X tM tR) (hS:X.env.scope=aa jO)
  (c_scaled:Callee X "scaled" eB):SSs X (ah jO) jX:=by
 unfold jX
 exact (af (P.set 2 (aM (tf (P.v 0)) (tf (P.v 1))))
 (af (P.set 3 (P.call 0 c_scaled (a3 (P.v 0) (P.v 1) (P.v 2))))
 (ai (P.ret (xr (qp (P.y 3) (P.y 3)) (P.v 2) (aE (P.v 2) ae))))))
theorem Ks (P:Pl X Ir Iz) (hS:X.env.scope=aa zh)
  (c_check_fraction:Callee X "check_fraction" aX) (c_low:Callee X "low" ko) (c_height:Callee X "height" hX) (m_max:X.mg "max"=none) (c_scaled:Callee X "scaled" eB) (c_rest_of:Callee X "rest_of" fw):SSs X (ah zh) xc:=by
 unfold xc
 exact (af (P.xp (P.call 0 c_check_fraction (a2 (P.v 1) (P.v 2))))
 (af (P.if_ (cW hr (P.v 1) ae) (ai (P.ret (bJ (a3 ae (P.call 1 c_low (a1 (P.v 0))) ae) ↥3))) ar)
 (af (P.set 3 (cE (Ib L.calm) G9 (P.w 2) m_max boot_max (a2 (P.call 1 c_low (a1 (P.v 0))) (aM (aM (P.call 3 c_height (a2 (P.v 1) (P.v 2))) (P.y 0)) ae))))
 (af (P.set 4 (P.call 4 c_scaled (a3 (P.v 1) (P.v 2) (P.v 3))))
 (ai (P.ret (bJ (a3 (eY (P.y 4) (P.y 4)) (P.v 3) (P.call 5 c_rest_of (a2 (aN (P.y 4) (P.y 4)) (P.y 4)))) ↥3)))))))
theorem xR (P:Pl X qc qi) (hS:X.env.scope=aa hG)
  (c_last_field:Callee X "last_field" aP):SSs X (ah hG) ir:=by
 unfold ir
 exact (ai (P.ret (bx (P.call 0 c_last_field (a1 (P.v 0))) (P.y 0))))
theorem Az (P:Pl X tJ tO) (hS:X.env.scope=aa jL)
  (c_sign_bit:Callee X "sign_bit" bK):SSs X (ah jL) jU:=by
 unfold jU
 exact (ai (P.ret (aE (dI (P.v 1) (P.call 0 c_sign_bit (a1 (P.v 0)))) (P.v 2))))
theorem pU (P:Pl X ji jo) (hS:X.env.scope=aa di)
  (c_endless:Callee X "endless" bg) (g_INEXACT:∃ t,X.mg "INEXACT"=some (.int 1 t)) (g_GREAT:∃ t,X.mg "GREAT"=some (.int 4 t)) (g_SMALL:∃ t,X.mg "SMALL"=some (.int 2 t)):SSs X (ah di) dz:=by
 unfold dz
 exact (af (P.if_ (cW hr (P.v 2) (P.call 0 c_endless (a1 (P.v 0)))) (ai (P.ret (aE (iw (P.w 1) g_INEXACT) (iw (P.w 2) g_GREAT)))) ar)
 (af (P.set 3 (IH (P.v 1) ↥29))
 (ai (P.ret (xr (gn (P.v 3)) (aE (iw (P.w 1) g_INEXACT) (iw (P.w 3) g_SMALL)) (iw (P.w 1) g_INEXACT))))))
theorem iy (P:Pl X dE dF) (hS:X.env.scope=aa aB)
  (fl_Way_name:FldOk X "Way" "name"):SSs X (ah aB) aQ:=by
 unfold aQ
 exact (af (P.if_ (cW hr (xu (cn:="Way") (f:="name") fl_Way_name (P.v 0)) bz) (ai (P.ret (gP hr (P.v 1) ae))) ar)
 (ai (P.ret (fE (gP hr (xu (cn:="Way") (f:="name") fl_Way_name (P.v 0)) bz) (dX (gP hr (P.v 1) ae))))))
theorem rL (P:Pl X lq lG) (hS:X.env.scope=aa bH)
  (fl_Way_name:FldOk X "Way" "name") (mt_Way_flees_nought:MethOk X "Way" "flees_nought" aJ):SSs X (ah bH) df:=by
 unfold df
 exact (af (P.if_ (cW hr (P.v 3) ae) (ai (P.ret yk)) ar)
 (af (P.if_ (cW hr (xu (cn:="Way") (f:="name") fl_Way_name (P.v 0)) bz) (ai (P.ret (El (gP hr (P.v 3) ae) (dX (fE (gP hr (P.v 3) ae) (dX (P.v 2))))))) ar)
 (af (P.if_ (cW hr (xu (cn:="Way") (f:="name") fl_Way_name (P.v 0)) bz) (ai (P.ret (M8 (P.v 3) ae))) ar)
 (ai (P.ret (sZ (cn:="Way") (m:="flees_nought") mt_Way_flees_nought (P.v 0) (a1 (P.v 1))))))))
theorem pZ (P:Pl X jn ju) (hS:X.env.scope=aa aZ)
  (fl_Way_name:FldOk X "Way" "name") (mt_Way_flees_nought:MethOk X "Way" "flees_nought" aJ):SSs X (ah aZ) cD:=by
 unfold cD
 exact (af (P.if_ (EZ (xu (cn:="Way") (f:="name") fl_Way_name (P.v 0)) (bJ (a2 bz bz) ↥3)) (ai (P.ret yk)) ar)
 (ai (P.ret (sZ (cn:="Way") (m:="flees_nought") mt_Way_flees_nought (P.v 0) (a1 (P.v 1))))))
theorem xM (P:Pl X p6 qd) (hS:X.env.scope=aa gU)
  (c_way_of:Callee X "way_of" bp) (c_low:Callee X "low" ko) (c_endless:Callee X "endless" bg) (mt_Way_bursts:MethOk X "Way" "bursts" dt) (c_signed:Callee X "signed" bV) (g_INEXACT:∃ t,X.mg "INEXACT"=some (.int 1 t)) (g_GREAT:∃ t,X.mg "GREAT"=some (.int 4 t)) (mt_Way_grows:MethOk X "Way" "grows" eC) (c_lost_flags:Callee X "lost_flags" cx):SSs X (ah gU) ij:=by
 unfold ij
 exact (af (P.set 6 (P.call 0 c_way_of (a1 (P.v 1))))
 (af (P.set 7 (aE (bx (aM (P.v 4) (P.call 1 c_low (a1 (P.v 0)))) (P.y 0)) (P.v 3)))
 (af (P.set 8 (P.call 2 c_endless (a1 (P.v 0))))
 (af (P.if_ (AW (P.v 7) (P.v 8)) (af (P.set 9 (xr (gn (sZ (cn:="Way") (m:="bursts") mt_Way_bursts (P.v 6) (a1 (P.v 2)))) (P.v 8) (aM (P.v 8) ae)))
 (ai (P.ret (bJ (a2 (P.call 3 c_signed (a3 (P.v 0) (P.v 2) (P.v 9))) (aE (iw (P.w 4) g_INEXACT) (iw (P.w 5) g_GREAT))) ↥3)))) ar)
 (af (P.if_ (cW hr (P.v 5) ae) (ai (P.ret (bJ (a2 (P.call 3 c_signed (a3 (P.v 0) (P.v 2) (P.v 7))) ae) ↥3))) ar)
 (af (P.set 9 (xr (gn (sZ (cn:="Way") (m:="grows") mt_Way_grows (P.v 6) (a3 (P.v 2) (gP hr (HW (P.v 7) ae) ae) (P.v 5)))) (aE (P.v 7) ae) (P.v 7)))
 (ai (P.ret (bJ (a2 (P.call 3 c_signed (a3 (P.v 0) (P.v 2) (P.v 9))) (P.call 6 c_lost_flags (a3 (P.v 0) (P.v 7) (P.v 9)))) ↥3)))))))))
theorem xN (P:Pl X p7 qe) (hS:X.env.scope=aa gW)
  (c_way_of:Callee X "way_of" bp) (c_cut:Callee X "cut" qF) (c_settled:Callee X "settled" ft):SSs X (ah gW) fD:=by
 unfold fD
 exact (af (P.xp (P.call 0 c_way_of (a1 (P.v 1))))
 (af (P.set 5 (P.call 1 c_cut (a3 (P.v 0) (P.v 3) (P.v 4))))
 (ai (P.ret (P.call 2 c_settled (aj (P.v 0) (aj (P.v 1) (aj (P.v 2) (aj (P.y 5) (aj (P.y 5) (aj (P.y 5) fm)))))))))))
theorem ED (P:Pl X yc yg) (hS:X.env.scope=aa mZ)
  (m_min:X.mg "min"=none) (m_abs:X.mg "abs"=none):SSs X (ah mZ) nG:=by
 unfold nG
 exact (af (P.set 1 (HS L.calm (P.w 0) m_min (a1 (td L.calm P.sc (x:="term") (ksn:=[]) (G:=[]) (ks:=[]) (by walk_at "C") rfl ↥3 (by rw [hS];decide +kernel) (jE (P.v 0)) (fun C fp s H W S' G'=>(jd (gw S' 0 rfl) ae))))))
 (af (P.set 2 ae)
 (af (lW P.toSx L 3 rfl (P.sto _ (mG 3)) (jE (P.v 0)) (af (P.set 4 (bx (P.y 3) (aM (P.y 3) (P.v 1))))
 (ai (P.set 2 (xr (cW hr (P.y 3) ae) (aM (P.v 2) (P.v 4)) (aE (P.v 2) (P.v 4)))))))
 (ai (P.ret (bJ (a3 (xr (qp (P.v 2) ae) ae ae) (cE Ig Hf (P.w 1) m_abs boot_abs (a1 (P.v 2))) (P.v 1)) ↥3))))))
theorem nQ (P:Pl X iC iI) (hS:X.env.scope=aa cI)
  (c_way_of:Callee X "way_of" bp):SSs X (ah cI) cN:=by
 unfold cN
 exact (af (P.xp (P.call 0 c_way_of (a1 (P.v 0))))
 (af (P.if_ (t_w (w_and (EZ ae (P.v 1)) (gQ (EZ ae (P.v 1))))) (ai (P.ret (xr (cW hr (P.v 0) bz) ae ae))) ar)
 (ai (P.ret (xr (EZ ae (P.v 1)) ae ae)))))
theorem kR (P:Pl X fI fM) (hS:X.env.scope=aa bQ)
  (c_worth_fraction:Callee X "worth_fraction" aV) (c_total:Callee X "total" km) (c_nought_sign:Callee X "nought_sign" bX) (c_signed:Callee X "signed" bV) (c_rounded:Callee X "rounded" bW):SSs X (ah bQ) bj:=by
 unfold bj
 exact (af (P.set 3 (P.call 0 c_worth_fraction (a1 (P.call 1 c_total (a1 (P.v 2))))))
 (af (P.if_ (cW hr (P.y 3) ae) (af (P.set 4 (P.call 2 c_nought_sign (a2 (P.v 1) (td L.calm P.sc (x:="term") (ksn:=[]) (G:=[]) (ks:=[]) (by walk_at "C") rfl ↥3 (by rw [hS];decide +kernel) (jE (P.v 2)) (fun C fp s H W S' G'=>(jd (gw S' 0 rfl) ae))))))
 (ai (P.ret (bJ (a2 (P.call 3 c_signed (a3 (P.v 0) (P.v 4) ae)) ae) ↥3)))) ar)
 (ai (P.ret (P.call 4 c_rounded (aj (P.v 0) (aj (P.v 1) (aj (P.y 3) (aj (P.y 3) (aj (P.y 3) fm))))))))))
theorem rE (P:Pl X kX lx) (hS:X.env.scope=aa d5)
  (c_endless:Callee X "endless" bg):SSs X (ah d5) eI:=by
 unfold eI
 exact (ai (P.ret (aE (P.call 0 c_endless (a1 (P.v 0))) (bx ae (aM (P.y 0) ae)))))
theorem kS (P:Pl X fJ fN) (hS:X.env.scope=aa bR)
  (c_no_number:Callee X "no_number" bb) (g_WRONG:∃ t,X.mg "WRONG"=some (.int 16 t)) (m_len:X.mg "len"=none) (c_signed:Callee X "signed" bV) (c_endless:Callee X "endless" bg) (c_settled_total:Callee X "settled_total" ax):SSs X (ah bR) bo:=by
 unfold bo
 exact (af (j9 P.toSx L.calm 3 rfl (P.sto _ (mG 3)) (x:="term") (ksn:=[]) (G:=[]) (ks:=[]) (by walk_at "C") rfl ↥3 (by rw [hS];decide +kernel) (jE (P.v 2)) (fun C fp s H W S' G'=>.one (Cv (jd (gw S' 0 rfl) ae))) (fun C fp s H W S' G'=>(jd (gw S' 0 rfl) ae)) (j2 hS (by decide +kernel)))
 (af (zd 3 (P.if_ (t_w (w_and (EZ ae (P.v 3)) (gQ (EZ ae (P.v 3))))) (ai (P.ret (bJ (a2 (P.call 0 c_no_number (a1 (P.v 0))) (iw (P.w 1) g_WRONG)) ↥3))) ar))
 (af (P.if_ (yW (cE kO kv (P.w 2) m_len PySem.boot_len (a1 (P.v 3))) ae) (ai (P.ret (bJ (a2 (P.call 3 c_signed (a3 (P.v 0) (P.y 3) (P.call 4 c_endless (a1 (P.v 0))))) ae) ↥3))) ar)
 (ai (P.ret (P.call 5 c_settled_total (a3 (P.v 0) (P.v 1) (P.v 2))))))))
theorem EB (P:Pl X ya ye) (hS:X.env.scope=aa mX) {C_NotFinite:Addr}
  (c_parted:Callee X "parted" bq) (c_last_field:Callee X "last_field" aP) (q_NotFinite:X.mg "NotFinite"=some (.ref  C_NotFinite)) (xi_NotFinite:PySem.W.excIn X.K C_NotFinite bmV "ValueError.__new__"=true) (c_low:Callee X "low" ko):SSs X (ah mX) nD:=by
 unfold nD
 exact (af (P.set 2 (P.call 0 c_parted (a2 (P.v 0) (P.v 1))))
 (af (P.set 3 (P.y 2))
 (af (P.set 4 (P.y 2))
 (af (P.set 5 (P.y 2))
 (af (P.if_ (cW hr (P.v 4) (P.call 1 c_last_field (a1 (P.v 0)))) (ai (m5 (x:="NotFinite") L.calm (P.w 2) q_NotFinite xi_NotFinite)) ar)
 (af (P.if_ (cW hr (P.v 4) ae) (ai (P.ret (bJ (a3 (P.v 3) (P.v 5) (P.call 3 c_low (a1 (P.v 0)))) ↥3))) ar)
 (ai (P.ret (bJ (a3 (P.v 3) (aE ↥29 (P.v 5)) (aM (aE (P.call 3 c_low (a1 (P.v 0))) (P.v 4)) ae)) ↥3)))))))))
theorem nP (P:Pl X iB iH) (hS:X.env.scope=aa cH)
  (c_kind:Callee X "kind" de) (c_parted:Callee X "parted" bq) (c_worth:Callee X "worth" ki):SSs X (ah cH) cc:=by
 unfold cc
 exact (af (P.if_ (cW hr (P.call 0 c_kind (a2 (P.v 0) (P.v 1))) bz) (ai (P.ret (bJ (a3 (jd (P.call 1 c_parted (a2 (P.v 0) (P.v 1))) ae) En ae) ↥3))) ar)
 (ai (P.ret (P.call 2 c_worth (a2 (P.v 0) (P.v 1))))))
theorem lT (P:Pl X gE gF) (hS:X.env.scope=aa cq)
  (c_number_term:Callee X "number_term" az):SSs X (ah cq) cv:=by
 unfold cv
 exact (af (P.set 3 (P.call 0 c_number_term (a2 (P.v 0) (P.v 1))))
 (af (P.set 4 (P.call 0 c_number_term (a2 (P.v 0) (P.v 2))))
 (af (P.set 5 (HU (P.y 3) (P.y 4)))
 (af (P.if_ (t_w (w_or (Cv (P.y 3)) (j1 (Cv (P.y 4))))) (ai (P.ret (bJ (a3 (P.v 5) En ae) ↥3))) ar)
 (ai (P.ret (bJ (a3 (P.v 5) (dI (P.y 3) (P.y 4)) (aE (P.y 3) (P.y 4))) ↥3)))))))
theorem kT (P:Pl X fK fO) (hS:X.env.scope=aa bS)
  (c_kind:Callee X "kind" de):SSs X (ah bS) b9:=by
 unfold b9
 exact (af (P.set 3 (bJ (a2 (P.call 0 c_kind (a2 (P.v 0) (P.v 1))) (P.call 0 c_kind (a2 (P.v 0) (P.v 2)))) ↥3))
 (ai (P.ret (fE (Kk bz (P.v 3)) (dX (Kk bz (P.v 3)))))))
theorem nO (P:Pl X iA iG) (hS:X.env.scope=aa cG)
  (c_way_of:Callee X "way_of" bp) (m_list:X.mg "list"=none) (c_any_none:Callee X "any_none" dP) (c_no_number:Callee X "no_number" bb) (c_product_wrong:Callee X "product_wrong" aS) (m_any:X.mg "any"=none) (g_WRONG:∃ t,X.mg "WRONG"=some (.int 16 t)) (c_product_term:Callee X "product_term" aY) (c_settled_terms:Callee X "settled_terms" aF) (c_number_term:Callee X "number_term" az):SSs X (ah cG) b8:=by
 unfold b8
 exact (af (P.xp (P.call 0 c_way_of (a1 (P.v 1))))
 (af (oH P.toSx 4 rfl (P.sto _ (mG 4)) (ri (P.w 1) m_list (P.v 3)))
 (af (lW P.toSx L 5 rfl (P.sto _ (mG 5)) (jE (P.v 2)) (ai (ze P.toSx 4 rfl (P.v 5))))
 (af (CQ (gn (P.call 2 c_any_none (a2 (P.v 0) (P.v 4)))) (ai (P.ret (bJ (a2 (P.call 3 c_no_number (a1 (P.v 0))) ae) ↥3))) ar)
 (af (P.if_ (gn (cE (Kn L.calm) J5 (P.w 4) m_any boot_any (a1 (td L.calm P.sc (x:="pair") (ksn:=["size"]) (G:=["product_wrong"]) (ks:=[0]) (by walk_at "C") rfl ↥3 (by rw [hS];decide +kernel) (jE (P.v 2)) (fun C fp s H W S' G'=>(pI ⟨c_product_wrong.ex⟩ (G' _ (mG 0)) (a3 (gw S' 1 rfl) (jd (gw S' 0 rfl) ae) (jd (gw S' 0 rfl) ae)))))))) (ai (P.ret (bJ (a2 (P.call 3 c_no_number (a1 (P.v 0))) (iw (P.w 5) g_WRONG)) ↥3))) ar)
 (af (j9 P.toSx L.calm 6 rfl (P.sto _ (mG 6)) (x:="pair") (ksn:=["size"]) (G:=["product_term"]) (ks:=[0]) (by walk_at "C") rfl ↥3 (by rw [hS];decide +kernel) (jE (P.v 2)) (fun C fp s H W S' G'=>.nil) (fun C fp s H W S' G'=>(pI ⟨c_product_term.ex⟩ (G' _ (mG 0)) (a3 (gw S' 1 rfl) (jd (gw S' 0 rfl) ae) (jd (gw S' 0 rfl) ae)))) (j2 hS (by decide +kernel)))
 (ai (zd 6 (P.ret (P.call 6 c_settled_terms (a3 (P.v 0) (P.v 1) (aE (P.v 6) (td L.calm P.sc (x:="bits") (ksn:=["size"]) (G:=["number_term"]) (ks:=[0]) (by walk_at "C") rfl ↥3 (by rw [hS];decide +kernel) (jE (P.v 3)) (fun C fp s H W S' G'=>(pI ⟨c_number_term.ex⟩ (G' _ (mG 0)) (a2 (gw S' 1 rfl) (gw S' 0 rfl)))))))))))))))))
theorem EE (P:Pl X yd yh) (hS:X.env.scope=aa m6)
  (c_settled_sum:Callee X "settled_sum" ay):SSs X (ah m6) nH:=by
 unfold nH
 exact (ai (P.ret (P.call 0 c_settled_sum (aj (P.v 0) (aj (P.v 1) (aj (jG fm ↥3) (aj (jG (a2 (P.v 2) (P.v 3)) ↥3) fm)))))))
theorem xQ (P:Pl X qb qh) (hS:X.env.scope=aa cY)
  (m_len:X.mg "len"=none) (c_added:Callee X "added" iT) (c_check_bits:Callee X "check_bits" cC) (c_way_of:Callee X "way_of" bp):SST X (ah cY) iq:=by
 unfold iq
 exact (oq (P.xp (P.call 0 c_way_of (a1 (P.v 1)))) wb
 (oq (P.xp (P.call 1 c_check_bits (a2 (P.v 0) (P.v 2)))) wb
 (oq (r9 P.toSx 3 rfl (P.sto _ (mG 3))) v7
 (oq (P.set 4 ae) ph
 (oq (lW P.toSx L 5 rfl (P.sto _ (mG 5)) (jE (P.v 2)) (ai (CQ (cW hr (cE kO kv (P.w 2) m_len PySem.boot_len (a1 (P.v 3))) ae) (ai (gY P.toSx 3 rfl (P.v 5))) (af (Gi P.toSx 6 rfl (P.sto _ (mG 6)) (P.call 3 c_added (aj (P.v 0) (aj (P.v 1) (aj (jd (P.v 3) (jF ae)) (aj (P.v 5) fm))))))
 (af (gY P.toSx 3 rfl (P.y 6))
 (ai (P.set 4 (HV (P.v 4) (P.y 6))))))))) (DM (DL pf (Bf uo (Bf pf ph))))
 (Jj P.toSx 3 4 rfl rfl))))))
theorem nU (P:Pl X iE iK) (hS:X.env.scope=aa cK)
  (m_len:X.mg "len"=none):SSs X (ah cK) cP:=by
 unfold cP
 exact (af (P.if_ (qp (P.v 1) (cE kO kv (P.w 0) m_len PySem.boot_len (a1 (P.v 0)))) (ai (P.ret (jd (P.v 0) (P.v 1)))) ar)
 (ai (P.ret ae)))
theorem rJ (P:Pl X lh lD) (hS:X.env.scope=aa d9)
  (m_list:X.mg "list"=none) (cT_in_turn:CalleeT X "in_turn" cA) (m_tuple:X.mg "tuple"=none) (isi_tuple:Isi X (.ty "tuple")) (hE:lH X) (m_isinstance:X.mg "isinstance"=none) (m_len:X.mg "len"=none) (isi_list:Isi X (.ty "list")):SSs X (ah d9) eS:=by
 unfold eS
 exact (af (oH P.toSx 3 rfl (P.sto _ (mG 3)) (ri (P.w 0) m_list (P.v 2))) (zi P.toSx 3 4 5 rfl rfl rfl (P.sto _ (mG 4)) (P.sto _ (mG 5)) (x_call cT_in_turn (P.w 1) (a3 (P.v 0) (P.v 1) (P.v 3))) (t_w (w_or (jv (gn (rj isi_tuple hE (P.w 2) m_isinstance (P.v 4) (Ej (n:="tuple") (P.w 3) m_tuple boot_tuple)))) (w_or (yi hr (cE kO kv (P.w 4) m_len PySem.boot_len (a1 (P.v 4))) ae) (j1 (jv (gn (rj isi_list hE (P.w 2) m_isinstance (P.y 4) (Ej (n:="list") (P.w 0) m_list boot_list)))))))) (ri (P.w 0) m_list (P.y 4)) ae (yi hr (P.y 4) (P.v 5)) ae (fE (gP hr (P.v 3) (aE (P.v 2) (jG (a1 ae) ↥3))) (dX (El (M7 (cE kO kv (P.w 4) m_len PySem.boot_len (a1 (P.v 2))) ae) (dX (gP hr (P.v 5) (P.v 2))))))))
theorem rF (P:Pl X kY lz) (hS:X.env.scope=aa d6)
  (m_int:X.mg "int"=none) (isi_int:Isi X (.ty "int")) (hE:lH X) (m_isinstance:X.mg "isinstance"=none) (m_bool:X.mg "bool"=none) (isi_bool:Isi X (.ty "bool")):SSs X (ah d6) eJ:=by
 unfold eJ
 exact (ai (P.ret (fE (rj isi_int hE (P.w 0) m_isinstance (P.v 0) (Ej (n:="int") (P.w 1) m_int boot_int)) (dX (Em (rj isi_bool hE (P.w 0) m_isinstance (P.v 0) (Ej (n:="bool") (P.w 2) m_bool boot_bool)))))))
theorem rG (P:Pl X kZ lA) (hS:X.env.scope=aa d7)
     : SSs X (ah d7) eO:=by
 unfold eO
 exact (af (P.set 2 (Ki (P.v 1) (P.y 0)))
 (af (P.if_ (cW hr (P.v 2) ae) (ai (P.ret (P.v 1))) ar)
 (ai (P.ret (bx (aE ↥29 (aN (P.v 1) ↥29)) (aM (P.v 2) ae))))))
theorem xP (P:Pl X p9 qg) (hS:X.env.scope=aa gZ)
     : SSs X (ah gZ) ip:=by
 unfold ip
 exact (af (P.if_ (cW hr (P.v 0) bz) (ai (P.ret (El (M7 (P.v 2) ae) (dX (fE (gP hr (P.v 2) ae) (dX (P.v 3))))))) ar)
 (af (P.if_ (cW hr (P.v 0) bz) (ai (P.ret (M8 (P.v 2) ae))) ar)
 (ai (P.ret (P.v 1)))))
theorem uM (P:Pl X mr mD) (hS:X.env.scope=aa fS)
     : SSs X (ah fS) gh:=by
 unfold gh
 exact (af (P.if_ (cW hr (P.v 0) bz) (ai (P.ret (El (IH (P.v 2) ae) (dX (fE (gP hr (P.v 2) ae) (dX (P.v 3))))))) ar)
 (af (P.if_ (cW hr (P.v 0) bz) (ai (P.ret (IH (P.v 2) ae))) ar)
 (ai (P.ret (Em (P.v 1))))))
theorem uO (P:Pl X mw mF) (hS:X.env.scope=aa fV)
  (m_tuple:X.mg "tuple"=none) (isi_tuple:Isi X (.ty "tuple")) (hE:lH X) (m_isinstance:X.mg "isinstance"=none) (m_len:X.mg "len"=none) (c_law_whole:Callee X "_law_whole" aR) (c_law_value:Callee X "_law_value" aK) (c_law_near:Callee X "_law_near" dO) (c_law_far:Callee X "_law_far" fz):SSs X (ah fV) bM:=by
 unfold bM
 exact (af (P.if_ (t_w (w_or (jv (gn (rj isi_tuple hE (P.w 0) m_isinstance (P.v 5) (Ej (n:="tuple") (P.w 1) m_tuple boot_tuple)))) (w_or (yi hr (cE kO kv (P.w 2) m_len PySem.boot_len (a1 (P.v 5))) ae) (w_or (jv (gn (P.call 3 c_law_whole (a1 (P.y 5))))) (j1 (jv (gn (P.call 3 c_law_whole (a1 (P.y 5)))))))))) (ai (P.ret yk)) ar)
 (af (P.set 6 (aM (P.y 5) (bx (P.v 2) (aE (P.y 0) (P.y 0)))))
 (af (P.set 7 (bx (aM ↥29 ae) (P.y 0)))
 (af (P.if_ (jv (vj Hb Hb oW oW ae (P.v 6) (P.v 7))) (ai (P.ret yk)) ar)
 (af (P.set 8 (dI (P.call 4 c_law_value (a2 (P.v 0) (P.v 6))) (P.v 4)))
 (af (P.set 9 (El (fE (gP hr (P.v 1) bz) (dX (gP hr (P.v 2) ae))) (dX (fE (gP hr (P.v 1) bz) (dX (gP hr (P.v 2) ae))))))
 (af (P.if_ (t_w (w_and (cW hr (P.v 6) (P.v 7)) (gQ (AW (P.v 3) (P.v 8))))) (ai (P.ret (fE (gP hr (P.y 5) ae) (dX (El (gP hr (P.v 1) bz) (El (gP hr (P.v 1) bz) (dX (P.v 9)))))))) ar)
 (af (P.if_ (cW hr (P.v 3) (P.v 8)) (ai (P.ret (gP hr (P.y 5) ae))) ar)
 (af (P.set 10 ae)
 (af (P.if_ (qp (P.v 3) (bx (P.v 4) (P.y 0))) (ai (P.set 10 ae)) ar)
 (af (P.if_ (yW (P.v 3) (P.v 8)) (af (P.set 12 (dI (P.call 4 c_law_value (a2 (P.v 0) (aE (P.v 6) ae))) (P.v 4)))
 (af (P.if_ (AW (P.v 3) (P.v 12)) (ai (P.ret (fE (gP hr (P.y 5) ae) (fE (gP hr (P.v 6) (aM (P.v 7) ae)) (fE (M6 hr (P.v 1) bz) (fE (M6 hr (P.v 1) bz) (dX (Em (P.v 9))))))))) ar)
 (ai (P.ret (fE (gP hr (P.y 5) (P.v 10)) (dX (P.call 5 c_law_near (aj (P.v 1) (aj (P.v 9) (aj (aM (aM (dI ae (P.v 3)) (P.v 8)) (P.v 12)) (aj (gP hr (aN (P.v 6) ae) ae) fm))))))))))) ar)
 (af (P.if_ (cW hr (P.v 6) (P.v 7)) (ai (P.set 10 ae)) ar)
 (af (P.set 11 (dI (P.call 4 c_law_value (a2 (P.v 0) (aM (P.v 6) ae))) (P.v 4)))
 (af (P.if_ (Np (P.v 3) (P.v 11)) (ai (P.ret yk)) ar)
 (ai (P.ret (fE (gP hr (P.y 5) (P.v 10)) (dX (P.call 6 c_law_far (aj (P.v 1) (aj (P.v 9) (aj (aM (aM (dI ae (P.v 3)) (P.v 8)) (P.v 11)) (aj (gP hr (aN (P.v 6) ae) ae) fm)))))))))))))))))))))))
theorem uL (P:Pl X mn mC) (hS:X.env.scope=aa fR)
  (c_law_value:Callee X "_law_value" aK) (c_law_fair:Callee X "_law_fair" aH):SSs X (ah fR) gf:=by
 unfold gf
 exact (af (P.set 6 (aM (P.v 5) (bx (P.v 2) (aE (P.y 0) (P.y 0)))))
 (af (P.set 7 (bx (aM ↥29 ae) (P.y 0)))
 (af (P.if_ (jv (vj Hb Hb oW oW ae (P.v 6) (P.v 7))) (ai (P.ret (jF ae))) ar)
 (af (P.set 8 ae)
 (af (P.if_ (qp (P.v 3) (bx (P.v 4) (P.y 0))) (ai (P.set 8 ae)) ar)
 (af (P.if_ (t_w (w_and (qp (P.v 6) (P.v 7)) (gQ (cW hr (P.v 3) (dI (P.call 0 c_law_value (a2 (P.v 0) (P.v 6))) (P.v 4)))))) (ai (P.set 8 ae)) (ai (P.if_ (t_w (w_or (cW hr (P.v 6) (P.v 7)) (j1 (AW (P.v 3) (dI (P.call 0 c_law_value (a2 (P.v 0) (P.v 7))) (P.v 4)))))) (ai (P.set 8 ae)) ar)))
 (af (P.if_ (gn (P.call 1 c_law_fair (aj (P.v 0) (aj (P.v 1) (aj (P.v 2) (aj (P.v 3) (aj (P.v 4) (aj (bJ (a2 (P.v 5) (P.v 8)) ↥3) fm)))))))) (ai (P.ret (P.v 8))) ar)
 (ai (P.ret (jF ae))))))))))
theorem uN (P:Pl X mv mE) (hS:X.env.scope=aa fU)
  (c_law_value:Callee X "_law_value" aK):SSs X (ah fU) gi:=by
 unfold gi
 exact (af (P.set 2 (bx ae (aE (P.y 0) (P.y 0))))
 (af (P.set 3 (P.call 0 c_law_value (a2 (P.v 0) (aN (P.v 1) (P.v 2)))))
 (af (P.if_ (AW (P.v 1) (P.v 2)) (ai (P.ret (jF (P.v 3)))) ar)
 (ai (P.ret (P.v 3))))))
theorem rK (P:Pl X lj lE) (hS:X.env.scope=aa eu)
  (m_int:X.mg "int"=none) (c_law_line:Callee X "_law_line" cT) (c_law_told:Callee X "_law_told" dN) (m_abs:X.mg "abs"=none):SSs X (ah eu) eV:=by
 unfold eV
 exact (af (P.set 5 (bx ae (aE (P.y 0) (P.y 0))))
 (af (P.set 6 (aM (P.v 5) ↥29))
 (af (P.set 7 (aE (P.v 6) (bx ae (aM (P.y 0) ae))))
 (af (P.if_ (t_w (w_or (yW (aN (P.v 2) (P.v 5)) (P.v 6)) (j1 (yW (aN (P.v 3) (P.v 5)) (P.v 6))))) (ai (P.ret (jd (jG (a2 (jF ae) ae) ↥3) (je rA qL (P.w 0) m_int PyProof.Rows.boot_int (a1 (gP hr (P.v 4) (P.v 7))))))) ar)
 (af (P.if_ (t_w (w_and (cW hr (aN (P.v 2) (P.v 5)) (P.v 6)) (w_and (cW hr (aN (P.v 3) (P.v 5)) (P.v 6)) (gQ (yi hr (P.v 2) (P.v 3)))))) (ai (P.ret (jd (jG (a2 (jF ae) ae) ↥3) (je rA qL (P.w 0) m_int PyProof.Rows.boot_int (a1 (gP hr (P.v 4) (P.v 7))))))) ar)
 (af (P.if_ (cW hr (aN (P.v 2) (P.v 5)) (P.v 6)) (ai (P.ret (jd (jG (a2 (jF ae) ae) ↥3) (je rA qL (P.w 0) m_int PyProof.Rows.boot_int (a1 (gP hr (P.v 4) (P.v 2))))))) ar)
 (af (P.if_ (cW hr (aN (P.v 3) (P.v 5)) (P.v 6)) (ai (P.ret (jd (jG (a2 (jF ae) ae) ↥3) (je rA qL (P.w 0) m_int PyProof.Rows.boot_int (a1 (gP hr (P.v 4) (P.v 3))))))) ar)
 (af (P.set 8 (aE (P.call 1 c_law_line (a2 (P.v 0) (P.v 2))) (P.call 1 c_law_line (a2 (P.v 0) (P.v 3)))))
 (af (P.if_ (cW hr (P.v 8) ae) (af (P.set 9 (eY (P.v 2) (P.v 5)))
 (af (P.if_ (yi hr (P.v 9) (eY (P.v 3) (P.v 5))) (ai (P.set 9 (je rA qL (P.w 0) m_int PyProof.Rows.boot_int (a1 (gP hr (P.v 1) bz))))) ar)
 (ai (P.ret (jd (jG (a2 (jF ae) ae) ↥3) (je rA qL (P.w 0) m_int PyProof.Rows.boot_int (a1 (gP hr (P.v 4) (dI (P.v 9) (P.v 5)))))))))) ar)
 (ai (P.ret (P.call 2 c_law_told (aj (P.v 0) (aj (P.v 1) (aj (je rA qL (P.w 0) m_int PyProof.Rows.boot_int (a1 (IH (P.v 8) ae))) (aj (cE Ig Hf (P.w 3) m_abs boot_abs (a1 (P.v 8))) (aj ae (aj (P.v 4) fm))))))))))))))))))
theorem Kr (P:Pl X Iq Iw) (hS:X.env.scope=aa lO)
  (c_law_size_by:Callee X "_law_size_by" bY) (c_law_cell_at:Callee X "_law_cell_at" aT) (c_law_way_by:Callee X "_law_way_by" cy) (c_law_row_by:Callee X "_law_row_by" cz) (m_list:X.mg "list"=none) (c_in_turn:Callee X "in_turn" cA) (m_tuple:X.mg "tuple"=none) (isi_tuple:Isi X (.ty "tuple")) (hE:lH X) (m_isinstance:X.mg "isinstance"=none) (m_len:X.mg "len"=none) (isi_list:Isi X (.ty "list")) (c_law_whole:Callee X "_law_whole" aR) (m_range:X.mg "range"=none) (c_law_added:Callee X "_law_added" cm) (c_law_apart:Callee X "_law_apart" bI):SSs X (ah lO) Aj:=by
 unfold Aj
 exact (af (P.set 1 (P.call 0 c_law_size_by (a1 (P.call 1 c_law_cell_at (a2 (P.v 0) ae)))))
 (af (P.set 2 (P.call 2 c_law_way_by (a1 (P.call 1 c_law_cell_at (a2 (P.v 0) ae)))))
 (af (P.set 3 (P.call 3 c_law_row_by (a3 (P.v 1) (Ek (P.v 0) (jP ae) (jP ae)) (P.call 1 c_law_cell_at (a2 (P.v 0) ae)))))
 (af (P.set 4 (je Ie Ha (P.w 4) m_list boot_list (a1 (P.v 3))))
 (af (P.set 5 (P.call 5 c_in_turn (a3 (P.v 1) (P.v 2) (P.v 4))))
 (af (P.if_ (t_w (w_or (yi hr (P.v 4) (P.v 3)) (w_or (jv (gn (rj isi_tuple hE (P.w 6) m_isinstance (P.v 5) (Ej (n:="tuple") (P.w 7) m_tuple boot_tuple)))) (w_or (yi hr (cE kO kv (P.w 8) m_len PySem.boot_len (a1 (P.v 5))) ae) (j1 (jv (gn (rj isi_list hE (P.w 6) m_isinstance (P.y 5) (Ej (n:="list") (P.w 4) m_list boot_list))))))))) (ai (P.ret yk)) ar)
 (af (P.if_ (t_w (w_or (yi hr (cE kO kv (P.w 8) m_len PySem.boot_len (a1 (P.y 5))) (cE kO kv (P.w 8) m_len PySem.boot_len (a1 (P.v 3)))) (j1 (jv (gn (P.call 9 c_law_whole (a1 (P.y 5)))))))) (ai (P.ret yk)) ar)
 (af (P.set 6 ae)
 (af (lW P.toSx L 7 rfl (P.sto _ (mG 7)) (HE (P.w 10) m_range (cE kO kv (P.w 8) m_len PySem.boot_len (a1 (P.v 3)))) (af (P.if_ (t_w (w_or (jv (gn (P.call 9 c_law_whole (a1 (jd (P.y 5) (P.v 7)))))) (j1 (t_w (w_and (cW hr (P.v 7) ae) (gQ (yi hr (jd (P.y 5) ae) (P.y 3)))))))) (ai (P.ret yk)) ar)
 (ai (P.if_ (yW (P.v 7) ae) (af (P.set 8 (P.call 11 c_law_added (aj (P.v 1) (aj (P.v 2) (aj (jd (P.y 5) (aM (P.v 7) ae)) (aj (jd (P.v 3) (P.v 7)) (aj (jd (P.y 5) (P.v 7)) fm)))))))
 (af (P.if_ (qp (P.v 8) ae) (ai (P.ret yk)) ar)
 (ai (P.set 6 (HV (P.v 6) (P.v 8)))))) ar))))
 (af (P.if_ (t_w (w_or (yi hr (P.y 5) (P.v 6)) (j1 (jv (gn (P.call 12 c_law_apart (a3 (P.v 1) (P.v 2) (P.v 3)))))))) (ai (P.ret yk)) ar)
 (ai (P.ret (fE (P.call 12 c_law_apart (a3 (P.v 1) (P.v 2) (Ek (P.v 3) su (jP ae)))) (dX (P.call 12 c_law_apart (a3 (P.v 1) (P.v 2) (jG fm ↥3)))))))))))))))))
end
theorem all_mk {P:Program} {w:World} {K:PySem.W.Frag} {h:Heap} {mg:Str->Option Value} {fa:Addr} (KX:K.In h) (GG:h.Ns mainGlobals mg) (hfa:mg "law"=some (.ref fa))
  {C_Way:Addr} (n_Way:PySem.W.nsIn K mainGlobals "Way"=some (some (.ref C_Way)))
  (pg_Way:PySem.W.plainGet K C_Way Str.empty=true) (hd_Way:PySem.W.hasDictIn K C_Way=true) (po_Way:PySem.W.plainOver K C_Way=true) (sa_Way:PySem.W.findIn K (.ref C_Way) "__setattr__"=some (some (.builtin "object.__setattr__")))
  (na_Way:PySem.W.findIn K (.ref C_Way) "name"=some none)
  {fIWay:Addr} {odIWay anIWay:Option Addr} {slIWay:Array (Option Value)} {ocIWay kVIWay dcIWay pmIWay cdIWay ctIWay:Value}
  (aIWay:PySem.W.findIn K (.ref C_Way) "__init__"=some (some (.ref fIWay))) (uIWay:PySem.W.isFn K (.ref fIWay)=true) (mm_Way:PySem.W.makesIn K C_Way=true) (kc_Way:PySem.W.keepIn K (.ref C_Way)=true)
  (lIWay:K.lookup fIWay=some ⟨ocIWay,odIWay,.func (PySem.W.fnOf "__init__" "Way.__init__" (dg fX) (ah fX) (aa fX) .none kVIWay dcIWay pmIWay anIWay cdIWay ctIWay),slIWay⟩)
  (eIWay:PySem.W.codeIn K cdIWay "Way.__init__"=true) (kIWay:PySem.W.keepIn K (.ref fIWay)=true)
  (q1:DA K "_law_size_by" cJ)
  (q2:DA K "_law_way_by" dj)
  (q3:DA K "_law_finite_by" bT)
  (q4:DA K "_law_clean" d8)
  (q5:DA K "_law_bits_by" cL)
  (q6:DA K "_law_row_by" dk)
  (q7:DA K "way_of" jK)
  (q8:DA K "sign_bit" fQ)
  (q9:DA K "width" mY)
  (q10:DA K "parted" jN)
  (q11:DA K "check_bits" dn)
  (q12:DA K "last_field" dm)
  (q13:DA K "kind" se)
  (q14:DA K "any_none" fW)
  (q15:DA K "worth_fraction" bA)
  (q16:DA K "check_fraction" bC)
  (q17:DA K "scaled" jM)
  (q18:DA K "bias" sf)
  (q19:DA K "low" zg)
  (q20:DA K "rest_by_middle" bB)
  (q21:DA K "rest_of" gX)
  (q22:DA K "height" jO)
  (q23:DA K "cut" zh)
  (q24:DA K "endless" hG)
  (q25:DA K "signed" jL)
  (q26:DA K "lost_flags" di)
  {f27:Addr} {od27 an27:Option Addr} {sl27:Array (Option Value)} {oc27 kV27 dc27 pm27 cd27 ct27:Value}
  (a27:PySem.W.findIn K (.ref C_Way) "flees_nought"=some (some (.ref f27))) (u27:PySem.W.isFn K (.ref f27)=true)
  (l27:K.lookup f27=some ⟨oc27,od27,.func (PySem.W.fnOf "flees_nought" "Way.flees_nought" (dg aB) (ah aB) (aa aB) .none kV27 dc27 pm27 an27 cd27 ct27),sl27⟩)
  (e27:PySem.W.codeIn K cd27 "Way.flees_nought"=true) (k27:PySem.W.keepIn K (.ref f27)=true)
  {f28:Addr} {od28 an28:Option Addr} {sl28:Array (Option Value)} {oc28 kV28 dc28 pm28 cd28 ct28:Value}
  (a28:PySem.W.findIn K (.ref C_Way) "grows"=some (some (.ref f28))) (u28:PySem.W.isFn K (.ref f28)=true)
  (l28:K.lookup f28=some ⟨oc28,od28,.func (PySem.W.fnOf "grows" "Way.grows" (dg bH) (ah bH) (aa bH) .none kV28 dc28 pm28 an28 cd28 ct28),sl28⟩)
  (e28:PySem.W.codeIn K cd28 "Way.grows"=true) (k28:PySem.W.keepIn K (.ref f28)=true)
  {f29:Addr} {od29 an29:Option Addr} {sl29:Array (Option Value)} {oc29 kV29 dc29 pm29 cd29 ct29:Value}
  (a29:PySem.W.findIn K (.ref C_Way) "bursts"=some (some (.ref f29))) (u29:PySem.W.isFn K (.ref f29)=true)
  (l29:K.lookup f29=some ⟨oc29,od29,.func (PySem.W.fnOf "bursts" "Way.bursts" (dg aZ) (ah aZ) (aa aZ) .none kV29 dc29 pm29 an29 cd29 ct29),sl29⟩)
  (e29:PySem.W.codeIn K cd29 "Way.bursts"=true) (k29:PySem.W.keepIn K (.ref f29)=true)
  (q30:DA K "settled" gU)
  (q31:DA K "rounded" gW)
  (q32:DA K "total" mZ)
  (q33:DA K "nought_sign" cI)
  (q34:DA K "settled_total" bQ)
  (q35:DA K "no_number" d5)
  (q36:DA K "settled_terms" bR)
  (q37:DA K "worth" mX)
  (q38:DA K "number_term" cH)
  (q39:DA K "product_term" cq)
  (q40:DA K "product_wrong" bS)
  (q41:DA K "settled_sum" cG)
  (q42:DA K "added" m6)
  {f43:Addr} {od43 an43:Option Addr} {sl43:Array (Option Value)} {oc43 kV43 dc43 pm43 cd43 ct43:Value}
  (a43:PySem.W.nsIn K mainGlobals "in_turn"=some (some (.ref f43)))
  (l43:K.lookup f43=some ⟨oc43,od43,.func (PySem.W.fnOf "in_turn" "in_turn" (dg cY) (ah cY) (aa cY) .none kV43 dc43 pm43 an43 cd43 ct43),sl43⟩)
  (e43:PySem.W.codeIn K cd43 "in_turn"=true) (k43:PySem.W.keepIn K (.ref f43)=true)
  (q44:DA K "_law_cell_at" cK)
  (q45:DA K "_law_apart" d9)
  (q46:DA K "_law_whole" d6)
  (q47:DA K "_law_value" d7)
  (q48:DA K "_law_far" gZ)
  (q49:DA K "_law_near" fS)
  (q50:DA K "_law_fair" fV)
  (q51:DA K "_law_told" fR)
  (q52:DA K "_law_line" fU)
  (q53:DA K "_law_added" eu)
  {f54:Addr} {od54 an54:Option Addr} {sl54:Array (Option Value)} {oc54 kV54 dc54 pm54 cd54 ct54:Value}
  (a54:PySem.W.nsIn K mainGlobals "law"=some (some (.ref f54)))
  (l54:K.lookup f54=some ⟨oc54,od54,.func (PySem.W.fnOf "law" "law" (dg lO) (ah lO) (aa lO) .none kV54 dc54 pm54 an54 cd54 ct54),sl54⟩)
  (e54:PySem.W.codeIn K cd54 "law"=true) (k54:PySem.W.keepIn K (.ref f54)=true)
  (z_min:PySem.W.nsIn K mainGlobals "min"=some none)
  (z_max:PySem.W.nsIn K mainGlobals "max"=some none)
  (z_len:PySem.W.nsIn K mainGlobals "len"=some none)
  (z_abs:PySem.W.nsIn K mainGlobals "abs"=some none)
  (z_list:PySem.W.nsIn K mainGlobals "list"=some none)
  (z_any:PySem.W.nsIn K mainGlobals "any"=some none)
  (z_tuple:PySem.W.nsIn K mainGlobals "tuple"=some none)
  (z_isinstance:PySem.W.nsIn K mainGlobals "isinstance"=some none)
  (z_int:PySem.W.nsIn K mainGlobals "int"=some none)
  (z_bool:PySem.W.nsIn K mainGlobals "bool"=some none)
  (z_range:PySem.W.nsIn K mainGlobals "range"=some none)
  {A_NAMES:Addr} {dd_NAMES:Option Addr} {nn_NAMES:Nat} {ss_NAMES:Array (Option Value)} {t0_NAMES t1_NAMES t2_NAMES t3_NAMES t4_NAMES:Tok} (y_NAMES:PySem.W.nsIn K mainGlobals "NAMES"=some (some (.ref A_NAMES)))
  (yl_NAMES:K.lookup A_NAMES=some ⟨.type "tuple",dd_NAMES,.seq #[.str "even" t0_NAMES,.str "away" t1_NAMES,.str "nought" t2_NAMES,.str "up" t3_NAMES,.str "down" t4_NAMES] nn_NAMES,ss_NAMES⟩)
  {t_INEXACT:Tok} (y_INEXACT:PySem.W.nsIn K mainGlobals "INEXACT"=some (some (.int 1 t_INEXACT)))
  {t_GREAT:Tok} (y_GREAT:PySem.W.nsIn K mainGlobals "GREAT"=some (some (.int 4 t_GREAT)))
  {t_SMALL:Tok} (y_SMALL:PySem.W.nsIn K mainGlobals "SMALL"=some (some (.int 2 t_SMALL)))
  {t_WRONG:Tok} (y_WRONG:PySem.W.nsIn K mainGlobals "WRONG"=some (some (.int 16 t_WRONG)))
  {C_MillError:Addr} (n_MillError:PySem.W.nsIn K mainGlobals "MillError"=some (some (.ref C_MillError)))
  {C_NoBits:Addr} (n_NoBits:PySem.W.nsIn K mainGlobals "NoBits"=some (some (.ref C_NoBits)))
  {C_NotFinite:Addr} (n_NotFinite:PySem.W.nsIn K mainGlobals "NotFinite"=some (some (.ref C_NotFinite)))
  {C_NoWay:Addr} (n_NoWay:PySem.W.nsIn K mainGlobals "NoWay"=some (some (.ref C_NoWay)))
  {C_NoFraction:Addr} (n_NoFraction:PySem.W.nsIn K mainGlobals "NoFraction"=some (some (.ref C_NoFraction)))
  (xi_NoWay:PySem.W.excIn K C_NoWay bmV "ValueError.__new__"=true)
  (xi_NoBits:PySem.W.excIn K C_NoBits bmV "ValueError.__new__"=true)
  (xi_NoFraction:PySem.W.excIn K C_NoFraction bmV "ValueError.__new__"=true)
  (xi_NotFinite:PySem.W.excIn K C_NotFinite bmV "ValueError.__new__"=true)
  (v_MillError:XCls K C_MillError)
  (w_NoSize:PySem.W.nsIn K mainGlobals "NoSize"=some none)
  (v_NoBits:XCls K C_NoBits)
  (w_NoParts:PySem.W.nsIn K mainGlobals "NoParts"=some none)
  (w_NoRank:PySem.W.nsIn K mainGlobals "NoRank"=some none)
  (v_NotFinite:XCls K C_NotFinite)
  (v_NoWay:XCls K C_NoWay)
  (w_NoFlags:PySem.W.nsIn K mainGlobals "NoFlags"=some none)
  (v_NoFraction:XCls K C_NoFraction)
  (w_Unlike:PySem.W.nsIn K mainGlobals "Unlike"=some none)
  (w_Empty:PySem.W.nsIn K mainGlobals "Empty"=some none)
  (w_NoLeft:PySem.W.nsIn K mainGlobals "NoLeft"=some none)
  (w_NoText:PySem.W.nsIn K mainGlobals "NoText"=some none)
  (w_NoRow:PySem.W.nsIn K mainGlobals "NoRow"=some none)
  (w_NoName:PySem.W.nsIn K mainGlobals "NoName"=some none)
  (w_Stopped:PySem.W.nsIn K mainGlobals "Stopped"=some none)
  (i_tuple_NoneType:PySem.W.kitOne K (.type "NoneType") ↥6=some false)
  (i_tuple_bool:PySem.W.kitOne K (.type "bool") ↥6=some false)
  (i_tuple_int:PySem.W.kitOne K (.type "int") ↥6=some false)
  (i_tuple_str:PySem.W.kitOne K (.type "str") ↥6=some false)
  (i_tuple_tuple:PySem.W.kitOne K ↥6 ↥6=some true)
  (i_tuple_list:PySem.W.kitOne K (.type "list") ↥6=some false)
  (i_list_NoneType:PySem.W.kitOne K (.type "NoneType") (.type "list")=some false)
  (i_list_bool:PySem.W.kitOne K (.type "bool") (.type "list")=some false)
  (i_list_int:PySem.W.kitOne K (.type "int") (.type "list")=some false)
  (i_list_str:PySem.W.kitOne K (.type "str") (.type "list")=some false)
  (i_list_tuple:PySem.W.kitOne K ↥6 (.type "list")=some false)
  (i_list_list:PySem.W.kitOne K (.type "list") (.type "list")=some true)
  (i_int_NoneType:PySem.W.kitOne K (.type "NoneType") (.type "int")=some false)
  (i_int_bool:PySem.W.kitOne K (.type "bool") (.type "int")=some true)
  (i_int_int:PySem.W.kitOne K (.type "int") (.type "int")=some true)
  (i_int_str:PySem.W.kitOne K (.type "str") (.type "int")=some false)
  (i_int_tuple:PySem.W.kitOne K ↥6 (.type "int")=some false)
  (i_int_list:PySem.W.kitOne K (.type "list") (.type "int")=some false)
  (i_bool_NoneType:PySem.W.kitOne K (.type "NoneType") (.type "bool")=some false)
  (i_bool_bool:PySem.W.kitOne K (.type "bool") (.type "bool")=some true)
  (i_bool_int:PySem.W.kitOne K (.type "int") (.type "bool")=some false)
  (i_bool_str:PySem.W.kitOne K (.type "str") (.type "bool")=some false)
  (i_bool_tuple:PySem.W.kitOne K ↥6 (.type "bool")=some false)
  (i_bool_list:PySem.W.kitOne K (.type "list") (.type "bool")=some false)
  : ∃ fd:FuncData,(∀ (s:Shared) (v:Value),BindsTo s fd ⟨[v],[]⟩ [("_law_script",v)])/\∀ base:Heap,K.In base->base.Ns mainGlobals mg->FnOk P w K mg base (CXF P w) 12 fa fd ["_law_script"] (spP K mg zw):=by
 have e:=hfa.symm.trans (PySem.W.mg_of KX GG a54)
 cases e
 have q_Way:=PySem.W.mg_of KX GG n_Way
 have cl_Way:Cls K C_Way:=⟨pg_Way,hd_Way,po_Way,sa_Way⟩
 have m_min:=PySem.W.mg_none_of KX GG z_min
 have m_max:=PySem.W.mg_none_of KX GG z_max
 have m_len:=PySem.W.mg_none_of KX GG z_len
 have m_abs:=PySem.W.mg_none_of KX GG z_abs
 have m_list:=PySem.W.mg_none_of KX GG z_list
 have m_any:=PySem.W.mg_none_of KX GG z_any
 have m_tuple:=PySem.W.mg_none_of KX GG z_tuple
 have m_isinstance:=PySem.W.mg_none_of KX GG z_isinstance
 have m_int:=PySem.W.mg_none_of KX GG z_int
 have m_bool:=PySem.W.mg_none_of KX GG z_bool
 have m_range:=PySem.W.mg_none_of KX GG z_range
 have g_INEXACT:∃ t,mg "INEXACT"=some (.int 1 t):=⟨_,PySem.W.mg_of KX GG y_INEXACT⟩
 have g_GREAT:∃ t,mg "GREAT"=some (.int 4 t):=⟨_,PySem.W.mg_of KX GG y_GREAT⟩
 have g_SMALL:∃ t,mg "SMALL"=some (.int 2 t):=⟨_,PySem.W.mg_of KX GG y_SMALL⟩
 have g_WRONG:∃ t,mg "WRONG"=some (.int 16 t):=⟨_,PySem.W.mg_of KX GG y_WRONG⟩
 have q_MillError:=PySem.W.mg_of KX GG n_MillError
 have q_NoBits:=PySem.W.mg_of KX GG n_NoBits
 have q_NotFinite:=PySem.W.mg_of KX GG n_NotFinite
 have q_NoWay:=PySem.W.mg_of KX GG n_NoWay
 have q_NoFraction:=PySem.W.mg_of KX GG n_NoFraction
 have hXF:∀ n∈ak,XF K mg n:=Ku
  ⟨.inr ⟨_,q_MillError,v_MillError⟩⟩
  ⟨.inl (PySem.W.mg_none_of KX GG w_NoSize)⟩
  ⟨.inr ⟨_,q_NoBits,v_NoBits⟩⟩
  ⟨.inl (PySem.W.mg_none_of KX GG w_NoParts)⟩
  ⟨.inl (PySem.W.mg_none_of KX GG w_NoRank)⟩
  ⟨.inr ⟨_,q_NotFinite,v_NotFinite⟩⟩
  ⟨.inr ⟨_,q_NoWay,v_NoWay⟩⟩
  ⟨.inl (PySem.W.mg_none_of KX GG w_NoFlags)⟩
  ⟨.inr ⟨_,q_NoFraction,v_NoFraction⟩⟩
  ⟨.inl (PySem.W.mg_none_of KX GG w_Unlike)⟩
  ⟨.inl (PySem.W.mg_none_of KX GG w_Empty)⟩
  ⟨.inl (PySem.W.mg_none_of KX GG w_NoLeft)⟩
  ⟨.inl (PySem.W.mg_none_of KX GG w_NoText)⟩
  ⟨.inl (PySem.W.mg_none_of KX GG w_NoRow)⟩
  ⟨.inl (PySem.W.mg_none_of KX GG w_NoName)⟩
  ⟨.inl (PySem.W.mg_none_of KX GG w_Stopped)⟩
 refine ⟨PySem.W.fnOf "law" "law" (dg lO) (ah lO) (aa lO) .none kV54 dc54 pm54 an54 cd54 ct54,fun s v=>.of_eq rfl,fun base _ _ => ?_⟩
 have FIWay:=kK (st:=fX) lIWay eIWay kIWay
 have BIWay:=ck (ps:=["self","name"]) FIWay rfl fun _ _ _ _ _ _ _ _=>rfl
 have JIWay:FnOk P w K mg base CX0 1 fIWay _ ["self","name"] (spI K "name"):=D0 (k:=0) FIWay ⟨rfl,rfl,rfl,by decide +kernel,by decide +kernel,by decide +kernel,by decide +kernel⟩ (by decide +kernel) (by decide +kernel) (by decide +kernel) (by decide +kernel) rfl (fun _=>rfl)
 have D1:FnP P w K mg base "_law_size_by" 1 bY:=q1.fn KX GG lL rfl rfl (dZ · rfl fun _ _ _ _ _ _ _=>rfl) fun X hr L O Pl hS =>
  nR (X:=at5 X P w K mg base) hr L O Pl hS
 have D2:FnP P w K mg base "_law_way_by" 1 cy:=q2.fn KX GG mR rfl rfl (dZ · rfl fun _ _ _ _ _ _ _=>rfl) fun X hr L O Pl hS =>
  pV (X:=at5 X P w K mg base) hr L O Pl hS
 have D3:FnP P w K mg base "_law_finite_by" 1 bc:=q3.fn KX GG jB rfl rfl (ck · rfl fun _ _ _ _ _ _ _ _=>rfl) fun X hr L O Pl hS =>
  kU (X:=at5 X P w K mg base) hr L O Pl hS m_min m_max
 have D4:FnP P w K mg base "_law_clean" 1 cZ:=q4.fn KX GG oB rfl rfl (dY · rfl fun _ _ _ _ _ _ _ _ _=>rfl) fun X hr L O Pl hS =>
  rH (X:=at5 X P w K mg base) hr L O Pl hS
 have D5:FnP P w K mg base "_law_bits_by" 1 bZ:=q5.fn KX GG lN rfl rfl (ck · rfl fun _ _ _ _ _ _ _ _=>rfl) fun X hr L O Pl hS =>
  nV (X:=at5 X P w K mg base) hr L O Pl hS
 have D6:FnP P w K mg base "_law_row_by" 2 cz:=q6.fn KX GG mS rfl rfl (dY · rfl fun _ _ _ _ _ _ _ _ _=>rfl) fun X hr L O Pl hS =>
  pW (X:=at5 X P w K mg base) hr L O Pl hS m_len (D3.c hr) (D4.c hr) (D5.c hr)
 have D7:FnP P w K mg base "way_of" 3 bp:=q7.fn KX GG vq rfl rfl (dZ · rfl fun _ _ _ _ _ _ _=>rfl) fun X hr L O Pl hS =>
  Ay (X:=at5 X P w K mg base) hr L O Pl hS (Ed (ss:=["even","away","nought","up","down"]) (PySem.W.mg_of KX GG y_NAMES) yl_NAMES (om (ts:=[t0_NAMES,t1_NAMES,t2_NAMES,t3_NAMES,t4_NAMES]) rfl rfl) (Nat.le_of_ble_eq_true rfl)) q_NoWay xi_NoWay ⟨⟨C_Way,_,1,_,_,q_Way,cl_Way,na_Way,⟨mm_Way,aIWay,uIWay,kc_Way⟩,JIWay,hr.mono ↥3,BIWay⟩⟩
 have D8:FnP P w K mg base "sign_bit" 1 bK:=q8.fn KX GG qs rfl rfl (dZ · rfl fun _ _ _ _ _ _ _=>rfl) fun X hr L O Pl hS =>
  uK (X:=at5 X P w K mg base) hr L O Pl hS
 have D9:FnP P w K mg base "width" 1 kj:=q9.fn KX GG za rfl rfl (dZ · rfl fun _ _ _ _ _ _ _=>rfl) fun X hr L O Pl hS =>
  EC (X:=at5 X P w K mg base) hr L O Pl hS
 have D10:FnP P w K mg base "parted" 2 bq:=q10.fn KX GG vv rfl rfl (ck · rfl fun _ _ _ _ _ _ _ _=>rfl) fun X hr L O Pl hS =>
  AB (X:=at5 X P w K mg base) hr L O Pl hS (D9.c hr) q_NoBits xi_NoBits (D8.c hr)
 have D11:FnP P w K mg base "check_bits" 3 cC:=q11.fn KX GG mV rfl rfl (ck · rfl fun _ _ _ _ _ _ _ _=>rfl) fun X hr L O Pl hS =>
  pY (X:=at5 X P w K mg base) hr L O Pl hS (D10.c hr)
 have D12:FnP P w K mg base "last_field" 1 aP:=q12.fn KX GG mT rfl rfl (dZ · rfl fun _ _ _ _ _ _ _=>rfl) fun X hr L O Pl hS =>
  pX (X:=at5 X P w K mg base) hr L O Pl hS
 have D13:FnP P w K mg base "kind" 3 de:=q13.fn KX GG CO rfl rfl (ck · rfl fun _ _ _ _ _ _ _ _=>rfl) fun X hr L O Pl hS =>
  Ih (X:=at5 X P w K mg base) hr L O Pl hS (D10.c hr) (D12.c hr)
 have D14:FnP P w K mg base "any_none" 4 dP:=q14.fn KX GG qx rfl rfl (ck · rfl fun _ _ _ _ _ _ _ _=>rfl) fun X hr L O Pl hS =>
  uP (X:=at5 X P w K mg base) hr L O Pl hS (D13.c hr)
 have D15:FnP P w K mg base "worth_fraction" 1 aV:=q15.fn KX GG iQ rfl rfl (dZ · rfl fun _ _ _ _ _ _ _=>rfl) fun X hr L O Pl hS =>
  jH (X:=at5 X P w K mg base) hr L O Pl hS
 have D16:FnP P w K mg base "check_fraction" 1 aX:=q16.fn KX GG iS rfl rfl (ck · rfl fun _ _ _ _ _ _ _ _=>rfl) fun X hr L O Pl hS =>
  jJ (X:=at5 X P w K mg base) hr L O Pl hS q_NoFraction xi_NoFraction
 have D17:FnP P w K mg base "scaled" 1 eB:=q17.fn KX GG vt rfl rfl (dY · rfl fun _ _ _ _ _ _ _ _ _=>rfl) fun X hr L O Pl hS =>
  AA (X:=at5 X P w K mg base) hr L O Pl hS
 have D18:FnP P w K mg base "bias" 1 oP:=q18.fn KX GG CP rfl rfl (dZ · rfl fun _ _ _ _ _ _ _=>rfl) fun X hr L O Pl hS =>
  Ii (X:=at5 X P w K mg base) hr L O Pl hS
 have D19:FnP P w K mg base "low" 2 ko:=q19.fn KX GG Gf rfl rfl (dZ · rfl fun _ _ _ _ _ _ _=>rfl) fun X hr L O Pl hS =>
  Kq (X:=at5 X P w K mg base) hr L O Pl hS (D18.c hr)
 have D20:FnP P w K mg base "rest_by_middle" 1 aW:=q20.fn KX GG iR rfl rfl (dY · rfl fun _ _ _ _ _ _ _ _ _=>rfl) fun X hr L O Pl hS =>
  jI (X:=at5 X P w K mg base) hr L O Pl hS
 have D21:FnP P w K mg base "rest_of" 2 fw:=q21.fn KX GG uc rfl rfl (ck · rfl fun _ _ _ _ _ _ _ _=>rfl) fun X hr L O Pl hS =>
  xO (X:=at5 X P w K mg base) hr L O Pl hS (D20.c hr)
 have D22:FnP P w K mg base "height" 2 hX:=q22.fn KX GG vy rfl rfl (ck · rfl fun _ _ _ _ _ _ _ _=>rfl) fun X hr L O Pl hS =>
  AD (X:=at5 X P w K mg base) hr L O Pl hS (D17.c hr)
 have D23:FnP P w K mg base "cut" 3 qF:=q23.fn KX GG Gh rfl rfl (dY · rfl fun _ _ _ _ _ _ _ _ _=>rfl) fun X hr L O Pl hS =>
  Ks (X:=at5 X P w K mg base) hr L O Pl hS (D16.c hr) (D19.c hr) (D22.c hr) m_max (D17.c hr) (D21.c hr)
 have D24:FnP P w K mg base "endless" 2 bg:=q24.fn KX GG uf rfl rfl (dZ · rfl fun _ _ _ _ _ _ _=>rfl) fun X hr L O Pl hS =>
  xR (X:=at5 X P w K mg base) hr L O Pl hS (D12.c hr)
 have D25:FnP P w K mg base "signed" 2 bV:=q25.fn KX GG vr rfl rfl (dY · rfl fun _ _ _ _ _ _ _ _ _=>rfl) fun X hr L O Pl hS =>
  Az (X:=at5 X P w K mg base) hr L O Pl hS (D8.c hr)
 have D26:FnP P w K mg base "lost_flags" 3 cx:=q26.fn KX GG mQ rfl rfl (dY · rfl fun _ _ _ _ _ _ _ _ _=>rfl) fun X hr L O Pl hS =>
  pU (X:=at5 X P w K mg base) hr L O Pl hS (D24.c hr) g_INEXACT g_GREAT g_SMALL
 have F27:=kK (st:=aB) l27 e27 k27
 have B27:=ck (ps:=["self","sign"]) F27 rfl fun _ _ _ _ _ _ _ _=>rfl
 have D27:=pG (P:=P) (w:=w) (mg:=mg) (base:=base) (n:=2) (m:=2) (g:=aQ) (k:=0) F27 gG rfl rfl fun X hr L O Pl hS=>by
  exact iy (X:=at5 X P w K mg base) hr L O Pl hS ⟨⟨C_Way,q_Way,cl_Way,na_Way⟩⟩
 have F28:=kK (st:=bH) l28 e28 k28
 have B28:=pP (ps:=["self","sign","odd","rest"]) F28 rfl fun _ _ _ _ _ _ _ _ _ _=>rfl
 have D28:=pG (P:=P) (w:=w) (mg:=mg) (base:=base) (n:=4) (m:=4) (g:=df) (k:=1) F28 oG rfl rfl fun X hr L O Pl hS=>by
  exact rL (X:=at5 X P w K mg base) hr L O Pl hS ⟨⟨C_Way,q_Way,cl_Way,na_Way⟩⟩ ⟨⟨C_Way,f27,1,_,_,q_Way,cl_Way,⟨a27,u27,k27⟩,D27,hr.mono ↥3,B27⟩⟩
 have F29:=kK (st:=aZ) l29 e29 k29
 have B29:=ck (ps:=["self","sign"]) F29 rfl fun _ _ _ _ _ _ _ _=>rfl
 have D29:=pG (P:=P) (w:=w) (mg:=mg) (base:=base) (n:=2) (m:=2) (g:=cD) (k:=1) F29 mW rfl rfl fun X hr L O Pl hS=>by
  exact pZ (X:=at5 X P w K mg base) hr L O Pl hS ⟨⟨C_Way,q_Way,cl_Way,na_Way⟩⟩ ⟨⟨C_Way,f27,1,_,_,q_Way,cl_Way,⟨a27,u27,k27⟩,D27,hr.mono ↥3,B27⟩⟩
 have D30:FnP P w K mg base "settled" 4 ft:=q30.fn KX GG ua rfl rfl (xH · rfl fun _ _ _ _ _ _ _ _ _ _ _ _=>rfl) fun X hr L O Pl hS =>
  xM (X:=at5 X P w K mg base) hr L O Pl hS (D7.c hr) (D19.c hr) (D24.c hr) ⟨⟨C_Way,f29,2,_,_,q_Way,cl_Way,⟨a29,u29,k29⟩,D29,hr.mono ↥3,B29⟩⟩ (D25.c hr) g_INEXACT g_GREAT ⟨⟨C_Way,f28,2,_,_,q_Way,cl_Way,⟨a28,u28,k28⟩,D28,hr.mono ↥3,B28⟩⟩ (D26.c hr)
 have D31:FnP P w K mg base "rounded" 5 bW:=q31.fn KX GG ub rfl rfl (Bq · rfl fun _ _ _ _ _ _ _ _ _ _ _=>rfl) fun X hr L O Pl hS =>
  xN (X:=at5 X P w K mg base) hr L O Pl hS (D7.c hr) (D23.c hr) (D30.c hr)
 have D32:FnP P w K mg base "total" 1 km:=q32.fn KX GG zb rfl rfl (dZ · rfl fun _ _ _ _ _ _ _=>rfl) fun X hr L O Pl hS =>
  ED (X:=at5 X P w K mg base) hr L O Pl hS m_min m_abs
 have D33:FnP P w K mg base "nought_sign" 4 bX:=q33.fn KX GG lK rfl rfl (ck · rfl fun _ _ _ _ _ _ _ _=>rfl) fun X hr L O Pl hS =>
  nQ (X:=at5 X P w K mg base) hr L O Pl hS (D7.c hr)
 have D34:FnP P w K mg base "settled_total" 6 ax:=q34.fn KX GG jy rfl rfl (dY · rfl fun _ _ _ _ _ _ _ _ _=>rfl) fun X hr L O Pl hS =>
  kR (X:=at5 X P w K mg base) hr L O Pl hS (D15.c hr) (D32.c hr) (D33.c hr) (D25.c hr) (D31.c hr)
 have D35:FnP P w K mg base "no_number" 3 bb:=q35.fn KX GG oy rfl rfl (dZ · rfl fun _ _ _ _ _ _ _=>rfl) fun X hr L O Pl hS =>
  rE (X:=at5 X P w K mg base) hr L O Pl hS (D24.c hr)
 have D36:FnP P w K mg base "settled_terms" 7 aF:=q36.fn KX GG jz rfl rfl (dY · rfl fun _ _ _ _ _ _ _ _ _=>rfl) fun X hr L O Pl hS =>
  kS (X:=at5 X P w K mg base) hr L O Pl hS (D35.c hr) g_WRONG m_len (D25.c hr) (D24.c hr) (D34.c hr)
 have D37:FnP P w K mg base "worth" 3 ki:=q37.fn KX GG yZ rfl rfl (ck · rfl fun _ _ _ _ _ _ _ _=>rfl) fun X hr L O Pl hS =>
  EB (X:=at5 X P w K mg base) hr L O Pl hS (D10.c hr) (D12.c hr) q_NotFinite xi_NotFinite (D19.c hr)
 have D38:FnP P w K mg base "number_term" 4 az:=q38.fn KX GG lJ rfl rfl (ck · rfl fun _ _ _ _ _ _ _ _=>rfl) fun X hr L O Pl hS =>
  nP (X:=at5 X P w K mg base) hr L O Pl hS (D13.c hr) (D10.c hr) (D37.c hr)
 have D39:FnP P w K mg base "product_term" 5 aY:=q39.fn KX GG j8 rfl rfl (dY · rfl fun _ _ _ _ _ _ _ _ _=>rfl) fun X hr L O Pl hS =>
  lT (X:=at5 X P w K mg base) hr L O Pl hS (D38.c hr)
 have D40:FnP P w K mg base "product_wrong" 4 aS:=q40.fn KX GG jA rfl rfl (dY · rfl fun _ _ _ _ _ _ _ _ _=>rfl) fun X hr L O Pl hS =>
  kT (X:=at5 X P w K mg base) hr L O Pl hS (D13.c hr)
 have D41:FnP P w K mg base "settled_sum" 8 ay:=q41.fn KX GG lI rfl rfl (pP · rfl fun _ _ _ _ _ _ _ _ _ _=>rfl) fun X hr L O Pl hS =>
  nO (X:=at5 X P w K mg base) hr L O Pl hS (D7.c hr) m_list (D14.c hr) (D35.c hr) (D40.c hr) m_any g_WRONG (D39.c hr) (D36.c hr) (D38.c hr)
 have D42:FnP P w K mg base "added" 9 iT:=q42.fn KX GG zc rfl rfl (pP · rfl fun _ _ _ _ _ _ _ _ _ _=>rfl) fun X hr L O Pl hS =>
  EE (X:=at5 X P w K mg base) hr L O Pl hS (D41.c hr)
 have F43:=kK (st:=cY) l43 e43 k43
 have B43:=dY (ps:=["size","way","xs"]) F43 rfl fun _ _ _ _ _ _ _ _ _=>rfl
 have DT43:FnT P w K mg base "in_turn" 10 cA:=by
  refine ⟨_,_,_,HK (k:=9) F43 ue rfl rfl fun X hr L O Pl hS => ?_,PySem.W.mg_of KX GG a43,k43,B43⟩
  exact xQ (X:=at5 X P w K mg base) hr L O Pl hS m_len (D42.c hr) (D11.c hr) (D7.c hr)
 have D43:=DT43.p
 have D44:FnP P w K mg base "_law_cell_at" 1 aT:=q44.fn KX GG lM rfl rfl (ck · rfl fun _ _ _ _ _ _ _ _=>rfl) fun X hr L O Pl hS =>
  nU (X:=at5 X P w K mg base) hr L O Pl hS m_len
 have D45:FnP P w K mg base "_law_apart" 11 bI:=q45.fn KX GG oE rfl rfl (dY · rfl fun _ _ _ _ _ _ _ _ _=>rfl) fun X hr L O Pl hS =>
  rJ (X:=at5 X P w K mg base) hr L O Pl hS m_list (DT43.callee hr ↥3) m_tuple (kI ↥3 i_tuple_NoneType i_tuple_bool i_tuple_int i_tuple_str i_tuple_tuple i_tuple_list) (iv (mJ hXF)) m_isinstance m_len (kI ↥3 i_list_NoneType i_list_bool i_list_int i_list_str i_list_tuple i_list_list)
 have D46:FnP P w K mg base "_law_whole" 1 aR:=q46.fn KX GG oz rfl rfl (dZ · rfl fun _ _ _ _ _ _ _=>rfl) fun X hr L O Pl hS =>
  rF (X:=at5 X P w K mg base) hr L O Pl hS m_int (kI ↥3 i_int_NoneType i_int_bool i_int_int i_int_str i_int_tuple i_int_list) (iv (mJ hXF)) m_isinstance m_bool (kI ↥3 i_bool_NoneType i_bool_bool i_bool_int i_bool_str i_bool_tuple i_bool_list)
 have D47:FnP P w K mg base "_law_value" 1 aK:=q47.fn KX GG oA rfl rfl (ck · rfl fun _ _ _ _ _ _ _ _=>rfl) fun X hr L O Pl hS =>
  rG (X:=at5 X P w K mg base) hr L O Pl hS
 have D48:FnP P w K mg base "_law_far" 1 fz:=q48.fn KX GG ud rfl rfl (pP · rfl fun _ _ _ _ _ _ _ _ _ _=>rfl) fun X hr L O Pl hS =>
  xP (X:=at5 X P w K mg base) hr L O Pl hS
 have D49:FnP P w K mg base "_law_near" 1 dO:=q49.fn KX GG qu rfl rfl (pP · rfl fun _ _ _ _ _ _ _ _ _ _=>rfl) fun X hr L O Pl hS =>
  uM (X:=at5 X P w K mg base) hr L O Pl hS
 have D50:FnP P w K mg base "_law_fair" 2 aH:=q50.fn KX GG qw rfl rfl (xH · rfl fun _ _ _ _ _ _ _ _ _ _ _ _=>rfl) fun X hr L O Pl hS =>
  uO (X:=at5 X P w K mg base) hr L O Pl hS m_tuple (kI ↥3 i_tuple_NoneType i_tuple_bool i_tuple_int i_tuple_str i_tuple_tuple i_tuple_list) (iv (mJ hXF)) m_isinstance m_len (D46.c hr) (D47.c hr) (D49.c hr) (D48.c hr)
 have D51:FnP P w K mg base "_law_told" 3 dN:=q51.fn KX GG qt rfl rfl (xH · rfl fun _ _ _ _ _ _ _ _ _ _ _ _=>rfl) fun X hr L O Pl hS =>
  uL (X:=at5 X P w K mg base) hr L O Pl hS (D47.c hr) (D50.c hr)
 have D52:FnP P w K mg base "_law_line" 2 cT:=q52.fn KX GG qv rfl rfl (ck · rfl fun _ _ _ _ _ _ _ _=>rfl) fun X hr L O Pl hS =>
  uN (X:=at5 X P w K mg base) hr L O Pl hS (D47.c hr)
 have D53:FnP P w K mg base "_law_added" 4 cm:=q53.fn KX GG oF rfl rfl (Bq · rfl fun _ _ _ _ _ _ _ _ _ _ _=>rfl) fun X hr L O Pl hS =>
  rK (X:=at5 X P w K mg base) hr L O Pl hS m_int (D52.c hr) (D51.c hr) m_abs
 have F54:=kK (st:=lO) l54 e54 k54
 ·refine pG (k:=11) F54 Gg rfl rfl fun X hr L O Pl hS => ?_
  exact Kr (X:=at5 X P w K mg base) hr L O Pl hS (D1.c hr) (D44.c hr) (D2.c hr) (D6.c hr) m_list (D43.c hr) m_tuple (kI ↥3 i_tuple_NoneType i_tuple_bool i_tuple_int i_tuple_str i_tuple_tuple i_tuple_list) (iv (mJ hXF)) m_isinstance m_len (kI ↥3 i_list_NoneType i_list_bool i_list_int i_list_str i_list_tuple i_list_list) (D46.c hr) m_range (D53.c hr) (D45.c hr)
end T
namespace H
open PySem PySem.W PySem.Spec PyProof.Rows L2 EV ES
noncomputable section
abbrev vS (x:Str) (n:Nat):Value:=.str x n
abbrev vI (x:Int) (n:Nat):Value:=.int x n
abbrev r (n:Addr):Value:=.ref n
abbrev z (x:Int):Value:=.int x 0
abbrev c (n:Nat):Value:=.str "/claim/cut.py" n
abbrev en (P:Params) (x:Str) (n:Nat) (v:Value):DictEntry:=⟨PyData.keyHash P x,.str x n,v⟩
abbrev sqO (c:Value) (a:Array Value):Obj:=⟨c,none,.seq a 0,#[]⟩
abbrev fiO (c:Value) (a:Array Value):Obj:=⟨c,none,.fields a,#[]⟩
abbrev diO (c:Value) (a:Array DictEntry) (n:Nat):Obj:=⟨c,none,.dict a n,#[]⟩
abbrev fnO (c:Value) (x q:Str) (s:Stmt) (g:Addr) (cl:List (Str×Addr)) (d k dc m:Value) (an:Option Addr) (cd ct:Value) (b:Addr):Obj:=⟨c,none,.func ⟨x,q,dg s,.stmts (ah s),aa s,g,cl,d,k,dc,m,an,cd,ct,b⟩,#[]⟩
abbrev cd (x:Str) (a b d:Nat) (l k:Int) (p:Addr) (w:Int) (q s t u:Addr) (m:Int) (e:Nat):Obj:=fiO (.type "code") #[vS x a,vS x b,c d,z l,z k,z 0,z 0,z 3,r p,.bool true,z w,r q,.none,r s,r t,r u,z m,z l,c e]
abbrev fu (x:Str) (n:Nat) (g:Addr) (m:Str) (b:Nat) (d:Addr):Obj:=fnO (.type "function") x x (T.top n) g [] .none .none .none (vS m b) none (r d) .none 0
abbrev fv (x:Str) (n:Nat):Obj:=fnO .none x x (T.top n) 0 [] .none .none .none .none none .none .none 0
abbrev N:BT:=.nil
abbrev L (o:Obj):BT:=.node o .nil .nil
abbrev B (o:Obj) (l r:BT):BT:=.node o l r
def cut (n:Nat) (t:BT):Nat->Nat->BT := @BT.rec (fun _=>Nat->Nat->BT) (fun _ _=>.nil) (fun v _ _ l r a b => @Bool.rec (fun _=>BT) .nil (.node v (l (Nat.mul 2 a) (Nat.add a b)) (r (Nat.mul 2 a) (Nat.add (Nat.mul 2 a) b))) (Nat.blt b n)) t
def o0:Obj:=sqO ↥6 #[]
def o1:Obj:=fiO .none #[]
def o2:Obj:=fiO (.type "code") #[(vS "<module>" 182),(vS "<module>" 183),(c 184),(z 1),(z 0),(z 0),(z 0),(z 0),(r 11),(.bool false),(z 181),(r 12),.none,.none,.none,.none,(z 185),(z 1),(c 186)]
def o3:Obj:=(Obj.mk (.type "frame") none Data.plain #[(some (r 13)),(some (r 3)),(some (r 3)),none,(some (vS "__main__" 164)),none,(some (r 0))])
def o4 (P:Params):Obj:=diO (.type "dict") #[(en P "__name__" 165 (vS "roundmill.cutting" 322)),(en P "__doc__" 166 .none),(en P "__package__" 167 .none),(en P "__loader__" 168 (.builtin "__main__.__loader__#opaque")),(en P "__spec__" 169 .none),(en P "__annotations__" 170 (r 6)),(en P "__builtins__" 171 (r 4)),(en P "__file__" 173 (c 172)),(en P "__cached__" 174 .none),(en P "MillError" 206 (r 24)),(en P "NoBits" 222 (r 37)),(en P "NotFinite" 238 (r 49)),(en P "NoWay" 254 (r 61)),(en P "NoFraction" 270 (r 73)),(en P "width" 279 (r 82)),(en P "bias" 286 (r 89)),(en P "low" 293 (r 96)),(en P "sign_bit" 300 (r 103)),(en P "last_field" 307 (r 110)),(en P "endless" 314 (r 117)),(en P "no_number" 321 (r 124)),(en P "check_fraction" 331 (r 131))] 22
def o5:Obj:=fiO .none #[(z 2),(z 0),(r 20),(z 4),(z 0),(r 33),(z 6),(z 0),(r 45),(z 8),(z 0),(r 57),(z 10),(z 0),(r 69),(z 13),(z 0),(r 81),(z 15),(z 0),(r 88),(z 17),(z 0),(r 95),(z 19),(z 0),(r 102),(z 21),(z 0),(r 109),(z 23),(z 0),(r 116),(z 25),(z 0),(r 123),(z 28),(z 0),(r 130)]
def o6:Obj:=sqO ↥6 #[(.type "ValueError")]
def o7:Obj:=fiO (.type "builtin_function_or_method") #[(.builtin "type.__prepare__"),(.type "type")]
def o8 (P:Params):Obj:=diO (.type "dict") #[(en P "__module__" 196 ↥26),(en P "__qualname__" 198 (vS "MillError" 197)),(en P "__firstlineno__" 200 (vI 2 199)),(en P "__static_attributes__" 201 (r 22))] 4
def o9:Obj:=fiO (.type "code") #[(vS "MillError" 191),(vS "MillError" 192),(c 193),(z 2),(z 0),(z 0),(z 0),(z 0),(r 18),(.bool false),(z 181),(r 19),.none,.none,.none,.none,(z 194),(z 2),(c 195)]
def o10:Obj:=(Obj.mk (.type "frame") none Data.plain #[(some (r 20)),(some (r 3)),(some (r 17)),none,(some ↥26),none,(some (r 0))])
def o11 (P:Params):Obj:=diO (.type "dict") #[(en P "__module__" 196 ↥26),(en P "__firstlineno__" 200 (vI 2 199)),(en P "__static_attributes__" 201 (r 22)),(en P "__weakref__" 203 (r 25)),(en P "__doc__" 204 .none)] 3
def o12:Obj:=(Obj.mk (.type "type") none (Data.cls (ClassData.mk "MillError" [(.type "ValueError")] [(r 24),(.type "ValueError"),(.type "Exception"),(.type "BaseException"),(.type "object")] 23 "MillError" true [] [(r 37),(r 49),(r 61),(r 73)] false none false)) #[(some (r 15)),none,(some (vS "MillError" 189)),(some (vS "MillError" 197)),(some (.builtin "ValueError.__new__")),(some (.bool true))])
def o13:Obj:=fiO (.type "getset_descriptor") #[(vS "__weakref__" 202),(r 24),(.builtin "ExceptionGroup.__weakref__"),.none]
def o14:Obj:=fiO (.type "super") #[(r 24),(r 24),(r 24)]
def o15:Obj:=fiO (.type "builtin_function_or_method") #[(.builtin "object.__init_subclass__"),(r 24)]
def o16:Obj:=sqO ↥6 #[(r 24)]
def o17 (P:Params):Obj:=diO (.type "dict") #[(en P "__module__" 214 ↥26),(en P "__qualname__" 216 (vS "NoBits" 215)),(en P "__firstlineno__" 218 (vI 4 217)),(en P "__static_attributes__" 219 (r 35))] 4
def o18:Obj:=fiO (.type "code") #[(vS "NoBits" 209),(vS "NoBits" 210),(c 211),(z 4),(z 0),(z 0),(z 0),(z 0),(r 31),(.bool false),(z 181),(r 32),.none,.none,.none,.none,(z 212),(z 4),(c 213)]
def o19:Obj:=(Obj.mk (.type "frame") none Data.plain #[(some (r 33)),(some (r 3)),(some (r 30)),none,(some ↥26),none,(some (r 0))])
def o20 (P:Params):Obj:=diO (.type "dict") #[(en P "__module__" 214 ↥26),(en P "__firstlineno__" 218 (vI 4 217)),(en P "__static_attributes__" 219 (r 35)),(en P "__doc__" 220 .none)] 2
def o21:Obj:=(Obj.mk (.type "type") none (Data.cls (ClassData.mk "NoBits" [(r 24)] [(r 37),(r 24),(.type "ValueError"),(.type "Exception"),(.type "BaseException"),(.type "object")] 36 "NoBits" true [] [] false none false)) #[(some (r 28)),none,(some (vS "NoBits" 207)),(some (vS "NoBits" 215)),(some (.builtin "ValueError.__new__")),(some (.bool true))])
def o22:Obj:=fiO (.type "super") #[(r 37),(r 37),(r 37)]
def o23:Obj:=fiO (.type "builtin_function_or_method") #[(.builtin "object.__init_subclass__"),(r 37)]
def o24 (P:Params):Obj:=diO (.type "dict") #[(en P "__module__" 230 ↥26),(en P "__qualname__" 232 (vS "NotFinite" 231)),(en P "__firstlineno__" 234 (vI 6 233)),(en P "__static_attributes__" 235 (r 47))] 4
def o25:Obj:=fiO (.type "code") #[(vS "NotFinite" 225),(vS "NotFinite" 226),(c 227),(z 6),(z 0),(z 0),(z 0),(z 0),(r 43),(.bool false),(z 181),(r 44),.none,.none,.none,.none,(z 228),(z 6),(c 229)]
def o26:Obj:=(Obj.mk (.type "frame") none Data.plain #[(some (r 45)),(some (r 3)),(some (r 42)),none,(some ↥26),none,(some (r 0))])
def o27 (P:Params):Obj:=diO (.type "dict") #[(en P "__module__" 230 ↥26),(en P "__firstlineno__" 234 (vI 6 233)),(en P "__static_attributes__" 235 (r 47)),(en P "__doc__" 236 .none)] 2
def o28:Obj:=(Obj.mk (.type "type") none (Data.cls (ClassData.mk "NotFinite" [(r 24)] [(r 49),(r 24),(.type "ValueError"),(.type "Exception"),(.type "BaseException"),(.type "object")] 48 "NotFinite" true [] [] false none false)) #[(some (r 40)),none,(some (vS "NotFinite" 223)),(some (vS "NotFinite" 231)),(some (.builtin "ValueError.__new__")),(some (.bool true))])
def o29:Obj:=fiO (.type "super") #[(r 49),(r 49),(r 49)]
def o30:Obj:=fiO (.type "builtin_function_or_method") #[(.builtin "object.__init_subclass__"),(r 49)]
def o31 (P:Params):Obj:=diO (.type "dict") #[(en P "__module__" 246 ↥26),(en P "__qualname__" 248 (vS "NoWay" 247)),(en P "__firstlineno__" 250 (vI 8 249)),(en P "__static_attributes__" 251 (r 59))] 4
def o32:Obj:=fiO (.type "code") #[(vS "NoWay" 241),(vS "NoWay" 242),(c 243),(z 8),(z 0),(z 0),(z 0),(z 0),(r 55),(.bool false),(z 181),(r 56),.none,.none,.none,.none,(z 244),(z 8),(c 245)]
def o33:Obj:=(Obj.mk (.type "frame") none Data.plain #[(some (r 57)),(some (r 3)),(some (r 54)),none,(some ↥26),none,(some (r 0))])
def o34 (P:Params):Obj:=diO (.type "dict") #[(en P "__module__" 246 ↥26),(en P "__firstlineno__" 250 (vI 8 249)),(en P "__static_attributes__" 251 (r 59)),(en P "__doc__" 252 .none)] 2
def o35:Obj:=(Obj.mk (.type "type") none (Data.cls (ClassData.mk "NoWay" [(r 24)] [(r 61),(r 24),(.type "ValueError"),(.type "Exception"),(.type "BaseException"),(.type "object")] 60 "NoWay" true [] [] false none false)) #[(some (r 52)),none,(some (vS "NoWay" 239)),(some (vS "NoWay" 247)),(some (.builtin "ValueError.__new__")),(some (.bool true))])
def o36:Obj:=fiO (.type "super") #[(r 61),(r 61),(r 61)]
def o37:Obj:=fiO (.type "builtin_function_or_method") #[(.builtin "object.__init_subclass__"),(r 61)]
def o38 (P:Params):Obj:=diO (.type "dict") #[(en P "__module__" 262 ↥26),(en P "__qualname__" 264 (vS "NoFraction" 263)),(en P "__firstlineno__" 266 (vI 10 265)),(en P "__static_attributes__" 267 (r 71))] 4
def o39:Obj:=fiO (.type "code") #[(vS "NoFraction" 257),(vS "NoFraction" 258),(c 259),(z 10),(z 0),(z 0),(z 0),(z 0),(r 67),(.bool false),(z 181),(r 68),.none,.none,.none,.none,(z 260),(z 10),(c 261)]
def o40:Obj:=(Obj.mk (.type "frame") none Data.plain #[(some (r 69)),(some (r 3)),(some (r 66)),none,(some ↥26),none,(some (r 0))])
def o41 (P:Params):Obj:=diO (.type "dict") #[(en P "__module__" 262 ↥26),(en P "__firstlineno__" 266 (vI 10 265)),(en P "__static_attributes__" 267 (r 71)),(en P "__doc__" 268 .none)] 2
def o42:Obj:=(Obj.mk (.type "type") none (Data.cls (ClassData.mk "NoFraction" [(r 24)] [(r 73),(r 24),(.type "ValueError"),(.type "Exception"),(.type "BaseException"),(.type "object")] 72 "NoFraction" true [] [] false none false)) #[(some (r 64)),none,(some (vS "NoFraction" 255)),(some (vS "NoFraction" 263)),(some (.builtin "ValueError.__new__")),(some (.bool true))])
def o43:Obj:=fiO (.type "super") #[(r 73),(r 73),(r 73)]
def o44:Obj:=fiO (.type "builtin_function_or_method") #[(.builtin "object.__init_subclass__"),(r 73)]
def o45:Obj:=sqO ↥6 #[(vS "size" 276)]
def o46:Obj:=fv "width" 7
def o47:Obj:=cd "width" 273 274 275 13 1 76 181 77 78 79 80 277 278
def o48:Obj:=fu "width" 7 3 "roundmill.sizes" 271 81
def o49:Obj:=sqO ↥6 #[(vS "size" 283)]
def o50:Obj:=fv "bias" 8
def o51:Obj:=cd "bias" 280 281 282 15 1 83 181 84 85 86 87 284 285
def o52:Obj:=fu "bias" 8 3 "roundmill.sizes" 271 88
def o53:Obj:=sqO ↥6 #[(vS "size" 290)]
def o54:Obj:=fv "low" 9
def o55:Obj:=cd "low" 287 288 289 17 1 90 181 91 92 93 94 291 292
def o56:Obj:=fu "low" 9 3 "roundmill.sizes" 271 95
def o57:Obj:=sqO ↥6 #[(vS "size" 297)]
def o58:Obj:=fv "sign_bit" 10
def o59:Obj:=cd "sign_bit" 294 295 296 19 1 97 181 98 99 100 101 298 299
def o60:Obj:=fu "sign_bit" 10 3 "roundmill.sizes" 271 102
def o61:Obj:=sqO ↥6 #[(vS "size" 304)]
def o62:Obj:=fv "last_field" 11
def o63:Obj:=cd "last_field" 301 302 303 21 1 104 181 105 106 107 108 305 306
def o64:Obj:=fu "last_field" 11 3 "roundmill.sizes" 271 109
def o65:Obj:=sqO ↥6 #[(vS "size" 311)]
def o66:Obj:=fv "endless" 12
def o67:Obj:=cd "endless" 308 309 310 23 1 111 181 112 113 114 115 312 313
def o68:Obj:=fu "endless" 12 3 "roundmill.sizes" 271 116
def o69:Obj:=sqO ↥6 #[(vS "size" 318)]
def o70:Obj:=fv "no_number" 13
def o71:Obj:=cd "no_number" 315 316 317 25 1 118 181 119 120 121 122 319 320
def o72:Obj:=fu "no_number" 13 3 "roundmill.sizes" 271 123
def o73:Obj:=sqO ↥6 #[(vS "top" 327),(vS "bottom" 328)]
def o74:Obj:=fv "check_fraction" 15
def o75:Obj:=cd "check_fraction" 324 325 326 28 2 125 181 126 127 128 129 329 330
def o76:Obj:=fu "check_fraction" 15 3 "roundmill.cutting" 322 130
def o77 (P:Params):Obj:=diO (.type "dict") #[(en P "__name__" 165 (vS "law_roundmill_k40_in_turn" 658)),(en P "__doc__" 166 .none),(en P "__package__" 167 .none),(en P "__loader__" 168 (.builtin "__main__.__loader__#opaque")),(en P "__spec__" 169 .none),(en P "__annotations__" 170 (r 6)),(en P "__builtins__" 171 (r 4)),(en P "__file__" 173 (c 172)),(en P "__cached__" 174 .none),(en P "MillError" 206 (r 24)),(en P "NoBits" 222 (r 37)),(en P "NotFinite" 238 (r 49)),(en P "NoWay" 254 (r 61)),(en P "NoFraction" 270 (r 73)),(en P "width" 279 (r 82)),(en P "bias" 286 (r 89)),(en P "low" 293 (r 96)),(en P "sign_bit" 300 (r 103)),(en P "last_field" 307 (r 110)),(en P "endless" 314 (r 117)),(en P "no_number" 321 (r 124)),(en P "check_fraction" 331 (r 131)),(en P "scaled" 340 (r 138)),(en P "height" 350 (r 145)),(en P "rest_by_middle" 359 (r 152)),(en P "rest_of" 367 (r 159)),(en P "cut" 378 (r 166)),(en P "INEXACT" 380 (vI 1 379)),(en P "SMALL" 382 (vI 2 381)),(en P "GREAT" 384 (vI 4 383)),(en P "WRONG" 386 (vI 16 385)),(en P "parted" 398 (r 173)),(en P "check_bits" 407 (r 180)),(en P "kind" 418 (r 187)),(en P "worth" 430 (r 194)),(en P "worth_fraction" 439 (r 201)),(en P "signed" 448 (r 208)),(en P "NAMES" 456 (r 209)),(en P "Way" 511 (r 247)),(en P "way_of" 518 (r 258)),(en P "settled" 536 (r 265)),(en P "lost_flags" 546 (r 272)),(en P "rounded" 558 (r 279)),(en P "total" 566 (r 284)),(en P "nought_sign" 574 (r 291)),(en P "settled_total" 580 (r 296)),(en P "any_none" 588 (r 301)),(en P "number_term" 596 (r 308)),(en P "product_wrong" 606 (r 315)),(en P "product_term" 618 (r 322)),(en P "settled_terms" 624 (r 327)),(en P "settled_sum" 630 (r 332)),(en P "added" 642 (r 339)),(en P "in_turn" 657 (r 346)),(en P "_law_cell_at" 667 (r 353))] 55
def o78:Obj:=fiO .none #[(z 2),(z 0),(r 20),(z 4),(z 0),(r 33),(z 6),(z 0),(r 45),(z 8),(z 0),(r 57),(z 10),(z 0),(r 69),(z 13),(z 0),(r 81),(z 15),(z 0),(r 88),(z 17),(z 0),(r 95),(z 19),(z 0),(r 102),(z 21),(z 0),(r 109),(z 23),(z 0),(r 116),(z 25),(z 0),(r 123),(z 28),(z 0),(r 130),(z 31),(z 0),(r 137),(z 35),(z 0),(r 144),(z 39),(z 0),(r 151),(z 45),(z 0),(r 158),(z 47),(z 0),(r 165),(z 59),(z 0),(r 172),(z 65),(z 0),(r 179),(z 68),(z 0),(r 186),(z 77),(z 0),(r 193),(z 87),(z 0),(r 200),(z 93),(z 0),(r 207),(z 97),(z 0),(r 215),(z 120),(z 0),(r 257),(z 125),(z 0),(r 264),(z 136),(z 0),(r 271),(z 141),(z 0),(r 278),(z 146),(z 0),(r 283),(z 153),(z 0),(r 290),(z 158),(z 0),(r 295),(z 165),(z 0),(r 300),(z 168),(z 0),(r 307),(z 172),(z 0),(r 314),(z 175),(z 0),(r 321),(z 182),(z 0),(r 326),(z 189),(z 0),(r 331),(z 201),(z 0),(r 338),(z 204),(z 0),(r 345),(z 218),(z 0),(r 352)]
def o79:Obj:=sqO ↥6 #[(vS "top" 335),(vS "bottom" 336),(vS "power" 337)]
def o80:Obj:=fv "scaled" 16
def o81:Obj:=cd "scaled" 332 333 334 31 3 132 181 133 134 135 136 338 339
def o82:Obj:=fu "scaled" 16 3 "roundmill.cutting" 322 137
def o83:Obj:=sqO ↥6 #[(vS "top" 344),(vS "bottom" 345),(vS "guess" 346),(vS "parts" 347)]
def o84:Obj:=fv "height" 17
def o85:Obj:=cd "height" 341 342 343 35 2 139 181 140 141 142 143 348 349
def o86:Obj:=fu "height" 17 3 "roundmill.cutting" 322 144
def o87:Obj:=sqO ↥6 #[(vS "over" 354),(vS "number" 355),(vS "middle" 356)]
def o88:Obj:=fv "rest_by_middle" 18
def o89:Obj:=cd "rest_by_middle" 351 352 353 39 3 146 181 147 148 149 150 357 358
def o90:Obj:=fu "rest_by_middle" 18 3 "roundmill.cutting" 322 151
def o91:Obj:=sqO ↥6 #[(vS "over" 363),(vS "step" 364)]
def o92:Obj:=fv "rest_of" 19
def o93:Obj:=cd "rest_of" 360 361 362 45 2 153 181 154 155 156 157 365 366
def o94:Obj:=fu "rest_of" 19 3 "roundmill.cutting" 322 158
def o95:Obj:=sqO ↥6 #[(vS "size" 371),(vS "top" 372),(vS "bottom" 373),(vS "power" 374),(vS "parts" 375)]
def o96:Obj:=fv "cut" 20
def o97:Obj:=cd "cut" 368 369 370 47 3 160 181 161 162 163 164 376 377
def o98:Obj:=fu "cut" 20 3 "roundmill.cutting" 322 165
def o99:Obj:=sqO ↥6 #[(vS "size" 392),(vS "bits" 393),(vS "code" 394),(vS "step" 395)]
def OK:Obj:=fv "parted" 26
def MX:Obj:=cd "parted" 389 390 391 59 2 167 181 168 169 170 171 396 397
def MW:Obj:=fu "parted" 26 3 "roundmill.parts" 387 172
def MV:Obj:=sqO ↥6 #[(vS "size" 402),(vS "numbers" 403),(vS "bits" 404)]
def OJ:Obj:=fv "check_bits" 27
def MU:Obj:=cd "check_bits" 399 400 401 65 2 174 181 175 176 177 178 405 406
def MT:Obj:=fu "check_bits" 27 3 "roundmill.parts" 387 179
def MS:Obj:=sqO ↥6 #[(vS "size" 411),(vS "bits" 412),(vS "parts" 413),(vS "field" 414),(vS "figures" 415)]
def OI:Obj:=fv "kind" 28
def MR:Obj:=cd "kind" 408 409 410 68 2 181 181 182 183 184 185 416 417
def MQ:Obj:=fu "kind" 28 3 "roundmill.parts" 387 186
def MP:Obj:=sqO ↥6 #[(vS "size" 422),(vS "bits" 423),(vS "parts" 424),(vS "sign" 425),(vS "field" 426),(vS "figures" 427)]
def OH:Obj:=fv "worth" 29
def MO:Obj:=cd "worth" 419 420 421 77 2 188 181 189 190 191 192 428 429
def MN:Obj:=fu "worth" 29 3 "roundmill.parts" 387 193
def MM:Obj:=sqO ↥6 #[(vS "value" 434),(vS "whole" 435),(vS "power" 436)]
def OG:Obj:=fv "worth_fraction" 30
def ML:Obj:=cd "worth_fraction" 431 432 433 87 1 195 181 196 197 198 199 437 438
def MK:Obj:=fu "worth_fraction" 30 3 "roundmill.parts" 387 200
def MJ:Obj:=sqO ↥6 #[(vS "size" 443),(vS "sign" 444),(vS "code" 445)]
def OF:Obj:=fv "signed" 31
def MI:Obj:=cd "signed" 440 441 442 93 3 202 181 203 204 205 206 446 447
def MH:Obj:=fu "signed" 31 3 "roundmill.parts" 387 207
def MG:Obj:=sqO ↥6 #[(vS "even" 451),(vS "away" 452),(vS "nought" 453),(vS "up" 454),(vS "down" 455)]
def OE (P:Params):Obj:=diO (.type "dict") #[(en P "__module__" 464 (vS "roundmill.ways" 449)),(en P "__qualname__" 466 (vS "Way" 465)),(en P "__firstlineno__" 468 (vI 97 467)),(en P "__init__" 476 (r 223)),(en P "grows" 486 (r 230)),(en P "bursts" 494 (r 237)),(en P "flees_nought" 502 (r 244)),(en P "__static_attributes__" 504 (r 245))] 8
def OD:Obj:=fiO .none #[(z 99),(z 4),(r 222),(z 102),(z 4),(r 229),(z 111),(z 4),(r 236),(z 116),(z 4),(r 243)]
def OC:Obj:=fiO (.type "code") #[(vS "Way" 459),(vS "Way" 460),(c 461),(z 97),(z 0),(z 0),(z 0),(z 0),(r 213),(.bool false),(z 181),(r 214),.none,.none,.none,.none,(z 462),(z 97),(c 463)]
def OB:Obj:=(Obj.mk (.type "frame") none Data.plain #[(some (r 215)),(some (r 3)),(some (r 212)),none,(some (vS "roundmill.ways" 449)),none,(some (r 0))])
def MF:Obj:=sqO ↥6 #[(vS "self" 472),(vS "name" 473)]
def OA:Obj:=fnO .none "__init__" "Way.__init__" ((cF (T.top 34)).getD 0 ↥38) 0 [] .none .none .none .none none .none .none 0
def ME:Obj:=fiO (.type "code") #[(vS "__init__" 469),(vS "Way.__init__" 470),(c 471),(z 99),(z 2),(z 0),(z 0),(z 3),(r 217),(.bool true),(z 181),(r 218),.none,(r 219),(r 220),(r 221),(z 474),(z 99),(c 475)]
def MD:Obj:=fnO (.type "function") "__init__" "Way.__init__" ((cF (T.top 34)).getD 0 ↥38) 3 [] .none .none .none (vS "roundmill.ways" 449) none (r 222) .none 0
def MC:Obj:=sqO ↥6 #[(vS "self" 480),(vS "sign" 481),(vS "odd" 482),(vS "rest" 483)]
def Oz:Obj:=fnO .none "grows" "Way.grows" ((cF (T.top 34)).getD 1 ↥38) 0 [] .none .none .none .none none .none .none 0
def MB:Obj:=fiO (.type "code") #[(vS "grows" 477),(vS "Way.grows" 478),(c 479),(z 102),(z 4),(z 0),(z 0),(z 3),(r 224),(.bool true),(z 181),(r 225),.none,(r 226),(r 227),(r 228),(z 484),(z 102),(c 485)]
def MA:Obj:=fnO (.type "function") "grows" "Way.grows" ((cF (T.top 34)).getD 1 ↥38) 3 [] .none .none .none (vS "roundmill.ways" 449) none (r 229) .none 0
def Mz:Obj:=sqO ↥6 #[(vS "self" 490),(vS "sign" 491)]
def Oy:Obj:=fnO .none "bursts" "Way.bursts" ((cF (T.top 34)).getD 2 ↥38) 0 [] .none .none .none .none none .none .none 0
def Mx:Obj:=fiO (.type "code") #[(vS "bursts" 487),(vS "Way.bursts" 488),(c 489),(z 111),(z 2),(z 0),(z 0),(z 3),(r 231),(.bool true),(z 181),(r 232),.none,(r 233),(r 234),(r 235),(z 492),(z 111),(c 493)]
def Mw:Obj:=fnO (.type "function") "bursts" "Way.bursts" ((cF (T.top 34)).getD 2 ↥38) 3 [] .none .none .none (vS "roundmill.ways" 449) none (r 236) .none 0
def Mv:Obj:=sqO ↥6 #[(vS "self" 498),(vS "sign" 499)]
def Ox:Obj:=fnO .none "flees_nought" "Way.flees_nought" ((cF (T.top 34)).getD 3 ↥38) 0 [] .none .none .none .none none .none .none 0
def Mu:Obj:=fiO (.type "code") #[(vS "flees_nought" 495),(vS "Way.flees_nought" 496),(c 497),(z 116),(z 2),(z 0),(z 0),(z 3),(r 238),(.bool true),(z 181),(r 239),.none,(r 240),(r 241),(r 242),(z 500),(z 116),(c 501)]
def Mt:Obj:=fnO (.type "function") "flees_nought" "Way.flees_nought" ((cF (T.top 34)).getD 3 ↥38) 3 [] .none .none .none (vS "roundmill.ways" 449) none (r 243) .none 0
def Ms:Obj:=sqO ↥6 #[(vS "name" 503)]
def Mr (P:Params):Obj:=diO (.type "dict") #[(en P "__module__" 464 (vS "roundmill.ways" 449)),(en P "__firstlineno__" 468 (vI 97 467)),(en P "__init__" 476 (r 223)),(en P "grows" 486 (r 230)),(en P "bursts" 494 (r 237)),(en P "flees_nought" 502 (r 244)),(en P "__static_attributes__" 504 (r 245)),(en P "__dict__" 506 (r 248)),(en P "__weakref__" 508 (r 249)),(en P "__doc__" 509 .none)] 4
def Mq:Obj:=(Obj.mk (.type "type") none (Data.cls (ClassData.mk "Way" [(.type "object")] [(r 247),(.type "object")] 246 "Way" true [] [] false none false)) #[none,none,(some (vS "Way" 457)),(some (vS "Way" 465)),(some (.builtin "object.__new__")),(some (.bool true))])
def Mp:Obj:=fiO (.type "getset_descriptor") #[(vS "__dict__" 505),(r 247),(.builtin "function.__dict__"),(.builtin "function.__dict__#set")]
def Mo:Obj:=fiO (.type "getset_descriptor") #[(vS "__weakref__" 507),(r 247),(.builtin "ExceptionGroup.__weakref__"),.none]
def Ow:Obj:=fiO (.type "super") #[(r 247),(r 247),(r 247)]
def Ov:Obj:=fiO (.type "builtin_function_or_method") #[(.builtin "object.__init_subclass__"),(r 247)]
def Mn:Obj:=sqO ↥6 #[(vS "name" 515)]
def Ou:Obj:=fv "way_of" 35
def Mm:Obj:=cd "way_of" 512 513 514 120 1 252 181 253 254 255 256 516 517
def Ml:Obj:=fu "way_of" 35 3 "roundmill.ways" 449 257
def Mj:Obj:=sqO ↥6 #[(vS "size" 524),(vS "way" 525),(vS "sign" 526),(vS "whole" 527),(vS "power" 528),(vS "rest" 529),(vS "chosen" 530),(vS "code" 531),(vS "end" 532),(vS "taken" 533)]
def Ot:Obj:=fv "settled" 37
def Mi:Obj:=cd "settled" 521 522 523 125 6 259 181 260 261 262 263 534 535
def Mh:Obj:=fu "settled" 37 3 "roundmill.rounding" 519 264
def Mg:Obj:=sqO ↥6 #[(vS "size" 540),(vS "code" 541),(vS "taken" 542),(vS "faint" 543)]
def Oq:Obj:=fv "lost_flags" 38
def Mf:Obj:=cd "lost_flags" 537 538 539 136 3 266 181 267 268 269 270 544 545
def Me:Obj:=fu "lost_flags" 38 3 "roundmill.rounding" 519 271
def Md:Obj:=sqO ↥6 #[(vS "size" 550),(vS "way" 551),(vS "sign" 552),(vS "top" 553),(vS "bottom" 554),(vS "parts" 555)]
def Oo:Obj:=fv "rounded" 39
def Mc:Obj:=cd "rounded" 547 548 549 141 5 273 181 274 275 276 277 556 557
def Mb:Obj:=fu "rounded" 39 3 "roundmill.rounding" 519 278
def Om:Obj:=fv "total" 41
def Ma:Obj:=fiO (.type "code") #[(vS "total" 561),(vS "total" 562),(c 563),(z 146),(z 1),(z 0),(z 0),(z 3),(r 280),(.bool true),(z 181),(r 281),.none,.none,.none,(r 282),(z 564),(z 146),(c 565)]
def L9:Obj:=fu "total" 41 3 "roundmill.totals" 559 283
def L8:Obj:=sqO ↥6 #[(vS "way" 570),(vS "signs" 571)]
def Ol:Obj:=fv "nought_sign" 42
def L7:Obj:=cd "nought_sign" 567 568 569 153 2 285 181 286 287 288 289 572 573
def LZ:Obj:=fu "nought_sign" 42 3 "roundmill.totals" 559 290
def Oj:Obj:=fv "settled_total" 43
def LY:Obj:=fiO (.type "code") #[(vS "settled_total" 575),(vS "settled_total" 576),(c 577),(z 158),(z 3),(z 0),(z 0),(z 3),(r 292),(.bool true),(z 181),(r 293),.none,.none,.none,(r 294),(z 578),(z 158),(c 579)]
def LX:Obj:=fu "settled_total" 43 3 "roundmill.totals" 559 295
def Oi:Obj:=fv "any_none" 45
def LW:Obj:=fiO (.type "code") #[(vS "any_none" 583),(vS "any_none" 584),(c 585),(z 165),(z 2),(z 0),(z 0),(z 3),(r 297),(.bool true),(z 181),(r 298),.none,.none,.none,(r 299),(z 586),(z 165),(c 587)]
def LV:Obj:=fu "any_none" 45 3 "roundmill.terms" 581 300
def LU:Obj:=sqO ↥6 #[(vS "size" 592),(vS "bits" 593)]
def Oh:Obj:=fv "number_term" 46
def LS:Obj:=cd "number_term" 589 590 591 168 2 302 181 303 304 305 306 594 595
def LR:Obj:=fu "number_term" 46 3 "roundmill.terms" 581 307
def LQ:Obj:=sqO ↥6 #[(vS "size" 600),(vS "a" 601),(vS "b" 602),(vS "kinds" 603)]
def Og:Obj:=fv "product_wrong" 47
def LP:Obj:=cd "product_wrong" 597 598 599 172 3 309 181 310 311 312 313 604 605
def LO:Obj:=fu "product_wrong" 47 3 "roundmill.terms" 581 314
def LN:Obj:=sqO ↥6 #[(vS "size" 610),(vS "a" 611),(vS "b" 612),(vS "left" 613),(vS "right" 614),(vS "sign" 615)]
def Of:Obj:=fv "product_term" 48
def LM:Obj:=cd "product_term" 607 608 609 175 3 316 181 317 318 319 320 616 617
def LL:Obj:=fu "product_term" 48 3 "roundmill.terms" 581 321
def Oe:Obj:=fv "settled_terms" 49
def LK:Obj:=fiO (.type "code") #[(vS "settled_terms" 619),(vS "settled_terms" 620),(c 621),(z 182),(z 3),(z 0),(z 0),(z 3),(r 323),(.bool true),(z 181),(r 324),.none,.none,.none,(r 325),(z 622),(z 182),(c 623)]
def LJ:Obj:=fu "settled_terms" 49 3 "roundmill.terms" 581 326
def Od:Obj:=fv "settled_sum" 50
def LI:Obj:=fiO (.type "code") #[(vS "settled_sum" 625),(vS "settled_sum" 626),(c 627),(z 189),(z 4),(z 0),(z 0),(z 3),(r 328),(.bool true),(z 181),(r 329),.none,.none,.none,(r 330),(z 628),(z 189),(c 629)]
def LH:Obj:=fu "settled_sum" 50 3 "roundmill.terms" 581 331
def LG:Obj:=sqO ↥6 #[(vS "size" 636),(vS "way" 637),(vS "a" 638),(vS "b" 639)]
def Oc:Obj:=fv "added" 52
def LF:Obj:=cd "added" 633 634 635 201 4 333 181 334 335 336 337 640 641
def LD:Obj:=fu "added" 52 3 "roundmill.deeds" 631 338
def LC:Obj:=sqO ↥6 #[(vS "size" 648),(vS "way" 649),(vS "xs" 650),(vS "steps" 651),(vS "flags" 652),(vS "bits" 653),(vS "pair" 654)]
def Ob:Obj:=fv "in_turn" 54
def LB:Obj:=cd "in_turn" 645 646 647 204 3 340 181 341 342 343 344 655 656
def LA:Obj:=fu "in_turn" 54 3 "roundmill.rows" 643 345
def Lz:Obj:=sqO ↥6 #[(vS "_law_script" 663),(vS "_law_k" 664)]
def Oa:Obj:=fv "_law_cell_at" 56
def Ly:Obj:=cd "_law_cell_at" 660 661 662 218 2 347 181 348 349 350 351 665 666
def Lx:Obj:=fu "_law_cell_at" 56 3 "law_roundmill_k40_in_turn" 658 352
def Lw (P:Params):Obj:=diO (.type "dict") #[(en P "__name__" 165 (vS "law_roundmill_k40_in_turn" 658)),(en P "__doc__" 166 .none),(en P "__package__" 167 .none),(en P "__loader__" 168 (.builtin "__main__.__loader__#opaque")),(en P "__spec__" 169 .none),(en P "__annotations__" 170 (r 6)),(en P "__builtins__" 171 (r 4)),(en P "__file__" 173 (c 172)),(en P "__cached__" 174 .none),(en P "MillError" 206 (r 24)),(en P "NoBits" 222 (r 37)),(en P "NotFinite" 238 (r 49)),(en P "NoWay" 254 (r 61)),(en P "NoFraction" 270 (r 73)),(en P "width" 279 (r 82)),(en P "bias" 286 (r 89)),(en P "low" 293 (r 96)),(en P "sign_bit" 300 (r 103)),(en P "last_field" 307 (r 110)),(en P "endless" 314 (r 117)),(en P "no_number" 321 (r 124)),(en P "check_fraction" 331 (r 131)),(en P "scaled" 340 (r 138)),(en P "height" 350 (r 145)),(en P "rest_by_middle" 359 (r 152)),(en P "rest_of" 367 (r 159)),(en P "cut" 378 (r 166)),(en P "INEXACT" 380 (vI 1 379)),(en P "SMALL" 382 (vI 2 381)),(en P "GREAT" 384 (vI 4 383)),(en P "WRONG" 386 (vI 16 385)),(en P "parted" 398 (r 173)),(en P "check_bits" 407 (r 180)),(en P "kind" 418 (r 187)),(en P "worth" 430 (r 194)),(en P "worth_fraction" 439 (r 201)),(en P "signed" 448 (r 208)),(en P "NAMES" 456 (r 209)),(en P "Way" 511 (r 247)),(en P "way_of" 518 (r 258)),(en P "settled" 536 (r 265)),(en P "lost_flags" 546 (r 272)),(en P "rounded" 558 (r 279)),(en P "total" 566 (r 284)),(en P "nought_sign" 574 (r 291)),(en P "settled_total" 580 (r 296)),(en P "any_none" 588 (r 301)),(en P "number_term" 596 (r 308)),(en P "product_wrong" 606 (r 315)),(en P "product_term" 618 (r 322)),(en P "settled_terms" 624 (r 327)),(en P "settled_sum" 630 (r 332)),(en P "added" 642 (r 339)),(en P "in_turn" 657 (r 346)),(en P "_law_cell_at" 667 (r 353)),(en P "_law_whole" 674 (r 360)),(en P "_law_size_by" 683 (r 367)),(en P "_law_way_by" 690 (r 374)),(en P "_law_bits_by" 704 (r 381)),(en P "_law_finite_by" 721 (r 388)),(en P "_law_value" 730 (r 395)),(en P "_law_line" 740 (r 402)),(en P "_law_near" 750 (r 409)),(en P "_law_far" 760 (r 416)),(en P "_law_fair" 779 (r 423)),(en P "_law_told" 794 (r 430)),(en P "_law_added" 810 (r 437)),(en P "_law_clean" 821 (r 444)),(en P "_law_row_by" 833 (r 451)),(en P "_law_apart" 845 (r 458)),(en P "law" 860 (r 465))] 71
def N9:Obj:=fiO .none #[(z 2),(z 0),(r 20),(z 4),(z 0),(r 33),(z 6),(z 0),(r 45),(z 8),(z 0),(r 57),(z 10),(z 0),(r 69),(z 13),(z 0),(r 81),(z 15),(z 0),(r 88),(z 17),(z 0),(r 95),(z 19),(z 0),(r 102),(z 21),(z 0),(r 109),(z 23),(z 0),(r 116),(z 25),(z 0),(r 123),(z 28),(z 0),(r 130),(z 31),(z 0),(r 137),(z 35),(z 0),(r 144),(z 39),(z 0),(r 151),(z 45),(z 0),(r 158),(z 47),(z 0),(r 165),(z 59),(z 0),(r 172),(z 65),(z 0),(r 179),(z 68),(z 0),(r 186),(z 77),(z 0),(r 193),(z 87),(z 0),(r 200),(z 93),(z 0),(r 207),(z 97),(z 0),(r 215),(z 120),(z 0),(r 257),(z 125),(z 0),(r 264),(z 136),(z 0),(r 271),(z 141),(z 0),(r 278),(z 146),(z 0),(r 283),(z 153),(z 0),(r 290),(z 158),(z 0),(r 295),(z 165),(z 0),(r 300),(z 168),(z 0),(r 307),(z 172),(z 0),(r 314),(z 175),(z 0),(r 321),(z 182),(z 0),(r 326),(z 189),(z 0),(r 331),(z 201),(z 0),(r 338),(z 204),(z 0),(r 345),(z 218),(z 0),(r 352),(z 222),(z 0),(r 359),(z 224),(z 0),(r 366),(z 232),(z 0),(r 373),(z 234),(z 0),(r 380),(z 255),(z 0),(r 387),(z 275),(z 0),(r 394),(z 280),(z 0),(r 401),(z 286),(z 0),(r 408),(z 292),(z 0),(r 415),(z 298),(z 0),(r 422),(z 325),(z 0),(r 429),(z 340),(z 0),(r 436),(z 359),(z 0),(r 443),(z 367),(z 0),(r 450),(z 378),(z 0),(r 457),(z 389),(z 0),(r 464)]
def Lv:Obj:=sqO ↥6 #[(vS "_law_found" 671)]
def N8:Obj:=fv "_law_whole" 57
def Lu:Obj:=cd "_law_whole" 668 669 670 222 1 354 181 355 356 357 358 672 673
def Ls:Obj:=fu "_law_whole" 57 3 "law_roundmill_k40_in_turn" 658 359
def Lr:Obj:=sqO ↥6 #[(vS "_law_cell" 678),(vS "_law_way" 679),(vS "_law_rest" 680)]
def N7:Obj:=fv "_law_size_by" 58
def Lq:Obj:=cd "_law_size_by" 675 676 677 224 1 361 181 362 363 364 365 681 682
def Lo:Obj:=fu "_law_size_by" 58 3 "law_roundmill_k40_in_turn" 658 366
def Ln:Obj:=sqO ↥6 #[(vS "_law_cell" 687)]
def N6:Obj:=fv "_law_way_by" 59
def Lm:Obj:=cd "_law_way_by" 684 685 686 232 1 368 181 369 370 371 372 688 689
def Ll:Obj:=fu "_law_way_by" 59 3 "law_roundmill_k40_in_turn" 658 373
def Lk:Obj:=sqO ↥6 #[(vS "_law_size" 694),(vS "_law_cell" 695),(vS "_law_half" 696),(vS "_law_last" 697),(vS "_law_way" 698),(vS "_law_rest" 699),(vS "_law_side" 700),(vS "_law_figures" 701)]
def N5:Obj:=fv "_law_bits_by" 60
def Lj:Obj:=cd "_law_bits_by" 691 692 693 234 2 375 181 376 377 378 379 702 703
def Li:Obj:=fu "_law_bits_by" 60 3 "law_roundmill_k40_in_turn" 658 380
def Lh:Obj:=sqO ↥6 #[(vS "_law_size" 708),(vS "_law_cell" 709),(vS "_law_half" 710),(vS "_law_last" 711),(vS "_law_way" 712),(vS "_law_rest" 713),(vS "_law_mixed" 714),(vS "_law_side" 715),(vS "_law_middle" 716),(vS "_law_field" 717),(vS "_law_figures" 718)]
def N4:Obj:=fv "_law_finite_by" 61
def Lg:Obj:=cd "_law_finite_by" 705 706 707 255 2 382 181 383 384 385 386 719 720
def Lf:Obj:=fu "_law_finite_by" 61 3 "law_roundmill_k40_in_turn" 658 387
def Le:Obj:=sqO ↥6 #[(vS "_law_size" 725),(vS "_law_code" 726),(vS "_law_field" 727)]
def N3:Obj:=fv "_law_value" 62
def Ld:Obj:=cd "_law_value" 722 723 724 275 2 389 181 390 391 392 393 728 729
def Lc:Obj:=fu "_law_value" 62 3 "law_roundmill_k40_in_turn" 658 394
def Lb:Obj:=sqO ↥6 #[(vS "_law_size" 734),(vS "_law_bits" 735),(vS "_law_half" 736),(vS "_law_value_here" 737)]
def N2:Obj:=fv "_law_line" 63
def La:Obj:=cd "_law_line" 731 732 733 280 2 396 181 397 398 399 400 738 739
def K9:Obj:=fu "_law_line" 63 3 "law_roundmill_k40_in_turn" 658 401
def K8:Obj:=sqO ↥6 #[(vS "_law_way" 744),(vS "_law_outward" 745),(vS "_law_lean" 746),(vS "_law_even" 747)]
def N1:Obj:=fv "_law_near" 64
def K7:Obj:=cd "_law_near" 741 742 743 286 4 403 181 404 405 406 407 748 749
def K6:Obj:=fu "_law_near" 64 3 "law_roundmill_k40_in_turn" 658 408
def K5:Obj:=sqO ↥6 #[(vS "_law_way" 754),(vS "_law_outward" 755),(vS "_law_lean" 756),(vS "_law_even" 757)]
def NZ:Obj:=fv "_law_far" 65
def K4:Obj:=cd "_law_far" 751 752 753 292 4 410 181 411 412 413 414 758 759
def K3:Obj:=fu "_law_far" 65 3 "law_roundmill_k40_in_turn" 658 415
def K2:Obj:=sqO ↥6 #[(vS "_law_size" 764),(vS "_law_way" 765),(vS "_law_sign" 766),(vS "_law_tall" 767),(vS "_law_bottom" 768),(vS "_law_found" 769),(vS "_law_code" 770),(vS "_law_last" 771),(vS "_law_here" 772),(vS "_law_outward" 773),(vS "_law_due" 774),(vS "_law_beyond" 775),(vS "_law_before" 776)]
def NY:Obj:=fv "_law_fair" 66
def KZ:Obj:=cd "_law_fair" 761 762 763 298 6 417 181 418 419 420 421 777 778
def KY:Obj:=fu "_law_fair" 66 3 "law_roundmill_k40_in_turn" 658 422
def KW:Obj:=sqO ↥6 #[(vS "_law_size" 783),(vS "_law_way" 784),(vS "_law_sign" 785),(vS "_law_tall" 786),(vS "_law_bottom" 787),(vS "_law_bits" 788),(vS "_law_code" 789),(vS "_law_last" 790),(vS "_law_due" 791)]
def NX:Obj:=fv "_law_told" 67
def KU:Obj:=cd "_law_told" 780 781 782 325 6 424 181 425 426 427 428 792 793
def KS:Obj:=fu "_law_told" 67 3 "law_roundmill_k40_in_turn" 658 429
def KR:Obj:=sqO ↥6 #[(vS "_law_size" 798),(vS "_law_way" 799),(vS "_law_one" 800),(vS "_law_two" 801),(vS "_law_told_here" 802),(vS "_law_half" 803),(vS "_law_last" 804),(vS "_law_plain" 805),(vS "_law_exact" 806),(vS "_law_sign" 807)]
def NW:Obj:=fv "_law_added" 68
def KQ:Obj:=cd "_law_added" 795 796 797 340 5 431 181 432 433 434 435 808 809
def KP:Obj:=fu "_law_added" 68 3 "law_roundmill_k40_in_turn" 658 436
def KO:Obj:=sqO ↥6 #[(vS "_law_size" 814),(vS "_law_bits" 815),(vS "_law_plan" 816),(vS "_law_half" 817),(vS "_law_last" 818)]
def NV:Obj:=fv "_law_clean" 69
def KN:Obj:=cd "_law_clean" 811 812 813 359 3 438 181 439 440 441 442 819 820
def KL:Obj:=fu "_law_clean" 69 3 "law_roundmill_k40_in_turn" 658 443
def KJ:Obj:=sqO ↥6 #[(vS "_law_size" 825),(vS "_law_cells" 826),(vS "_law_plan" 827),(vS "_law_half" 828),(vS "_law_row" 829),(vS "_law_cell" 830)]
def NU:Obj:=fv "_law_row_by" 70
def KI:Obj:=cd "_law_row_by" 822 823 824 367 3 445 181 446 447 448 449 831 832
def KH:Obj:=fu "_law_row_by" 70 3 "law_roundmill_k40_in_turn" 658 450
def KG:Obj:=sqO ↥6 #[(vS "_law_size" 837),(vS "_law_way" 838),(vS "_law_row" 839),(vS "_law_handed" 840),(vS "_law_found" 841),(vS "_law_steps" 842)]
def NT:Obj:=fv "_law_apart" 71
def KD:Obj:=cd "_law_apart" 834 835 836 378 3 452 181 453 454 455 456 843 844
def KC:Obj:=fu "_law_apart" 71 3 "law_roundmill_k40_in_turn" 658 457
def KA:Obj:=sqO ↥6 #[(vS "_law_script" 849),(vS "_law_size" 850),(vS "_law_way" 851),(vS "_law_row" 852),(vS "_law_handed" 853),(vS "_law_found" 854),(vS "_law_flags" 855),(vS "_law_k" 856),(vS "_law_more" 857)]
def NS:Obj:=fv "law" 72
def Kz:Obj:=cd "law" 846 847 848 389 1 459 181 460 461 462 463 858 859
def Ky:Obj:=fu "law" 72 3 "law_roundmill_k40_in_turn" 658 464
def full (P:Params):BT:=(B (boot_o_0 P) (B (boot_o_1 P) (B (Lw P) (B (boot_o_7 P) (B o6 (B o0 (B o37 (B o73 (L o0) (L o1)) (B o0 (L o0) (L KJ))) (B o55 (B o94 (L L8) (L K4)) (B MD (L Oa) N))) (B o0 (B o0 (B o84 (L Mf) (L o0)) (B MI (L LG) (L NS))) (B o0 (B o1 (L o1) (L o0)) (B o1 (L Lo) N)))) (B (o11 P) (B o23 (B o0 (B o0 (L Ot) (L Le)) (B OG (L LJ) (L o0))) (B o60 (B o0 (L LY) (L KY)) (B o0 (L Lu) N))) (B o0 (B o50 (B o89 (L Mb) (L N1)) (B OC (L o0) N)) (B o1 (B MS (L LQ) (L o1)) (B Mq (L o0) N))))) (B o0 (B o1 (B o0 (B o0 (B o76 (L o0) (L Lg)) (B o0 (L o0) (L KH))) (B o57 (B o0 (L LZ) (L K2)) (B o0 (L o1) N))) (B o30 (B o0 (B o1 (L Md) (L o0)) (B o7 (L LD) N)) (B o66 (B MU (L LS) (L NW)) (B Mu (L o0) N)))) (B o15 (B o0 (B o44 (B o0 (L o1) (L Lc)) (B o1 (L LI) (L o0))) (B o0 (B OK (L Oi) (L o0)) (B Oy (L Lr) N))) (B o0 (B o1 (B o91 (L Ma) (L o1)) (B MF (L o0) N)) (B o71 (B MQ (L LO) (L KN)) (B Ov (L N5) N)))))) (B (boot_o_5 P) (B (boot_o_9 P) (B (o8 P) (B o18 (B o7 (B o74 (L Mm) (L o0)) (B MO (L LM) (L NU))) (B o0 (B o1 (L Ol) (L o0)) (B o1 (L Lx) N))) (B o28 (B o47 (B o86 (L o0) (L La)) (B MG (L Oc) (L Ky))) (B o65 (B o0 (L o0) (L KR)) (B o0 (L o1) N)))) (B o13 (B o7 (B o42 (B o81 (L Mh) (L N3)) (B MK (L o1) (L KD))) (B o1 (B o99 (L o0) (L o1)) (B Mz (L o0) N))) (B o32 (B o52 (B o0 (L o1) (L K6)) (B o0 (L LB) N)) (B o0 (B OI (L Og) (L o0)) (B Mo (L Lk) N))))) (B o2 (B o10 (B o21 (B o39 (B o1 (L Mj) (L o0)) (B MM (L Oe) (L o1))) (B o58 (B o97 (L o1) (L NY)) (B MB (L o0) N))) (B o7 (B o49 (B o0 (L Oo) (L K8)) (B o0 (L o1) N)) (B o68 (B o0 (L o0) (L KP)) (B Ms (L Lm) N)))) (B o7 (B o25 (B o1 (B o83 (L o0) (L o1)) (B o0 (L o0) (L KA))) (B o63 (B MW (L LV) (L KU)) (B Mw (L N7) N))) (B o35 (B o0 (B o92 (L o0) (L o0)) (B OA (L Lz) N)) (B o0 (B o1 (L o1) (L o0)) (B o1 (L Li) N))))))) (B (boot_o_2 P) (B (boot_o_4 P) (B (boot_o_8 P) (B o7 (B o1 (B o16 (B o0 (L Ou) (L Lh)) (B OH (L Of) (L o0))) (B o56 (B o0 (L o0) (L K3)) (B o0 (L Ly) N))) (B (o27 P) (B o46 (B o85 (L Me) (L N2)) (B MH (L o0) (L Kz))) (B o1 (B MV (L LU) (L o1)) (B Mv (L o0) N)))) (B o12 (B o16 (B (o41 P) (B o80 (L Mi) (L o0)) (B ML (L o0) (L NT))) (B o0 (B o1 (L LX) (L o0)) (B o1 (L Ls) N))) (B o1 (B o51 (B o90 (L o0) (L K7)) (B OB (L Ob) N)) (B o69 (B o0 (L o0) (L KO)) (B Mp (L o1) N))))) (B N9 (B o9 (B (o20 P) (B o1 (B o0 (L o1) (L Lf)) (B o1 (L o1) (L o0))) (B o0 (B o96 (L o0) (L o0)) (B Oz (L Lv) N))) (B o16 (B o1 (B o87 (L o0) (L o1)) (B (OE P) (L o0) N)) (B o67 (B MT (L LR) (L KQ)) (B Mt (L N6) N)))) (B o16 (B o1 (B o0 (B o1 (L Mg) (L o0)) (B MJ (L LH) (L o1))) (B o62 (B MX (L LW) (L NX)) (B Mx (L o0) N))) (B (o34 P) (B o53 (B o0 (L L9) (L K5)) (B o0 (L o1) N)) (B o72 (B o0 (L o0) (L KL)) (B o0 (L Lj) N)))))) (B (boot_o_6 P) (B (boot_o_10 P) (B o0 (B o19 (B (o38 P) (B o75 (L Ml) (L N4)) (B MN (L LL) (L KI))) (B o1 (B o95 (L L7) (L o1)) (B MC (L o0) N))) (B o29 (B o48 (B o0 (L o1) (L K9)) (B o0 (L LF) N)) (B o0 (B OJ (L Oh) (L o0)) (B Ox (L Ln) N)))) (B o14 (B (o24 P) (B o43 (B o82 (L o0) (L Ld)) (B o0 (L Od) (L KC))) (B o61 (B o0 (L o1) (L KW)) (B o0 (L o1) N))) (B o33 (B o0 (B o1 (L Om) (L o0)) (B o1 (L LA) N)) (B o70 (B MR (L LP) (L NV)) (B Ow (L o0) N))))) (B o3 (B o0 (B o22 (B o40 (B o79 (L o0) (L o1)) (B o0 (L LK) (L KG))) (B o59 (B o98 (L Oj) (L KZ)) (B MA (L N8) N))) (B (o31 P) (B o0 (B o88 (L Mc) (L o0)) (B OD (L LC) N)) (B o0 (B o1 (L o1) (L o0)) (B (Mr P) (L Ll) N)))) (B (o17 P) (B o26 (B o45 (B o0 (L Oq) (L Lb)) (B OF (L o1) (L o0))) (B o64 (B o0 (L o0) (L KS)) (B o0 (L Lq) N))) (B o36 (B o54 (B o93 (L o1) (L NZ)) (B ME (L o0) N)) (B o1 (B MP (L LN) (L o1)) (B Mn (L o0) N))))))))
def t_0 (P:Params):BT:=(((cut 15 (full P) 1 0).ins 3 (boot_o_3 P)).ins 12 (o1))
def t_1 (P:Params):BT:=(((cut 132 (full P) 1 0).ins 3 (o4 P)).ins 12 (o5))
def t_2 (P:Params):BT:=(((cut 354 (full P) 1 0).ins 3 (o77 P)).ins 12 (o78))
def t_3 (P:Params):BT:=(cut 466 (full P) 1 0)
def ha (P:Params):Heap:=⟨⟨[boot_o_0 P,boot_o_1 P,boot_o_2 P,boot_o_3 P,boot_o_4 P,boot_o_5 P,boot_o_6 P,boot_o_7 P,boot_o_8 P,boot_o_9 P,boot_o_10 P,o0,o1,o2,o3]⟩,↥2⟩
def hf (P:Params):Heap:=absHeap (full P) 466 ↥2
def K (P:Params):Frag:=(nat_lit 2,boot_o_2 P)::(nat_lit 3,Lw P)::(nat_lit 15,o6)::(nat_lit 22,o0)::(nat_lit 23,o11 P)::(nat_lit 24,o12)::(nat_lit 25,o13)::(nat_lit 28,o16)::(nat_lit 35,o0)::(nat_lit 36,o20 P)::(nat_lit 37,o21)::(nat_lit 40,o16)::(nat_lit 47,o0)::(nat_lit 48,o27 P)::(nat_lit 49,o28)::(nat_lit 52,o16)::(nat_lit 59,o0)::(nat_lit 60,o34 P)::(nat_lit 61,o35)::(nat_lit 64,o16)::(nat_lit 71,o0)::(nat_lit 72,o41 P)::(nat_lit 73,o42)::(nat_lit 76,o0)::(nat_lit 78,o45)::(nat_lit 79,o0)::(nat_lit 81,o47)::(nat_lit 82,o48)::(nat_lit 83,o0)::(nat_lit 85,o49)::(nat_lit 86,o0)::(nat_lit 88,o51)::(nat_lit 89,o52)::(nat_lit 90,o0)::(nat_lit 92,o53)::(nat_lit 93,o0)::(nat_lit 95,o55)::(nat_lit 96,o56)::(nat_lit 97,o0)::(nat_lit 99,o57)::(nat_lit 100,o0)::(nat_lit 102,o59)::(nat_lit 103,o60)::(nat_lit 104,o0)::(nat_lit 106,o61)::(nat_lit 107,o0)::(nat_lit 109,o63)::(nat_lit 110,o64)::(nat_lit 111,o0)::(nat_lit 113,o65)::(nat_lit 114,o0)::(nat_lit 116,o67)::(nat_lit 117,o68)::(nat_lit 118,o0)::(nat_lit 120,o69)::(nat_lit 121,o0)::(nat_lit 123,o71)::(nat_lit 124,o72)::(nat_lit 125,o0)::(nat_lit 127,o73)::(nat_lit 128,o0)::(nat_lit 130,o75)::(nat_lit 131,o76)::(nat_lit 132,o0)::(nat_lit 134,o79)::(nat_lit 135,o0)::(nat_lit 137,o81)::(nat_lit 138,o82)::(nat_lit 139,o0)::(nat_lit 141,o83)::(nat_lit 142,o0)::(nat_lit 144,o85)::(nat_lit 145,o86)::(nat_lit 146,o0)::(nat_lit 148,o87)::(nat_lit 149,o0)::(nat_lit 151,o89)::(nat_lit 152,o90)::(nat_lit 153,o0)::(nat_lit 155,o91)::(nat_lit 156,o0)::(nat_lit 158,o93)::(nat_lit 159,o94)::(nat_lit 160,o0)::(nat_lit 162,o95)::(nat_lit 163,o0)::(nat_lit 165,o97)::(nat_lit 166,o98)::(nat_lit 167,o0)::(nat_lit 169,o99)::(nat_lit 170,o0)::(nat_lit 172,MX)::(nat_lit 173,MW)::(nat_lit 174,o0)::(nat_lit 176,MV)::(nat_lit 177,o0)::(nat_lit 179,MU)::(nat_lit 180,MT)::(nat_lit 181,o0)::(nat_lit 183,MS)::(nat_lit 184,o0)::(nat_lit 186,MR)::(nat_lit 187,MQ)::(nat_lit 188,o0)::(nat_lit 190,MP)::(nat_lit 191,o0)::(nat_lit 193,MO)::(nat_lit 194,MN)::(nat_lit 195,o0)::(nat_lit 197,MM)::(nat_lit 198,o0)::(nat_lit 200,ML)::(nat_lit 201,MK)::(nat_lit 202,o0)::(nat_lit 204,MJ)::(nat_lit 205,o0)::(nat_lit 207,MI)::(nat_lit 208,MH)::(nat_lit 209,MG)::(nat_lit 217,o0)::(nat_lit 219,MF)::(nat_lit 220,o0)::(nat_lit 222,ME)::(nat_lit 223,MD)::(nat_lit 224,o0)::(nat_lit 226,MC)::(nat_lit 227,o0)::(nat_lit 229,MB)::(nat_lit 230,MA)::(nat_lit 231,o0)::(nat_lit 233,Mz)::(nat_lit 234,o0)::(nat_lit 236,Mx)::(nat_lit 237,Mw)::(nat_lit 238,o0)::(nat_lit 240,Mv)::(nat_lit 241,o0)::(nat_lit 243,Mu)::(nat_lit 244,Mt)::(nat_lit 245,Ms)::(nat_lit 246,Mr P)::(nat_lit 247,Mq)::(nat_lit 248,Mp)::(nat_lit 249,Mo)::(nat_lit 252,o0)::(nat_lit 254,Mn)::(nat_lit 255,o0)::(nat_lit 257,Mm)::(nat_lit 258,Ml)::(nat_lit 259,o0)::(nat_lit 261,Mj)::(nat_lit 262,o0)::(nat_lit 264,Mi)::(nat_lit 265,Mh)::(nat_lit 266,o0)::(nat_lit 268,Mg)::(nat_lit 269,o0)::(nat_lit 271,Mf)::(nat_lit 272,Me)::(nat_lit 273,o0)::(nat_lit 275,Md)::(nat_lit 276,o0)::(nat_lit 278,Mc)::(nat_lit 279,Mb)::(nat_lit 280,o0)::(nat_lit 283,Ma)::(nat_lit 284,L9)::(nat_lit 285,o0)::(nat_lit 287,L8)::(nat_lit 288,o0)::(nat_lit 290,L7)::(nat_lit 291,LZ)::(nat_lit 292,o0)::(nat_lit 295,LY)::(nat_lit 296,LX)::(nat_lit 297,o0)::(nat_lit 300,LW)::(nat_lit 301,LV)::(nat_lit 302,o0)::(nat_lit 304,LU)::(nat_lit 305,o0)::(nat_lit 307,LS)::(nat_lit 308,LR)::(nat_lit 309,o0)::(nat_lit 311,LQ)::(nat_lit 312,o0)::(nat_lit 314,LP)::(nat_lit 315,LO)::(nat_lit 316,o0)::(nat_lit 318,LN)::(nat_lit 319,o0)::(nat_lit 321,LM)::(nat_lit 322,LL)::(nat_lit 323,o0)::(nat_lit 326,LK)::(nat_lit 327,LJ)::(nat_lit 328,o0)::(nat_lit 331,LI)::(nat_lit 332,LH)::(nat_lit 333,o0)::(nat_lit 335,LG)::(nat_lit 336,o0)::(nat_lit 338,LF)::(nat_lit 339,LD)::(nat_lit 340,o0)::(nat_lit 342,LC)::(nat_lit 343,o0)::(nat_lit 345,LB)::(nat_lit 346,LA)::(nat_lit 347,o0)::(nat_lit 349,Lz)::(nat_lit 350,o0)::(nat_lit 352,Ly)::(nat_lit 353,Lx)::(nat_lit 354,o0)::(nat_lit 356,Lv)::(nat_lit 357,o0)::(nat_lit 359,Lu)::(nat_lit 360,Ls)::(nat_lit 361,o0)::(nat_lit 363,Lr)::(nat_lit 364,o0)::(nat_lit 366,Lq)::(nat_lit 367,Lo)::(nat_lit 368,o0)::(nat_lit 370,Ln)::(nat_lit 371,o0)::(nat_lit 373,Lm)::(nat_lit 374,Ll)::(nat_lit 375,o0)::(nat_lit 377,Lk)::(nat_lit 378,o0)::(nat_lit 380,Lj)::(nat_lit 381,Li)::(nat_lit 382,o0)::(nat_lit 384,Lh)::(nat_lit 385,o0)::(nat_lit 387,Lg)::(nat_lit 388,Lf)::(nat_lit 389,o0)::(nat_lit 391,Le)::(nat_lit 392,o0)::(nat_lit 394,Ld)::(nat_lit 395,Lc)::(nat_lit 396,o0)::(nat_lit 398,Lb)::(nat_lit 399,o0)::(nat_lit 401,La)::(nat_lit 402,K9)::(nat_lit 403,o0)::(nat_lit 405,K8)::(nat_lit 406,o0)::(nat_lit 408,K7)::(nat_lit 409,K6)::(nat_lit 410,o0)::(nat_lit 412,K5)::(nat_lit 413,o0)::(nat_lit 415,K4)::(nat_lit 416,K3)::(nat_lit 417,o0)::(nat_lit 419,K2)::(nat_lit 420,o0)::(nat_lit 422,KZ)::(nat_lit 423,KY)::(nat_lit 424,o0)::(nat_lit 426,KW)::(nat_lit 427,o0)::(nat_lit 429,KU)::(nat_lit 430,KS)::(nat_lit 431,o0)::(nat_lit 433,KR)::(nat_lit 434,o0)::(nat_lit 436,KQ)::(nat_lit 437,KP)::(nat_lit 438,o0)::(nat_lit 440,KO)::(nat_lit 441,o0)::(nat_lit 443,KN)::(nat_lit 444,KL)::(nat_lit 445,o0)::(nat_lit 447,KJ)::(nat_lit 448,o0)::(nat_lit 450,KI)::(nat_lit 451,KH)::(nat_lit 452,o0)::(nat_lit 454,KG)::(nat_lit 455,o0)::(nat_lit 457,KD)::(nat_lit 458,KC)::(nat_lit 459,o0)::(nat_lit 461,KA)::(nat_lit 462,o0)::(nat_lit 464,Kz)::(nat_lit 465,Ky)::[]
def as:List Addr:=[2,3,15,22,23,24,25,28,35,36,37,40,47,48,49,52,59,60,61,64,71,72,73,76,78,79,81,82,83,85,86,88,89,90,92,93,95,96,97,99,100,102,103,104,106,107,109,110,111,113,114,116,117,118,120,121,123,124,125,127,128,130,131,132,134,135,137,138,139,141,142,144,145,146,148,149,151,152,153,155,156,158,159,160,162,163,165,166,167,169,170,172,173,174,176,177,179,180,181,183,184,186,187,188,190,191,193,194,195,197,198,200,201,202,204,205,207,208,209,217,219,220,222,223,224,226,227,229,230,231,233,234,236,237,238,240,241,243,244,245,246,247,248,249,252,254,255,257,258,259,261,262,264,265,266,268,269,271,272,273,275,276,278,279,280,283,284,285,287,288,290,291,292,295,296,297,300,301,302,304,305,307,308,309,311,312,314,315,316,318,319,321,322,323,326,327,328,331,332,333,335,336,338,339,340,342,343,345,346,347,349,350,352,353,354,356,357,359,360,361,363,364,366,367,368,370,371,373,374,375,377,378,380,381,382,384,385,387,388,389,391,392,394,395,396,398,399,401,402,403,405,406,408,409,410,412,413,415,416,417,419,420,422,423,424,426,427,429,430,431,433,434,436,437,438,440,441,443,444,445,447,448,450,451,452,454,455,457,458,459,461,462,464,465]
def env:Env:={ scope:=PySem.Challenge.pw_roundmill_k40_in_turn.main.scope,locals:=mainNs,globals:=mainNs,cells:=[],code:=(.ref 13),frame:=some 14 }
def CH:List Stmt:=[T.top 0,T.top 1,T.top 2,T.top 3,T.top 4,T.top 5,T.top 6,T.top 7,T.top 8,T.top 9,T.top 10,T.top 11,T.top 12,T.top 13,T.top 14,T.top 15]
def CG:List Stmt:=[T.top 16,T.top 17,T.top 18,T.top 19,T.top 20,T.top 21,T.top 22,T.top 23,T.top 24,T.top 25,T.top 26,T.top 27,T.top 28,T.top 29,T.top 30,T.top 31,T.top 32,T.top 33,T.top 34,T.top 35,T.top 36,T.top 37,T.top 38,T.top 39,T.top 40,T.top 41,T.top 42,T.top 43,T.top 44,T.top 45,T.top 46,T.top 47,T.top 48,T.top 49,T.top 50,T.top 51,T.top 52,T.top 53,T.top 54,T.top 55,T.top 56]
def CD:List Stmt:=[T.top 57,T.top 58,T.top 59,T.top 60,T.top 61,T.top 62,T.top 63,T.top 64,T.top 65,T.top 66,T.top 67,T.top 68,T.top 69,T.top 70,T.top 71,T.top 72]
def q:Program:=PySem.W.view PySem.Challenge.pw_roundmill_k40_in_turn [1,2,3,4,5,7,8,9,10,11,12,13,15,16,17,18,19,20,21,22,23,24,26,27,28,29,30,31,33,34,35,37,38,39,41,42,43,45,46,47,48,49,50,52,54,56,57,58,59,60,61,62,63,64,65,66,67,68,69,70,71,72]
end
end H
namespace H
open PySem PySem.W PySem.Calls PySem.Spec PyProof.Rows L2 EV ES
noncomputable section
def cB:Code:=Code.body (behindTheImports PySem.Challenge.pw_roundmill_k40_in_turn) env
def row:RowW:=OpenRow.toRowW (OpenLaw.row PySem.Challenge.rw_roundmill_k40_in_turn)
def Xt (s:Shared):Bool:=xlAt q [] s&&recOk (RowW.records row) s
end
theorem M9:(fun (_:Program) (_:Program) (_:Env) (_:Code) (_:Shared->Bool)=>true) PySem.Challenge.pw_roundmill_k40_in_turn q env cB Xt=true:=by k_qdec
set_option maxHeartbeats 0 in
theorem Jk:∀ w:World,(fun os:OsState=>topGo treeTable PySem.Challenge.pw_roundmill_k40_in_turn w 11 (some (.ref 6)) 12 (Shared.mk (boot_heap w.params) (Array.mk []) boot_drawn boot_toks os) (topStub PySem.Challenge.pw_roundmill_k40_in_turn))=fun os:OsState=>some ((Shared.mk (ha w.params) ⟨[]⟩ (Drawn.mk 0 0 0 0) 187 os),Thread.mk (denote treeTable cB) cB (Pos.mk 0 0 0 0) [topFrame (Pos.mk 0 0 0 0)]):=by
 rewrite [PySem.W.Fast.te15667345088766844465,PySem.W.Fast.te14364793385576792824,PySem.W.Fast.te6899609007751653620,PySem.W.Fast.te11892475500146522536,PySem.W.Fast.te2060423359788512156]
 intro w
 kernel_rfl
set_option maxHeartbeats 0 in
theorem Cw:∀ w:World,(fun os:OsState=>segRun treeTable PySem.Challenge.pw_roundmill_k40_in_turn w 11 (some (.ref 6)) 1 1 (Shared.mk (ha w.params) ⟨[]⟩ (Drawn.mk 0 0 0 0) 187 os) (blockOf (behindTheImports PySem.Challenge.pw_roundmill_k40_in_turn) env cB (Pos.mk 0 0 0 0) [topFrame (Pos.mk 0 0 0 0)]))=fun os:OsState=>some (Flow.next,(SharedT.abs (SharedT.mk (t_0 w.params) 15 ↥2 ⟨[]⟩ (Drawn.mk 0 0 0 0) 187 os)),cB,(Pos.mk 0 0 0 0)):=by
 rewrite [PySem.W.Fast.te14374325043358763698,PySem.W.Fast.te14364793385576792824,PySem.W.Fast.te6899609007751653620,PySem.W.Fast.te2060423359788512156]
 intro w
 kernel_rfl
set_option maxHeartbeats 0 in
theorem Nn:∀ w:World,(fun os:OsState=>segRunT treeTable PySem.Challenge.pw_roundmill_k40_in_turn w 11 (some (.ref 6)) 1 1299 (SharedT.mk (t_0 w.params) 15 ↥2 ⟨[]⟩ (Drawn.mk 0 0 0 0) 187 os) (piecesOf CH env cB (Pos.mk 0 0 0 0) [topFrame (Pos.mk 0 0 0 0)]))=fun os:OsState=>some (Flow.next,(SharedT.mk (t_1 w.params) 132 ↥2 ⟨[]⟩ (Drawn.mk 0 0 0 0) 332 os),cB,(Pos.mk 28 0 30 73)):=by
 rewrite [PySem.W.Fast.te10110043849684766642,PySem.W.Fast.te14364793385576792824,PySem.W.Fast.te6899609007751653620,PySem.W.Fast.te2060423359788512156]
 intro w
 kernel_rfl
set_option maxHeartbeats 0 in
theorem Nm:∀ w:World,(fun os:OsState=>segRunT treeTable PySem.Challenge.pw_roundmill_k40_in_turn w 11 (some (.ref 6)) 1 1279 (SharedT.mk (t_1 w.params) 132 ↥2 ⟨[]⟩ (Drawn.mk 0 0 0 0) 332 os) (piecesOf CG env cB (Pos.mk 28 0 30 73) [topFrame (Pos.mk 0 0 0 0)]))=fun os:OsState=>some (Flow.next,(SharedT.mk (t_2 w.params) 354 ↥2 ⟨[]⟩ (Drawn.mk 0 0 0 0) 668 os),cB,(Pos.mk 218 0 221 12)):=by
 rewrite [PySem.W.Fast.te10110043849684766642,PySem.W.Fast.te14364793385576792824,PySem.W.Fast.te6899609007751653620,PySem.W.Fast.te2060423359788512156]
 intro w
 kernel_rfl
set_option maxHeartbeats 0 in
theorem Nl:∀ w:World,(fun os:OsState=>segRunT treeTable PySem.Challenge.pw_roundmill_k40_in_turn w 11 (some (.ref 6)) 1 546 (SharedT.mk (t_2 w.params) 354 ↥2 ⟨[]⟩ (Drawn.mk 0 0 0 0) 668 os) (piecesOf CD env cB (Pos.mk 218 0 221 12) [topFrame (Pos.mk 0 0 0 0)]))=fun os:OsState=>some (Flow.next,(SharedT.mk (t_3 w.params) 466 ↥2 ⟨[]⟩ (Drawn.mk 0 0 0 0) 861 os),cB,(Pos.mk 389 0 410 96)):=by
 rewrite [PySem.W.Fast.te10110043849684766642,PySem.W.Fast.te14364793385576792824,PySem.W.Fast.te6899609007751653620,PySem.W.Fast.te2060423359788512156]
 intro w
 kernel_rfl
set_option maxHeartbeats 0 in
theorem Jl:∀ w:World,(fun os:OsState=>topRun treeTable PySem.Challenge.pw_roundmill_k40_in_turn w 11 (some (.ref 6)) 2 (SharedT.abs (SharedT.mk (t_3 w.params) 466 ↥2 ⟨[]⟩ (Drawn.mk 0 0 0 0) 861 os)) (Thread.mk (doneF Flow.next) cB (Pos.mk 389 0 410 96) [topFrame (Pos.mk 0 0 0 0)]))=fun os:OsState=>some ↥8:=by
 rewrite [PySem.W.Fast.te14082659384304107361,PySem.W.Fast.te14364793385576792824,PySem.W.Fast.te6899609007751653620,PySem.W.Fast.te2060423359788512156]
 intro w
 kernel_rfl
set_option maxHeartbeats 0 in
theorem FZ:∀ w:World,((boot_heap w.params).isNs mainGlobals&&(Array.mk []:Array GenState).size == 0,(boot_heap w.params).objs.size,(boot_heap w.params).nsMap mainGlobals "__annotations__")=(true,11,(some (.ref 6))):=by
 rewrite [PySem.W.Fast.te8920871248978507458]
 intro w
 kernel_rfl
set_option maxHeartbeats 0 in
theorem l_1:∀ w:World,(fun os:OsState=>staticsOk ↥9 (boot_heap w.params) (hf w.params)&&namesBound PySem.Challenge.pw_roundmill_k40_in_turn (hf w.params)&&gensDone ↥8&&laidKept (boot_heap w.params) (hf w.params))=fun os:OsState=>true:=by
 rewrite [PySem.W.Fast.te5923862056798008813,PySem.W.Fast.te6899609007751653620]
 intro w
 kernel_rfl
set_option maxHeartbeats 0 in
theorem OY:∀ w:World,(fun os:OsState=>(openSeen q [] ↥9 Xt true ↥8).1)=fun os:OsState=>(openGood q []).1:=by
 unfold openSeen openGood
 dsimp only
 rewrite [PySem.W.Fast.te5160383126252970620,PySem.W.R.mapR_eq,PySem.W.Fast.te3399658132070893891,PySem.W.Fast.te5991557255702980513]
 intro w
 kernel_rfl
set_option maxHeartbeats 0 in
theorem OX:∀ w:World,(fun os:OsState=>(openSeen q [] ↥9 Xt true ↥8).2.1)=fun os:OsState=>(openGood q []).2.1:=by
 unfold openSeen openGood
 dsimp only
 intro w
 kernel_rfl
set_option maxHeartbeats 0 in
theorem OW:∀ w:World,(fun os:OsState=>(openSeen q [] ↥9 Xt true ↥8).2.2.1)=fun os:OsState=>(openGood q []).2.2.1:=by
 unfold openSeen openGood
 dsimp only
 rewrite [PySem.W.Fast.te10880121769531294198,PySem.W.Fast.te821141287760084731,PySem.W.R.mapR_eq,PySem.W.Fast.te3399658132070893891,PySem.W.Fast.te7409074990110511671,PySem.W.Fast.te13664370479719496447,PySem.W.Fast.te14722251495701143533,PySem.W.Fast.te5923862056798008813,PySem.W.Fast.te6899609007751653620,PySem.W.Fast.te10994771534591457954,PySem.W.Fast.te18408535023408442824]
 intro w
 kernel_rfl
set_option maxHeartbeats 0 in
theorem OV:∀ w:World,(fun os:OsState=>(openSeen q [] ↥9 Xt true ↥8).2.2.2.1)=fun os:OsState=>(openGood q []).2.2.2.1:=by
 unfold openSeen openGood
 dsimp only
 rewrite [PySem.W.Fast.te479339242167458305]
 intro w
 kernel_rfl
set_option maxHeartbeats 0 in
theorem OU:∀ w:World,(fun os:OsState=>(openSeen q [] ↥9 Xt true ↥8).2.2.2.2.1)=fun os:OsState=>(openGood q []).2.2.2.2.1:=by
 unfold openSeen openGood
 dsimp only
 rewrite [PySem.W.Fast.te16090120013241838585,PySem.W.Fast.te3247288618530077131]
 intro w
 kernel_rfl
set_option maxHeartbeats 0 in
theorem OT:∀ w:World,(fun os:OsState=>(openSeen q [] ↥9 Xt true ↥8).2.2.2.2.2.1)=fun os:OsState=>(openGood q []).2.2.2.2.2.1:=by
 unfold openSeen openGood
 dsimp only
 rewrite [PySem.W.Fast.te2386780881361962483,PySem.W.Fast.te821141287760084731]
 intro w
 kernel_rfl
set_option maxHeartbeats 0 in
theorem OS:∀ w:World,(fun os:OsState=>(openSeen q [] ↥9 Xt true ↥8).2.2.2.2.2.2.1)=fun os:OsState=>(openGood q []).2.2.2.2.2.2.1:=by
 unfold openSeen openGood
 dsimp only
 rewrite [PySem.W.Fast.te11698064438423848299]
 intro w
 kernel_rfl
set_option maxHeartbeats 0 in
theorem OR:∀ w:World,(fun os:OsState=>(openSeen q [] ↥9 Xt true ↥8).2.2.2.2.2.2.2.1)=fun os:OsState=>(openGood q []).2.2.2.2.2.2.2.1:=by
 unfold openSeen openGood
 dsimp only
 rewrite [PySem.W.Fast.te7317090234206586261]
 intro w
 kernel_rfl
set_option maxHeartbeats 0 in
theorem OP:∀ w:World,(fun os:OsState=>(openSeen q [] ↥9 Xt true ↥8).2.2.2.2.2.2.2.2)=fun os:OsState=>(openGood q []).2.2.2.2.2.2.2.2:=by
 unfold openSeen openGood
 dsimp only
 rewrite [PySem.W.Fast.te7369524293546568484]
 intro w
 kernel_rfl
set_option maxHeartbeats 0 in
theorem l_k:∀ w:World,(fun os:OsState=>as.map (Shared.heap ↥8).get?)=fun os:OsState=>(K w.params).map fun x=>some x.2:=by
 rewrite [PySem.W.R.mapR_eq]
 intro w
 kernel_rfl
theorem h_b:behindTheImports PySem.Challenge.pw_roundmill_k40_in_turn=CH++(CG++(CD++[])):=by kernel_rfl
theorem Jz (w:World) (os:OsState):topRun treeTable PySem.Challenge.pw_roundmill_k40_in_turn w 11 (some (.ref 6)) (1299+(1279+(546+(2)))) (SharedT.abs (SharedT.mk (t_0 w.params) 15 ↥2 ⟨[]⟩ (Drawn.mk 0 0 0 0) 187 os)) (restOf (CH++(CG++(CD++[]))) env cB (Pos.mk 0 0 0 0) [topFrame (Pos.mk 0 0 0 0)])=some ↥8 :=
 piece_app (segRun_of (congrFun (Nn w) os)) (piece_app (segRun_of (congrFun (Nm w) os)) (piece_app (segRun_of (congrFun (Nl w) os)) (piece_nil (congrFun (Jl w) os))))
theorem run (w:World) (os:OsState):topRun treeTable PySem.Challenge.pw_roundmill_k40_in_turn w 11 (some (.ref 6)) (12+(1+(1299+(1279+(546+(2)))))) (Shared.mk (boot_heap w.params) (Array.mk []) boot_drawn boot_toks os) (topStub PySem.Challenge.pw_roundmill_k40_in_turn)=some ↥8 :=
 go_top (congrFun (Jk w) os) (piece_block (congrFun (Cw w) os) ((congrArg (fun b=>topRun treeTable PySem.Challenge.pw_roundmill_k40_in_turn w 11 (some (.ref 6)) (1299+(1279+(546+(2)))) (SharedT.abs (SharedT.mk (t_0 w.params) 15 ↥2 ⟨[]⟩ (Drawn.mk 0 0 0 0) 187 os)) (restOf b env cB (Pos.mk 0 0 0 0) [topFrame (Pos.mk 0 0 0 0)])) h_b).trans (Jz w os)))
theorem opened:∀ w:World,(fencedOpening treeTable PySem.Challenge.pw_roundmill_k40_in_turn w 6368).map (fun s=>(s.heap,s.gens,s.drawn,s.toks))=some (boot_heap w.params,Array.mk [],boot_drawn,boot_toks):=boot_open (by kernel_rfl) ↥3 (fun s=>by kernel_rfl)
theorem he:∀ P,as=(K P).map (·.1):=fun _=>by kernel_rfl
theorem left:LeftO PySem.Challenge.pw_roundmill_k40_in_turn q [] Xt (kHook K as he).obs (kHook K as he).val 6368 :=
 LeftO.of_pieces opened FZ run ↥3 fun w=>funext fun os=>Prod.ext (congrFun (l_1 w) os) (Prod.ext (Prod.ext (congrFun (OY w) os) (Prod.ext (congrFun (OX w) os) (Prod.ext (congrFun (OW w) os) (Prod.ext (congrFun (OV w) os) (Prod.ext (congrFun (OU w) os) (Prod.ext (congrFun (OT w) os) (Prod.ext (congrFun (OS w) os) (Prod.ext (congrFun (OR w) os) (congrFun (OP w) os))))))))) (congrFun (l_k w) os))
end H
namespace EV
open PySem (Str)
theorem ag (k:Int):0<pw k:=Int.pow_pos ↥3
theorem bU (ha:0<=a) (hb:0<=b):pw (a+b)=pw a*pw b:=by
 unfold pw
 rw [Int.toNat_add ha hb,Int.pow_add]
theorem gI (ha:0<=a):pw (a+1)=2*pw a:=by
 rw [bU ha ↥3,Int.mul_comm]
 rfl
theorem gJ (h:a<=b):pw a<=pw b:=by
 unfold pw
 have e1:((2^a.toNat:Nat):Int)=(2:Int)^a.toNat:=by simp
 have e2:((2^b.toNat:Nat):Int)=(2:Int)^b.toNat:=by simp
 rw [<- e1,<-e2]
 exact Int.ofNat_le.mpr (Nat.pow_le_pow_right ↥3 ⋯)
theorem lQ:nb i<=k↔i.natAbs<2^k:=by
 unfold nb
 by_cases h:i=0
 ·subst h
  simp
  exact Nat.two_pow_pos k
 ·rw [if_neg h]
  have h0:i.natAbs≠0:=⋯
  rw [<- Nat.log2_lt h0]
  omega
theorem l7 (i:Int):i.natAbs<2^nb i:=lQ.mp ↥23
theorem iU (h:i.natAbs<=j.natAbs):nb i<=nb j:=lQ.mpr (Nat.lt_of_le_of_lt h (l7 j))
theorem sP (hi:nb i<=a) (hj:nb j<=b):nb (i+j)<=max a b+1:=by
 rw [lQ] at hi hj ⊢
 have h1:2^a<=2^max a b:=Nat.pow_le_pow_right ↥3 (Nat.le_max_left a b)
 have h2:2^b<=2^max a b:=Nat.pow_le_pow_right ↥3 (Nat.le_max_right a b)
 rw [Nat.pow_succ]
 omega
theorem sO (i:Int):nb (-i)=nb i:=Nat.le_antisymm (iU ⋯) (iU ⋯)
theorem Hi (hi:nb i<=a) (hj:nb j<=b):nb (i - j)<=max a b+1:=by
 rw [Int.sub_eq_add_neg]
 exact sP hi (by rw [sO];exact hj)
theorem ja (hi:nb i<=a) (hj:nb j<=b):nb (i*j)<=a+b:=by
 rw [lQ] at hi hj ⊢
 rw [Int.natAbs_mul,Nat.pow_add]
 rcases Nat.eq_zero_or_pos i.natAbs with h0 | h0
 ·rw [h0,Nat.zero_mul];exact Nat.mul_pos (Nat.two_pow_pos a) (Nat.two_pow_pos b)
 ·exact Nat.lt_of_lt_of_le (Nat.mul_lt_mul_of_pos_left hj h0) (Nat.mul_le_mul_right _ (Nat.le_of_lt hi))
theorem Bg (h:0<j) (hj:nb j<=b):nb (i%j)<=b:=by
 refine Nat.le_trans (iU ?_) hj
 have h1:=Int.emod_nonneg i (by omega:j≠0)
 have h2:=Int.emod_lt_of_pos i h
 omega
theorem ur {i j:Int} (h:0<j):(i / j).natAbs<=i.natAbs:=by
 have h3:i=j*(i / j)+i%j:=(Int.mul_ediv_add_emod i j).symm
 have h1:=Int.emod_nonneg i (by omega:j≠0)
 have h2:=Int.emod_lt_of_pos i h
 by_cases hi:0<=i
 ·have:=Int.ediv_nonneg hi (by omega:(0:Int)<=j)
  have:=Int.ediv_le_self j hi
  omega
 ·have h4:i / j<0:=Int.ediv_neg_of_neg_of_pos ⋯ h
  have h5:(j - 1)*(i / j)<=(j - 1)*(-1):=Int.mul_le_mul_of_nonneg_left ⋯ ⋯
  rw [Int.sub_mul,Int.one_mul] at h5
  generalize j*(i / j)=z at *
  omega
theorem l8 {i j:Int} {a:Nat} (h:0<j) (hi:nb i<=a):nb (i / j)<=a:=Nat.le_trans (iU (ur h)) hi
theorem gM {k:Int} {c:Nat} (hk:k<=c):nb (pw k)<=c+1:=by
 rw [lQ]
 unfold pw
 rw [Int.natAbs_pow]
 exact Nat.pow_lt_pow_right (a:=2) ↥3 ⋯
theorem l6 (h0:0<=i):i<pw (nb i):=by
 have:=l7 i
 unfold pw
 have e:((2^((nb i:Int)).toNat:Nat):Int)=(2:Int)^((nb i:Int)).toNat:=by simp
 rw [<- e,show ((nb i:Int)).toNat=nb i by omega]
 omega
theorem MulOk.of (hi:nb i<=a) (hj:nb j<=b) (h:a+b<=134217728):MulOk i j:=by
 unfold MulOk
 omega
theorem iM.small (h:0<j) (hj:nb j<=9000):iM i j:=⟨h,.inl hj⟩
theorem DR:nb i<=nb i:=Nat.le_refl _
theorem zU (h:nb i<=a) (h2:a<=b):nb i<=b:=Nat.le_trans h h2
theorem aG (h:MulOk i j):hZ (.int i) (.int j)=.ok (.int (i*j)):=by unfold hZ;simp only;rw [if_pos h]
theorem gL (h:iM i j):oDiv (.int i) (.int j)=.ok (.int (i / j)):=by unfold oDiv;simp only;rw [if_pos h]
theorem DC {i j:Int} (h:0<j):oMod (.int i) (.int j)=.ok (.int (i%j)):=by unfold oMod;simp only;rw [if_pos h]
theorem zR {i j:Int} (h:0<j) (h2:j<18446744073709551616):oDiv (.int i) (.int j)=.ok (.int (i / j)):=gL (iM.small h (by
 have:nb j<=64:=lQ.mpr ⋯
 omega))
theorem au (h:0<=j) (h2:(nb i:Int)+j<=134217728):bD (.int i) (.int j)=.ok (.int (i*pw j)):=by unfold bD;simp only;rw [if_pos ⟨h,h2⟩]
theorem Dy {i j:Int} (h:0<=j):Bd (.int i) (.int j)=.ok (.int (i / pw j)):=by unfold Bd;simp only;rw [if_pos h]
section
variable {α β:Type} {d d':D} {δ:Dt} {C:String} {f:α->R β} {c:Option D}
theorem Ex (a:α):(R.ok a).bind f=f a:=rfl
theorem Ey:(R.ex C:R α).bind f=.ex C:=rfl
theorem Ax:(R.bad:R α).bind f=.bad:=rfl
theorem Aw {p:Prop} [Decidable p] (x y:R α):(if p then x else y).bind f=if p then x.bind f else y.bind f:=by split<;>rfl
theorem Cn {s:S}:(O.nx δ).then s=s δ:=rfl
theorem Cm {s:S}:(O.rt d).then s=.rt d:=rfl
theorem Cq {s:S}:(O.ex C δ).then s=.ex C δ:=rfl
theorem Co {s:S}:(O.mk C δ).then s=.mk C δ:=rfl
theorem Cp {s:S}:(O.hx C δ).then s=.hx C δ:=rfl
theorem Ct {s:S}:(O.bk δ).then s=.bk δ:=rfl
theorem Cr {s:S}:(O.ct δ).then s=.ct δ:=rfl
theorem yU {s:S}:(O.bad).then s=.bad:=rfl
theorem yT {p:Prop} [Decidable p] (x y:O) {s:S}:(if p then x else y).then s=if p then x.then s else y.then s:=by split<;>rfl
theorem Gq:(O.rt d).res=.ok d:=rfl
theorem Gr:(O.nx δ).res=.ok .non:=rfl
theorem Gv:(O.ex C δ).res=.ex C:=rfl
theorem Gs:(O.mk C δ).res=.ex C:=rfl
theorem Gu:(O.hx C δ).res=.ex C:=rfl
theorem CW:O.bad.res=.bad:=rfl
theorem CV {p:Prop} [Decidable p] (x y:O):(if p then x else y).res=if p then x.res else y.res:=by split<;>rfl
theorem Ik {i:Nat}:asg i δ (.ok d)=.nx (δ.set i (some d)):=rfl
theorem Il {i:Nat}:asg i δ (.ex C)=.ex C (noOwn δ):=rfl
theorem EM {i:Nat} {p:Prop} [Decidable p] (x y:R D):asg i δ (if p then x else y)=if p then asg i δ x else asg i δ y:=by split<;>rfl
theorem Fm:xpr δ (.ok d)=.nx δ:=rfl
theorem Fn:xpr δ (.ex C)=.ex C (noOwn δ):=rfl
theorem BR {p:Prop} [Decidable p] (x y:R D):xpr δ (if p then x else y)=if p then xpr δ x else xpr δ y:=by split<;>rfl
theorem Gn:rtn δ (.ok d)=.rt d:=rfl
theorem Gp:rtn δ (.ex C)=.ex C (noOwn δ):=rfl
theorem CS {p:Prop} [Decidable p] (x y:R D):rtn δ (if p then x else y)=if p then rtn δ x else rtn δ y:=by split<;>rfl
theorem HD {b:Bool} {x y:O}:ifO δ (.ok (.bl b)) x y=if b=true then x else y:=by cases b<;>rfl
theorem HC {x y:O}:ifO δ (.ex C) x y=.ex C (noOwn δ):=rfl
theorem Ea {p:Prop} [Decidable p] (u v:R D) {x y:O}:ifO δ (if p then u else v) x y=if p then ifO δ u x y else ifO δ v x y:=by split<;>rfl
theorem yS {b:Bool} {x y:R β}:truth (.bl b) x y=if b=true then x else y:=by cases b<;>rfl
theorem Hu {p:Prop} [Decidable p] {a b:Bool}:(if p then R.ok (D.bl a) else R.ok (D.bl b))=R.ok (D.bl (if p then a else b)):=by split<;>rfl
theorem ite_int {p:Prop} [Decidable p] {a b:Int}:(if p then R.ok (D.int a) else R.ok (D.int b))=R.ok (D.int (if p then a else b)):=by split<;>rfl
theorem Hy {p:Prop} [Decidable p] {b:Bool}:((if p then b else false)=true)=(p/\b=true):=by by_cases h:p<;>simp [h]
theorem Hw {p:Prop} [Decidable p] {b:Bool}:((if p then true else b)=true)=(p\/b=true):=by by_cases h:p<;>simp [h]
theorem Hv {p:Prop} [Decidable p]:((if p then false else true)=true)=¬ p:=by by_cases h:p<;>simp [h]
theorem Fs:var 0 (none::δ)=.bad:=rfl
theorem B3 {i:Int}:var 0 (some (.int i)::δ)=.ok (.int i):=rfl
theorem Fq {b:Bool}:var 0 (some (.bl b)::δ)=.ok (.bl b):=rfl
theorem BX {x:PySem.Str}:var 0 (some (.str x)::δ)=.ok (.str x):=rfl
theorem BZ:var 0 (some .non::δ)=.ok .non:=rfl
theorem BW {ds:List D}:var 0 (some (.tup ds)::δ)=.ok (.tup ds):=rfl
theorem B0 {ds:List D}:var 0 (some (.lst ds)::δ)=.ok (.lst ds):=rfl
theorem BY {ds:List D}:var 0 (some (.own ds)::δ)=.bad:=rfl
theorem B5:var 0 (some (.exc C)::δ)=.ok (.exc C):=rfl
theorem B6:var 0 (some (.cls C)::δ)=.ok (.cls C):=rfl
theorem B4 {fs:List (String×D)}:var 0 (some (.ins C fs)::δ)=.ok (.ins C fs):=rfl
theorem yJ {n:Nat}:var (n+1) (c::δ)=var n δ:=rfl
theorem Eh:evs [] δ=.ok []:=rfl
theorem Ap {e:E} {es:List E}:evs (e::es) δ=(e δ).bind fun d=>(evs es δ).bind fun ds=>.ok (d::ds):=rfl
theorem zS {i j:Int}:bu (.int i) (.int j)=.ok (.int (i+j)):=rfl
theorem zB {i j:Int}:cu (.int i) (.int j)=.ok (.int (i - j)):=rfl
theorem zC {i:Int}:qI (.int i)=.ok (.int (-i)):=rfl
theorem DD {i j:Int}:oLt (.int i) (.int j)=.ok (.bl (decide (i<j))):=rfl
theorem DE {i j:Int}:oLe (.int i) (.int j)=.ok (.bl (decide (i<=j))):=rfl
theorem DF {i j:Int}:oGt (.int i) (.int j)=.ok (.bl (decide (j<i))):=rfl
theorem DG {i j:Int}:oGe (.int i) (.int j)=.ok (.bl (decide (j<=i))):=rfl
theorem DI {i j:Int}:oEq (.int i) (.int j)=.ok (.bl (decide (i=j))):=by simp [oEq,D.cmp,D.sc,D.beq,Bool.beq_eq_decide_eq]
theorem DB {i j:Int}:oNe (.int i) (.int j)=.ok (.bl (decide (i≠j))):=by simp [oNe,D.cmp,D.sc,D.beq,Bool.beq_eq_decide_eq]
theorem DH {i j:PySem.Str}:oEq (.str i) (.str j)=.ok (.bl (decide (i=j))):=by simp [oEq,D.cmp,D.sc,D.beq,Bool.beq_eq_decide_eq]
theorem Dz {i j:PySem.Str}:oNe (.str i) (.str j)=.ok (.bl (decide (i≠j))):=by simp [oNe,D.cmp,D.sc,D.beq,Bool.beq_eq_decide_eq]
theorem G7 {i j:Bool}:oEq (.bl i) (.bl j)=.ok (.bl (decide (i=j))):=by simp [oEq,D.cmp,D.sc,D.beq,Bool.beq_eq_decide_eq]
theorem zJ:qJ .non=.ok ↥34:=rfl
theorem vW:qG .non=.ok ↥33:=rfl
theorem zM:qJ (.exc C)=.ok ↥33:=rfl
theorem vZ:qG (.exc C)=.ok ↥34:=rfl
theorem zL {i:Int}:qJ (.int i)=.ok ↥33:=rfl
theorem vY {i:Int}:qG (.int i)=.ok ↥34:=rfl
theorem AF {i j:Int}:Br [.int i,.int j]=.ok (.int (max i j)):=by
 unfold Br;simp only;congr 2;omega
theorem AE {i j:Int}:EF [.int i,.int j]=.ok (.int (min i j)):=by
 unfold EF;simp only;congr 2;omega
theorem AJ {i:Int}:EI [.int i]=.ok (.int (if i<0 then -i else i)):=rfl
theorem AH {ds:List D}:nY [.lst ds]=.ok (.int ds.length):=rfl
theorem AG {ds:List D}:nY [.tup ds]=.ok (.int ds.length):=rfl
theorem AI {i:Int}:uQ [.int i]=.ok (.int i):=rfl
theorem EG {k:Bool}:uQ [.bl k]=.ok (.int (if k then 1 else 0)):=rfl
theorem rN {i:Int}:iX [.int i]=.ok (.int (nb i)):=rfl
theorem xT {ds:List D}:rM [.lst ds]=.ok (.lst ds):=rfl
theorem xS {ds:List D}:rM [.tup ds]=.ok (.lst ds):=rfl
theorem qX {i:Int}:iW [.int i,.ty "int"]=.ok ↥34:=rfl
theorem pB {i:Int}:iW [.int i,.ty "bool"]=.ok ↥33:=rfl
theorem qT {ds:List D}:iW [.tup ds,.ty "tuple"]=.ok ↥34:=rfl
theorem qW {ds:List D}:iW [.lst ds,.ty "list"]=.ok ↥34:=rfl
theorem uy:iW [.exc C,.ty "ValueError"]=if ak.contains C then .ok ↥34 else .bad:=by
 show (if (ak.contains C&&("ValueError" == "ValueError"))=true then _ else _)=_
 rw [show ("ValueError" == "ValueError")=true from rfl,Bool.and_true]
theorem qY {B:String}:iW [.exc C,.cls B]=if ak.contains C&&ak.contains B then .ok (.bl (C == B||B == "MillError")) else .bad:=rfl
theorem qV {B:String}:iW [.non,.cls B]=if ak.contains B then .ok ↥33 else .bad:=rfl
theorem AU {k:S}:trn (.nx δ) k=k δ:=rfl
theorem FW {k:S}:trn (.ct δ) k=k δ:=rfl
theorem FY {k:S}:trn (.bk δ) k=.nx δ:=rfl
theorem FP {k:S}:trn (.rt d) k=.rt d:=rfl
theorem FV {k:S}:trn (.ex C δ) k=.ex C δ:=rfl
theorem FR {k:S}:trn (.mk C δ) k=.mk C δ:=rfl
theorem FU {k:S}:trn (.hx C δ) k=.hx C δ:=rfl
theorem Cj {p:Prop} [Decidable p] (x y:O) {k:S}:trn (if p then x else y) k=if p then trn x k else trn y k:=by split<;>rfl
theorem sW:forL i b [] δ=.nx δ:=rfl
theorem cj:forL i b (d::ds) δ=trn (b (δ.set i (some d))) (forL i b ds):=rfl
theorem GU {ds:List D} {k:List D->O}:ovL δ (.ok (.lst ds)) k=k ds:=rfl
theorem GS {ds:List D} {k:List D->O}:ovT δ (.ok (.tup ds)) k=k ds:=rfl
theorem Cf {B:String} {i:Nat} {s:S}:Ci (.nx δ) B i s=.nx δ:=rfl
theorem Cg {B:String} {i:Nat} {s:S}:Ci (.ex C δ) B i s=if Ao C B then forget i (s ((noOwn δ).set i (some (.exc C)))) else .bad:=rfl
theorem yR {p:Prop} [Decidable p] (x y:O) {B:String} {i:Nat} {s:S}:Ci (if p then x else y) B i s=if p then Ci x B i s else Ci y B i s:=by split<;>rfl
theorem xh {i:Nat}:forget i (.nx δ)=.nx (δ.set i none):=rfl
theorem wm:noOwn []=[]:=rfl
theorem uq:noOwn (none::δ)=none::noOwn δ:=rfl
theorem wu {i:Int}:noOwn (some (.int i)::δ)=some (.int i)::noOwn δ:=rfl
theorem zT {i:Bool}:noOwn (some (.bl i)::δ)=some (.bl i)::noOwn δ:=rfl
theorem we {i:PySem.Str}:noOwn (some (.str i)::δ)=some (.str i)::noOwn δ:=rfl
theorem wj:noOwn (some .non::δ)=some .non::noOwn δ:=rfl
theorem wd {ds:List D}:noOwn (some (.tup ds)::δ)=some (.tup ds)::noOwn δ:=rfl
theorem wq {ds:List D}:noOwn (some (.lst ds)::δ)=some (.lst ds)::noOwn δ:=rfl
theorem wy:noOwn (some (.exc C)::δ)=some (.exc C)::noOwn δ:=rfl
theorem uF {C:String}:Ao C "MillError"=ak.contains C:=by simp [Ao]
end
theorem kH {ds:List D} {k:Nat} {d:D} (h:ds[k]? = some d):oIx (.tup ds) (.int k)=.ok d:=by
 obtain ⟨hk,he⟩:=List.getElem?_eq_some_iff.mp h
 unfold oIx ixN
 simp [he,hk]
theorem jc {k:Nat} (h:ds[k]? = some d):oIx (.lst ds) (.int k)=.ok d:=by
 obtain ⟨hk,he⟩:=List.getElem?_eq_some_iff.mp h
 unfold oIx ixN
 simp [he,hk]
section
variable {a b c d e:D} {r:List D}
theorem ix0:oIx (.tup (a::r)) (.int 0)=.ok a:=kH (k:=0) rfl
theorem ix1:oIx (.tup (a::b::r)) (.int 1)=.ok b:=kH (k:=1) rfl
theorem ix2:oIx (.tup (a::b::c::r)) (.int 2)=.ok c:=kH (k:=2) rfl
theorem ix3:oIx (.tup (a::b::c::d::r)) (.int 3)=.ok d:=kH (k:=3) rfl
theorem O3:oIx (.lst (a::r)) (.int 0)=.ok a:=jc (k:=0) rfl
theorem O2:oIx (.lst (a::b::r)) (.int 1)=.ok b:=jc (k:=1) rfl
theorem O1:oIx (.lst (a::b::c::r)) (.int 2)=.ok c:=jc (k:=2) rfl
end
theorem Pk {m:Nat} {gg:S}:fn 0 m gg []=(gg (List.replicate m none)).res:=rfl
theorem Pj {m:Nat} {gg:S} {a:D}:fn 1 m gg [a]=(gg (some a::List.replicate (m - 1) none)).res:=rfl
theorem Ph {m:Nat} {gg:S} {a b:D}:fn 2 m gg [a,b]=(gg (some a::some b::List.replicate (m - 2) none)).res:=rfl
theorem Pg {m:Nat} {gg:S} {a b c:D}:fn 3 m gg [a,b,c]=(gg (some a::some b::some c::List.replicate (m - 3) none)).res:=rfl
theorem Pf {m:Nat} {gg:S} {a b c d:D}:fn 4 m gg [a,b,c,d]=(gg (some a::some b::some c::some d::List.replicate (m - 4) none)).res:=rfl
theorem Pe {m:Nat} {gg:S} {a b c d e:D}:fn 5 m gg [a,b,c,d,e]=(gg (some a::some b::some c::some d::some e::List.replicate (m - 5) none)).res:=rfl
theorem Pd {m:Nat} {gg:S} {a b c d e f:D}:fn 6 m gg [a,b,c,d,e,f]=(gg (some a::some b::some c::some d::some e::some f::List.replicate (m - 6) none)).res:=rfl
theorem Pc {m:Nat} {gg:S} {a b c d e f g:D}:fn 7 m gg [a,b,c,d,e,f,g]=(gg (some a::some b::some c::some d::some e::some f::some g::List.replicate (m - 7) none)).res:=rfl
theorem Pb {m:Nat} {gg:S} {a b c d e f g h:D}:fn 8 m gg [a,b,c,d,e,f,g,h]=(gg (some a::some b::some c::some d::some e::some f::some g::some h::List.replicate (m - 8) none)).res:=rfl
section
variable {α β:Type} {a:α} {l:List α} {n:Nat} {p:Prop} {x y:α}
theorem tW:(a::l).length=l.length+1:=rfl
theorem uW:([]:List α).length=0:=rfl
theorem uX {f:α->β}:(l.map f).length=l.length:=List.length_map f
theorem tV {f:α->β}:(a::l).map f=f a::l.map f:=rfl
theorem uV {f:α->β}:([]:List α).map f=[]:=rfl
theorem BB:(a::l).set 0 x=x::l:=rfl
theorem BA:(a::l).set (n+1) x=a::l.set n x:=rfl
theorem BD:List.replicate 0 a=[]:=rfl
theorem BC:List.replicate (n+1) a=a::List.replicate n a:=rfl
theorem Fg:0+n=n:=Nat.zero_add n
theorem Fd:(if True then x else y)=x:=if_pos trivial
theorem Fe:(if False then x else y)=y:=if_neg id
theorem Nh:(false=true)=False:=by simp
theorem Nd:(true=true)=True:=by simp
theorem BE:(!true)=false:=rfl
theorem BF:(!false)=true:=rfl
theorem IK [Decidable p]:(decide p=true)=p:=decide_eq_true_eq
theorem BH [Decidable True]:decide True=true:=by simp
theorem BI [Decidable False]:decide False=false:=by simp
theorem BJ:(p/\True)=p:=by simp
theorem Bz:(True/\p)=p:=by simp
theorem BK:(p/\False)=False:=by simp
theorem BG:(False/\p)=False:=by simp
theorem E9:(p\/True)=True:=by simp
theorem E8:(True\/p)=True:=by simp
theorem Fc:(p\/False)=p:=by simp
theorem Ff:(False\/p)=p:=by simp
theorem Nf:(¬ True)=False:=by simp
theorem Ng:(¬ False)=True:=by simp
end
section
variable {a b c:E} {s t:S} {δ:Dt} {i:Nat} {f h:D->D->R D} {k:D->R D} {es:List E} {F:List D->R D} {d:D} {C:String}
theorem IU:seq s t δ=(s δ).then t:=rfl
theorem yQ:assign i a δ=asg i δ (a δ):=rfl
theorem IV:ret a δ=rtn δ (a δ):=rfl
theorem Fv:NK a δ=rtn δ (a (view δ)):=rfl
theorem Jd:ifs a s t δ=ifO δ (a δ) (s δ) (t δ):=rfl
theorem FJ:expr a δ=xpr δ (a δ):=rfl
theorem B8:raise C δ=.mk C δ:=rfl
theorem Fy:ao δ=.nx δ:=rfl
theorem Fw:NL δ=.rt .non:=rfl
theorem Jg:brk δ=.bk δ:=rfl
theorem FK:cont δ=.ct δ:=rfl
theorem Jf:con d δ=.ok d:=rfl
theorem Jh:bin f a b δ=(a δ).bind fun x=>(b δ).bind fun y=>f x y:=rfl
theorem Ni:un k a δ=(a δ).bind k:=rfl
theorem Ji:fk a b δ=(a δ).bind fun d=>truth d (b δ) (.ok ↥33):=rfl
theorem Nj:or_ a b δ=(a δ).bind fun d=>truth d (.ok ↥34) (b δ):=rfl
theorem IW:lP a δ=(a δ).bind fun d=>truth d (.ok ↥33) (.ok ↥34):=rfl
theorem Je:ife c a b δ=(c δ).bind fun d=>truth d (a δ) (b δ):=rfl
theorem Cd:chain f h a b c δ=(a δ).bind fun x=>(b δ).bind fun y=>(f x y).bind fun d=>truth d ((c δ).bind fun z=>h y z) (.ok ↥33):=rfl
theorem IP:gy es δ=(evs es δ).bind fun ds=>.ok (.tup ds):=rfl
theorem IZ:qP es δ=(evs es δ).bind fun ds=>.ok (.lst ds):=rfl
theorem FN:call F es δ=(evs es δ).bind F:=rfl
theorem IQ:Nk s C i t δ=Ci (s δ) C i t:=rfl
theorem Cb:Ke i a s δ=ovL δ (a δ) fun ds=>forL i s ds δ:=rfl
theorem B9:Kd i a s δ=ovT δ (a δ) fun ds=>forL i s ds δ:=rfl
theorem Cc:Kf i a s δ=ovR δ (a δ) fun ds=>forL i s ds δ:=rfl
end
theorem oj:ak.contains "MillError"=true:=by decide
theorem u2:ak.contains "NoSize"=true:=by decide
theorem u7:ak.contains "NoBits"=true:=by decide
theorem tY:ak.contains "NoParts"=true:=by decide
theorem u3:ak.contains "NoRank"=true:=by decide
theorem oi:ak.contains "NotFinite"=true:=by decide
theorem yo:ak.contains "NoWay"=true:=by decide
theorem tZ:ak.contains "NoFlags"=true:=by decide
theorem mI:ak.contains "NoFraction"=true:=by decide
theorem uY:ak.contains "Unlike"=true:=by decide
theorem yq:ak.contains "Empty"=true:=by decide
theorem u5:ak.contains "NoLeft"=true:=by decide
theorem uZ:ak.contains "NoText"=true:=by decide
theorem yp:ak.contains "NoRow"=true:=by decide
theorem u4:ak.contains "NoName"=true:=by decide
theorem tX:ak.contains "Stopped"=true:=by decide
section
variable {α:Type} {b:Bool} {ds es:List D} {i:Nat} {it:IT} {g h:E} {s:S} {δ:Dt} {C:String} {ks:List Nat} {k:List D->O} {x:D} {fs:List (String×D)} {F:List D->R D} {gs:List E} {cn m f:String}
theorem BO:(b&&true)=b:=by simp
theorem BM:(true&&b)=b:=by simp
theorem BN:(false&&b)=false:=by simp
theorem BP:(b&&false)=false:=by simp
theorem Fj:(b||false)=b:=by simp
theorem Fl:(false||b)=b:=by simp
theorem Fh:(true||b)=true:=by simp
theorem Fi:(b||true)=true:=by simp
theorem FG:xi i it s δ=ovI δ (it δ) fun ds=>forL i s ds δ:=rfl
theorem GV:ovI δ (.ok ds) k=k ds:=rfl
theorem GW:ovI δ (.ex C) k=.ex C (noOwn δ):=rfl
theorem Jb:itL g δ=(g δ).bind asL:=rfl
theorem Ja:itT g δ=(g δ).bind asT:=rfl
theorem FD:J8 g δ=(g δ).bind Im:=rfl
theorem FC:O6 g h δ=(evs [g,h] δ).bind IJ:=rfl
theorem ER:asL (.lst ds)=.ok ds:=rfl
theorem EO:asT (.tup ds)=.ok ds:=rfl
theorem AO {n:Int} (h0 : -4611686018427387904<=n) (h1:n<4611686018427387904):Im (.int n)=.ok (oJ 0 n):=by unfold Im;simp only;rw [if_pos ⟨h0,h1⟩]
theorem AN {n m:Int} (h0 : -4611686018427387904<=n) (h1:n<4611686018427387904) (h2 : -4611686018427387904<=m) (h3:m<4611686018427387904):IJ [.int n,.int m]=.ok (oJ n m):=by unfold IJ;simp only;rw [if_pos ⟨h0,h1,h2,h3⟩]
theorem FL:comp it ks g δ=(it δ).bind fun ds=>if ds.length<=100000 then (runC (stC (con ↥34) g ks δ) ds).bind dH else .bad:=rfl
theorem yP:fF it ks g h δ=(it δ).bind fun ds=>if ds.length<=100000 then (runC (stC g h ks δ) ds).bind dH else .bad:=rfl
theorem Fz:E1 cn m F g gs δ=(g δ).bind fun d=>if dU cn m d then (evs gs δ).bind fun ds=>F (d::ds) else .bad:=rfl
theorem IY:mk1 cn f [x]=.ok (.ins cn [(f,x)]):=rfl
theorem Pm:uS cn f (.ins cn ((f,x)::fs))=.ok x:=by simp [uS]
theorem im1:dU cn m (.ins cn [(f,x)])=(m != f):=by
 have:dU cn m (.ins cn [(f,x)])=((cn == cn)&&(List.lookup m [(f,x)]).isNone):=rfl
 rw [this,List.lookup_cons]
 cases e:(m == f)<;>simp [e,bne]
theorem wx:noOwn (some (.ins C fs)::δ)=some (.ins C fs)::noOwn δ:=rfl
theorem xV {d:D}:Kt [d,.tup ds]=ma d ds:=rfl
theorem uz {d:D}:ma d []=.ok ↥33:=rfl
theorem qZ {d c:D}:ma d (c::ds)=(iW [d,c]).bind fun x=>truth x (.ok ↥34) (ma d ds):=rfl
theorem ux {n:String}:iW [.non,.ty n]=if ["int","bool","str","tuple","list","ValueError"].contains n then .ok ↥33 else .bad:=rfl
theorem zH:qJ (.tup ds)=.ok ↥33:=rfl
theorem vU:qG (.tup ds)=.ok ↥34:=rfl
theorem zK:qJ (.lst ds)=.ok ↥33:=rfl
theorem vX:qG (.lst ds)=.ok ↥34:=rfl
theorem zI {z:PySem.Str}:qJ (.str z)=.ok ↥33:=rfl
theorem vV {z:PySem.Str}:qG (.str z)=.ok ↥34:=rfl
end
theorem ku {x y:String} (h:(PySem.Str.ofString x)=PySem.Str.ofString y):x=y:=by
 rw [PySem.Str.ofString_eq_toList,PySem.Str.ofString_eq_toList] at h
 have h1:(x.toList.map Char.toNat).toArray=(y.toList.map Char.toNat).toArray:=congrArg PySem.Str.cps h
 have h2:x.toList.map Char.toNat=y.toList.map Char.toNat:=by simpa using h1
 have h3:∀ (l m:List Char),l.map Char.toNat=m.map Char.toNat->l=m:=by
  intro l
  induction l with
  | nil=>intro m e;cases m with | nil=>rfl | cons _ _=>cases e
  | cons c r ih =>
   intro m e
   cases m with
   | nil=>cases e
   | cons c' r' =>
    rw [List.map_cons,List.map_cons,List.cons.injEq] at e
    rw [Char.ext (UInt32.toNat_inj.mp e.1),ih r' e.2]
 exact String.toList_inj.mp (h3 _ _ h2)
theorem zA {x y:String}:((PySem.Str.ofString x)=PySem.Str.ofString y)=(x=y):=propext ⟨ku,fun e=>by rw [e]⟩
theorem zQ {a b c d:Int}:oEq (.tup [.int a,.int b]) (.tup [.int c,.int d])=.ok (.bl (decide (a=c/\b=d))):=by
 simp [oEq,D.cmp,D.sc,D.pl,D.beq,D.beqs,Bool.beq_eq_decide_eq]
theorem zF {a b c d:Int}:oNe (.tup [.int a,.int b]) (.tup [.int c,.int d])=.ok (.bl (!decide (a=c/\b=d))):=by
 simp [oNe,D.cmp,D.sc,D.pl,D.beq,D.beqs,Bool.beq_eq_decide_eq]
theorem zP {a b c d e f:Int}:oEq (.tup [.int a,.int b,.int e]) (.tup [.int c,.int d,.int f])=.ok (.bl (decide (a=c/\b=d/\e=f))):=by
 simp [oEq,D.cmp,D.sc,D.pl,D.beq,D.beqs,Bool.beq_eq_decide_eq]
theorem zE {a b c d e f:Int}:oNe (.tup [.int a,.int b,.int e]) (.tup [.int c,.int d,.int f])=.ok (.bl (!decide (a=c/\b=d/\e=f))):=by
 simp [oNe,D.cmp,D.sc,D.pl,D.beq,D.beqs,Bool.beq_eq_decide_eq]
theorem DN {p:Prop} [Decidable p]:((!decide p)=true)=¬ p:=by simp
theorem Jc {g:E} {δ:Dt}:itA g δ=(g δ).bind asA:=rfl
theorem EU {ds:List D}:asA (.lst ds)=.ok ds:=rfl
theorem ET {ds:List D}:asA (.tup ds)=.ok ds:=rfl
theorem IS {a:E} {lo hi:Option E} {δ:Dt}:slc a lo hi δ=(a δ).bind fun d=>(part lo δ).bind fun l=>(part hi δ).bind fun h=>oSl d l h:=rfl
theorem vL {δ:Dt}:part none δ=.ok none:=rfl
theorem zv {i:Int} {δ:Dt}:part (some (con (.int i))) δ=.ok (some i):=rfl
theorem Dx {ds:List D} {lo hi:Option Int}:oSl (.lst ds) lo hi=.ok (.lst (cut ds lo hi)):=rfl
theorem qU {x:PySem.Str}:iW [.str x,.ty "str"]=.ok ↥34:=rfl
theorem zD {a b c x y z:Int}:oNe (.tup [.int a,.int b,.int c]) (.tup [.int x,.int y,.int z])=.ok (.bl (decide (¬ (a=x/\b=y/\c=z)))):=by
 unfold oNe
 rw [if_pos (show D.cmp _ _=true from rfl)]
 congr 2
 simp only [D.beq,D.beqs]
 by_cases h1:a=x<;>by_cases h2:b=y<;>by_cases h3:c=z<;>simp [h1,h2,h3]
theorem zO {a b c x y z:Int}:oEq (.tup [.int a,.int b,.int c]) (.tup [.int x,.int y,.int z])=.ok (.bl (decide (a=x/\b=y/\c=z))):=by
 unfold oEq
 rw [if_pos (show D.cmp _ _=true from rfl)]
 congr 2
 simp only [D.beq,D.beqs]
 by_cases h1:a=x<;>by_cases h2:b=y<;>by_cases h3:c=z<;>simp [h1,h2,h3]
theorem Dw {a b:String}:(PySem.Str.ofString a=PySem.Str.ofString b)=(a=b):=by
 apply propext
 constructor
 ·intro h
  rw [PySem.Str.ofString_eq_toList,PySem.Str.ofString_eq_toList] at h
  have h1:a.toList.map Char.toNat=b.toList.map Char.toNat:=by
   have:=congrArg (fun z:PySem.Str=>z.cps.toList) h
   simpa using this
  have h2:a.toList=b.toList:=by
   refine List.map_inj_right (f:=Char.toNat) (fun x y e => ?_) |>.mp h1
   exact Char.toNat_inj.mp e
  exact String.toList_inj.mp h2
 ·intro h;rw [h]
theorem G6 {cn f:String} {d:D}:uS cn f (.ins cn [(f,d)])=.ok d:=by simp [uS,List.lookup]
theorem Ab {cn m f:String} {d:D}:dU cn m (.ins cn [(f,d)]) = !(m == f):=by
 unfold dU
 cases h:m == f<;>simp [List.lookup,h]
theorem Hl {cn f:String} {d:D}:mk1 cn f [d]=.ok (.ins cn [(f,d)]):=rfl
theorem Aa:(!false)=true:=rfl
theorem FA {g h k:E}:O5 g h k δ=(evs [g,h,k] δ).bind II:=rfl
theorem AM {n m c:Int} (h : -1099511627776<=n/\n<1099511627776 /\ -1099511627776<=m/\m<1099511627776) (h0:0<c) (h1:c<1048576):II [.int n,.int m,.int c]=.ok (Kw n m c):=by unfold II;simp only;rw [if_pos ⟨h,h0,h1⟩]
theorem yM {i:Nat}:oQ i δ=.nx (δ.set i (some (.own []))):=rfl
theorem yO {i:Nat} {g:E}:gA i g δ=gq i δ fun ds=>Bt i δ ds (g (view δ)):=rfl
theorem yL {i:Nat}:GR i δ=gq i δ fun ds=>.nx (δ.set i (some (.own ds.reverse))):=rfl
theorem Dq {ds:List D} {l:Dt} {f:List D->O}:gq 0 (some (.own ds)::l) f=f ds:=rfl
theorem Dp {i:Nat} {c:Option D} {l:Dt} {f:List D->O}:gq (i+1) (c::l) f=gq i l f:=rfl
theorem fH {i:Nat} {ds:List D} {d:D} (h:D.flat d=true) (h2:ds.length<100000):Bt i δ ds (.ok d)=.nx (δ.set i (some (.own (ds++[d])))):=by unfold Bt;simp only;rw [if_pos ⟨h,h2⟩]
theorem EW {i:Nat} {ds:List D}:Bt i δ ds (.ex C)=.ex C (noOwn δ):=rfl
theorem Fx {i:Nat} {s:S}:C1 i s δ=s (pub i δ):=rfl
theorem JG {ds:List D} {l:Dt}:pub 0 (some (.own ds)::l)=some (.lst ds)::l:=rfl
theorem JF {i:Nat} {c:Option D} {l:Dt}:pub (i+1) (c::l)=c::pub i l:=by
 unfold pub
 rw [List.getElem?_cons_succ]
 split<;>rename_i q
 ·rw [q];rfl
 ·rfl
theorem wg {ds:List D}:noOwn (some (.own ds)::δ)=none::noOwn δ:=rfl
theorem yE:view []=[]:=rfl
theorem vd:view (none::δ)=none::view δ:=rfl
theorem yC {ds:List D}:view (some (.own ds)::δ)=some (.lst ds)::view δ:=rfl
theorem yG {i:Int}:view (some (.int i)::δ)=some (.int i)::view δ:=rfl
theorem BV {i:Bool}:view (some (.bl i)::δ)=some (.bl i)::view δ:=rfl
theorem yB {i:PySem.Str}:view (some (.str i)::δ)=some (.str i)::view δ:=rfl
theorem yD  : view (some (.non)::δ)=some (.non)::view δ:=rfl
theorem yA {ds:List D}:view (some (.tup ds)::δ)=some (.tup ds)::view δ:=rfl
theorem yF {ds:List D}:view (some (.lst ds)::δ)=some (.lst ds)::view δ:=rfl
theorem yI  : view (some (.exc C)::δ)=some (.exc C)::view δ:=rfl
theorem yH {fs:List (String×D)}:view (some (.ins C fs)::δ)=some (.ins C fs)::view δ:=rfl
theorem vh {i:Nat} {g:E}:iY i g δ=E6 i δ (g (view δ)):=rfl
theorem AL {i:Nat} {n:Int}:E6 i δ (.ok (.int n))=.nx (δ.set i (some (.int n))):=rfl
theorem FF {c:E} {a b:S}:Ac c a b δ=ifO δ (c (view δ)) (a δ) (b δ):=rfl
theorem vg {i:Nat} {g:E}:fA i g δ=AV i δ (g (view δ)):=rfl
theorem yV {i:Nat} {rs:List D}:AV i δ (.ok (.lst rs))=.nx (δ.set i (some (.own rs))):=rfl
theorem yK {i:Nat} {a b:E}:GQ i a b δ=gq i δ fun ds=>IA i δ ds (b (view δ)) (a (view δ)):=rfl
theorem CN {i:Nat} {ds:List D} {d:D} {k:Int} (h:D.flat d=true) (h0:0<=k) (h1:k<ds.length):IA i δ ds (.ok d) (.ok (.int k))=.nx (δ.set i (some (.own (ds.set k.toNat d)))):=by unfold IA;simp only;rw [if_pos ⟨h,h0,h1⟩]
theorem vf {i:Nat} {g:E}:kr i g δ=AV i δ (g δ):=rfl
theorem aI {a b:Prop} (x:a) (y:b):a/\b:=⟨x,y⟩
def EvS:=aI @DC<|aI @zR<|aI @Dy<|aI @Ex<|aI @Ey<|aI @Ax<|aI @Aw<|aI @Cn<|aI @Cm<|aI @Cq<|aI @Co<|aI @Cp<|aI @Ct<|aI @Cr<|aI @yU<|aI @yT<|aI @Gq<|aI @Gr<|aI @Gv<|aI @Gs<|aI @Gu<|aI @CW<|aI @CV<|aI @Ik<|aI @Il<|aI @EM<|aI @Fm<|aI @Fn<|aI @BR<|aI @Gn<|aI @Gp<|aI @CS<|aI @HD<|aI @HC<|aI @Ea<|aI @yS<|aI @Hu<|aI @ite_int<|aI @Hy<|aI @Hw<|aI @Hv<|aI @Fs<|aI @B3<|aI @Fq<|aI @BX<|aI @BZ<|aI @BW<|aI @B0<|aI @BY<|aI @B5<|aI @B6<|aI @B4<|aI @yJ<|aI @Eh<|aI @Ap<|aI @zS<|aI @zB<|aI @zC<|aI @DD<|aI @DE<|aI @DF<|aI @DG<|aI @DI<|aI @DB<|aI @DH<|aI @Dz<|aI @G7<|aI @zJ<|aI @vW<|aI @zM<|aI @vZ<|aI @zL<|aI @vY<|aI @AF<|aI @AE<|aI @AJ<|aI @AH<|aI @AG<|aI @AI<|aI @EG<|aI @rN<|aI @xT<|aI @xS<|aI @qX<|aI @pB<|aI @qT<|aI @qW<|aI @uy<|aI @qY<|aI @qV<|aI @AU<|aI @FW<|aI @FY<|aI @FP<|aI @FV<|aI @FR<|aI @FU<|aI @Cj<|aI @GU<|aI @GS<|aI @Cf<|aI @Cg<|aI @yR<|aI @xh<|aI @wm<|aI @uq<|aI @wu<|aI @zT<|aI @we<|aI @wj<|aI @wd<|aI @wq<|aI @wy<|aI @uF<|aI @ix0<|aI @ix1<|aI @ix2<|aI @ix3<|aI @O3<|aI @O2<|aI @O1<|aI @Pk<|aI @Pj<|aI @Ph<|aI @Pg<|aI @Pf<|aI @Pe<|aI @Pd<|aI @Pc<|aI @Pb<|aI @tW<|aI @uW<|aI @uX<|aI @tV<|aI @uV<|aI @BB<|aI @BA<|aI @BD<|aI @BC<|aI @Fg<|aI @Fd<|aI @Fe<|aI @Nh<|aI @Nd<|aI @BE<|aI @BF<|aI @IK<|aI @BH<|aI @BI<|aI @BJ<|aI @Bz<|aI @BK<|aI @BG<|aI @E9<|aI @E8<|aI @Fc<|aI @Ff<|aI @Nf<|aI @Ng<|aI @IU<|aI @yQ<|aI @IV<|aI @Fv<|aI @Jd<|aI @FJ<|aI @B8<|aI @Fy<|aI @Fw<|aI @Jg<|aI @FK<|aI @Jf<|aI @Jh<|aI @Ni<|aI @Ji<|aI @Nj<|aI @IW<|aI @Je<|aI @Cd<|aI @IP<|aI @IZ<|aI @FN<|aI @IQ<|aI @Cb<|aI @B9<|aI @Cc<|aI @oj<|aI @u2<|aI @u7<|aI @tY<|aI @u3<|aI @oi<|aI @yo<|aI @tZ<|aI @mI<|aI @uY<|aI @yq<|aI @u5<|aI @uZ<|aI @yp<|aI @u4<|aI @tX<|aI @BO<|aI @BM<|aI @BN<|aI @BP<|aI @Fj<|aI @Fl<|aI @Fh<|aI @Fi<|aI @FG<|aI @GV<|aI @GW<|aI @Jb<|aI @Ja<|aI @FD<|aI @FC<|aI @ER<|aI @EO<|aI @AO<|aI @AN<|aI @FL<|aI @yP<|aI @Fz<|aI @IY<|aI @Pm<|aI @im1<|aI @wx<|aI @xV<|aI @uz<|aI @qZ<|aI @ux<|aI @zH<|aI @vU<|aI @zK<|aI @vX<|aI @zI<|aI @vV<|aI @zA<|aI @zQ<|aI @zF<|aI @zP<|aI @zE<|aI @DN<|aI @Jc<|aI @EU<|aI @ET<|aI @IS<|aI @vL<|aI @zv<|aI @Dx<|aI @qU<|aI @zD<|aI @zO<|aI @Dw<|aI @G6<|aI @Ab<|aI @Hl<|aI @Aa<|aI @FA<|aI @AM<|aI @yM<|aI @yO<|aI @yL<|aI @Dq<|aI @Dp<|aI @fH<|aI @EW<|aI @Fx<|aI @JG<|aI @JF<|aI @wg<|aI @yE<|aI @vd<|aI @yC<|aI @yG<|aI @BV<|aI @yB<|aI @yD<|aI @yA<|aI @yF<|aI @yI<|aI @yH<|aI @vh<|aI @AL<|aI @FF<|aI @vg<|aI @yV<|aI @yK<|aI @CN <| @vf
theorem sG (h:xs.length+ys.length<=100000):bu (.lst xs) (.lst ys)=.ok (.lst (xs++ys)):=by unfold bu;simp only;rw [if_pos h]
end EV
local macro_rules | `(tactic| walk_at "pos")=>`(tactic| first | (with_reducible assumption) | decide +kernel | (with_reducible exact EV.ag _) | omega)
local macro_rules | `(tactic| walk_at "nb")=>`(tactic| first
 | (with_reducible assumption)
 | ((with_reducible apply EV.sP)<;>walk_at "nb")
 | ((with_reducible apply EV.Hi)<;>walk_at "nb")
 | ((with_reducible apply EV.ja)<;>walk_at "nb")
 | ((with_reducible apply EV.nb_neg_le)<;>walk_at "nb")
 | ((with_reducible apply EV.Bg);(walk_at "pos");(walk_at "nb"))
 | ((with_reducible apply EV.l8);(walk_at "pos");(walk_at "nb"))
 | ((with_reducible apply EV.nb_max)<;>walk_at "nb")
 | ((with_reducible apply EV.nb_min)<;>walk_at "nb")
 | ((with_reducible apply EV.nb_ite)<;>walk_at "nb")
 | exact EV.DR)
/- nb e<=a number -/
local macro_rules | `(tactic| walk_at "nbk")=>`(tactic| exact EV.zU (by walk_at "nb") (by decide +kernel))
local macro_rules | `(tactic| walk_at "mul")=>`(tactic| exact EV.MulOk.of (by walk_at "nb") (by walk_at "nb") (by decide +kernel))
local macro_rules | `(tactic| simp_arith [$ls,*])=>`(tactic| simp only [EV.EvS,reduceIte,Nat.reduceAdd,Nat.reduceSub,Int.reduceAdd,Int.reduceSub,Int.reduceMul,Int.reduceNeg,Int.reducePow,Int.reduceLT,Int.reduceLE,Int.reduceGT,Int.reduceGE,Int.reduceEq,Int.reduceNe,Int.reduceDiv,Int.reduceMod,Int.reduceToNat,String.reduceEq,String.reduceBEq,Nat.reduceLeDiff,Int.cast_ofNat_Int,Int.natCast_one,Int.natCast_zero,List.cons_append,List.nil_append,ne_eq,$ls,*])
namespace EV
open PySem (Str)
def Sz (E F:Int):Prop:=2<=E/\E<=15/\1<=F/\F<=112
def szE (c:Int):Int:=if c%8<4 then [5,8,11,15].getD (c%8).toNat 0 else if c%8<6 then 2+c / 8%14 else 2+c / 8%4
def szF (c:Int):Int:=if c%8<4 then [10,23,52,112].getD (c%8).toNat 0 else if c%8<6 then 1+c / 8 / 14%112 else 1+c / 8 / 4%5
theorem four {r:Int} (h0:0<=r) (h1:r<4):r=0\/r=1\/r=2\/r=3:=⋯
theorem Jt (c:Int):Sz (szE c) (szF c):=by
 unfold Sz szE szF
 by_cases h:c%8<4
 ·rw [if_pos h,if_pos h]
  rcases four (Int.emod_nonneg c ↥3) h with e | e | e | e<;>rw [e]<;>decide
 ·rw [if_neg h,if_neg h]
  by_cases h2:c%8<6
  ·rw [if_pos h2,if_pos h2];omega
  ·rw [if_neg h2,if_neg h2];omega
def kP (E F c:Int):Int :=
 if c%9<3 then c / 9*73846150927364518273645509182736455091829%(2*pw ↥1)
 else if c%9=3 then c / 9%2*pw ↥1+c / 9 / 2%6
 else if c%9=4 then c / 9%2*pw ↥1+(pw E - 1)*pw F - 3+c / 9 / 2%5
 else if c%9=5 then c / 9%2*pw ↥1+pw F - 2+c / 9 / 2%4
 else if c%9=6 then c / 9%2*pw ↥1+(pw (E - 1) - 1)*pw F - 2+c / 9 / 2%5
 else if c%9=7 then c / 9%2*pw ↥1+(pw E - 1)*pw F+1+c / 9 / 2%(pw F - 1)
 else c / 9%2*pw ↥1+c / 9 / 2 / 4%pw E*pw F+[0,1,pw F - 1,pw (F - 1)].getD (c / 9 / 2%4).toNat 0
theorem lY {F:Int} (h:1<=F):2<=pw F:=gJ (a:=1) h
theorem qA {E:Int} (h:2<=E):4<=pw E:=gJ (a:=2) h
theorem gK {F:Int} (h:1<=F):pw F=2*pw (F - 1):=by
 have:=gI (a:=F - 1) ⋯
 rw [show F - 1+1=F by omega] at this
 exact this
theorem CL {r h:Int} (h0:0<=h):0<=r%2*h/\r%2*h<=h:=by
 rcases (by omega:r%2=0\/r%2=1) with e | e<;>rw [e]<;>omega
theorem C3 {a b c d:Int} (h1:c<=a) (h2:d<=b) (hc:0<=c) (hd:0<=d):c*d<=a*b :=
 Int.le_trans (Int.mul_le_mul_of_nonneg_right h1 hd) (Int.mul_le_mul_of_nonneg_left h2 ⋯)
theorem Ew {E F:Int} (c:Int) (h:Sz E F):0<=kP E F c/\kP E F c<pw (E+F+1):=by
 obtain ⟨h1,h2,h3,h4⟩:=h
 have eH:pw ↥1=pw E*pw F:=bU ⋯ ⋯
 have eW:pw (E+F+1)=2*pw ↥1:=gI ⋯
 have hP:=qA h1
 have hQ:=lY h3
 have eQ:=gK h3
 have eP:=gK (F:=E) ⋯
 have hH:0<=pw ↥1:=Int.le_of_lt (ag _)
 obtain ⟨s0,s1⟩:=CL (r:=c / 9) hH
 have eL:(pw E - 1)*pw F=pw ↥1 - pw F:=by rw [eH,Int.sub_mul,Int.one_mul]
 have eM:(pw (E - 1) - 1)*pw F=pw (E - 1)*pw F - pw F:=by rw [Int.sub_mul,Int.one_mul]
 have eH2:pw ↥1=2*(pw (E - 1)*pw F):=by rw [eH,eP,Int.mul_assoc]
 have big:8<=pw ↥1:=by rw [eH];exact C3 hP hQ ↥3 ↥3
 have big2:4*pw F<=pw ↥1:=by rw [eH];exact Int.mul_le_mul_of_nonneg_right hP ⋯
 rw [eW]
 unfold kP
 generalize pw ↥1=H at *
 generalize pw (E - 1)*pw F=M at *
 generalize c / 9%2*H=sd at *
 generalize c / 9=r at *
 by_cases g0:c%9<3
 ·rw [if_pos g0]
  exact ⟨Int.emod_nonneg _ ⋯,Int.emod_lt_of_pos _ ⋯⟩
 rw [if_neg g0]
 by_cases g1:c%9=3
 ·rw [if_pos g1];omega
 rw [if_neg g1]
 by_cases g2:c%9=4
 ·rw [if_pos g2,eL];omega
 rw [if_neg g2]
 by_cases g3:c%9=5
 ·rw [if_pos g3];omega
 rw [if_neg g3]
 by_cases g4:c%9=6
 ·rw [if_pos g4,eM];omega
 rw [if_neg g4]
 by_cases g5:c%9=7
 ·rw [if_pos g5,eL]
  have z0:=Int.emod_nonneg (r / 2) (show pw F - 1≠0 by omega)
  have z1:=Int.emod_lt_of_pos (r / 2) (show 0<pw F - 1 by omega)
  omega
 rw [if_neg g5]
 have z0:=Int.emod_nonneg (r / 2 / 4) (show pw E≠0 by omega)
 have z1:=Int.emod_lt_of_pos (r / 2 / 4) (show 0<pw E by omega)
 have y0:0<=r / 2 / 4%pw E*pw F:=Int.mul_nonneg z0 ⋯
 have y1:r / 2 / 4%pw E*pw F<=(pw E - 1)*pw F:=Int.mul_le_mul_of_nonneg_right ⋯ ⋯
 rw [eL] at y1
 have x0:0<=[0,1,pw F - 1,pw (F - 1)].getD (r / 2%4).toNat 0/\[0,1,pw F - 1,pw (F - 1)].getD (r / 2%4).toNat 0<pw F:=by
  rcases four (Int.emod_nonneg (r / 2) ↥3) (Int.emod_lt_of_pos (r / 2) ↥3) with e | e | e | e<;>rw [e]
  ·show 0<=(0:Int)/\(0:Int)<pw F;omega
  ·show 0<=(1:Int)/\(1:Int)<pw F;omega
  ·show 0<=pw F - 1/\pw F - 1<pw F;omega
  ·show 0<=pw (F - 1)/\pw (F - 1)<pw F
   have:=ag (F - 1)
   omega
 omega
theorem part0 {P Q b:Int} (hP:0<P) (hQ:0<Q):b / (P*Q)=b / P / Q:=(Int.ediv_ediv_of_nonneg (Int.le_of_lt hP)).symm
theorem part1 {P Q b:Int} (hP:0<P) (hQ:0<Q):b%(P*Q) / Q=b / Q%P:=by
 have e1:=Int.emod_def b (P*Q)
 have e2:b - P*Q*(b / (P*Q))=b+Q*(-(P*(b / (P*Q)))):=by
  rw [Int.mul_neg,<-Int.sub_eq_add_neg,<-Int.mul_assoc,Int.mul_comm Q P]
 rw [e1,e2,Int.add_mul_ediv_left _ _ ⋯,Int.emod_def]
 have e3:b / (P*Q)=b / Q / P:=by rw [Int.mul_comm,Int.ediv_ediv_of_nonneg (Int.le_of_lt hQ)]
 rw [e3]
 omega
theorem part2 {P Q b:Int}:b%(P*Q)%Q=b%Q:=Int.emod_emod_of_dvd b (Int.dvd_mul_left P Q)
theorem zu {P Q b:Int} (hP:0<P) (hQ:0<Q) (h0:0<=b) (h1:b<2*(P*Q)) :
  (0<=b / P / Q/\b / P / Q<=1)/\(0<=b / Q%P/\b / Q%P<P)/\(0<=b%Q/\b%Q<Q):=by
 refine ⟨⟨?_,?_⟩,⟨Int.emod_nonneg _ ⋯,Int.emod_lt_of_pos _ hP⟩,⟨Int.emod_nonneg _ ⋯,Int.emod_lt_of_pos _ hQ⟩⟩
 ·exact Int.ediv_nonneg (Int.ediv_nonneg h0 (Int.le_of_lt hP)) (Int.le_of_lt hQ)
 ·rw [<- part0 hP hQ]
  have:b / (P*Q)<2:=Int.ediv_lt_of_lt_mul (Int.mul_pos hP hQ) h1
  omega
theorem Ag {ns:List Int} {j:Int} (h0:0<=j) (h:¬ j<(ns.length:Int)):ns.getD j.toNat 0=0:=by
 rw [List.getD_eq_getElem?_getD,List.getElem?_eq_none ⋯]
 rfl
theorem M5:oIx (.lst (a::b::c::d::r)) (.int 3)=.ok d:=jc (k:=3) rfl
theorem O0:oIx (.lst (a::b::c::d::e::r)) (.int 4)=.ok e:=jc (k:=4) rfl
def sgn (E F b:Int):Int:=b / pw E / pw F
def fld (E F b:Int):Int:=b / pw F%pw E
def fig (F b:Int):Int:=b%pw F
def In (E F b:Int):Prop:=0<=b/\b<pw (E+F+1)
theorem In.parts {E F b:Int} (h:Sz E F) (hb:In E F b):(0<=sgn E F b/\sgn E F b<=1)/\(0<=fld E F b/\fld E F b<pw E)/\(0<=fig F b/\fig F b<pw F):=by
 obtain ⟨h1,h2,h3,h4⟩:=h
 have eW:pw (E+F+1)=2*(pw E*pw F):=by rw [gI ⋯,bU ⋯ ⋯]
 exact zu (P:=pw E) (Q:=pw F) (b:=b) (ag _) (ag _) hb.1 (by rw [<- eW];exact hb.2)
def kindS (E f g:Int):Str:=if f=0 then (if g=0 then "nought" else "faint") else if f=pw E - 1 then (if g=0 then "endless" else "none") else "plain"
def wh (F f g:Int):Int:=if f=0 then g else pw F+g
def lo (E F:Int):Int:=2 - pw (E - 1) - F
def po (E F f:Int):Int:=if f=0 then lo E F else lo E F+f - 1
def frT (w p:Int):Int:=if 0<=p then w*pw p else w
def frB (p:Int):Int:=if 0<=p then 1 else pw (-p)
theorem dM {E F:Int} (h:Sz E F):pw E<=32768:=gJ h.2.1
theorem vD {E F:Int} (h:Sz E F):pw F<=5192296858534827628530496329220096:=gJ h.2.2.2
theorem kf {E F:Int} (h:Sz E F):pw (E - 1)<=16384:=gJ (b:=14) (by have:=h.2.1;omega)
theorem cM {i:Int} {k:Nat} (h0:0<=i) (h:i<2^k):nb i<=k:=lQ.mpr (by
 have:((i.natAbs:Nat):Int)<((2^k:Nat):Int):=by rw [Int.natAbs_of_nonneg h0];simpa using h
 exact Int.ofNat_lt.mp this)
theorem ON {c k:Int} (h:nb c<=2^20) (hk:0<k):nb (c / k)<=1048576:=l8 hk h
theorem dR {s t:Int} (h0:0<=s) (h1:s<=1) (ht:nb t<=100000):MulOk s t:=by
 have:nb s<=1:=cM h0 ⋯
 unfold MulOk;omega
theorem gp {k:Int} (h0:0<=k) (h1:k<=1000000):bD (.int 1) (.int k)=.ok (.int (pw k)):=by
 have:nb (1:Int)=1:=by decide
 rw [au h0 ⋯,Int.one_mul]
theorem BS {E F b:Int} (h:Sz E F) (hb:In E F b):nb (wh F (fld E F b) (fig F b))<=128:=by
 obtain ⟨_,_,i3⟩:=hb.parts h
 have:=vD h
 have:=ag F
 unfold wh
 split
 ·exact cM i3.1 ⋯
 ·exact cM ⋯ ⋯
theorem JH {E F b:Int} (h:Sz E F) (hb:In E F b) : -100000<=po E F (fld E F b)/\po E F (fld E F b)<=100000:=by
 obtain ⟨_,i2,_⟩:=hb.parts h
 have:=dM h
 have:=kf h
 have:=ag (E - 1)
 obtain ⟨h1,h2,h3,h4⟩:=h
 unfold po lo
 split<;>omega
theorem xx {α:Type} {xs:List α} {lo hi:Option Int} {d:α} (h:d∈EV.cut xs lo hi):d∈xs:=List.mem_of_mem_drop (List.mem_of_mem_take h)
end EV
namespace EV
def cd (E F b:Int):Int:=b%pw ↥1
def rk (E F b:Int):Int:=if pw ↥1<=b then -(cd E F b) else cd E F b
def vl (F c:Int):Int:=if c / pw F=0 then c else (pw F+c%pw F)*pw (c / pw F - 1)
def lnn (E F b:Int):Int:=if pw ↥1<=b then -(vl F (cd E F b)) else vl F (cd E F b)
def nn (E F b:Int):Prop:=pw ↥1 - pw F<cd E F b
noncomputable instance {E F b:Int}:Decidable (nn E F b):=inferInstanceAs (Decidable (_<_))
section
variable {E F a b c c':Int}
theorem HZ:0<=cd E F b/\cd E F b<pw ↥1:=by
 have:=ag ↥1
 exact ⟨Int.emod_nonneg _ ⋯,Int.emod_lt_of_pos _ this⟩
theorem H0 (h:Sz E F):cd E F b / pw F=fld E F b:=by
 obtain ⟨h1,h2,h3,h4⟩:=h
 unfold cd fld;rw [bU ⋯ ⋯,part1 (ag _) (ag _)]
theorem HY (h:Sz E F):cd E F b%pw F=fig F b:=by
 obtain ⟨h1,h2,h3,h4⟩:=h
 unfold cd fig;rw [bU ⋯ ⋯,part2]
theorem bh (h:Sz E F):4*pw F<=pw ↥1:=by
 obtain ⟨h1,h2,h3,h4⟩:=h
 have:=ag F
 rw [bU ⋯ ⋯];exact Int.mul_le_mul_of_nonneg_right (qA h1) ⋯
theorem qk (h:Sz E F):pw (E+F+1)=2*pw ↥1:=by
 obtain ⟨h1,h2,h3,h4⟩:=h
 exact gI ⋯
theorem Bk (F b:Int):0<=fig F b/\fig F b<pw F:=⟨Int.emod_nonneg _ (by have:=ag F;omega),Int.emod_lt_of_pos _ (ag F)⟩
theorem Ge (h:Sz E F) (hb:In E F b):sgn E F b=if pw ↥1<=b then 1 else 0:=by
 obtain ⟨h1,h2,h3,h4⟩:=id h
 have e0:sgn E F b=b / pw ↥1:=by unfold sgn;rw [bU ⋯ ⋯,part0 (ag _) (ag _)]
 have hw:=qk h
 have hp:=ag ↥1
 obtain ⟨b0,b1⟩:=hb
 rw [e0]
 split
 ·rename_i z
  have l:1<=b / pw ↥1:=Int.le_ediv_of_mul_le hp ⋯
  have u:b / pw ↥1<2:=Int.ediv_lt_of_lt_mul hp ⋯
  omega
 ·rename_i z
  exact Int.ediv_eq_zero_of_lt b0 ⋯
theorem qm:vl F 0=0:=by unfold vl;simp
theorem Fp (h0:0<=c) (h:c<c'):vl F c<vl F c':=by
 have hQ:=ag F
 have hm:c / pw F<=c' / pw F:=Int.ediv_le_ediv hQ ⋯
 have hf0:0<=c / pw F:=Int.ediv_nonneg h0 ⋯
 have e:=Int.mul_ediv_add_emod c (pw F)
 have e':=Int.mul_ediv_add_emod c' (pw F)
 have r0:=Int.emod_nonneg c (show pw F≠0 by omega)
 have r1:=Int.emod_lt_of_pos c hQ
 have s0:=Int.emod_nonneg c' (show pw F≠0 by omega)
 have s1:=Int.emod_lt_of_pos c' hQ
 unfold vl
 generalize c / pw F=f at *
 generalize c' / pw F=f' at *
 generalize c%pw F=r at *
 generalize c'%pw F=r' at *
 by_cases z:f=0
 ·rw [if_pos z]
  subst z
  by_cases z':f'=0
  ·rw [if_pos z'];exact h
  ·rw [if_neg z']
   have p1:1<=pw (f' - 1):=ag _
   have:(pw F+r')*1<=(pw F+r')*pw (f' - 1):=Int.mul_le_mul_of_nonneg_left p1 ⋯
   rw [Int.mul_zero] at e
   omega
 ·rw [if_neg z,if_neg ⋯]
  by_cases q:f=f'
  ·subst q
   exact Int.mul_lt_mul_of_pos_right ⋯ (ag _)
  ·have e1:pw f=2*pw (f - 1):=gK ⋯
   have e2:pw f<=pw (f' - 1):=gJ ⋯
   have k1:(pw F+r)*pw (f - 1)<(2*pw F)*pw (f - 1):=Int.mul_lt_mul_of_pos_right ⋯ (ag _)
   have k2:(2*pw F)*pw (f - 1)=pw F*pw f:=by rw [e1,Int.mul_comm 2,Int.mul_assoc]
   have k3:pw F*pw f<=pw F*pw (f' - 1):=Int.mul_le_mul_of_nonneg_left e2 ⋯
   have k4:pw F*pw (f' - 1)<=(pw F+r')*pw (f' - 1):=Int.mul_le_mul_of_nonneg_right ⋯ (Int.le_of_lt (ag _))
   omega
theorem vc (h:Sz E F) (h0:0<=c) (h1:c<pw ↥1):c / pw F<pw E/\0<=c / pw F:=by
 obtain ⟨k1,k2,k3,k4⟩:=h
 refine ⟨Int.ediv_lt_of_lt_mul (ag _) ?_,Int.ediv_nonneg h0 (Int.le_of_lt (ag _))⟩
 rw [<- bU ⋯ ⋯];exact h1
def ng (E F b:Int):Int:=if pw ↥1<=b then b - pw ↥1 else b+pw ↥1
def ab (E F b:Int):Int:=if rk E F b=pw ↥1 - pw F then b else if rk E F b<0 then pw ↥1 - (rk E F b+1) else rk E F b+1
def be (E F b:Int):Int:=if rk E F b = -↥24 then b else if 0<rk E F b then rk E F b - 1 else pw ↥1 - (rk E F b - 1)
theorem end_is (h:Sz E F):(pw E - 1)*pw F=pw ↥1 - pw F:=by
 obtain ⟨h1,h2,h3,h4⟩:=h
 rw [bU ⋯ ⋯,Int.sub_mul,Int.one_mul]
theorem BU (h0:0<=c):vl F (c+1) - vl F c=pw (max (c / pw F - 1) 0):=by
 have hQ:=ag F
 have f0:0<=c / pw F:=Int.ediv_nonneg h0 ⋯
 have e:=Int.mul_ediv_add_emod c (pw F)
 have r0:=Int.emod_nonneg c (show pw F≠0 by omega)
 have r1:=Int.emod_lt_of_pos c hQ
 by_cases q:c%pw F+1<pw F
 ·have e1:(c+1) / pw F=c / pw F:=by
   rw [show c+1=(c%pw F+1)+pw F*(c / pw F) by omega,Int.add_mul_ediv_left _ _ ⋯,Int.ediv_eq_zero_of_lt ⋯ q];omega
  have e2:(c+1)%pw F=c%pw F+1:=by
   rw [show c+1=(c%pw F+1)+pw F*(c / pw F) by omega,Int.add_mul_emod_self_left,Int.emod_eq_of_lt ⋯ q]
  unfold vl
  rw [e1,e2]
  by_cases z:c / pw F=0
  ·rw [if_pos z,if_pos z,z]
   have:pw (max (0 - 1) 0)=1:=rfl
   omega
  ·rw [if_neg z,if_neg z,show max (c / pw F - 1) 0=c / pw F - 1 by omega,<-Int.sub_mul]
   rw [show pw F+(c%pw F+1) - (pw F+c%pw F)=1 by omega,Int.one_mul]
 ·have e1:(c+1) / pw F=c / pw F+1:=by
   rw [show c+1=0+pw F*(c / pw F+1) by rw [Int.mul_add];omega,Int.add_mul_ediv_left _ _ ⋯];simp
  have e2:(c+1)%pw F=0:=by
   rw [show c+1=0+pw F*(c / pw F+1) by rw [Int.mul_add];omega,Int.add_mul_emod_self_left];simp
  unfold vl
  rw [e1,e2,if_neg ⋯]
  by_cases z:c / pw F=0
  ·rw [if_pos z,z]
   have k1:pw (max (0 - 1) 0)=1:=rfl
   have k2:pw ((0:Int)+1 - 1)=1:=rfl
   rw [k1,k2]
   rw [z,Int.mul_zero] at e
   omega
  ·rw [if_neg z,show max (c / pw F - 1) 0=c / pw F - 1 by omega,show c / pw F+1 - 1=c / pw F by omega,gK (F:=c / pw F) ⋯]
   generalize pw (c / pw F - 1)=m
   rw [show pw F+0=pw F by omega,show pw F+c%pw F=2*pw F - 1 by omega,Int.sub_mul,Int.one_mul,<-Int.mul_assoc,Int.mul_comm (pw F) 2]
   omega
theorem nk {x a b:PySem.Str}:oIn (.str x) (.tup [.str a,.str b])=.ok (.bl (decide (a=x\/b=x))):=by
 unfold oIn isIn
 simp only [D.sc,List.all_cons,List.all_nil,Bool.and_self,Bool.and_true,if_true,List.any_cons,List.any_nil,D.beq,Bool.or_false]
 by_cases h1:a=x<;>by_cases h2:b=x<;>simp [h1,h2]
end
end EV
namespace EV
section
variable {t n p k a b c:Int}
theorem a9 (h:p<=0):pw p=1:=by unfold pw;rw [Int.toNat_of_nonpos h];rfl
theorem dS (hc:0<c):a*c<b*c↔a<b:=⟨fun h=>Int.lt_of_mul_lt_mul_right h (Int.le_of_lt hc),fun h=>Int.mul_lt_mul_of_pos_right h hc⟩
theorem nc (hk:0<=k):pw (p+k)*pw (-p)=pw k*pw p*pw (-(p+k)):=by
 by_cases h1:0<=p
 ·rw [a9 (p := -p) ⋯,a9 (p := -(p+k)) ⋯,bU h1 hk,Int.mul_one,Int.mul_one,Int.mul_comm]
 ·by_cases h2:0<=p+k
  ·rw [a9 (p:=p) ⋯,a9 (p := -(p+k)) ⋯,<-bU h2 ⋯,show p+k + -p=k by omega];omega
  ·rw [a9 (p:=p) ⋯,a9 (p:=p+k) ⋯,Int.one_mul,Int.mul_one,<-bU hk ⋯,show k + -(p+k) = -p by omega]
def Lt (t n p:Int):Prop:=t*pw (-p)<n*pw p
noncomputable instance:Decidable (Lt t n p):=inferInstanceAs (Decidable (_<_))
theorem nu (hk:0<=k):t*pw (-p)<pw k*(n*pw p)↔Lt t n (p+k):=by
 have z1:=ag (-(p+k))
 have z2:=ag (-p)
 unfold Lt
 rw [<- dS z1,<-dS (a:=t*pw (-(p+k))) z2]
 have e1:pw k*(n*pw p)*pw (-(p+k))=n*pw (p+k)*pw (-p):=by
  rw [Int.mul_assoc n,nc hk,<-Int.mul_assoc (pw k),Int.mul_comm (pw k) n]
  simp only [Int.mul_assoc]
 have e2:t*pw (-p)*pw (-(p+k))=t*pw (-(p+k))*pw (-p):=Int.mul_right_comm ..
 rw [e1,e2]
theorem Hj (h:0<t):pw ((nb t:Int) - 1)<=t:=by
 have h1:¬ nb t<=nb t - 1:=by
  have:nb t≠0:=fun z=>by
   have:=lQ.mp (Nat.le_of_eq z)
   omega
  omega
 rw [lQ] at h1
 have h2:((2^(nb t - 1):Nat):Int)<=t:=⋯
 unfold pw
 rw [show ((nb t:Int) - 1).toNat=nb t - 1 by omega]
 simpa using h2
theorem sN (h:0<t):1<=nb t:=by
 rcases Nat.eq_zero_or_pos (nb t) with z | z
 ·have:=lQ.mp (Nat.le_of_eq z)
  omega
 ·exact z
def hgt (t n:Int):Int:=if Lt t n (nb t - nb n) then (nb t - nb n:Int) else nb t - nb n+1
theorem J7 (ht:0<t) (hn:0<n):Lt t n ((nb t:Int) - nb n+1):=by
 have l1:=l6 (i:=t) ⋯
 have l2:=Hj hn
 have l3:=sN hn
 unfold Lt
 generalize hp:(nb t:Int) - nb n+1=p
 have e:=nc (p:=p) (k:=(nb n:Int) - 1) ⋯
 rw [show p+((nb n:Int) - 1)=nb t by omega,a9 (p := -(nb t:Int)) ⋯,Int.mul_one] at e
 have k1:t*pw (-p)<pw (nb t)*pw (-p):=Int.mul_lt_mul_of_pos_right l1 (ag _)
 have k2:pw ((nb n:Int) - 1)*pw p<=n*pw p:=Int.mul_le_mul_of_nonneg_right l2 (Int.le_of_lt (ag _))
 omega
theorem DV (ht:0<t) (hn:0<n):¬ Lt t n ((nb t:Int) - nb n - 1):=by
 have l1:=Hj ht
 have l2:=l6 (i:=n) ⋯
 have l3:=sN ht
 unfold Lt
 generalize hp:(nb t:Int) - nb n - 1=p
 have e:=nc (p:=p) (k:=(nb n:Int)) ⋯
 rw [show p+(nb n:Int)=(nb t:Int) - 1 by omega,a9 (p := -((nb t:Int) - 1)) ⋯,Int.mul_one] at e
 have k1:pw ((nb t:Int) - 1)*pw (-p)<=t*pw (-p):=Int.mul_le_mul_of_nonneg_right l1 (Int.le_of_lt (ag _))
 have k2:n*pw p<pw (nb n)*pw p:=Int.mul_lt_mul_of_pos_right l2 (ag _)
 omega
theorem HF (ht:0<t) (hn:0<n):Lt t n (hgt t n)/\¬ Lt t n (hgt t n - 1)/\hgt t n<=nb t /\ -(nb n:Int)<=hgt t n:=by
 have l1:=sN ht
 have l2:=sN hn
 unfold hgt
 by_cases g:Lt t n (nb t - nb n)
 ·rw [if_pos g]
  exact ⟨g,DV ht hn,⋯,⋯⟩
 ·rw [if_neg g]
  refine ⟨J7 ht hn,?_,⋯,⋯⟩
  rw [show (nb t:Int) - nb n+1 - 1=nb t - nb n by omega]
  exact g
theorem DU (hn:0<n) (h:Lt t n p) (hq:p<=q):Lt t n q:=by
 have:=(nu (t:=t) (n:=n) (p:=p) (k:=q - p) ⋯).mp (by
  have z:1<=pw (q - p):=ag _
  have y:0<n*pw p:=Int.mul_pos hn (ag _)
  have:=Int.mul_le_mul_of_nonneg_right z (Int.le_of_lt y)
  unfold Lt at h
  omega)
 rw [show p+(q - p)=q by omega] at this
 exact this
def mf (E F t n:Int):Int:=max (lo E F) (hgt t n - F - 1)
def jZ (p t:Int):Int:=t*pw (-p)
def gC (p n:Int):Int:=n*pw p
def rst (l s:Int):Int:=if l=0 then 0 else if 2*l<s then 1 else if 2*l=s then 2 else 3
theorem jY (hn:0<n):0<gC p n:=Int.mul_pos hn (ag _)
theorem ro (ht:0<=t):0<=jZ p t:=Int.mul_nonneg ht (Int.le_of_lt (ag _))
variable {E F:Int}
theorem jD (h:Sz E F) : -20000<=lo E F/\lo E F <= -1:=by
 have:=kf h
 have:2<=pw (E - 1):=lY (by have:=h.1;omega)
 obtain ⟨h1,h2,h3,h4⟩:=h
 unfold lo
 omega
theorem nK (h:Sz E F) (ht:0<t) (hn:0<n) :
  lo E F<=mf E F t n/\mf E F t n<=nb t/\jZ ↥22 t<2*pw F*gC ↥22 n/\(lo E F<mf E F t n->pw F*gC ↥22 n<=jZ ↥22 t):=by
 obtain ⟨g1,g2,g3,g4⟩:=HF ht hn
 have l:=jD h
 obtain ⟨h1,h2,h3,h4⟩:=h
 have e:2*pw F=pw (F+1):=(gI ⋯).symm
 refine ⟨by unfold mf;omega,by unfold mf;omega,?_,fun q => ?_⟩
 ·rw [e]
  unfold jZ gC
  rw [nu ⋯]
  exact DU hn g1 (by unfold mf;omega)
 ·have hP:mf E F t n=hgt t n - F - 1:=by unfold mf at q ⊢;omega
  have:=fun z=>g2 (by
   have:=(nu (t:=t) (n:=n) (p:=mf E F t n) (k:=F) ⋯).mp z
   rw [hP,show hgt t n - F - 1+F=hgt t n - 1 by omega] at this
   exact this)
  have:=Int.not_lt.mp this
  unfold jZ gC
  omega
theorem Hk (h:Sz E F) (hA:0<=A) (hB:0<B) (hw:A<2*pw F*B):iM A B:=by
 refine ⟨hB,.inr ?_⟩
 have n1:nb (2*pw F)<=2+113:=ja ↥3 (gM (c:=112) h.2.2.2)
 have n2:=ja n1 (Nat.le_refl (nb B))
 have n3:nb A<=nb (2*pw F*B):=iU ⋯
 omega
end
end EV
namespace EV
section
variable {E F t n P w l A B K D:Int}
theorem B7 (h:Sz E F) (hP:lo E F<=P):t*pw (-(lo E F))*gC P n=jZ P t*(n*pw (P - lo E F)):=by
 have l:=jD h
 have e:=nc (p := -P) (k:=P - lo E F) ⋯
 rw [show -P+(P - lo E F) = -(lo E F) by omega,Int.neg_neg,Int.neg_neg,a9 (p:=lo E F) ⋯,Int.mul_one] at e
 unfold jZ gC
 have e2:t*pw (-(lo E F))*(n*pw P)=t*n*(pw (-(lo E F))*pw P):=by
  rw [Int.mul_assoc,Int.mul_assoc,<-Int.mul_assoc (pw (-(lo E F))),Int.mul_comm (pw (-(lo E F))) n,Int.mul_assoc]
 have e3:t*pw (-P)*(n*pw (P - lo E F))=t*n*(pw (P - lo E F)*pw (-P)):=by
  rw [Int.mul_assoc,Int.mul_assoc,<-Int.mul_assoc (pw (-P)),Int.mul_comm (pw (-P)) n,Int.mul_assoc,Int.mul_comm (pw (-P))]
 rw [e2,e3,e]
def codeOf (E F P w:Int):Int:=(P - lo E F)*pw F+w
theorem j0 (h:Sz E F) (hP:lo E F<=P) (w0:0<=w) (w1:w<2*pw F) (w2:lo E F<P->pw F<=w):0<=codeOf E F P w /\
  ((w<pw F/\P=lo E F/\codeOf E F P w=w)\/(pw F<=w/\codeOf E F P w / pw F=P - lo E F+1/\codeOf E F P w%pw F=w - pw F)):=by
 have hQ:=ag F
 have z:0<=(P - lo E F)*pw F:=Int.mul_nonneg ⋯ ⋯
 refine ⟨by unfold codeOf;omega,?_⟩
 by_cases g:w<pw F
 ·have e:P=lo E F:=by
   refine Classical.byContradiction fun q => ?_
   have:=w2 ⋯
   omega
  refine .inl ⟨g,e,?_⟩
  unfold codeOf
  rw [e,Int.sub_self,Int.zero_mul,Int.zero_add]
 ·refine .inr ⟨⋯,?_,?_⟩
  ·have e:codeOf E F P w=(w - pw F)+pw F*(P - lo E F+1):=by
    unfold codeOf;rw [Int.mul_add,Int.mul_comm (pw F) (P - lo E F)];omega
   rw [e,Int.add_mul_ediv_left _ _ ⋯,Int.ediv_eq_zero_of_lt ⋯ ⋯];omega
  ·have e:codeOf E F P w=(w - pw F)+pw F*(P - lo E F+1):=by
    unfold codeOf;rw [Int.mul_add,Int.mul_comm (pw F) (P - lo E F)];omega
   rw [e,Int.add_mul_emod_self_left,Int.emod_eq_of_lt ⋯ ⋯]
theorem rq (h:Sz E F) (hP:lo E F<=P) (w0:0<=w) (w1:w<2*pw F) (w2:lo E F<P->pw F<=w) :
  vl F (codeOf E F P w)=w*pw (P - lo E F)/\vl F (codeOf E F P w+1)=(w+1)*pw (P - lo E F):=by
 have hQ:=ag F
 obtain ⟨c0,c⟩:=j0 h hP w0 w1 w2
 have s:=BU (F:=F) c0
 have e1:vl F (codeOf E F P w)=w*pw (P - lo E F):=by
  rcases c with ⟨c1,c2,c3⟩ | ⟨c1,c2,c3⟩
  ·unfold vl
   rw [c3,c2,if_pos (Int.ediv_eq_zero_of_lt w0 c1),Int.sub_self,show pw 0=1 from rfl,Int.mul_one]
  ·unfold vl
   rw [c2,c3,if_neg ⋯,show P - lo E F+1 - 1=P - lo E F by omega,show pw F+(w - pw F)=w by omega]
 refine ⟨e1,?_⟩
 have e2:max (codeOf E F P w / pw F - 1) 0=P - lo E F:=by
  rcases c with ⟨c1,c2,c3⟩ | ⟨c1,c2,c3⟩
  ·rw [c3,Int.ediv_eq_zero_of_lt w0 c1,c2];omega
  ·rw [c2];omega
 rw [e2] at s
 rw [Int.add_mul,Int.one_mul,<-e1]
 omega
theorem F5 (hB:0<B) (hK:0<K) (l0:0<=l) (l1:l<B) (e:D*B=l*K):0<=D/\D<K/\(D=0↔l=0)/\(2*D<K↔2*l<B)/\(2*D=K↔2*l=B):=by
 have k0:0<=l*K:=Int.mul_nonneg l0 (Int.le_of_lt hK)
 have d0:0<=D:=by
  refine Classical.byContradiction fun q => ?_
  have:=Int.mul_neg_of_neg_of_pos (show D<0 by omega) hB
  omega
 have d1:D<K:=by
  rw [<- dS hB,e,Int.mul_comm K]
  exact Int.mul_lt_mul_of_pos_right l1 hK
 have e2:2*D*B=2*l*K:=by rw [Int.mul_assoc,e,Int.mul_assoc]
 refine ⟨d0,d1,⟨fun q => ?_,fun q => ?_⟩,?_,?_⟩
 ·rw [q,Int.zero_mul] at e
  rcases Int.mul_eq_zero.mp e.symm with z | z
  ·exact z
  ·omega
 ·rw [q,Int.zero_mul] at e
  rcases Int.mul_eq_zero.mp e with z | z
  ·exact z
  ·omega
 ·rw [<- dS hB,e2,Int.mul_comm K,dS hK]
 ·constructor
  ·intro q
   rw [q,Int.mul_comm] at e2
   exact (Int.eq_of_mul_eq_mul_right ⋯ e2).symm
  ·intro q
   rw [q,Int.mul_comm B] at e2
   exact Int.eq_of_mul_eq_mul_right ⋯ e2
theorem between (h:Sz E F) (hn:0<n) (hP:lo E F<=P) (w0:0<=w) (w1:w<2*pw F) (w2:lo E F<P->pw F<=w) (l0:0<=l) (l1:l<gC P n) (e:jZ P t=w*gC P n+l) :
  vl F (codeOf E F P w)*n<=t*pw (-(lo E F))/\t*pw (-(lo E F))<vl F (codeOf E F P w+1)*n/\(t*pw (-(lo E F))=vl F (codeOf E F P w)*n↔l=0) /\
  (2*(t*pw (-(lo E F))) - vl F (codeOf E F P w)*n - vl F (codeOf E F P w+1)*n<0↔2*l<gC P n) /\
  (2*(t*pw (-(lo E F))) - vl F (codeOf E F P w)*n - vl F (codeOf E F P w+1)*n=0↔2*l=gC P n):=by
 obtain ⟨v1,v2⟩:=rq h hP w0 w1 w2
 have u:=B7 (t:=t) (n:=n) h hP
 have hB:=jY (p:=P) hn
 have hK:0<n*pw (P - lo E F):=Int.mul_pos hn (ag _)
 rw [v1,v2]
 have x1:w*pw (P - lo E F)*n=w*(n*pw (P - lo E F)):=by rw [Int.mul_assoc,Int.mul_comm (pw _) n]
 have x2:(w+1)*pw (P - lo E F)*n=w*(n*pw (P - lo E F))+n*pw (P - lo E F):=by rw [Int.add_mul,Int.one_mul,Int.add_mul,x1,Int.mul_comm (pw _) n]
 rw [x1,x2]
 generalize n*pw (P - lo E F)=K at *
 generalize t*pw (-(lo E F))=T at *
 rw [e,Int.add_mul] at u
 have s:=F5 (D:=T - w*K) hB hK l0 l1 (by
  rw [Int.sub_mul,u,Int.mul_right_comm w K];omega)
 omega
end
theorem mK {E F x:Int} (h:Sz E F) (x0:0<=x) (x1:x<pw ↥1):nb (vl F x)<=40000:=by
 obtain ⟨k1,k2,k3,k4⟩:=id h
 obtain ⟨v1,v2⟩:=vc h x0 x1
 have v3:=dM h
 have v4:=vD h
 obtain ⟨r0,r1⟩:=Bk F x
 unfold fig at r0 r1
 unfold vl
 split
 ·exact Nat.le_trans (cM (k:=200) x0 (by
   have:pw ↥1<=pw 127:=gJ ⋯
   have e:pw 127=170141183460469231731687303715884105728:=rfl
   omega)) ↥3
 ·have:=ja (cM (k:=128) (i:=pw F+x%pw F) ⋯ ⋯) (gM (k:=x / pw F - 1) (c:=32768) ⋯)
  omega
theorem gx {E F x n:Int} (h:Sz E F) (x0:0<=x) (x1:x<pw ↥1) (nn:nb n<=10000000):MulOk (vl F x) n:=by
 have:=mK h x0 x1
 unfold MulOk;omega
theorem cS (hn:0<n) (x0:0<=x) (hxy:x<y):vl F x*n<vl F y*n:=Int.mul_lt_mul_of_pos_right (Fp x0 hxy) hn
section
variable {E F T n c:Int}
theorem qQ (h:Sz E F) (hn:0<n) (c0:0<=c) (h1:vl F c*n<=T) (h2:T<vl F (c+1)*n):T<n*pw F↔c<pw F:=by
 have hQ:=ag F
 have vQ:vl F (pw F)=pw F:=by
  unfold vl
  rw [Int.ediv_self ⋯,Int.emod_self,if_neg ↥3,Int.add_zero,show pw ((1:Int) - 1)=1 from rfl,Int.mul_one]
 constructor
 ·intro q
  refine Classical.byContradiction fun z => ?_
  have:vl F (pw F)*n<=vl F c*n:=by
   rcases Int.lt_or_eq_of_le (show pw F<=c by omega) with y | y
   ·exact Int.le_of_lt (cS hn ⋯ y)
   ·rw [y];exact Int.le_refl _
  rw [vQ,Int.mul_comm] at this
  omega
 ·intro q
  have:vl F (c+1)*n<=vl F (pw F)*n:=by
   rcases Int.lt_or_eq_of_le (show c+1<=pw F by omega) with y | y
   ·exact Int.le_of_lt (cS hn ⋯ y)
   ·rw [y];exact Int.le_refl _
  rw [vQ,Int.mul_comm (pw F)] at this
  omega
def og (F T n c r:Int):Prop:=(r=0/\T=vl F c*n)\/(vl F c*n<T/\((r=1/\2*T - vl F c*n - vl F (c+1)*n<0)\/(r=2/\2*T - vl F c*n - vl F (c+1)*n=0)\/(r=3/\0<2*T - vl F c*n - vl F (c+1)*n)))
theorem zX (b:vl F c*n<=T/\T<vl F (c+1)*n/\(T=vl F c*n↔l=0)/\(2*T - vl F c*n - vl F (c+1)*n<0↔2*l<B)/\(2*T - vl F c*n - vl F (c+1)*n=0↔2*l=B)) (l0:0<=l):og F T n c (rst l B):=by
 obtain ⟨b1,b2,b3,b4,b5⟩:=b
 unfold og rst
 generalize vl F c*n=u at *
 generalize vl F (c+1)*n=v at *
 by_cases g0:l=0
 ·rw [if_pos g0];left;omega
 rw [if_neg g0]
 by_cases g1:2*l<B
 ·rw [if_pos g1];right;omega
 rw [if_neg g1]
 by_cases g2:2*l=B
 ·rw [if_pos g2];right;omega
 rw [if_neg g2];right;omega
end
section
variable {E F T n c c' r r' s t w p:Int}
theorem aD (h:Sz E F) (hs:0<=s/\s<=1) (c0:0<=c) (c1:c<pw ↥1):In E F ↥32/\sgn E F ↥32=s/\fld E F ↥32=c / pw F/\fig F ↥32=c%pw F:=by
 obtain ⟨k1,k2,k3,k4⟩:=id h
 have e1:cd E F ↥32=c:=by
  unfold cd
  rw [Int.add_comm,Int.add_mul_emod_self_right,Int.emod_eq_of_lt c0 c1]
 have e2:pw (E+F+1)=2*pw ↥1:=gI ⋯
 have hb:In E F ↥32:=by
  unfold In
  rw [e2]
  rcases (by omega:s=0\/s=1) with e | e<;>subst e<;>omega
 refine ⟨hb,?_,?_,?_⟩
 ·rw [Ge h hb]
  rcases (by omega:s=0\/s=1) with e | e<;>subst e
  ·rw [if_neg ⋯]
  ·rw [if_pos ⋯]
 ·have:=H0 (b:=s*pw ↥1+c) h
  rw [e1] at this
  exact this.symm
 ·have:=HY (b:=s*pw ↥1+c) h
  rw [e1] at this
  exact this.symm
theorem yz:wh F (c / pw F) (c%pw F)*pw (po E F (c / pw F) - lo E F)=vl F c:=by
 unfold wh po vl
 split
 ·rename_i g
  rw [Int.sub_self,show pw 0=1 from rfl,Int.mul_one]
  have e:=Int.ediv_mul_add_emod c (pw F)
  rw [g] at e
  omega
 ·rw [show lo E F+c / pw F - 1 - lo E F=c / pw F - 1 by omega]
theorem GF (c0:0<=c):lo E F<=po E F (c / pw F):=by
 have:=Int.ediv_nonneg c0 (Int.le_of_lt (ag F))
 unfold po
 split<;>omega
end
end EV
namespace EV
inductive Wy where
 | even | away | nought | up | down
def Wy.s:Wy->PySem.Str
 | .even=>"even" | .away=>"away" | .nought=>"nought" | .up=>"up" | .down=>"down"
def Wy.out:Wy->Int->Bool
 | .up,s=>decide (s=0)
 | .down,s=>decide (s=1)
 | _,_=>false
def Wy.brs:Wy->Int->Bool
 | .even,_=>true
 | .away,_=>true
 | w,s=>w.out s
def Wy.grw:Wy->Int->Bool->Int->Bool
 | .even,_,odd,r=>decide (r=3)||(decide (r=2)&&odd)
 | .away,_,_,r=>decide (2<=r)
 | w,s,_,_=>w.out s
def t4 (w:Wy):D:=.ins "Way" [("name",.str w.s)]
def yw:List PySem.Str:=["even","away","nought","up","down"]
def Wy.near (w:Wy) (o:Bool) (l:Int) (e:Bool):Bool:=match w with
 | .even=>decide (l<0)||(decide (l=0)&&e)
 | .away=>decide (l<0)
 | _ => !o
def Wy.far (w:Wy) (o:Bool) (l:Int) (e:Bool):Bool:=match w with
 | .even=>decide (0<l)||(decide (l=0)&&e)
 | .away=>decide (0<=l)
 | _=>o
def stK (w:Wy) (E F s c r:Int):Int:=if pw ↥1 - pw F<=c then (if w.brs s then pw ↥1 - pw F else pw ↥1 - pw F - 1) else if r=0 then c else if w.grw s (decide (c%2=1)) r then c+1 else c
def stF (w:Wy) (E F s c r:Int):Int:=if pw ↥1 - pw F<=c then 5 else if r=0 then 0 else if stK w E F s c r=pw ↥1 - pw F then 5 else if c<pw F then 3 else 1
theorem pd (h:0<=i):pe (.int i) (.int 1)=.ok (.int (i%2)):=by
 unfold pe
 simp only
 rw [if_pos ⟨h,by decide⟩]
 congr 2
 rw [show (1:Int).toNat=1 from rfl,Nat.and_one_is_mod]
 omega
theorem qH {x:PySem.Str} {ys:List PySem.Str}:gB (.str x) (.tup (ys.map D.str))=.ok (.bl (decide (x∉ys))):=by
 have h1:∀ ys:List PySem.Str,(ys.map D.str).all D.sc=true:=fun ys=>by induction ys with
  | nil=>rfl
  | cons a l ih=>simp only [List.map_cons,List.all_cons,ih,D.sc,Bool.and_self]
 have h2:∀ ys:List PySem.Str,((ys.map D.str).any fun y=>D.beq y (.str x))=decide (x∈ys):=fun ys=>by induction ys with
  | nil=>rfl
  | cons a l ih =>
   simp only [List.map_cons,List.any_cons,ih,D.beq]
   by_cases h:a=x
   ·subst h;simp
   ·have:¬ x=a:=fun z=>h z.symm
    simp [h,this]
 unfold gB oIn isIn
 simp only [D.sc,h1,Bool.and_self,if_true,h2,R.bind]
 by_cases h:x∈ys<;>simp [h]
theorem DP {w:Wy} {s c r l:Int} (h:(r=1/\l<0)\/(r=2/\l=0)\/(r=3/\0<l)) (g:w.grw s (decide (c%2=1)) r=false):w.near (w.out s) l (decide (c%2=0))=true:=by
 cases w<;>simp [Wy.near,Wy.grw,Wy.out] at g ⊢<;>first | exact g | omega
theorem HP {w:Wy} {s c r l:Int} (h:(r=1/\l<0)\/(r=2/\l=0)\/(r=3/\0<l)) (g:w.grw s (decide (c%2=1)) r=true):w.far (w.out s) l (decide ((c+1)%2=0))=true:=by
 cases w<;>simp [Wy.far,Wy.grw,Wy.out] at g ⊢<;>first | exact g | omega
section
variable {E F s T T' n k c c' r r':Int} {w:Wy}
theorem AY (h:Sz E F) (c0:0<=c):0<=stK w E F s c r/\stK w E F s c r<=pw ↥1 - pw F:=by
 have h5:=bh h
 have hQ:=ag F
 unfold stK
 repeat' split
 all_goals omega
theorem AK (hk:0<k) (h1:vl F c*n<=T) (h2:T<vl F (c+1)*n) (h3:og F T n c r):vl F c*(n*k)<=T*k/\T*k<vl F (c+1)*(n*k)/\og F (T*k) (n*k) c r:=by
 unfold og at h3 ⊢
 rw [<- Int.mul_assoc,<-Int.mul_assoc]
 generalize vl F c*n=A at *
 generalize vl F (c+1)*n=B at *
 have e1:∀ x:Int,x<0->x*k<0:=fun x hx=>Int.mul_neg_of_neg_of_pos hx hk
 have e2:∀ x:Int,0<x->0<x*k:=fun x hx=>Int.mul_pos hx hk
 have e3:2*(T*k) - A*k - B*k=(2*T - A - B)*k:=by rw [Int.sub_mul,Int.sub_mul,Int.mul_assoc]
 have e4:∀ x y:Int,x<y->x*k<y*k:=fun x y q=>Int.mul_lt_mul_of_pos_right q hk
 refine ⟨Int.mul_le_mul_of_nonneg_right h1 (Int.le_of_lt hk),e4 _ _ h2,?_⟩
 rw [e3]
 rcases h3 with ⟨a,b⟩ | ⟨a,⟨b,d⟩ | ⟨b,d⟩ | ⟨b,d⟩⟩
 ·exact .inl ⟨a,by rw [b]⟩
 ·exact .inr ⟨e4 _ _ a,.inl ⟨b,e1 _ d⟩⟩
 ·exact .inr ⟨e4 _ _ a,.inr (.inl ⟨b,by rw [d,Int.zero_mul]⟩)⟩
 ·exact .inr ⟨e4 _ _ a,.inr (.inr ⟨b,e2 _ d⟩)⟩
theorem F6 (g:c<pw ↥1 - pw F):stK w E F s c r=if r=0 then c else if w.grw s (decide (c%2=1)) r then c+1 else c:=by
 unfold stK
 rw [if_neg ⋯]
end
def At (F T n c r:Int):Prop:=0<=c/\vl F c*n<=T/\T<vl F (c+1)*n/\og F T n c r
section
variable {E F s T T' n n' k c c' r r' b W P:Int} {w:Wy}
theorem Ij (hk:0<k) (h:At F T n c r):At F (T*k) (n*k) c r:=⟨h.1,AK hk h.2.1 h.2.2.1 h.2.2.2⟩
theorem Bs (hk:0<k) (h:At F (T*k) (n*k) c r):At F T n c r:=by
 obtain ⟨h0,h1,h2,h3⟩:=h
 unfold og at h3
 have q1:vl F c*(n*k)=vl F c*n*k:=(Int.mul_assoc _ _ _).symm
 have q2:vl F (c+1)*(n*k)=vl F (c+1)*n*k:=(Int.mul_assoc _ _ _).symm
 rw [q1] at h1
 rw [q2] at h2
 rw [q1,q2] at h3
 have e4:∀ x y:Int,x*k<y*k->x<y:=fun x y q=>Int.lt_of_mul_lt_mul_right q (Int.le_of_lt hk)
 have e3:2*(T*k) - vl F c*n*k - vl F (c+1)*n*k=(2*T - vl F c*n - vl F (c+1)*n)*k:=by rw [Int.sub_mul,Int.sub_mul,Int.mul_assoc 2]
 rw [e3] at h3
 have e1:∀ x:Int,x*k<0->x<0:=fun x hx=>e4 x 0 (by rw [Int.zero_mul];exact hx)
 have e2:∀ x:Int,0<x*k->0<x:=fun x hx=>e4 0 x (by rw [Int.zero_mul];exact hx)
 have e5:∀ x y:Int,x*k=y*k->x=y:=fun x y q=>Int.eq_of_mul_eq_mul_right ⋯ q
 refine ⟨h0,Int.le_of_mul_le_mul_right h1 hk,e4 _ _ h2,?_⟩
 rcases h3 with ⟨a,b⟩ | ⟨a,⟨b,d⟩ | ⟨b,d⟩ | ⟨b,d⟩⟩
 ·exact .inl ⟨a,e5 _ _ b⟩
 ·exact .inr ⟨e4 _ _ a,.inl ⟨b,e1 _ d⟩⟩
 ·exact .inr ⟨e4 _ _ a,.inr (.inl ⟨b,e5 _ 0 (by rw [d,Int.zero_mul])⟩)⟩
 ·exact .inr ⟨e4 _ _ a,.inr (.inr ⟨b,e2 _ d⟩)⟩
theorem EK (hn:0<n) (hn':0<n') (e:T'*n=T*n') (h:At F T n c r):At F T' n' c r:=by
 have:=Ij hn' h
 rw [<- e,Int.mul_comm n n'] at this
 exact Bs hn this
theorem mO (h:Sz E F) (hb:In E F b):∃ s c,(0<=s/\s<=1)/\0<=c/\c<pw ↥1/\b=s*pw ↥1+c:=by
 have hw:=qk h
 have hH:=ag ↥1
 obtain ⟨b0,b1⟩:=hb
 by_cases g:b<pw ↥1
 ·exact ⟨0,b,by decide,b0,g,⋯⟩
 ·exact ⟨1,b - pw ↥1,by decide,⋯,⋯,⋯⟩
theorem gR (hs:0<=s/\s<=1) (c0:0<=c) (c1:c<pw ↥1):↥32%pw ↥1=c/\↥32 / pw ↥1=s:=by
 have hH:=ag ↥1
 rw [Int.add_comm,Int.add_mul_emod_self_right,Int.emod_eq_of_lt c0 c1,Int.add_mul_ediv_right _ _ ⋯,Int.ediv_eq_zero_of_lt c0 c1]
 omega
theorem sR (h:Sz E F) (c0:0<=c) (c1:c<pw ↥1):c / pw F=pw E - 1↔pw ↥1 - pw F<=c:=by
 have hQ:=ag F
 have eM:=end_is h
 constructor
 ·intro z
  have:=Int.ediv_mul_le c (show pw F≠0 by omega)
  rw [z,eM] at this
  exact this
 ·intro z
  have a:=Int.le_ediv_of_mul_le (a:=pw E - 1) (b:=c) hQ (by rw [eM];exact z)
  have b:=(vc h c0 c1).1
  omega
theorem wU (h:Sz E F) (c0:0<=c) (c1:c<pw ↥1) :
  (pw ↥1 - pw F<c->kindS E (c / pw F) (c%pw F)=PySem.Str.ofString "none")/\(c=pw ↥1 - pw F->kindS E (c / pw F) (c%pw F)=PySem.Str.ofString "endless")/\(c=0->kindS E (c / pw F) (c%pw F)=PySem.Str.ofString "nought") /\
  (0<c->c<pw ↥1 - pw F->kindS E (c / pw F) (c%pw F)=PySem.Str.ofString "faint"\/kindS E (c / pw F) (c%pw F)=PySem.Str.ofString "plain"):=by
 have hQ:=ag F
 have h5:=bh h
 have eM:=end_is h
 have hE:=qA h.1
 have l:=sR h c0 c1
 have e:=Int.ediv_mul_add_emod c (pw F)
 have r0:=Int.emod_nonneg c (show pw F≠0 by omega)
 unfold kindS
 refine ⟨fun q => ?_,fun q => ?_,fun q => ?_,fun q q2 => ?_⟩
 ·have f:=l.mpr ⋯
  rw [f,eM] at e
  rw [f,if_neg ⋯,if_pos rfl,if_neg ⋯]
 ·have f:=l.mpr ⋯
  rw [f,eM] at e
  rw [f,if_neg ⋯,if_pos rfl,if_pos ⋯]
 ·rw [q,Int.zero_ediv,Int.zero_emod,if_pos rfl,if_pos rfl]
 ·have f:¬ c / pw F=pw E - 1:=fun z=>by have:=l.mp z;omega
  by_cases g:c / pw F=0
  ·rw [g] at e
   rw [if_pos g,if_neg ⋯]
   exact .inl rfl
  ·rw [if_neg g,if_neg f]
   exact .inr rfl
end
section
variable {E F E2 F2 c:Int}
theorem rep (h:Sz E F):∀ (p:Nat) (W:Int),0<=W->W<2*pw F->∃ c,0<=c/\vl F c=W*pw p
 | 0,W,w0,w1=>by
  have:=rq (P:=lo E F) h (Int.le_refl _) w0 w1 (fun q=>⋯)
  rw [Int.sub_self] at this
  exact ⟨_,(j0 h (Int.le_refl _) w0 w1 (fun q=>⋯)).1,this.1⟩
 | p+1,W,w0,w1=>by
  by_cases g:pw F<=W
  ·have:=rq (P:=lo E F+(p+1:Nat)) h ⋯ w0 w1 (fun q=>g)
   rw [show lo E F+(p+1:Nat) - lo E F=(p+1:Nat) by omega] at this
   exact ⟨_,(j0 (P:=lo E F+(p+1:Nat)) h ⋯ w0 w1 (fun q=>g)).1,this.1⟩
  ·obtain ⟨c,c0,e⟩:=rep h p (2*W) ⋯ ⋯
   refine ⟨c,c0,?_⟩
   rw [e,show ((p+1:Nat):Int)=(p:Int)+1 by omega,gI ⋯,Int.mul_assoc,Int.mul_left_comm]
end
section
variable {E F s t n c T Z:Int} {w:Wy}
end
theorem F7 {E F s c r:Int}:0<=stF w E F s c r:=by
 unfold stF
 repeat' split
 all_goals decide
section
variable {E F P S A B G X t n r c:Int}
end
section
variable {E F s c r:Int}
theorem F8 (g:c<pw ↥1 - pw F):stF w E F s c r=if r=0 then 0 else if stK w E F s c r=pw ↥1 - pw F then 5 else if c<pw F then 3 else 1:=by
 unfold stF
 rw [if_neg ⋯]
theorem F9 (g:pw ↥1 - pw F<=c):stF w E F s c r=5:=by
 unfold stF
 rw [if_pos g]
end
end EV
namespace EV
open PySem
variable {E F s s' c c':Int}
def sx (s s':Int):Int:=if s=s' then 0 else 1
theorem Jv:0<=sx s s'/\sx s s'<=1:=by unfold sx;split<;>decide
theorem Ju (hs:0<=s/\s<=1) (hs':0<=s'/\s'<=1):qK (.int s) (.int s')=.ok (.int (sx s s')):=by
 rcases (by omega:s=0\/s=1) with e | e<;>rcases (by omega:s'=0\/s'=1) with e' | e'<;>subst e e'<;>rfl
theorem fZ (h:Sz E F) (c0:0<=c) (c1:c<pw ↥1):(kindS E (c / pw F) (c%pw F)=Str.ofString "none"↔pw ↥1 - pw F<c)/\(kindS E (c / pw F) (c%pw F)=Str.ofString "endless"↔c=pw ↥1 - pw F)/\(kindS E (c / pw F) (c%pw F)=Str.ofString "nought"↔c=0):=by
 have h5:=bh h
 have hQ:=ag F
 obtain ⟨a,b,d,f⟩:=wU h c0 c1
 have n1:Str.ofString "none"≠Str.ofString "endless":=by decide
 have n2:Str.ofString "none"≠Str.ofString "nought":=by decide
 have n3:Str.ofString "endless"≠Str.ofString "nought":=by decide
 have n4:Str.ofString "faint"≠Str.ofString "none"/\Str.ofString "faint"≠Str.ofString "endless"/\Str.ofString "faint"≠Str.ofString "nought":=by decide
 have n5:Str.ofString "plain"≠Str.ofString "none"/\Str.ofString "plain"≠Str.ofString "endless"/\Str.ofString "plain"≠Str.ofString "nought":=by decide
 by_cases g1:pw ↥1 - pw F<c
 ·rw [a g1];exact ⟨⟨fun _=>g1,fun _=>rfl⟩,⟨fun z=>absurd z n1,fun z=>⋯⟩,⟨fun z=>absurd z n2,fun z=>⋯⟩⟩
 by_cases g2:c=pw ↥1 - pw F
 ·rw [b g2];exact ⟨⟨fun z=>absurd z.symm n1,fun z=>⋯⟩,⟨fun _=>g2,fun _=>rfl⟩,⟨fun z=>absurd z n3,fun z=>⋯⟩⟩
 by_cases g3:c=0
 ·rw [d g3];exact ⟨⟨fun z=>absurd z.symm n2,fun z=>⋯⟩,⟨fun z=>absurd z.symm n3,fun z=>⋯⟩,⟨fun _=>g3,fun _=>rfl⟩⟩
 ·rcases f ⋯ ⋯ with e | e<;>rw [e]
  ·exact ⟨⟨fun z=>absurd z n4.1,fun z=>⋯⟩,⟨fun z=>absurd z n4.2.1,fun z=>⋯⟩,⟨fun z=>absurd z n4.2.2,fun z=>⋯⟩⟩
  ·exact ⟨⟨fun z=>absurd z n5.1,fun z=>⋯⟩,⟨fun z=>absurd z n5.2.1,fun z=>⋯⟩,⟨fun z=>absurd z n5.2.2,fun z=>⋯⟩⟩
end EV
namespace EV
theorem gm:∀ bs:List Int,D.flats (bs.map D.int)=true
 | []=>rfl
 | b::bs=>by
  rw [List.map_cons]
  unfold D.flats
  rw [gm bs]
  rfl
theorem bN {bs:List Int}:dH (bs.map D.int)=.ok (.lst (bs.map D.int)):=by
 unfold dH
 rw [if_pos (gm bs)]
theorem xA (f:α->β) (xs:List α) (lo hi:Option Int):EV.cut (xs.map f) lo hi=(EV.cut xs lo hi).map f:=by
 unfold EV.cut
 rw [List.length_map,List.map_take,List.map_drop]
theorem xB (xs:List α) (lo hi:Option Int):(EV.cut xs lo hi).length<=xs.length:=by
 unfold EV.cut
 rw [List.length_take,List.length_drop]
 omega
theorem vx:∀ bs:List Int,(bs.map D.int).all D.sc=true
 | []=>rfl
 | b::bs=>by rw [List.map_cons,List.all_cons,vx bs];rfl
theorem any_ints (x:Int):∀ bs:List Int,((bs.map D.int).any fun y=>D.beq y (.int x))=decide (x∈bs)
 | []=>rfl
 | b::bs=>by
  rw [List.map_cons,List.any_cons,any_ints x bs]
  unfold D.beq
  by_cases h:b=x
  ·subst h;simp
  ·have:¬ x=b:=fun z=>h z.symm
   simp [h,this]
theorem du {x:Int} {bs:List Int}:oIn (.int x) (.lst (bs.map D.int))=.ok (.bl (decide (x∈bs))):=by
 unfold oIn isIn
 simp only [D.sc,vx,Bool.and_self,if_true,any_ints]
theorem kQ:∀ bs:List Int,D.beqs (bs.map D.int) (bs.map D.int)=true
 | []=>rfl
 | b::bs=>by
  rw [List.map_cons]
  unfold D.beqs D.beq
  rw [kQ bs]
  simp
theorem qD:∀ bs:List Int,(bs.map D.int).all (D.pl n)=true
 | []=>rfl
 | b::bs=>by rw [List.map_cons,List.all_cons,qD bs];cases n<;>rfl
theorem sC {bs:List Int}:oNe (.lst (bs.map D.int)) (.lst (bs.map D.int))=.ok ↥33:=by
 have p:D.pl 8 (.lst (bs.map D.int))=true:=by
  unfold D.pl
  exact qD bs
 unfold oNe D.cmp
 rw [p]
 unfold D.beq
 rw [kQ]
 rfl
theorem zG {bs:List Int} {k:Int} (h0:0<=k) (h1:k<bs.length):oIx (.lst (bs.map D.int)) (.int k)=.ok (.int (bs.getD k.toNat 0)):=by
 obtain ⟨j,rfl⟩:=Int.eq_ofNat_of_zero_le h0
 have hj:j<bs.length:=⋯
 refine jc ?_
 simp [List.getElem?_map,List.getElem?_eq_getElem hj,List.getD_eq_getElem?_getD]
theorem ka:∀ {ds:List D},(∀ d∈ds,st d=.ok (o d))->runC st ds=.ok (ds.filterMap o)
 | [],_=>rfl
 | d::ds,h=>by
  unfold runC
  rw [h d (.head _),ka fun d hd=>h d (.tail _ hd),List.filterMap_cons]
  cases o d<;>rfl
end EV
namespace EV
open PySem
abbrev Tm:=Int×Int×Int
def tD (t:Tm):D:=.tup [.int t.1,.int t.2.1,.int t.2.2]
def tv (q:Int) (t:Tm):Int:=if t.1=1 then -(t.2.1*pw (t.2.2 - q)) else t.2.1*pw (t.2.2 - q)
def d3 (q:Int):List Tm->Int
 | []=>0
 | t::r=>tv q t+d3 q r
def kC:List Tm->Int
 | []=>0
 | t::r=>(r.map (·.2.2)).foldl min t.2.2
def Bu (t:Tm):Prop:=0<=t.2.1/\nb t.2.1<=1000 /\ -200000<=t.2.2/\t.2.2<=200000
theorem fold_min:∀ (l:List Int) (a:Int),l.foldl min a<=a/\(∀ x∈l,l.foldl min a<=x)/\(l.foldl min a=a\/l.foldl min a∈l)
 | [],a=>⟨Int.le_refl _,fun x hx=>(nomatch hx),.inl rfl⟩
 | b::l,a=>by
  obtain ⟨h1,h2,h3⟩:=fold_min l (min a b)
  rw [List.foldl_cons]
  refine ⟨⋯,fun x hx => ?_,?_⟩
  ·rcases List.mem_cons.mp hx with e | hx
   ·subst e;omega
   ·exact h2 x hx
  ·rcases h3 with e | e
   ·rw [e]
    by_cases g:a<=b
    ·exact .inl ⋯
    ·exact .inr (List.mem_cons.mpr (.inl ⋯))
   ·exact .inr (.tail _ e)
theorem qN (h:t∈ts):kC ts<=t.2.2:=by
 cases ts with
 | nil=>cases h
 | cons a r =>
  obtain ⟨h1,h2,_⟩:=fold_min (r.map (·.2.2)) a.2.2
  rcases List.mem_cons.mp h with e | h
  ·subst e;exact h1
  ·exact h2 _ (List.mem_map.mpr ⟨t,h,rfl⟩)
theorem sQ (hn:ts≠[]):∃ t∈ts,kC ts=t.2.2:=by
 cases ts with
 | nil=>exact absurd rfl hn
 | cons x r =>
  obtain ⟨_,_,h3⟩:=fold_min (r.map (·.2.2)) x.2.2
  rcases h3 with e | e
  ·exact ⟨x,.head _,e⟩
  ·obtain ⟨t,ht,e'⟩:=List.mem_map.mp e
   exact ⟨t,.tail _ ht,e'.symm⟩
theorem qO (h0:a<=0/\0<=b) (h:∀ t∈ts,a<=t.2.2/\t.2.2<=b):a<=kC ts/\kC ts<=b:=by
 by_cases g:ts=[]
 ·subst g;exact h0
 ·obtain ⟨t,ht,e⟩:=sQ g
  rw [e]
  exact h t ht
theorem wG (hn:ts≠[]) (h:∀ t∈ts,a<=t.2.2):a<=kC ts:=by
 obtain ⟨t,ht,e⟩:=sQ hn
 rw [e]
 exact h t ht
theorem rV (hq:q<=p) (hp:p<=t.2.2):tv q t=tv p t*pw (p - q):=by
 have e:pw (t.2.2 - q)=pw (t.2.2 - p)*pw (p - q):=by rw [<- bU ⋯ ⋯];congr 1;omega
 unfold tv
 split
 ·rw [e,Int.neg_mul,Int.mul_assoc]
 ·rw [e,Int.mul_assoc]
theorem ou (hq:q<=p):∀ {ts:List Tm},(∀ t∈ts,p<=t.2.2)->d3 q ts=d3 p ts*pw (p - q)
 | [],_=>by unfold d3;rw [Int.zero_mul]
 | t::r,h=>by
  unfold d3
  rw [rV hq (h t (.head _)),ou hq fun t ht=>h t (.tail _ ht),Int.add_mul]
theorem vk (h:∀ t∈ts,q<=t.2.2):d3 q ts=d3 (kC ts) ts*pw (kC ts - q):=by
 cases ts with
 | nil=>unfold d3;rw [Int.zero_mul]
 | cons t r=>exact ou (wG (by simp) h) fun t ht=>qN ht
theorem ints_of:∀ ns:List Int,intsOf (ns.map D.int)=some ns
 | []=>rfl
 | n::r=>by
  rw [List.map_cons]
  show (intsOf (r.map D.int)).map (n::·)=_
  rw [ints_of r]
  rfl
theorem wH:nW 0 [.lst ((ts.map (·.2.2)).map D.int)]=.ok (.int (kC ts)):=by
 unfold nW
 simp only [ints_of]
 cases ts with
 | nil=>rfl
 | cons t r=>rfl
theorem m7 {st:D->R (Option D)} {f:Tm->Int} {ts:List Tm} (h:∀ t∈ts,st (tD t)=.ok (some (.int (f t)))):runC st (ts.map tD)=.ok ((ts.map f).map D.int):=by
 induction ts with
 | nil=>rfl
 | cons t r ih =>
  rw [List.map_cons]
  unfold runC
  rw [h t (.head _),ih fun t ht=>h t (.tail _ ht)]
  rfl
theorem Ak (hq:q<=0) (hp:q<=p):frT w p*pw (-q)=w*pw (p - q)*frB p:=by
 unfold frT frB
 split
 ·rw [Int.mul_one,Int.mul_assoc,<-bU ⋯ ⋯]
  congr 2
 ·rw [Int.mul_assoc,<-bU ⋯ ⋯]
  congr 2
  omega
theorem DQ [Decidable P]:nb (if P then -x else x)=nb x:=by
 split
 ·exact sO x
 ·rfl
theorem AX:∀ {ts:List Tm},(∀ t∈ts,Bu t/\p<=t.2.2/\t.2.2 - p<=450000)->nb (d3 p ts)<=451001+ts.length
 | [],_=>by unfold d3;decide
 | t::r,h=>by
  obtain ⟨⟨a1,a2,a3,a4⟩,a5,a6⟩:=h t (.head _)
  have ih:=AX (p:=p) (ts:=r) fun t ht=>h t (.tail _ ht)
  have b1:nb (t.2.1*pw (t.2.2 - p))<=451001:=by
   have:=ja a2 (gM (k:=t.2.2 - p) (c:=450000) ⋯)
   omega
  have b2:nb (tv p t)<=451001:=by
   unfold tv
   split
   ·rw [sO];exact b1
   ·exact b1
  unfold d3
  rw [List.length_cons]
  exact Nat.le_trans (sP b2 ih) ⋯
def wt (E F s c:Int):Tm:=(s,wh F (c / pw F) (c%pw F),po E F (c / pw F))
theorem u9 {E F s c:Int} (h:Sz E F) (c0:0<=c) (c1:c<pw ↥1 - pw F):Bu (wt E F s c)/\lo E F<=(wt E F s c).2.2/\(wt E F s c).2.2<=20000:=by
 have hQ:=ag F
 obtain ⟨b1,b2,b3,b4⟩:=aD (s:=0) (c:=c) h ↥3 c0 ⋯
 have n:=BS h b1
 have i:=JH h b1
 rw [b3] at n i
 rw [b4] at n
 have g:=GF (E:=E) (F:=F) c0
 have r0:=Int.emod_nonneg c (show pw F≠0 by omega)
 have d1:=(vc h c0 ⋯).1
 have hE:=dM h
 have l:=jD h
 obtain ⟨k1,k2,k3,k4⟩:=id h
 have hp1:=ag (E - 1)
 have x1 : -200000<=po E F (c / pw F):=⋯
 have x2:po E F (c / pw F)<=200000:=⋯
 refine ⟨⟨?_,Nat.le_trans n ↥3,x1,x2⟩,g,?_⟩
 ·show 0<=wh F (c / pw F) (c%pw F)
  unfold wh
  split<;>omega
 ·show po E F (c / pw F)<=20000
  have:=(vc h c0 (show c<pw ↥1 by omega)).2
  unfold po lo
  have hE1:=gK (F:=E) (by have:=h.1;omega)
  have hE2:=kf h
  split<;>omega
theorem IM {E F s c:Int} (c0:0<=c):tv (lo E F) (wt E F s c)=if s=1 then -(vl F c) else vl F c:=by
 unfold tv wt
 simp only
 rw [yz]
def xD:Tm ⊕ Int->D
 | .inl t=>tD t
 | .inr s=>.tup [.int s,.non,.int 0]
def me (xs:List (Tm ⊕ Int)):List Int:=xs.filterMap fun x=>match x with | .inl _=>none | .inr s=>some s
def nI (E F:Int) (x:Int×Int):Int:=x.1*pw ↥1+x.2
def tU (E F:Int) (x:Int×Int):Prop:=(0<=x.1/\x.1<=1)/\0<=x.2/\x.2<pw ↥1
def xt (E F:Int) (x:Int×Int):Tm ⊕ Int:=if x.2=pw ↥1 - pw F then .inr x.1 else .inl (wt E F x.1 x.2)
theorem rR {xs:List (Tm ⊕ Int)}:D.flats (xs.map xD)=true:=by
 induction xs with
 | nil=>rfl
 | cons x r ih =>
  rw [List.map_cons]
  show (D.flat (xD x)&&D.flats (r.map xD))=true
  rw [ih]
  cases x<;>rfl
def pm (E F:Int) (x y:Int×Int):Tm:=(sx x.1 y.1,wh F (x.2 / pw F) (x.2%pw F)*wh F (y.2 / pw F) (y.2%pw F),po E F (x.2 / pw F)+po E F (y.2 / pw F))
def pt (E F:Int) (x y:Int×Int):Tm ⊕ Int:=if x.2=pw ↥1 - pw F\/y.2=pw ↥1 - pw F then .inr (sx x.1 y.1) else .inl (pm E F x y)
theorem JI {E F:Int} (h:Sz E F) (c0:0<=x.2) (c1:x.2<pw ↥1 - pw F) (d0:0<=y.2) (d1:y.2<pw ↥1 - pw F):Bu (pm E F x y)/\2*lo E F<=(pm E F x y).2.2/\(pm E F x y).2.2<=40000:=by
 obtain ⟨⟨a1,a2,a3,a4⟩,a5,a6⟩:=u9 (s:=0) h c0 c1
 obtain ⟨⟨b1,b2,b3,b4⟩,b5,b6⟩:=u9 (s:=0) h d0 d1
 have hQ:=ag F
 obtain ⟨x1,x2,x3,x4⟩:=aD (s:=0) (c:=x.2) h ↥3 c0 ⋯
 have n:=BS h x1
 rw [x3,x4] at n
 obtain ⟨y1,y2,y3,y4⟩:=aD (s:=0) (c:=y.2) h ↥3 d0 ⋯
 have n':=BS h y1
 rw [y3,y4] at n'
 have l:=jD h
 unfold wt at *
 simp only at *
 unfold pm
 refine ⟨⟨Int.mul_nonneg a1 b1,Nat.le_trans (ja n n') ↥3,?_,?_⟩,?_,?_⟩<;>simp only<;>omega
def pD (E F:Int) (p:↥35×↥35):D:=.tup [.int (nI E F p.1),.int (nI E F p.2)]
def Nc (w:Wy) (E F X U sg x y:Int):Prop:=(X=0->x=sg*pw ↥1/\y=0)/\(X≠0->∃ k r,x=(if X<0 then 1 else 0)*pw ↥1+stK w E F (if X<0 then 1 else 0) k r/\y=stF w E F (if X<0 then 1 else 0) k r/\At F (if X<0 then -X else X) U k r)
theorem qM {X V:Int} (hV:0<V):(X*V<0↔X<0):=by
 constructor
 ·intro g
  refine Classical.byContradiction fun g' => ?_
  have:=Int.mul_nonneg (show 0<=X by omega) (Int.le_of_lt hV)
  omega
 ·exact fun g=>Int.mul_neg_of_neg_of_pos g hV
def fl (ps:List (↥35×↥35)):List ↥35:=ps.flatMap fun p=>[p.1,p.2]
theorem sY:z∈fl ps↔∃ p∈ps,z=p.1\/z=p.2:=by
 unfold fl
 rw [List.mem_flatMap]
 constructor
 ·rintro ⟨p,m,hz⟩
  refine ⟨p,m,?_⟩
  simpa using hz
 ·rintro ⟨p,m,hz⟩
  exact ⟨p,m,by simpa using hz⟩
theorem xk:∀ ps:List (↥35×↥35),(fl ps).length=2*ps.length
 | []=>rfl
 | p::r=>by
  show ([p.1,p.2]++fl r).length=_
  rw [List.length_append,xk r,List.length_cons]
  simp
  omega
def ptp (E F:Int) (p:↥35×↥35):Tm ⊕ Int:=pt E F p.1 p.2
def fts (E F:Int) (ps:List (↥35×↥35)) (xs:List ↥35):List Tm:=ps.map (fun p=>pm E F p.1 p.2)++xs.map (fun x=>wt E F x.1 x.2)
section
variable {E F:Int} {ps:List (↥35×↥35)} {xs:List ↥35}
theorem IG (m:p∈ps):p.1∈xs++fl ps:=List.mem_append.mpr (.inr (sY.mpr ⟨p,m,.inl rfl⟩))
theorem IE (m:p∈ps):p.2∈xs++fl ps:=List.mem_append.mpr (.inr (sY.mpr ⟨p,m,.inr rfl⟩))
theorem HH (h:Sz E F) (hx:∀ x∈xs++fl ps,tU E F x) (hf:∀ x∈xs++fl ps,x.2<pw ↥1 - pw F):∀ t∈fts E F ps xs,Bu t/\2*lo E F<=t.2.2:=fun t ht=>by
 have l:=jD h
 rcases List.mem_append.mp ht with m | m
 ·obtain ⟨p,m',rfl⟩:=List.mem_map.mp m
  clear m
  rename p∈ps=>m
  obtain ⟨a,b,c⟩:=JI (x:=p.1) (y:=p.2) h (hx _ (IG m)).2.1 (hf _ (IG m)) (hx _ (IE m)).2.1 (hf _ (IE m))
  exact ⟨a,b⟩
 ·obtain ⟨x,m',rfl⟩:=List.mem_map.mp m
  clear m
  rename x∈xs=>m
  have mm:x∈xs++fl ps:=List.mem_append.mpr (.inl m)
  obtain ⟨a,b,c⟩:=u9 (s:=x.1) h (hx _ mm).2.1 (hf _ mm)
  exact ⟨a,⋯⟩
theorem HG (hf:∀ x∈xs++fl ps,x.2<pw ↥1 - pw F):(ps.map (ptp E F)++xs.map (xt E F)).map xD=(fts E F ps xs).map tD:=by
 unfold fts
 rw [List.map_append,List.map_append,List.map_map,List.map_map,List.map_map,List.map_map]
 congr 1
 ·refine List.map_congr_left fun p m => ?_
  have a:=hf _ (IG m)
  have b:=hf _ (IE m)
  show xD (ptp E F p)=tD (pm E F p.1 p.2)
  unfold ptp pt
  rw [if_neg ⋯]
  rfl
 ·refine List.map_congr_left fun x m => ?_
  have a:=hf _ (List.mem_append.mpr (.inl m))
  show xD (xt E F x)=tD (wt E F x.1 x.2)
  unfold xt
  rw [if_neg ⋯]
  rfl
theorem xf:(fts E F ps xs).length=ps.length+xs.length:=by
 unfold fts
 rw [List.length_append,List.length_map,List.length_map]
theorem AR (h:Sz E F) (c0:0<=c):tv (2*lo E F) (wt E F s c)=(if s=1 then -(vl F c) else vl F c)*pw (-(lo E F)):=by
 have l:=jD h
 have g:lo E F<=(wt E F s c).2.2:=GF (E:=E) (F:=F) c0
 rw [rV (p:=lo E F) (q:=2*lo E F) ⋯ g,IM c0]
 congr 2
 omega
theorem Gy (h:Sz E F):pw (-(2*lo E F))=pw (-(lo E F))*pw (-(lo E F)):=by
 have l:=jD h
 rw [<- bU ⋯ ⋯]
 congr 1
 omega
end
def nsg (w:Wy) (bs:List Int):Int:=if 0∈bs/\1∈bs then (if w.s=PySem.Str.ofString "down" then 1 else 0) else if 1∈bs then 1 else 0
theorem Hg (w:Wy) (bs:List Int):0<=nsg w bs/\nsg w bs<=1:=by
 unfold nsg
 split
 ·split<;>decide
 ·split<;>decide
theorem DK (hs:0<=s/\s<=1) (hs':0<=s'/\s'<=1):nsg w [s,s']=if s'=s then s else if w.s=PySem.Str.ofString "down" then 1 else 0:=by
 unfold nsg
 rcases (by omega:s=0\/s=1) with g | g<;>rcases (by omega:s'=0\/s'=1) with g' | g'<;>subst g g'<;>simp
def E7 (w:Wy) (E F s c s' c' x y:Int):Prop :=
 if pw ↥1 - pw F<c\/pw ↥1 - pw F<c' then x=pw ↥1 - pw F+pw (F - 1)/\y=0
 else if c=pw ↥1 - pw F then (if c'=pw ↥1 - pw F/\¬ s=s' then x=pw ↥1 - pw F+pw (F - 1)/\y=16 else x=s*pw ↥1+↥24/\y=0)
 else if c'=pw ↥1 - pw F then x=s'*pw ↥1+↥24/\y=0
 else Nc w E F ((if s=1 then -(vl F c) else vl F c)+(if s'=1 then -(vl F c') else vl F c')) 1 (if s'=s then s else if w.s=PySem.Str.ofString "down" then 1 else 0) x y
end EV
namespace EV
open PySem
end EV
namespace T
open EV
theorem CK (c:Int):bY [.int c]=.ok (.tup [.int (szE c),.int (szF c)]):=by
 unfold bY cO
 by_cases h:c%8<4
 ·rcases four (Int.emod_nonneg c ↥3) h with e | e | e | e<;>(simp_arith [e,M5];unfold szE szF;rw [e];rfl)
 ·by_cases h2:c%8<6
  ·simp_arith [h,h2]
   unfold szE szF
   rw [if_neg h,if_pos h2,if_neg h,if_pos h2]
  ·simp_arith [h,h2]
   unfold szE szF
   rw [if_neg h,if_neg h2,if_neg h,if_neg h2]
theorem va (c:Int):∃ w:Wy,cy [.int c]=.ok (.str w.s):=by
 unfold cy dA
 rcases (by omega:c%5=0\/c%5=1\/c%5=2\/c%5=3\/c%5=4) with e | e | e | e | e
 ·exact ⟨.even,by simp_arith [e];rfl⟩
 ·exact ⟨.away,by simp_arith [e];rfl⟩
 ·exact ⟨.nought,by simp_arith [e];rfl⟩
 ·exact ⟨.up,by simp_arith [e,M5];rfl⟩
 ·exact ⟨.down,by simp_arith [e,O0];rfl⟩
theorem pH {E F c:Int} (h:Sz E F) (hc:nb c<=2^20):∃ s u,bc [.tup [.int E,.int F],.int c]=.ok (.int (s*pw ↥1+u))/\(0<=s/\s<=1)/\0<=u/\u<pw ↥1 - pw F:=by
 obtain ⟨k1,k2,k3,k4⟩:=id h
 have hh:=bh h
 have hQ:=lY k3
 have hH:=ag ↥1
 have hE1:2<=pw (E - 1):=lY ⋯
 have eE:=gK (F:=E) ⋯
 have eM:=end_is h
 have hE:=dM h
 have s1:=gp (k:=E+F) ⋯ ⋯
 have s2:=gp (k:=F) ⋯ ⋯
 have s3:=gp (k:=E - 1) ⋯ ⋯
 have s4:=gp (k:=E) ⋯ ⋯
 have n1:nb (pw ↥1)<=128:=gM (c:=127) ⋯
 have c6:nb (c / 6)<=2^20:=l8 ↥3 hc
 have c12:nb (c / 6 / 2)<=2^20:=l8 ↥3 c6
 have c96:nb (c / 6 / 2 / 8)<=2^20:=l8 ↥3 c12
 have L6:6<=pw ↥1 - pw F:=⋯
 have nL:nb ↥24<=128:=Nat.le_trans (iU (j:=pw ↥1) ⋯) n1
 have m2:=aG (MulOk.of (i:=2) (j:=pw ↥1 - pw F) (a:=2) ↥3 nL ↥3)
 have sd:0<=c / 6%2/\c / 6%2<=1:=⋯
 have ms:=aG (dR (t:=pw ↥1) sd.1 sd.2 (Nat.le_trans n1 ↥3))
 unfold bc cg
 by_cases g1:c%6<2
 ·have mm:=aG (MulOk.of (i:=c / 6) (j:=73846150927364518273645509182736455091829) (a:=2^20) (b:=200) c6 ↥3 ↥3)
  have p2:0<2*↥24:=⋯
  have r0:=Int.emod_nonneg (c / 6*73846150927364518273645509182736455091829) (show 2*↥24≠0 by omega)
  have r1:=Int.emod_lt_of_pos (c / 6*73846150927364518273645509182736455091829) p2
  have dv:=gL (i:=c / 6*73846150927364518273645509182736455091829%(2*↥24)) (iM.small (j:=pw ↥1 - pw F) ⋯ ⋯)
  have lp:0<pw ↥1 - pw F:=⋯
  generalize hv:c / 6*73846150927364518273645509182736455091829%(2*↥24)=v at *
  have q0:=Int.ediv_nonneg r0 (Int.le_of_lt lp)
  have q1:v / ↥24<2:=Int.ediv_lt_of_lt_mul lp r1
  have t0:=Int.emod_nonneg v (show pw ↥1 - pw F≠0 by omega)
  have t1:=Int.emod_lt_of_pos v lp
  have mq:=aG (dR (s:=v / ↥24) (t:=pw ↥1) q0 ⋯ (Nat.le_trans n1 ↥3))
  exact ⟨v / ↥24,v%↥24,by simp_arith [s1,s2,g1,mm,m2,p2,hv,dv,lp,mq],⟨q0,⋯⟩,t0,t1⟩
 by_cases g2:c%6=2
 ·exact ⟨c / 6%2,c / 6 / 2%6,by simp_arith [s1,s2,g1,ms,eq_true g2],sd,⋯,⋯⟩
 by_cases g3:c%6=3
 ·refine ⟨c / 6%2,pw ↥1 - pw F - 1 - c / 6 / 2%4,?_,sd,⋯,⋯⟩
  simp_arith [s1,s2,g1,ms,g2,eq_true g3]
  congr 2
  omega
 have hp:pw (E - 1) - 1+1=pw (E - 1):=⋯
 have nm:nb (pw (E - 1) - 1)<=15:=cM ⋯ (by have:=kf h;omega)
 have sm:=au (i:=pw (E - 1) - 1) (j:=F) ⋯ ⋯
 have eL:pw ↥1 - pw F=(pw E - 1)*pw F:=eM.symm
 by_cases g4:c%6=4
 ·have b1:pw F<=(pw (E - 1) - 1)*pw F:=by
   have:=Int.mul_le_mul_of_nonneg_right (show 1<=pw (E - 1) - 1 by omega) (show 0<=pw F by omega)
   omega
  have b2:(pw (E - 1) - 1)*pw F+2*pw F<=pw ↥1 - pw F:=by
   rw [eL,<-Int.add_mul]
   exact Int.mul_le_mul_of_nonneg_right ⋯ ⋯
  refine ⟨c / 6%2,(pw (E - 1) - 1)*pw F - 2+c / 6 / 2%5,?_,sd,⋯,⋯⟩
  simp_arith [s1,s2,s3,g1,ms,g2,g3,eq_true g4,sm]
  congr 2
  omega
 ·have mm:=aG (MulOk.of (i:=c / 6 / 2 / 8) (j:=73846150927364518273645509182736455091829) (a:=2^20) (b:=200) c96 ↥3 ↥3)
  have fp:0<pw F:=⋯
  have r0:=Int.emod_nonneg (c / 6 / 2 / 8*73846150927364518273645509182736455091829) (show pw F≠0 by omega)
  have r1:=Int.emod_lt_of_pos (c / 6 / 2 / 8*73846150927364518273645509182736455091829) fp
  generalize hv:c / 6 / 2 / 8*73846150927364518273645509182736455091829%pw F=v at *
  generalize hy:max 0 (min (pw E - 2) (pw (E - 1) - 1 - 3+c / 6 / 2%8))=y
  have y0:0<=y/\y<=pw E - 2:=⋯
  have ny:nb y<=16:=cM y0.1 ⋯
  have sy:=au (i:=y) (j:=F) ⋯ ⋯
  have f1:0<=y*pw F:=Int.mul_nonneg y0.1 ⋯
  have f2:y*pw F+pw F<=pw ↥1 - pw F:=by
   have:y*pw F+pw F=(y+1)*pw F:=by rw [Int.add_mul,Int.one_mul]
   rw [this,eL]
   exact Int.mul_le_mul_of_nonneg_right ⋯ ⋯
  refine ⟨c / 6%2,y*pw F+v,?_,sd,⋯,⋯⟩
  simp_arith [s1,s2,s3,s4,g1,ms,g2,g3,g4,mm,fp,hv,hy,sy]
  congr 2
  omega
theorem Au {E F b p:Int} (h:Sz E F) (hb:In E F b):∃ x,cZ [.tup [.int E,.int F],.int b,.int p]=.ok (.int x)/\In E F x:=by
 obtain ⟨k1,k2,k3,k4⟩:=id h
 have hh:=bh h
 have hQ:=lY k3
 have hH:=ag ↥1
 have s1:=gp (k:=E+F) ⋯ ⋯
 have s2:=gp (k:=F) ⋯ ⋯
 have n1:nb (pw ↥1)<=128:=gM (c:=127) ⋯
 have dv:∀ i,oDiv (.int i) (.int (pw ↥1))=.ok (.int (i / pw ↥1)):=fun i=>gL (iM.small hH ⋯)
 obtain ⟨s,u,hs,u0,u1,rfl⟩:=mO h hb
 obtain ⟨q1,q2⟩:=gR (E:=E) (F:=F) hs u0 u1
 have ms:=aG (dR (t:=pw ↥1) hs.1 hs.2 (Nat.le_trans n1 ↥3))
 unfold cZ eR
 by_cases g1:0<p/\pw ↥1 - pw F<u
 ·exact ⟨s*pw ↥1+↥24,by simp_arith [s1,s2,hH,q1,q2,dv,ms,eq_true g1.1,eq_true g1.2],(aD (c:=pw ↥1 - pw F) h hs ⋯ ⋯).1⟩
 by_cases g2:1<p/\u=0
 ·refine ⟨s*pw ↥1+(u+1),?_,(aD (c:=u+1) h hs ⋯ ⋯).1⟩
  have g3:¬ pw ↥1 - pw F<u:=⋯
  simp_arith [s1,s2,hH,q1,eq_true g2.1,eq_true g2.2,show 0<p by omega,g3]
  rw [Int.add_assoc]
 ·refine ⟨s*pw ↥1+u,?_,hb⟩
  by_cases a:0<p
  ·have b:¬ pw ↥1 - pw F<u:=fun z=>g1 ⟨a,z⟩
   by_cases c:1<p
   ·have d:¬ u=0:=fun z=>g2 ⟨c,z⟩
    simp_arith [s1,s2,hH,q1,a,b,c,d]
   ·simp_arith [s1,s2,hH,q1,a,b,c]
  ·simp_arith [s1,s2,hH,q1,a,show ¬ 1<p by omega]
theorem JJ {a b c d r:Int} (h0:0<=r) (h1:r<4):oIx (.lst [.int a,.int b,.int c,.int d]) (.int r)=.ok (.int ([a,b,c,d].getD r.toNat 0)):=by
 rcases four h0 h1 with e | e | e | e<;>subst e<;>rfl
theorem uJ {E F c:Int} (h:Sz E F) (hc:nb c<=2^20):bZ [.tup [.int E,.int F],.int c]=.ok (.int (kP E F c)):=by
 obtain ⟨h1,h2,h3,h4⟩:=id h
 have n1:nb (pw ↥1)<=128:=gM (c:=127) ⋯
 have n2:nb (pw E - 1)<=15:=cM (by have:=ag E;omega) (by have:=dM h;omega)
 have n3:nb (pw (E - 1) - 1)<=15:=cM (by have:=ag (E - 1);omega) (by have:=kf h;omega)
 have n4:nb (c / 9 / 2 / 4%pw E)<=15:=cM (Int.emod_nonneg _ (by have:=ag E;omega)) (by have:=dM h;have:=Int.emod_lt_of_pos (c / 9 / 2 / 4) (ag E);omega)
 have n5:=ON hc (k:=9) ↥3
 have m1:MulOk (c / 9) 73846150927364518273645509182736455091829:=by walk_at "mul"
 have m2:MulOk 2 (pw ↥1):=by walk_at "mul"
 have m3:MulOk (c / 9%2) (pw ↥1):=dR ⋯ ⋯ (Nat.le_trans n1 ↥3)
 have q1:=lY h3
 have q2:=ag ↥1
 have pk:=JJ (a:=0) (b:=1) (c:=pw F - 1) (d:=pw (F - 1)) (r:=c / 9 / 2%4) ⋯ ⋯
 unfold bZ cQ
 simp_arith [gp (k:=E+F) ⋯ ⋯,gp (k:=E) ⋯ ⋯,gp (k:=F) ⋯ ⋯,gp (k:=E - 1) ⋯ ⋯,gp (k:=F - 1) ⋯ ⋯,
  au (i:=pw E - 1) (j:=F) ⋯ ⋯,au (i:=pw (E - 1) - 1) (j:=F) ⋯ ⋯,au (i:=c / 9 / 2 / 4%pw E) (j:=F) ⋯ ⋯,aG m1,aG m2,aG m3,show 0<2*pw ↥1 by omega,show 0<pw F - 1 by omega,ag,pk]
 unfold kP
 by_cases g0:c%9<3
 ·simp only [if_pos g0]
 by_cases g1:c%9=3
 ·simp only [if_neg g0,if_pos g1]
 by_cases g2:c%9=4
 ·simp only [if_neg g0,if_neg g1,if_pos g2]
 by_cases g3:c%9=5
 ·simp only [if_neg g0,if_neg g1,if_neg g2,if_pos g3]
 by_cases g4:c%9=6
 ·simp only [if_neg g0,if_neg g1,if_neg g2,if_neg g3,if_pos g4]
 by_cases g5:c%9=7
 ·simp only [if_neg g0,if_neg g1,if_neg g2,if_neg g3,if_neg g4,if_pos g5]
 simp only [if_neg g0,if_neg g1,if_neg g2,if_neg g3,if_neg g4,if_neg g5]
theorem vB {E F q:Int} {cs:List Int} (h:Sz E F) (hl:cs.length<=63) (hc:∀ c∈cs,nb c<=2^20) :
  ∃ bs:List Int,cz [.tup [.int E,.int F],.lst (cs.map .int),.int q]=.ok (.lst (bs.map .int))/\(∀ b∈bs,In E F b)/\bs.length<=200:=by
 obtain ⟨k1,k2,k3,k4⟩:=id h
 have hH:=ag ↥1
 have hw:=qk h
 have s1:=gp (k:=E+F) ⋯ ⋯
 have n1:nb (pw ↥1)<=128:=gM (c:=127) ⋯
 have m2:=aG (MulOk.of (i:=2) (j:=pw ↥1) (a:=2) ↥3 n1 ↥3)
 have p2:0<2*pw ↥1:=⋯
 have inE:∀ x:Int,In E F (x%(2*pw ↥1)):=fun x=>by
  have a:=Int.emod_nonneg x (show 2*pw ↥1≠0 by omega)
  have b:=Int.emod_lt_of_pos x p2
  refine ⟨a,?_⟩
  omega
 have fli:∀ i:Int,D.flat (.int i)=true:=fun _=>rfl
 unfold cz dB
 generalize hbody:Ac _ _ _=body
 have loop:∀ (l:List Int),(∀ c∈l,nb c<=2^20)->∀ (bs:List Int) (z:Option D),(∀ b∈bs,In E F b)->bs.length+l.length<=63->(z=none\/∃ c,z=some (.int c))->∃ (bs':List Int) (z':Option D),forL 5 body (l.map D.int) [some ↥11,some (.lst (cs.map .int)),some (.int q),some (.int (pw ↥1)),some (.own (bs.map .int)),z]=.nx [some ↥11,some (.lst (cs.map .int)),some (.int q),some (.int (pw ↥1)),some (.own (bs'.map .int)),z']/\(∀ b∈bs',In E F b)/\bs'.length<=63/\(z'=none\/∃ c,z'=some (.int c)):=fun l=>by
  induction l with
  | nil=>exact fun _ bs z ok hl hz=>⟨bs,z,rfl,ok,by simpa using hl,hz⟩
  | cons c r ih =>
   intro hc bs z ok hl hz
   rw [List.length_cons] at hl
   have n7:nb (c / 7)<=2^20:=l8 ↥3 (hc c (.head _))
   have next:∀ b:Int,In E F b->body [some ↥11,some (.lst (cs.map .int)),some (.int q),some (.int (pw ↥1)),some (.own (bs.map .int)),some (.int c)]=.nx [some ↥11,some (.lst (cs.map .int)),some (.int q),some (.int (pw ↥1)),some (.own (bs.map .int++[.int b])),some (.int c)]->∃ (bs':List Int) (z':Option D),forL 5 body ((c::r).map D.int) [some ↥11,some (.lst (cs.map .int)),some (.int q),some (.int (pw ↥1)),some (.own (bs.map .int)),z]=.nx [some ↥11,some (.lst (cs.map .int)),some (.int q),some (.int (pw ↥1)),some (.own (bs'.map .int)),z']/\(∀ b∈bs',In E F b)/\bs'.length<=63/\(z'=none\/∃ c,z'=some (.int c)):=fun b hb e=>by
    obtain ⟨bs',z',e',h1,h2,h3⟩:=ih (fun c m=>hc c (.tail _ m)) (bs++[b]) (some (.int c)) (fun u hu=>by
     rcases List.mem_append.mp hu with m | m
     ·exact ok u m
     ·rcases List.mem_cons.mp m with q | q
      ·subst q;exact hb
      ·cases q) (by rw [List.length_append];simp;omega) (.inr ⟨c,rfl⟩)
    refine ⟨bs',z',?_,h1,h2,h3⟩
    rw [List.map_append,List.map_cons,List.map_nil] at e'
    rw [List.map_cons,cj]
    show trn (body [some ↥11,some (.lst (cs.map .int)),some (.int q),some (.int (pw ↥1)),some (.own (bs.map .int)),some (.int c)]) _=_
    rw [e,AU]
    exact e'
   have lt:(bs.map D.int).length<100000:=by rw [List.length_map];omega
   subst hbody
   by_cases g1:c%7=6/\0<(bs.length:Int)
   ·have ix:∃ b,oIx (.lst (bs.map D.int)) (.int (-1))=.ok (.int b):=by
     have hb:bs.length - 1<bs.length:=⋯
     refine ⟨bs[bs.length - 1],?_⟩
     have e0:ixN (bs.map D.int).length (-1)=some (bs.length - 1):=by
      unfold ixN
      rw [List.length_map,if_neg ↥3,if_pos ⋯]
      congr 1
      omega
     unfold oIx
     simp only [e0]
     rw [Option.bind_some,List.getElem?_map,List.getElem?_eq_getElem hb]
     rfl
    obtain ⟨b,ix⟩:=ix
    refine next _ (inE (b+pw ↥1)) ?_
    simp_arith [List.length_map,eq_true g1.1,eq_true g1.2,ix,m2,p2,fH (fli _) lt]
   ·have cond:(decide (c%7=6)&&decide (0<(bs.length:Int)))=false:=by rw [<- Bool.decide_and,decide_eq_false g1]
    by_cases g2:q%3=0
    ·obtain ⟨s,u,e,hs,u0,u1⟩:=pH h n7
     have hQ:=ag F
     refine next _ (aD (c:=u) h hs u0 ⋯).1 ?_
     by_cases g3:c%7=6
     ·simp_arith [List.length_map,eq_true g3,show ¬ 0<(bs.length:Int) from fun z=>g1 ⟨g3,z⟩,eq_true g2,e,fH (fli _) lt]
     ·simp_arith [List.length_map,g3,eq_true g2,e,fH (fli _) lt]
    ·have e:=uJ h n7
     have hb:In E F (kP E F (c / 7)):=Ew _ h
     generalize kP E F (c / 7)=b at *
     obtain ⟨x,e',hx⟩:=Au (p:=q%3%2) h hb
     refine next _ hx ?_
     by_cases g3:c%7=6
     ·simp_arith [List.length_map,eq_true g3,show ¬ 0<(bs.length:Int) from fun z=>g1 ⟨g3,z⟩,g2,e,e',fH (fli _) lt]
     ·simp_arith [List.length_map,g3,g2,e,e',fH (fli _) lt]
 obtain ⟨bs,z,e,ok,lt,hz⟩:=loop cs hc [] none (fun b m=>nomatch m) (by simpa using hl) (.inl rfl)
 rw [List.map_nil] at e
 have k0:0<=1+q / 3%3/\1+q / 3%3<=3:=⋯
 generalize hk:1+q / 3%3=k at *
 have rep:Be (.lst (bs.map D.int)) (.int k)=.ok (.lst ((List.replicate k.toNat bs).flatten.map D.int)):=by
  unfold Be
  simp only
  have:bs.length*k.toNat<=63*3:=Nat.mul_le_mul lt ⋯
  rw [if_pos ⟨⋯,⋯,by rw [List.length_map];omega⟩]
  congr 2
  rw [List.map_flatten,List.map_replicate]
 refine ⟨EV.cut (List.replicate k.toNat bs).flatten none (some 200),?_,fun b m => ?_,?_⟩
 ·rw [<- xA]
  simp_arith [s1,List.length_map,show cs.length<=100000 by omega,e,hk,rep]
 ·have m:=xx m
  obtain ⟨l,hl,hb⟩:=List.mem_flatten.mp m
  rw [List.eq_of_mem_replicate hl] at hb
  exact ok b hb
 ·have:=xB (List.replicate k.toNat bs).flatten none (some 200)
  have l2:(List.replicate k.toNat bs).flatten.length=k.toNat*bs.length:=by simp
  have:k.toNat*bs.length<=3*63:=Nat.mul_le_mul ⋯ lt
  omega
theorem cV (w:Wy):bp [.str w.s]=.ok (t4 w):=by
 have h:gB (.str w.s) (.tup [.str "even",.str "away",.str "nought",.str "up",.str "down"])=.ok ↥33:=by
  show gB (.str w.s) (.tup (yw.map D.str))=_
  rw [qH]
  cases w<;>rfl
 unfold bp jT
 simp_arith [h]
 rfl
theorem j5 {E F:Int} (h:Sz E F):bK [.tup [.int E,.int F]]=.ok (.int (pw ↥1)):=by
 obtain ⟨h1,h2,h3,h4⟩:=h
 unfold bK f9
 simp_arith [gp (k:=E+F) ⋯ ⋯]
theorem yv {E F:Int}:kj [.tup [.int E,.int F]]=.ok (.int (E+F+1)):=by
 unfold kj nF
 simp_arith []
theorem hW {E F b:Int} (h:Sz E F) (hb:In E F b):bq [.tup [.int E,.int F],.int b]=.ok (.tup [.int (sgn E F b),.int (fld E F b),.int (fig F b)]):=by
 obtain ⟨h1,h2,h3,h4⟩:=id h
 obtain ⟨hb0,hb1⟩:=hb
 have d1:iM b (pw ↥1):=⟨ag _,.inl (Nat.le_trans (gM (c:=127) ⋯) ↥3)⟩
 have d2:iM (b%pw ↥1) (pw F):=⟨ag _,.inl (Nat.le_trans (gM (c:=127) ⋯) ↥3)⟩
 have e0:b / pw ↥1=sgn E F b:=by unfold sgn;rw [bU ⋯ ⋯,part0 (ag _) (ag _)]
 have e1:b%pw ↥1 / pw F=fld E F b:=by unfold fld;rw [bU ⋯ ⋯,part1 (ag _) (ag _)]
 have e2:b%pw ↥1%pw F=fig F b:=by unfold fig;rw [bU ⋯ ⋯,part2]
 unfold bq jW
 simp_arith [yv,j5 h,gp (k:=E+F+1) ⋯ ⋯,gp (k:=F) ⋯ ⋯,show ¬ b<0 by omega,show ¬ pw (E+F+1)<=b by omega,gL d1,gL d2,ag,e0,e1,e2]
theorem nM {E F:Int} {bs:List Int} (h:Sz E F) (hl:bs.length<=1000) (hb:∀ b∈bs,In E F b):cC [.tup [.int E,.int F],.lst (bs.map .int)]=.ok .non:=by
 have loop:∀ (cs:List Int),(∀ b∈cs,In E F b)->∀ (l:D) (z:Option D),∃ z',forL 2 (expr (call bq [var 0,var 2])) (cs.map D.int) [some ↥11,some (.lst (bs.map .int)),z]=.nx [some ↥11,some (.lst (bs.map .int)),z']:=fun cs=>by
  induction cs with
  | nil=>exact fun _ _ z=>⟨z,rfl⟩
  | cons c r ih =>
   intro hc l z
   obtain ⟨z',e⟩:=ih (fun b m=>hc b (.tail _ m)) l (some (.int c))
   refine ⟨z',?_⟩
   have p:=hW h (hc c (.head _))
   rw [List.map_cons,cj]
   simp_arith [p,e]
 obtain ⟨z,e⟩:=loop bs hb .non none
 unfold cC dD
 simp_arith [e]
theorem eD {E F:Int} (h:Sz E F):aP [.tup [.int E,.int F]]=.ok (.int (pw E - 1)):=by
 obtain ⟨h1,h2,h3,h4⟩:=h
 unfold aP dC
 simp_arith [gp (k:=E) ⋯ ⋯]
theorem wR {E F b:Int} (h:Sz E F) (hb:In E F b):de [.tup [.int E,.int F],.int b]=.ok (.str (kindS E (fld E F b) (fig F b))):=by
 unfold de sU
 simp_arith [hW h hb,eD h]
 unfold kindS
 (repeat' split)<;>first | rfl | contradiction
theorem xY {E F:Int} {bs:List Int} {f:Int->PySem.Str} (hl:bs.length<=1000) (hf:∀ b∈bs,de [.tup [.int E,.int F],.int b]=.ok (.str (f b))) :
  dP [.tup [.int E,.int F],.lst (bs.map .int)]=.ok (.bl (decide (PySem.Str.ofString "none"∈bs.map f))):=by
 have st:∀ b∈bs,stC (con ↥34) (call de [var 1,var 0]) [0] [some ↥11,some (.lst (bs.map .int)),none] (.int b)=.ok (some (.str (f b))):=fun b hb=>by
  unfold stC inC
  simp_arith [List.getD_cons_zero,hf b hb]
  unfold oh
  simp_arith []
 have rc:∀ (l:List Int),(∀ b∈l,b∈bs)->runC (stC (con ↥34) (call de [var 1,var 0]) [0] [some ↥11,some (.lst (bs.map .int)),none]) (l.map .int)=.ok ((l.map f).map D.str):=fun l=>by
  induction l with
  | nil=>exact fun _=>rfl
  | cons b r ih =>
   intro h
   rw [List.map_cons]
   unfold runC
   rw [st b (h b (.head _)),ih fun x hx=>h x (.tail _ hx)]
   rfl
 have fr:∀ l:List PySem.Str,D.flats (l.map D.str)=true:=fun l=>by
  induction l with
  | nil=>rfl
  | cons a r ih =>
   rw [List.map_cons]
   show (D.flat (.str a)&&D.flats (r.map D.str))=true
   rw [ih]
   rfl
 have fr':dH ((bs.map f).map D.str)=.ok (.lst ((bs.map f).map D.str)):=by unfold dH;rw [if_pos (fr _)]
 have i1:oIn (.str (PySem.Str.ofString "none")) (.lst ((bs.map f).map D.str))=.ok (.bl (decide (PySem.Str.ofString "none"∈bs.map f))):=by
  have sc:∀ l:List PySem.Str,(l.map D.str).all D.sc=true:=fun l=>by
   induction l with
   | nil=>rfl
   | cons a r ih=>rw [List.map_cons,List.all_cons,ih];rfl
  have an:∀ l:List PySem.Str,((l.map D.str).any fun y=>D.beq y (.str (PySem.Str.ofString "none")))=decide (PySem.Str.ofString "none"∈l):=fun l=>by
   induction l with
   | nil=>rfl
   | cons a r ih =>
    rw [List.map_cons,List.any_cons,ih]
    show (decide (a=PySem.Str.ofString "none")||_)=_
    by_cases g:a=PySem.Str.ofString "none"
    ·rw [g];simp
    ·by_cases g':PySem.Str.ofString "none"∈r
     ·simp [g,g']
     ·simp [g,g',Ne.symm g,eq_comm]
  unfold oIn isIn
  simp only [D.sc,sc,Bool.and_self,if_true,an]
 have pb:∀ (a c:Option D) (ds:List D),pub 2 [a,c,some (.own ds)]=[a,c,some (.lst ds)]:=fun _ _ _=>rfl
 unfold dP gj
 simp_arith [List.length_map,show bs.length<=100000 by omega,rc bs (fun _ h=>h),fr',i1,fA,AV,C1,pb,view]
theorem dJ {s w p:Int} (hw:nb w<=1000000) (hp : -1000000<=p/\p<=1000000):aV [.tup [.int s,.int w,.int p]]=.ok (.tup [.int s,.int (frT w p),.int (frB p)]):=by
 unfold aV bE
 by_cases g:0<=p
 ·simp_arith [g,au (i:=w) (j:=p) g ⋯,frT,frB]
 ·simp_arith [g,gp (k := -p) ⋯ ⋯,frT,frB]
theorem tj {t n:Int} (ht:0<=t) (hn:0<n):aX [.int t,.int n]=.ok .non:=by
 unfold aX bG
 simp_arith [show ¬ t<0 by omega,show ¬ n<1 by omega]
theorem j7 {t n p:Int} (h1:nb t<=10000000) (h2:nb n<=10000000) (h3 : -10000000<=p) (h4:p<=10000000):eB [.int t,.int n,.int p]=.ok (.tup [.int (jZ p t),.int (gC p n)]):=by
 unfold eB jV jZ gC
 by_cases g:0<=p
 ·simp_arith [g,au (i:=n) (j:=p) g ⋯,a9 (p := -p) ⋯,Int.mul_one]
 ·simp_arith [g,au (i:=t) (j := -p) ⋯ ⋯,a9 (p:=p) ⋯,Int.mul_one]
theorem EA {E F:Int} (h:Sz E F):oP [.tup [.int E,.int F]]=.ok (.int (pw (E - 1) - 1)):=by
 obtain ⟨h1,h2,h3,h4⟩:=h
 unfold oP sV
 simp_arith [gp (k:=E - 1) ⋯ ⋯]
theorem jb {E F:Int} (h:Sz E F):ko [.tup [.int E,.int F]]=.ok (.int (lo E F)):=by
 have e:1 - (pw (E - 1) - 1) - F=lo E F:=by unfold lo;omega
 unfold ko Ai
 simp_arith [EA h,e]
theorem qz {o a m:Int}:aW [.int o,.int a,.int m]=.ok (.int (if o=0 then 0 else if a<m then 1 else if a=m then 2 else 3)):=by
 unfold aW bF
 simp_arith []
theorem rest_of_ok {o s:Int} (h:nb o<=100000000):fw [.int o,.int s]=.ok (.int (rst o s)):=by
 have m:MulOk 2 o:=by walk_at "mul"
 unfold fw ik
 simp_arith [aG m,qz]
 rfl
theorem xa {t n:Int} (h1:nb t<=1000000) (h2:nb n<=1000000):hX [.int t,.int n]=.ok (.int (hgt t n)):=by
 have e:(jZ ((nb t:Int) - nb n) t<gC ((nb t:Int) - nb n) n)=Lt t n ((nb t:Int) - nb n):=rfl
 unfold hX jX hgt
 by_cases g:Lt t n ((nb t:Int) - nb n)
 ·simp_arith [j7 (t:=t) (n:=n) (p:=(nb t:Int) - nb n) ⋯ ⋯ ⋯ ⋯,e,g]
 ·simp_arith [j7 (t:=t) (n:=n) (p:=(nb t:Int) - nb n) ⋯ ⋯ ⋯ ⋯,e,g]
theorem Ar {E F n:Int} (h:Sz E F) (hn:0<n):qF [.tup [.int E,.int F],.int 0,.int n]=.ok (.tup [.int 0,.int (lo E F),.int 0]):=by
 unfold qF xc
 simp_arith [tj (Int.le_refl 0) hn,jb h]
theorem HX {E F t n:Int} (h:Sz E F) (ht:0<t) (hn:0<n) (h1:nb t<=1000000) (h2:nb n<=1000000) :
  qF [.tup [.int E,.int F],.int t,.int n]=.ok (.tup [.int (jZ ↥22 t / gC ↥22 n),.int ↥22,.int (rst (jZ ↥22 t%gC ↥22 n) (gC ↥22 n))]):=by
 obtain ⟨s1,s2,s3,s4⟩:=nK h ht hn
 have l:=jD h
 have hB:=jY (p:=mf E F t n) hn
 have hA:=ro (p:=mf E F t n) (Int.le_of_lt ht)
 have d:=Hk h hA hB s3
 have eP:max (lo E F) (hgt t n - F - 1)=mf E F t n:=rfl
 have nB:nb (gC ↥22 n)<=3000000:=by
  have:=ja h2 (gM (k:=mf E F t n) (c:=1000000) ⋯)
  unfold gC;omega
 have nr:nb (jZ ↥22 t%gC ↥22 n)<=3000000:=Bg hB nB
 unfold qF xc
 simp_arith [tj (Int.le_of_lt ht) hn,show ¬ t=0 by omega,jb h,xa h1 h2,eP,j7 (t:=t) (n:=n) (p:=mf E F t n) ⋯ ⋯ ⋯ ⋯,gL d,hB,rest_of_ok (o:=jZ ↥22 t%gC ↥22 n) (s:=gC ↥22 n) ⋯]
theorem bO {E F:Int} (h:Sz E F):bg [.tup [.int E,.int F]]=.ok (.int ((pw E - 1)*pw F)):=by
 obtain ⟨h1,h2,h3,h4⟩:=id h
 have hb:nb (pw E)<=16:=gM (c:=15) ⋯
 have hb2:nb (pw E - 1)<=17:=by walk_at "nbk"
 unfold bg ir
 simp_arith [eD h,au (i:=pw E - 1) (j:=F) ⋯ ⋯]
theorem cX {E F s c:Int} (h:Sz E F) (hs:0<=s/\s<=1):bV [.tup [.int E,.int F],.int s,.int c]=.ok (.int ↥32):=by
 have n1:nb (pw ↥1)<=128:=gM (c:=127) (by have:=h.2.1;have:=h.2.2.2;omega)
 unfold bV jU
 simp_arith [j5 h,aG (dR hs.1 hs.2 (Nat.le_trans n1 ↥3))]
theorem wK {E F c k:Int} (h:Sz E F):cx [.tup [.int E,.int F],.int c,.int k]=.ok (.int (if k=pw ↥1 - pw F then 5 else if c<pw F then 3 else 1)):=by
 obtain ⟨h1,h2,h3,h4⟩:=id h
 unfold cx dz
 simp_arith [bO h,end_is h,gp (k:=F) ⋯ ⋯]
theorem sX (w:Wy) (s:Int):aJ [t4 w,.int s]=.ok (.bl (w.out s)):=by
 unfold aJ aQ t4
 cases w<;>simp_arith [Wy.s,Wy.out]
theorem sT (w:Wy) (s r:Int) (o:Bool) (h:¬ r=0):eC [t4 w,.int s,.bl o,.int r]=.ok (.bl (w.grw s o r)):=by
 have f:=sX w s
 have hm:dU "Way" "flees_nought" (t4 w)=true:=rfl
 unfold eC df
 have nm:("flees_nought" != "name")=true:=by decide
 have e1:uS "Way" "name" (t4 w)=.ok (.str w.s):=rfl
 unfold t4 at *
 cases w
 ·by_cases g:r=3
  ·simp_arith [h,Wy.s,eq_true g]
   simp [Wy.grw,g]
  ·by_cases g2:r=2
   ·simp_arith [h,Wy.s,g,eq_true g2]
    simp [Wy.grw,g2]
   ·simp_arith [h,Wy.s,g,g2]
    simp [Wy.grw,g,g2]
 ·simp_arith [h,Wy.s]
  rfl
 ·simp only [Wy.s] at f
  simp_arith [h,Wy.s,nm,f]
  rfl
 ·simp only [Wy.s] at f
  simp_arith [h,Wy.s,nm,f]
  rfl
 ·simp only [Wy.s] at f
  simp_arith [h,Wy.s,nm,f]
  rfl
theorem pN (w:Wy) (s:Int):dt [t4 w,.int s]=.ok (.bl (w.brs s)):=by
 have f:=sX w s
 have nm:("flees_nought" != "name")=true:=by decide
 have e2:∀ x:PySem.Str,oIn (.str x) (.tup [.str "even",.str "away"])=.ok (.bl (decide ((PySem.Str.ofString "even")=x\/(PySem.Str.ofString "away")=x))):=fun x=>nk
 unfold dt cD
 unfold t4 at *
 cases w
 ·simp_arith [Wy.s,e2]
  rfl
 ·simp_arith [Wy.s,e2]
  rfl
 ·simp only [Wy.s] at f
  simp_arith [Wy.s,e2,nm,f]
  rfl
 ·simp only [Wy.s] at f
  simp_arith [Wy.s,e2,nm,f]
  rfl
 ·simp only [Wy.s] at f
  simp_arith [Wy.s,e2,nm,f]
  rfl
theorem lV {E F s x P r:Int} (w:Wy) (h:Sz E F) (hs:0<=s/\s<=1) (hP:lo E F<=P) (hP2:P<=10000000) (hx:0<=x) :
  ft [.tup [.int E,.int F],.str w.s,.int s,.int x,.int P,.int r]=.ok (.tup [.int (s*pw ↥1+stK w E F s (codeOf E F P x) r),.int (stF w E F s (codeOf E F P x) r)]):=by
 obtain ⟨h1,h2,h3,h4⟩:=id h
 have l:=jD h
 have n1:nb (P - lo E F)<=64:=cM ⋯ ⋯
 have c0:0<=codeOf E F P x:=by
  have:=Int.mul_nonneg (show 0<=P - lo E F by omega) (Int.le_of_lt (ag F))
  unfold codeOf;omega
 have ec:(P - lo E F)*pw F+x=codeOf E F P x:=rfl
 have mb:dU "Way" "bursts" (t4 w)=true:=rfl
 have mg:dU "Way" "grows" (t4 w)=true:=rfl
 have vw:∀ (a b c d e f:Option D) (l:Dt),var 6 (a::b::c::d::e::f::some (t4 w)::l)=.ok (t4 w):=fun _ _ _ _ _ _ _=>rfl
 unfold ft ij stF stK
 by_cases g:pw ↥1 - pw F<=codeOf E F P x
 ·cases gb:w.brs s
  ·simp_arith [cV w,jb h,au (i:=P - lo E F) (j:=F) ⋯ ⋯,ec,bO h,end_is h,g,vw,mb,pN w s,gb,cX h hs]
  ·simp_arith [cV w,jb h,au (i:=P - lo E F) (j:=F) ⋯ ⋯,ec,bO h,end_is h,g,vw,mb,pN w s,gb,cX h hs]
 ·by_cases gr:r=0
  ·simp_arith [cV w,jb h,au (i:=P - lo E F) (j:=F) ⋯ ⋯,ec,bO h,end_is h,g,eq_true gr,cX h hs]
  ·cases gg:w.grw s (decide (codeOf E F P x%2=1)) r
   ·simp_arith [cV w,jb h,au (i:=P - lo E F) (j:=F) ⋯ ⋯,ec,bO h,end_is h,g,gr,vw,mg,pd c0,sT w s r _ gr,gg,cX h hs,wK h]
   ·simp_arith [cV w,jb h,au (i:=P - lo E F) (j:=F) ⋯ ⋯,ec,bO h,end_is h,g,gr,vw,mg,pd c0,sT w s r _ gr,gg,cX h hs,wK h]
theorem uh {E F s t n:Int} (w:Wy) (h:Sz E F) (hs:0<=s/\s<=1) (ht:0<t) (hn:0<n) (h1:nb t<=1000000) (h2:nb n<=1000000) :
  bW [.tup [.int E,.int F],.str w.s,.int s,.int t,.int n]=.ok (.tup [.int (s*pw ↥1+stK w E F s (codeOf E F ↥22 (jZ ↥22 t / gC ↥22 n)) (rst (jZ ↥22 t%gC ↥22 n) (gC ↥22 n))),.int (stF w E F s (codeOf E F ↥22 (jZ ↥22 t / gC ↥22 n)) (rst (jZ ↥22 t%gC ↥22 n) (gC ↥22 n)))]):=by
 obtain ⟨s1,s2,s3,s4⟩:=nK h ht hn
 unfold bW fD
 simp_arith [cV w,HX h ht hn h1 h2,lV w h hs s1 ⋯ (Int.ediv_nonneg (ro (p:=mf E F t n) (Int.le_of_lt ht)) (Int.le_of_lt (jY (p:=mf E F t n) hn)))]
theorem oI {E F s n:Int} (w:Wy) (h:Sz E F) (hs:0<=s/\s<=1) (hn:0<n):bW [.tup [.int E,.int F],.str w.s,.int s,.int 0,.int n]=.ok (.tup [.int (s*pw ↥1),.int 0]):=by
 have l:=jD h
 have h5:=bh h
 have hQ:=ag F
 have e0:codeOf E F (lo E F) 0=0:=by unfold codeOf;rw [Int.sub_self,Int.zero_mul];rfl
 have e:=lV (s:=s) (x:=0) (P:=lo E F) (r:=0) w h hs (Int.le_refl _) ⋯ (Int.le_refl 0)
 rw [e0,show stK w E F s 0 0=0 by unfold stK;rw [if_neg ⋯,if_pos rfl],show stF w E F s 0 0=0 by unfold stF;rw [if_neg ⋯,if_pos rfl],Int.add_zero] at e
 unfold bW fD
 simp_arith [cV w,Ar h hn,e]
theorem ui {E F t n:Int} (h:Sz E F) (ht:0<=t) (hn:0<n) (n1:nb t<=1000000) (n2:nb n<=1000000) :
  ∃ c r,(∀ (w:Wy) (s:Int),0<=s/\s<=1->bW [.tup [.int E,.int F],.str w.s,.int s,.int t,.int n]=.ok (.tup [.int (s*pw ↥1+stK w E F s c r),.int (stF w E F s c r)]))/\0<=c/\vl F c*n<=t*pw (-(lo E F))/\t*pw (-(lo E F))<vl F (c+1)*n/\og F (t*pw (-(lo E F))) n c r:=by
 have l:=jD h
 have h5:=bh h
 have hQ:=ag F
 by_cases g:t=0
 ·subst g
  refine ⟨0,0,fun w s hs => ?_,Int.le_refl 0,?_,?_,.inl ⟨rfl,?_⟩⟩
  ·rw [oI w h hs hn,show stK w E F s 0 0=0 by unfold stK;rw [if_neg ⋯,if_pos rfl],show stF w E F s 0 0=0 by unfold stF;rw [if_neg ⋯,if_pos rfl],Int.add_zero]
  ·rw [qm,Int.zero_mul,Int.zero_mul];exact Int.le_refl 0
  ·rw [Int.zero_mul]
   have:=Fp (F:=F) (c:=0) (c':=0+1) (Int.le_refl 0) ↥3
   rw [qm] at this
   exact Int.mul_pos this hn
  ·rw [qm,Int.zero_mul,Int.zero_mul]
 have ht':0<t:=⋯
 obtain ⟨s1,s2,s3,s4⟩:=nK h ht' hn
 have hB:=jY (p:=mf E F t n) hn
 have hA:=ro (p:=mf E F t n) ht
 have w0:0<=jZ ↥22 t / gC ↥22 n:=Int.ediv_nonneg hA (Int.le_of_lt hB)
 have w1:jZ ↥22 t / gC ↥22 n<2*pw F:=Int.ediv_lt_of_lt_mul hB s3
 have w2:lo E F<mf E F t n->pw F<=jZ ↥22 t / gC ↥22 n:=fun q=>Int.le_ediv_of_mul_le hB (s4 q)
 have l0:=Int.emod_nonneg (jZ ↥22 t) (show gC ↥22 n≠0 by omega)
 have l1:=Int.emod_lt_of_pos (jZ ↥22 t) hB
 have b:=between h hn s1 w0 w1 w2 l0 l1 (Int.ediv_mul_add_emod _ _).symm
 have c0:=(j0 h s1 w0 w1 w2).1
 exact ⟨_,_,fun w s hs=>uh w h hs ht' hn n1 n2,c0,b.1,b.2.1,zX b l0⟩
theorem vC {E F t n:Int} (h:Sz E F) (ht:0<=t) (hn:0<n) (n1:nb t<=1000000) (n2:nb n<=1000000) :
  ∃ c r,(∀ (w:Wy) (s:Int),0<=s/\s<=1->bW [.tup [.int E,.int F],.str w.s,.int s,.int t,.int n]=.ok (.tup [.int (s*pw ↥1+stK w E F s c r),.int (stF w E F s c r)]))/\At F (t*pw (-(lo E F))) n c r:=by
 obtain ⟨c,r,e,x⟩:=ui h ht hn n1 n2
 exact ⟨c,r,e,x⟩
theorem iN {l:List D} {p:Int}:∀ {ts:List Tm} {acc:Int} {z3 z4:Option D},(∀ t∈ts,Bu t/\p<=t.2.2/\t.2.2 - p<=450000) ->
  ∃ z3' z4',forL 3 (seq (assign 4 (bin bD (bin oIx (var 3) ⇑1) (bin cu (bin oIx (var 3) ⇑2) (var 1)))) (assign 2 (ife (bin oEq (bin oIx (var 3) ⇑0) ⇑1) (bin cu (var 2) (var 4)) (bin bu (var 2) (var 4))))) (ts.map tD) [some (.lst l),some (.int p),some (.int acc),z3,z4]=.nx [some (.lst l),some (.int p),some (.int (acc+d3 p ts)),z3',z4']
 | [],acc,z3,z4,_=>⟨z3,z4,by rw [List.map_nil,sW,show d3 p []=0 from rfl,Int.add_zero]⟩
 | t::r,acc,z3,z4,h=>by
  obtain ⟨⟨a1,a2,a3,a4⟩,a5,a6⟩:=h t (.head _)
  have sh:=au (i:=t.2.1) (j:=t.2.2 - p) ⋯ ⋯
  by_cases g:t.1=1
  ·obtain ⟨z3',z4',ih⟩:=iN (l:=l) (p:=p) (ts:=r) (acc:=acc - t.2.1*pw (t.2.2 - p)) (z3:=some (tD t)) (z4:=some (.int (t.2.1*pw (t.2.2 - p)))) fun t ht=>h t (.tail _ ht)
   refine ⟨z3',z4',?_⟩
   have e:d3 p (t::r) = -(t.2.1*pw (t.2.2 - p))+d3 p r:=by
    show tv p t+_=_
    unfold tv
    rw [if_pos g]
   rw [e,List.map_cons,cj]
   unfold tD at ih ⊢
   simp_arith [sh,eq_true g,ih]
   rw [Int.sub_eq_add_neg,Int.add_assoc]
  ·obtain ⟨z3',z4',ih⟩:=iN (l:=l) (p:=p) (ts:=r) (acc:=acc+t.2.1*pw (t.2.2 - p)) (z3:=some (tD t)) (z4:=some (.int (t.2.1*pw (t.2.2 - p)))) fun t ht=>h t (.tail _ ht)
   refine ⟨z3',z4',?_⟩
   have e:d3 p (t::r)=t.2.1*pw (t.2.2 - p)+d3 p r:=by
    show tv p t+_=_
    unfold tv
    rw [if_neg g]
   rw [e,List.map_cons,cj]
   unfold tD at ih ⊢
   simp_arith [sh,g,ih]
   rw [Int.add_assoc]
theorem rY {ts:List Tm} (hl:ts.length<=100000) (h:∀ t∈ts,Bu t):km [.lst (ts.map tD)]=.ok (.tup [.int (if d3 (kC ts) ts<0 then 1 else 0),.int (if d3 (kC ts) ts<0 then -(d3 (kC ts) ts) else d3 (kC ts) ts),.int (kC ts)]):=by
 have st:∀ δ,∀ t∈ts,stC (con ↥34) (bin oIx (var 0) ⇑2) [] δ (tD t)=.ok (some (.int t.2.2)):=fun δ t _=>by
  unfold stC inC tD
  simp_arith [List.map_nil]
  unfold oh
  simp_arith []
 have hb:=qO (ts:=ts) (a := -200000) (b:=200000) ↥3 fun t ht=>⟨(h t ht).2.2.1,(h t ht).2.2.2⟩
 obtain ⟨z3',z4',e⟩:=iN (l:=ts.map tD) (p:=kC ts) (ts:=ts) (acc:=0) (z3:=none) (z4:=none) fun t ht=>⟨h t ht,qN ht,by have:=(h t ht).2.2.2;omega⟩
 rw [Int.zero_add] at e
 unfold km nG
 by_cases g:d3 (kC ts) ts<0
 ·simp_arith [List.length_map,hl,m7 (st _),bN,wH,e,g]
 ·simp_arith [List.length_map,hl,m7 (st _),bN,wH,e,g]
theorem wc (w:Wy) (bs:List Int):bX [.str w.s,.lst (bs.map .int)]=.ok (.int (nsg w bs)):=by
 unfold bX cN nsg
 by_cases g0:(0:Int)∈bs
 ·by_cases g1:(1:Int)∈bs
  ·by_cases gd:w.s=PySem.Str.ofString "down"
   ·simp_arith [cV w,du,g0,g1,eq_true gd]
   ·simp_arith [cV w,du,g0,g1,gd]
  ·simp_arith [cV w,du,g0,g1]
 ·by_cases g1:(1:Int)∈bs
  ·simp_arith [cV w,du,g0,g1]
  ·simp_arith [cV w,du,g0,g1]
theorem yX {δ:Dt} {ts:List Tm}:∀ t∈ts,stC (con ↥34) ↥13 [] δ (tD t)=.ok (some (.int t.1)):=fun t _=>by
 unfold stC inC tD
 simp_arith [List.map_nil]
 unfold oh
 simp_arith []
theorem gS {E F:Int} {ts:List Tm} (w:Wy) (h:Sz E F) (hl:ts.length<=1000) (hts:∀ t∈ts,Bu t) (z:d3 (kC ts) ts=0) :
  ax [.tup [.int E,.int F],.str w.s,.lst (ts.map tD)]=.ok (.tup [.int (nsg w (ts.map (·.1))*pw ↥1),.int 0]):=by
 have hb:=qO (ts:=ts) (a := -200000) (b:=200000) ↥3 fun t ht=>⟨(hts t ht).2.2.1,(hts t ht).2.2.2⟩
 have to:=rY ⋯ hts
 rw [z,if_neg ↥3,if_neg ↥3] at to
 have wf:=dJ (s:=0) (w:=0) (p:=kC ts) ↥3 ⟨⋯,⋯⟩
 have f0:frT 0 (kC ts)=0:=by
  unfold frT
  split
  ·exact Int.zero_mul _
  ·rfl
 rw [f0] at wf
 have sg:=cX (c:=0) h (Hg w (ts.map (·.1)))
 rw [Int.add_zero] at sg
 unfold ax bj
 simp_arith [to,wf,List.length_map,show ts.length<=100000 by omega,m7 yX,bN,wc,sg]
theorem jx {E F q:Int} {ts:List Tm} (h:Sz E F) (hl:ts.length<=1000) (hts:∀ t∈ts,Bu t) (hq:q<=0) (hp:∀ t∈ts,q<=t.2.2) (z:d3 q ts≠0) :
  ∃ c r,(∀ w:Wy,ax [.tup [.int E,.int F],.str w.s,.lst (ts.map tD)]=.ok (.tup [.int ((if d3 q ts<0 then 1 else 0)*pw ↥1+stK w E F (if d3 q ts<0 then 1 else 0) c r),.int (stF w E F (if d3 q ts<0 then 1 else 0) c r)]))/\At F ((if d3 q ts<0 then -(d3 q ts) else d3 q ts)*pw (-(lo E F))) (pw (-q)) c r:=by
 have hb:=qO (ts:=ts) (a := -200000) (b:=200000) ↥3 fun t ht=>⟨(hts t ht).2.2.1,(hts t ht).2.2.2⟩
 have to:=rY ⋯ hts
 have es:=vk hp
 have hq':q<=kC ts:=by
  cases ts with
  | nil=>exact absurd rfl z
  | cons t r=>exact wG (by simp) hp
 have nS:=AX (p:=kC ts) fun t ht=>⟨hts t ht,qN ht,by have:=(hts t ht).2.2.2;omega⟩
 generalize kC ts=p at *
 have pp:=ag (p - q)
 generalize hS:d3 p ts=S at *
 have ez:(d3 q ts<0↔S<0):=by
  rw [es]
  constructor
  ·intro g
   refine Classical.byContradiction fun g' => ?_
   have:=Int.mul_nonneg (show 0<=S by omega) (Int.le_of_lt pp)
   omega
  ·exact fun g=>Int.mul_neg_of_neg_of_pos g pp
 have ea:(if d3 q ts<0 then -(d3 q ts) else d3 q ts)=(if S<0 then -S else S)*pw (p - q):=by
  by_cases g:S<0
  ·rw [if_pos (ez.mpr g),if_pos g,es,Int.neg_mul]
  ·rw [if_neg (fun y=>g (ez.mp y)),if_neg g,es]
 have eg:(if d3 q ts<0 then (1:Int) else 0)=if S<0 then 1 else 0:=by
  by_cases g:S<0
  ·rw [if_pos (ez.mpr g),if_pos g]
  ·rw [if_neg (fun y=>g (ez.mp y)),if_neg g]
 rw [ea,eg]
 have S0:S≠0:=fun y=>z (by rw [es,y,Int.zero_mul])
 have hg:(0:Int)<=(if S<0 then 1 else 0)/\(if S<0 then (1:Int) else 0)<=1:=by split<;>decide
 have nA:nb (if S<0 then -S else S)<=460000:=by
  split
  ·rw [sO];omega
  ·omega
 have A0:0<(if S<0 then -S else S):=by split<;>omega
 generalize (if S<0 then -S else S)=A at *
 generalize (if S<0 then (1:Int) else 0)=g at *
 have wf:=dJ (s:=g) (w:=A) (p:=p) ⋯ ⟨⋯,⋯⟩
 have hn:0<frB p:=by
  unfold frB
  split
  ·decide
  ·exact ag _
 have ht:0<frT A p:=by
  unfold frT
  split
  ·exact Int.mul_pos A0 (ag _)
  ·exact A0
 have n1:nb (frT A p)<=1000000:=by
  unfold frT
  split
  ·have:=ja nA (gM (k:=p) (c:=200000) ⋯)
   omega
  ·omega
 have n2:nb (frB p)<=1000000:=by
  unfold frB
  split
  ·decide
  ·exact Nat.le_trans (gM (c:=200000) ⋯) ↥3
 obtain ⟨c,r,e,a⟩:=vC h (Int.le_of_lt ht) hn n1 n2
 refine ⟨c,r,fun w => ?_,EK hn (ag _) ?_ a⟩
 ·unfold ax bj
  simp_arith [to,wf,show ¬ frT A p=0 by omega,e w g hg]
 ·have u:=Ak (w:=A) hq hq'
  have e1:A*pw (p - q)*pw (-(lo E F))*frB p=A*pw (p - q)*frB p*pw (-(lo E F)):=by ac_rfl
  have e2:frT A p*pw (-(lo E F))*pw (-q)=frT A p*pw (-q)*pw (-(lo E F)):=by ac_rfl
  rw [e1,e2,u]
theorem i9 {E F:Int} (h:Sz E F):bb [.tup [.int E,.int F]]=.ok (.int ((pw E - 1)*pw F+pw (F - 1))):=by
 obtain ⟨h1,h2,h3,h4⟩:=id h
 unfold bb eI
 simp_arith [bO h,gp (k:=F - 1) ⋯ ⋯]
theorem rZ {δ:Dt} (x:Tm ⊕ Int):stC (un qJ ↥4) ↥13 [] δ (xD x)=.ok (match x with | .inl _=>none | .inr s=>some (.int s)):=by
 cases x with
 | inl t =>
  unfold stC inC xD tD
  simp_arith [List.map_nil]
  unfold oh
  simp_arith []
 | inr s =>
  unfold stC inC xD
  simp_arith [List.map_nil]
  unfold oh
  simp_arith []
theorem iP {E F:Int} {ts:List Tm} (w:Wy) (hl:ts.length<=1000):aF [.tup [.int E,.int F],.str w.s,.lst (ts.map tD)]=ax [.tup [.int E,.int F],.str w.s,.lst (ts.map tD)]:=by
 have rc:∀ δ,runC (stC (un qJ ↥4) ↥13 [] δ) (ts.map tD)=.ok []:=fun δ=>by
  rw [ka (o:=fun _=>none) fun d hd=>by
   obtain ⟨t,_,rfl⟩:=List.mem_map.mp hd
   exact rZ (.inl t)]
  rw [List.filterMap_eq_nil_iff.mpr fun _ _=>rfl]
 have fr:dH []=.ok (.lst []):=rfl
 have pb:∀ (a b c:Option D) (ds:List D),pub 3 [a,b,c,some (.own ds)]=[a,b,c,some (.lst ds)]:=fun _ _ _ _=>rfl
 have i0:∀ x:Int,oIn (.int x) (.lst [])=.ok ↥33:=fun _=>rfl
 unfold aF bo
 generalize hr:ax [.tup [.int E,.int F],.str w.s,.lst (ts.map tD)]=r
 cases r with
 | ok d=>simp_arith [List.length_map,show ts.length<=100000 by omega,rc,fr,pb,i0,hr]
 | ex C=>simp_arith [List.length_map,show ts.length<=100000 by omega,rc,fr,pb,i0,hr]
 | bad =>
  simp_arith [List.length_map,show ts.length<=100000 by omega,rc,fr,pb,i0,hr]
  rfl
theorem iO {E F:Int} {xs:List (Tm ⊕ Int)} (w:Wy) (h:Sz E F) (hl:xs.length<=1000) (hs:∀ s∈me xs,0<=s/\s<=1) (hn:me xs≠[]) :
  aF [.tup [.int E,.int F],.str w.s,.lst (xs.map xD)]=.ok (if 0∈me xs/\1∈me xs then .tup [.int (pw ↥1 - pw F+pw (F - 1)),.int 16] else .tup [.int ((me xs).getD 0 0*pw ↥1+↥24),.int 0]):=by
 have rc:∀ δ,runC (stC (un qJ ↥4) ↥13 [] δ) (xs.map xD)=.ok ((me xs).map D.int):=fun δ=>by
  clear hs hn hl
  induction xs with
  | nil=>rfl
  | cons x r ih =>
   rw [List.map_cons]
   unfold runC
   rw [rZ,ih]
   cases x<;>rfl
 have pb:∀ (a b c:Option D) (ds:List D),pub 3 [a,b,c,some (.own ds)]=[a,b,c,some (.lst ds)]:=fun _ _ _ _=>rfl
 have l1:xs.length<=100000:=⋯
 have ee:=bO h
 have e2:=i9 h
 rw [end_is h] at ee e2
 generalize me xs=es at *
 have lp:0<(es.length:Int):=by
  cases es with
  | nil=>exact absurd rfl hn
  | cons a r=>simp only [List.length_cons];omega
 have ix:=zG (bs:=es) (k:=0) (Int.le_refl 0) lp
 have hm:es.getD (0:Int).toNat 0∈es:=by
  have lt:0<es.length:=⋯
  show es.getD 0 0∈es
  rw [List.getD_eq_getElem?_getD,List.getElem?_eq_getElem lt]
  exact List.getElem_mem lt
 have sg:=cX (c:=pw ↥1 - pw F) h (hs _ hm)
 have e0:es.getD (0:Int).toNat 0=es.getD 0 0:=rfl
 rw [e0] at ix sg
 unfold aF bo
 by_cases g:0∈es/\1∈es
 ·rw [if_pos g]
  simp_arith [List.length_map,l1,rc,bN,pb,du,eq_true g,eq_true g.1,eq_true g.2,e2]
 ·rw [if_neg g]
  by_cases g0:0∈es
  ·have g1:¬ 1∈es:=fun z=>g ⟨g0,z⟩
   simp_arith [List.length_map,l1,rc,bN,pb,du,eq_true g0,g1,lp,ix,ee,sg]
  ·simp_arith [List.length_map,l1,rc,bN,pb,du,g0,lp,ix,ee,sg]
theorem yu {E F b:Int} (h:Sz E F) (hb:In E F b) (hf:¬ fld E F b=pw E - 1):ki [.tup [.int E,.int F],.int b]=.ok (.tup [.int (sgn E F b),.int (wh F (fld E F b) (fig F b)),.int (po E F (fld E F b))]):=by
 obtain ⟨h1,h2,h3,h4⟩:=id h
 unfold ki nD
 simp_arith [hW h hb,eD h,jb h,hf,gp (k:=F) ⋯ ⋯]
 unfold wh po
 by_cases g:fld E F b=0
 ·simp only [if_pos g]
 ·simp only [if_neg g]
theorem nq {E F s c:Int} (h:Sz E F) (hs:0<=s/\s<=1) (c0:0<=c) (c1:c<pw ↥1):de [.tup [.int E,.int F],.int ↥32]=.ok (.str (kindS E (c / pw F) (c%pw F))):=by
 obtain ⟨b1,b2,b3,b4⟩:=aD h hs c0 c1
 have:=wR h b1
 rw [b3,b4] at this
 exact this
theorem v5 {E F s c:Int} (h:Sz E F) (hs:0<=s/\s<=1) (c0:0<=c) (c1:c<pw ↥1):bq [.tup [.int E,.int F],.int ↥32]=.ok (.tup [.int s,.int (c / pw F),.int (c%pw F)]):=by
 obtain ⟨b1,b2,b3,b4⟩:=aD h hs c0 c1
 have:=hW h b1
 rw [b2,b3,b4] at this
 exact this
theorem ky {E F s c:Int} (h:Sz E F) (hs:0<=s/\s<=1) (c0:0<=c) (c1:c<pw ↥1 - pw F):az [.tup [.int E,.int F],.int ↥32]=.ok (tD (wt E F s c)):=by
 have hQ:=ag F
 obtain ⟨b1,b2,b3,b4⟩:=aD (c:=c) h hs c0 ⋯
 have wo:=yu h b1 (by rw [b3];intro z;have:=(sR h c0 ⋯).mp z;omega)
 rw [b2,b3,b4] at wo
 have k:=(fZ (c:=c) h c0 ⋯).2.1
 have kk:=nq (c:=c) h hs c0 ⋯
 have g:¬ kindS E (c / pw F) (c%pw F)=PySem.Str.ofString "endless":=fun z=>by have:=k.mp z;omega
 unfold az cc tD wt
 simp_arith [kk,g,wo]
theorem kz {E F s c:Int} (h:Sz E F) (hs:0<=s/\s<=1) (c0:c=pw ↥1 - pw F):az [.tup [.int E,.int F],.int ↥32]=.ok (.tup [.int s,.non,.int 0]):=by
 have hQ:=ag F
 have h5:=bh h
 have k:=(fZ (c:=c) h ⋯ ⋯).2.1
 have kk:=nq (c:=c) h hs ⋯ ⋯
 have pp:=v5 (c:=c) h hs ⋯ ⋯
 unfold az cc
 simp_arith [kk,eq_true (k.mpr c0),pp]
theorem BQ {E F:Int} {x:Int×Int} (h:Sz E F) (hx:tU E F x) (hn:x.2<=pw ↥1 - pw F):az [.tup [.int E,.int F],.int (nI E F x)]=.ok (xD (xt E F x)):=by
 obtain ⟨a,b,c⟩:=hx
 unfold xt nI
 by_cases g:x.2=pw ↥1 - pw F
 ·rw [if_pos g]
  exact kz h a g
 ·rw [if_neg g]
  exact ky h a b ⋯
theorem kh {E F:Int} {x y:Int×Int} (h:Sz E F) (hx:tU E F x) (hy:tU E F y) (nx:x.2<=pw ↥1 - pw F) (ny:y.2<=pw ↥1 - pw F):aY [.tup [.int E,.int F],.int (nI E F x),.int (nI E F y)]=.ok (xD (pt E F x y)):=by
 have tx:=BQ h hx nx
 have ty:=BQ h hy ny
 have so:=Ju hx.1 hy.1
 unfold xt at tx ty
 unfold pt
 unfold aY cv
 by_cases g:x.2=pw ↥1 - pw F
 ·rw [if_pos g] at tx
  rw [if_pos (.inl g)]
  by_cases g':y.2=pw ↥1 - pw F
  ·rw [if_pos g'] at ty
   unfold xD at *
   simp_arith [tx,ty,so]
  ·rw [if_neg g'] at ty
   unfold xD tD wt at *
   simp_arith [tx,ty,so]
 ·rw [if_neg g] at tx
  by_cases g':y.2=pw ↥1 - pw F
  ·rw [if_pos g'] at ty
   rw [if_pos (.inr g')]
   unfold xD tD wt at *
   simp_arith [tx,ty,so]
  ·rw [if_neg g'] at ty
   rw [if_neg (fun z=>z.elim g g')]
   obtain ⟨⟨_,a2,_,_⟩,_,_⟩:=u9 (s:=0) h hx.2.1 (show x.2<_ by omega)
   obtain ⟨⟨_,b2,_,_⟩,_,_⟩:=u9 (s:=0) h hy.2.1 (show y.2<_ by omega)
   have mu:=aG (MulOk.of (i:=wh F (x.2 / pw F) (x.2%pw F)) (j:=wh F (y.2 / pw F) (y.2%pw F)) a2 b2 ↥3)
   unfold xD tD wt pm at *
   simp_arith [tx,ty,so,mu]
theorem jC {E F:Int} {x y:Int×Int} (h:Sz E F) (hx:tU E F x) (hy:tU E F y):aS [.tup [.int E,.int F],.int (nI E F x),.int (nI E F y)]=.ok (.bl (decide ((x.2=0\/y.2=0)/\(x.2=pw ↥1 - pw F\/y.2=pw ↥1 - pw F)))):=by
 obtain ⟨kn,ke,k0⟩:=fZ (c:=x.2) h hx.2.1 hx.2.2
 obtain ⟨ln,le,l0⟩:=fZ (c:=y.2) h hy.2.1 hy.2.2
 have kk:=nq (c:=x.2) h hx.1 hx.2.1 hx.2.2
 have kl:=nq (c:=y.2) h hy.1 hy.2.1 hy.2.2
 simp only [<- ke,<-le,<-k0,<-l0]
 generalize kindS E (x.2 / pw F) (x.2%pw F)=K at *
 generalize kindS E (y.2 / pw F) (y.2%pw F)=L at *
 unfold nI aS b9
 by_cases g:K=PySem.Str.ofString "nought"\/L=PySem.Str.ofString "nought"
 ·simp_arith [kk,kl,nk,eq_true g,true_and]
 ·simp_arith [kk,kl,nk,g,false_and]
theorem sJ {E F:Int} {xs:List ↥35} (h:Sz E F) (hx:∀ x∈xs,tU E F x) :
  PySem.Str.ofString "none"∈(xs.map (nI E F)).map (fun b=>kindS E (fld E F b) (fig F b))↔∃ x∈xs,pw ↥1 - pw F<x.2:=by
 rw [List.map_map,List.mem_map]
 constructor
 ·rintro ⟨x,m,e⟩
  obtain ⟨a,b,c⟩:=hx x m
  obtain ⟨b1,b2,b3,b4⟩:=aD h a b c
  refine ⟨x,m,(fZ h b c).1.mp ?_⟩
  rw [<- b3,<-b4]
  exact e
 ·rintro ⟨x,m,e⟩
  obtain ⟨a,b,c⟩:=hx x m
  obtain ⟨b1,b2,b3,b4⟩:=aD h a b c
  refine ⟨x,m,?_⟩
  have:=(fZ h b c).1.mpr e
  rw [<- b3,<-b4] at this
  exact this
theorem wC {E F:Int} {xs:List ↥35} (h:Sz E F) (hx:∀ x∈xs,tU E F x):∀ b∈xs.map (nI E F),de [.tup [.int E,.int F],.int b]=.ok (.str (kindS E (fld E F b) (fig F b))):=fun b hb=>by
 obtain ⟨x,m,rfl⟩:=List.mem_map.mp hb
 obtain ⟨a,b,c⟩:=hx x m
 exact wR h (aD h a b c).1
theorem qr {E F:Int} {st:D->R (Option D)} {xs:List ↥35} (hst:∀ x∈xs,st (.int (nI E F x))=.ok (some (xD (xt E F x)))):runC st ((xs.map (nI E F)).map D.int)=.ok ((xs.map (xt E F)).map xD):=by
 induction xs with
 | nil=>rfl
 | cons x r ih =>
  rw [List.map_cons,List.map_cons]
  unfold runC
  rw [hst x (.head _),ih fun x hx=>hst x (.tail _ hx)]
  rfl
theorem nJ {E F:Int} {a0 a1 a2 a3 a6:Option D}:∀ {ps:List (↥35×↥35)} {bs:List Int} {z5:Option D},(bs.length+2*ps.length<=100000)->∃ z5',forL 5 (i8 4 (var 5)) (ps.map (pD E F)) [a0,a1,a2,a3,some (.own (bs.map .int)),z5,a6]=.nx [a0,a1,a2,a3,some (.own ((bs++(fl ps).map (nI E F)).map .int)),z5',a6]
 | [],bs,z5,_=>⟨z5,by rw [List.map_nil,sW];show _=O.nx [a0,a1,a2,a3,some (D.own ((bs++[]).map .int)),z5,a6];rw [List.append_nil]⟩
 | p::r,bs,z5,hl=>by
  rw [List.length_cons] at hl
  obtain ⟨z5',ih⟩:=nJ (E:=E) (F:=F) (a0:=a0) (a1:=a1) (a2:=a2) (a3:=a3) (a6:=a6) (ps:=r) (bs:=bs++[nI E F p.1,nI E F p.2]) (z5:=some (pD E F p)) (by rw [List.length_append];simp;omega)
  refine ⟨z5',?_⟩
  have e:(bs++(fl (p::r)).map (nI E F))=bs++[nI E F p.1,nI E F p.2]++(fl r).map (nI E F):=by
   show bs++([nI E F p.1,nI E F p.2]++(fl r).map (nI E F))=_
   rw [List.append_assoc]
  rw [e,List.map_cons,cj,<-ih]
  have x:E5 4 [a0,a1,a2,a3,some (.own (bs.map .int)),some (pD E F p),a6] (bs.map .int) (.ok (pD E F p))=.nx [a0,a1,a2,a3,some (.own ((bs++[nI E F p.1,nI E F p.2]).map .int)),some (pD E F p),a6]:=by
   unfold E5 pD
   simp only
   rw [if_pos ⟨rfl,by simp;omega⟩,List.map_append]
   rfl
  have y:i8 4 (var 5) [a0,a1,a2,a3,some (.own (bs.map .int)),some (pD E F p),a6]=.nx [a0,a1,a2,a3,some (.own ((bs++[nI E F p.1,nI E F p.2]).map .int)),some (pD E F p),a6]:=by
   rw [yN,<-x]
   rfl
  show trn (i8 4 (var 5) [a0,a1,a2,a3,some (.own (bs.map .int)),some (pD E F p),a6]) (forL 5 (i8 4 (var 5)) (r.map (pD E F)))=_
  rw [y]
  rfl
theorem oO {E F:Int} {st:D->R (Option D)} {f:↥35×↥35->D} {ps:List (↥35×↥35)} (hst:∀ p∈ps,st (pD E F p)=.ok (some (f p))):runC st (ps.map (pD E F))=.ok (ps.map f):=by
 induction ps with
 | nil=>rfl
 | cons p r ih =>
  rw [List.map_cons]
  unfold runC
  rw [hst p (.head _),ih fun x hx=>hst x (.tail _ hx)]
  rfl
theorem any_map {α:Type} {f:α->Bool} {ps:List α}:EH [.lst (ps.map fun p=>.bl (f p))]=.ok (.bl (ps.any f)):=by
 have:boolsOf (ps.map fun p=>.bl (f p))=some (ps.map f):=by
  induction ps with
  | nil=>rfl
  | cons a r ih =>
   rw [List.map_cons,List.map_cons]
   show (boolsOf _).map _=_
   rw [ih]
   rfl
 unfold EH
 simp only [this]
 rw [List.any_map]
 rfl
theorem uI {α:Type} {f:α->Bool} {ps:List α}:dH (ps.map fun p=>.bl (f p))=.ok (.lst (ps.map fun p=>.bl (f p))):=by
 unfold dH
 rw [if_pos]
 induction ps with
 | nil=>rfl
 | cons a r ih =>
  rw [List.map_cons]
  show (D.flat (.bl (f a))&&D.flats _)=true
  rw [ih]
  rfl
def wrP (E F:Int) (p:↥35×↥35):Prop:=(p.1.2=0\/p.2.2=0)/\(p.1.2=pw ↥1 - pw F\/p.2.2=pw ↥1 - pw F)
noncomputable instance (E F:Int) (p:↥35×↥35):Decidable (wrP E F p):=by unfold wrP;exact inferInstance
section
variable {E F:Int} {ps:List (↥35×↥35)} {xs:List ↥35}
theorem Ah (w:Wy) (h:Sz E F) (hl:xs.length<=400) (hl2:ps.length<=300) (hx:∀ x∈xs++fl ps,tU E F x) (hn:∃ x∈xs++fl ps,pw ↥1 - pw F<x.2) :
  ay [.tup [.int E,.int F],.str w.s,.lst (ps.map (pD E F)),.lst ((xs.map (nI E F)).map .int)]=.ok (.tup [.int (pw ↥1 - pw F+pw (F - 1)),.int 0]):=by
 have fll:=xk ps
 have an:=xY (E:=E) (F:=F) (bs:=(xs++fl ps).map (nI E F)) (by rw [List.length_map,List.length_append];omega) (wC h hx)
 rw [decide_eq_true ((sJ h hx).mpr hn),List.map_append] at an
 have e2:=i9 h
 rw [end_is h] at e2
 have bl:jh [.lst ((xs.map (nI E F)).map D.int)]=.ok (.lst ((xs.map (nI E F)).map D.int)):=bN
 obtain ⟨z5,lo⟩:=nJ (E:=E) (F:=F) (a0:=some ↥11) (a1:=some (.str w.s)) (a2:=some (.lst (ps.map (pD E F)))) (a3:=some (.lst ((xs.map (nI E F)).map .int))) (a6:=none) (ps:=ps) (bs:=xs.map (nI E F)) (z5:=none) (by rw [List.length_map];omega)
 unfold ay b8
 simp_arith [cV w,bl,lo,List.length_map,show ps.length<=100000 by omega,an,e2]
theorem pF {d:D} (w:Wy) (h:Sz E F) (hl:xs.length<=400) (hl2:ps.length<=300) (hx:∀ x∈xs++fl ps,tU E F x) (hn:∀ x∈xs++fl ps,x.2<=pw ↥1 - pw F) (hw:∀ p∈ps,¬ wrP E F p) (hd:aF [.tup [.int E,.int F],.str w.s,.lst ((ps.map (ptp E F)++xs.map (xt E F)).map xD)]=.ok d) :
  ay [.tup [.int E,.int F],.str w.s,.lst (ps.map (pD E F)),.lst ((xs.map (nI E F)).map .int)]=.ok d:=by
 have fll:=xk ps
 have an:=xY (E:=E) (F:=F) (bs:=(xs++fl ps).map (nI E F)) (by rw [List.length_map,List.length_append];omega) (wC h hx)
 rw [decide_eq_false (fun z=>by obtain ⟨x,m,y⟩:=(sJ h hx).mp z;have:=hn x m;omega),List.map_append] at an
 have bl:jh [.lst ((xs.map (nI E F)).map D.int)]=.ok (.lst ((xs.map (nI E F)).map D.int)):=bN
 obtain ⟨z5,lo⟩:=nJ (E:=E) (F:=F) (a0:=some ↥11) (a1:=some (.str w.s)) (a2:=some (.lst (ps.map (pD E F)))) (a3:=some (.lst ((xs.map (nI E F)).map .int))) (a6:=none) (ps:=ps) (bs:=xs.map (nI E F)) (z5:=none) (by rw [List.length_map];omega)
 have mem1:∀ p∈ps,p.1∈xs++fl ps:=fun p m=>List.mem_append.mpr (.inr (sY.mpr ⟨p,m,.inl rfl⟩))
 have mem2:∀ p∈ps,p.2∈xs++fl ps:=fun p m=>List.mem_append.mpr (.inr (sY.mpr ⟨p,m,.inr rfl⟩))
 have st:∀ δ:Dt,∀ p∈ps,stC (con ↥34) (call aS [var 1,bin oIx (var 0) ⇑0,bin oIx (var 0) ⇑1]) [0] (some ↥11::δ) (pD E F p)=.ok (some (.bl (decide (wrP E F p)))):=fun δ p m=>by
  have e:=jC h (hx p.1 (mem1 p m)) (hx p.2 (mem2 p m))
  unfold stC inC pD wrP
  simp_arith [List.getD_cons_zero,e]
  unfold oh
  simp_arith []
 have aw:ps.any (fun p=>decide (wrP E F p))=false:=by
  rw [List.any_eq_false]
  exact fun p m=>by rw [decide_eq_true_iff];exact hw p m
 have st2:∀ δ:Dt,∀ p∈ps,stC (con ↥34) (call aY [var 1,bin oIx (var 0) ⇑0,bin oIx (var 0) ⇑1]) [0] (some ↥11::δ) (pD E F p)=.ok (some (xD (ptp E F p))):=fun δ p m=>by
  have e:=kh h (hx p.1 (mem1 p m)) (hx p.2 (mem2 p m)) (hn p.1 (mem1 p m)) (hn p.2 (mem2 p m))
  unfold stC inC pD ptp
  simp_arith [List.getD_cons_zero,e]
  unfold oh
  simp_arith []
 have st3:∀ δ:Dt,∀ x∈xs,stC (con ↥34) (call az [var 1,var 0]) [0] (some ↥11::δ) (.int (nI E F x))=.ok (some (xD (xt E F x))):=fun δ x m=>by
  have e:=BQ h (hx x (List.mem_append.mpr (.inl m))) (hn x (List.mem_append.mpr (.inl m)))
  unfold stC inC
  simp_arith [List.getD_cons_zero,e]
  unfold oh
  simp_arith []
 have f1:dH (ps.map fun p=>xD (ptp E F p))=.ok (.lst (ps.map fun p=>xD (ptp E F p))):=by
  have:=rR (xs:=ps.map (ptp E F))
  rw [List.map_map] at this
  unfold dH
  exact if_pos this
 have f2:dH ((xs.map (xt E F)).map xD)=.ok (.lst ((xs.map (xt E F)).map xD)):=by unfold dH;rw [if_pos rR]
 have pb:∀ (a2 a3 a4 a5 a6 a7:Option D) (ds:List D),pub 6 [a2,a3,a4,a5,a6,a7,some (.own ds)]=[a2,a3,a4,a5,a6,a7,some (.lst ds)]:=fun _ _ _ _ _ _ _=>rfl
 have ad:bu (.lst (ps.map fun p=>xD (ptp E F p))) (.lst ((xs.map (xt E F)).map xD))=.ok (.lst ((ps.map (ptp E F)++xs.map (xt E F)).map xD)):=by
  rw [sG (by simp;omega),List.map_append,List.map_map (f:=ptp E F)]
  rfl
 unfold ay b8
 simp_arith [cV w,bl,lo,List.length_map,show ps.length<=100000 by omega,show xs.length<=100000 by omega,an,oO (st _),uI,any_map,aw,oO (st2 _),f1,pb,qr (st3 _),f2,ad,hd]
theorem CA {V U X:Int} (h:Sz E F) (hl:xs.length<=400) (hl2:ps.length<=300) (hx:∀ x∈xs++fl ps,tU E F x) (hf:∀ x∈xs++fl ps,x.2<pw ↥1 - pw F) (hV:0<V) (eX:d3 (2*lo E F) (fts E F ps xs)=X*V) (eU:pw (-(2*lo E F))=U*(V*pw (-(lo E F)))) (w:Wy) :
  ∃ x y,ay [.tup [.int E,.int F],.str w.s,.lst (ps.map (pD E F)),.lst ((xs.map (nI E F)).map .int)]=.ok (.tup [.int x,.int y])/\Nc w E F X U (nsg w ((fts E F ps xs).map (·.1))) x y:=by
 have hQ:=ag F
 have l:=jD h
 have key:∀ d,ax [.tup [.int E,.int F],.str w.s,.lst ((fts E F ps xs).map tD)]=.ok d->ay [.tup [.int E,.int F],.str w.s,.lst (ps.map (pD E F)),.lst ((xs.map (nI E F)).map .int)]=.ok d:=fun d hd=>by
  refine pF w h hl hl2 hx (fun x m=>Int.le_of_lt (hf x m)) (fun p m z => ?_) ?_
  ·have a:=hf _ (IG (xs:=xs) m)
   have b:=hf _ (IE (xs:=xs) m)
   unfold wrP at z
   omega
  ·rw [HG hf,iP w (by rw [xf];omega)]
   exact hd
 have ok:=HH h hx hf
 have len:(fts E F ps xs).length<=1000:=by rw [xf];omega
 generalize fts E F ps xs=ts at *
 by_cases z:X=0
 ·have zz:d3 (kC ts) ts=0:=by
   have:=vk (q:=2*lo E F) (ts:=ts) fun t ht=>(ok t ht).2
   rw [eX,z,Int.zero_mul] at this
   rcases Int.mul_eq_zero.mp this.symm with e | e
   ·exact e
   ·have:=ag (kC ts - 2*lo E F);omega
  exact ⟨_,_,key _ (gS w h len (fun t ht=>(ok t ht).1) zz),fun _=>⟨rfl,rfl⟩,fun y=>absurd z y⟩
 ·have z':d3 (2*lo E F) ts≠0:=by
   rw [eX]
   intro y
   rcases Int.mul_eq_zero.mp y with e | e
   ·exact z e
   ·omega
  obtain ⟨k,r,e,a⟩:=jx (ts:=ts) h len (fun t ht=>(ok t ht).1) (show 2*lo E F<=0 by omega) (fun t ht=>(ok t ht).2) z'
  rw [eX] at e a
  have ni:=qM (X:=X) hV
  have e1:(if X*V<0 then (1:Int) else 0)=if X<0 then 1 else 0:=by
   by_cases g:X<0
   ·rw [if_pos (ni.mpr g),if_pos g]
   ·rw [if_neg (fun y=>g (ni.mp y)),if_neg g]
  have e2:(if X*V<0 then -(X*V) else X*V)=(if X<0 then -X else X)*V:=by
   by_cases g:X<0
   ·rw [if_pos (ni.mpr g),if_pos g,Int.neg_mul]
   ·rw [if_neg (fun y=>g (ni.mp y)),if_neg g]
  rw [e1] at e
  rw [e2,eU,Int.mul_assoc] at a
  exact ⟨_,_,key _ (e w),fun y=>absurd y z,fun _=>⟨k,r,rfl,rfl,Bs (Int.mul_pos hV (ag _)) a⟩⟩
theorem Cz {b:Int} (w:Wy) (h:Sz E F) (hl:xs.length<=400) (hl2:ps.length<=300) (hx:∀ x∈xs++fl ps,tU E F x) (hn:∀ x∈xs++fl ps,x.2<=pw ↥1 - pw F) (hw:∀ p∈ps,¬ wrP E F p) (hs:∀ s∈me (ps.map (ptp E F)++xs.map (xt E F)),0<=s/\s<=1) (hb:b∈me (ps.map (ptp E F)++xs.map (xt E F))) :
  ay [.tup [.int E,.int F],.str w.s,.lst (ps.map (pD E F)),.lst ((xs.map (nI E F)).map .int)]=.ok (if 0∈me (ps.map (ptp E F)++xs.map (xt E F))/\1∈me (ps.map (ptp E F)++xs.map (xt E F)) then .tup [.int (pw ↥1 - pw F+pw (F - 1)),.int 16] else .tup [.int (b*pw ↥1+↥24),.int 0]):=by
 refine pF w h hl hl2 hx hn hw ?_
 have hne:me (ps.map (ptp E F)++xs.map (xt E F))≠[]:=fun z=>by rw [z] at hb;cases hb
 rw [iO w h (by rw [List.length_append,List.length_map,List.length_map];omega) hs hne]
 generalize me (ps.map (ptp E F)++xs.map (xt E F))=es at *
 by_cases g:0∈es/\1∈es
 ·rw [if_pos g,if_pos g]
 ·rw [if_neg g,if_neg g]
  have hm:es.getD 0 0∈es:=by
   cases es with
   | nil=>exact absurd rfl hne
   | cons a r=>exact .head _
  have q1:=hs _ hm
  have q2:=hs _ hb
  have:es.getD 0 0=b:=by
   rcases (by omega:es.getD 0 0=0\/es.getD 0 0=1) with u | u<;>rcases (by omega:b=0\/b=1) with v | v
   ·omega
   ·exact absurd ⟨u▸hm,v▸hb⟩ g
   ·exact absurd ⟨v▸hb,u▸hm⟩ g
   ·omega
  rw [this]
theorem Kh (hx:∀ x∈xs++fl ps,tU E F x):∀ s∈me (ps.map (ptp E F)++xs.map (xt E F)),0<=s/\s<=1:=fun s hs=>by
 unfold me at hs
 obtain ⟨t,m,e⟩:=List.mem_filterMap.mp hs
 rcases List.mem_append.mp m with m | m
 ·obtain ⟨p,m',rfl⟩:=List.mem_map.mp m
  unfold ptp pt at e
  split at e
  ·rename_i g
   split at g
   ·cases g
   ·cases g;cases e
  ·rename_i g
   split at g
   ·cases g;cases e;exact Jv
   ·cases g
 ·obtain ⟨x,m',rfl⟩:=List.mem_map.mp m
  unfold xt at e
  split at e
  ·rename_i g
   split at g
   ·cases g
   ·cases g;cases e
  ·rename_i g
   split at g
   ·cases g;cases e;exact (hx x (List.mem_append.mpr (.inl m'))).1
   ·cases g
end
theorem AQ {E F s s' c c':Int} (w:Wy) (h:Sz E F) (hs:0<=s/\s<=1) (hs':0<=s'/\s'<=1) (c0:0<=c) (c1:c<pw ↥1) (d0:0<=c') (d1:c'<pw ↥1) :
  ∃ x y,iT [.tup [.int E,.int F],.str w.s,.int ↥32,.int (s'*pw ↥1+c')]=.ok (.tup [.int x,.int y])/\E7 w E F s c s' c' x y:=by
 have hQ:=ag F
 have hL:=ag (-(lo E F))
 have key:∀ d,ay [.tup [.int E,.int F],.str w.s,.lst (([]:List (↥35×↥35)).map (pD E F)),.lst (([(s,c),(s',c')].map (nI E F)).map .int)]=.ok d->iT [.tup [.int E,.int F],.str w.s,.int ↥32,.int (s'*pw ↥1+c')]=.ok d:=fun d hd=>by
  have e:ay [.tup [.int E,.int F],.str w.s,.lst [],.lst [.int ↥32,.int (s'*pw ↥1+c')]]=.ok d:=hd
  unfold iT nH
  simp_arith [e]
 have hx:∀ x∈[(s,c),(s',c')]++fl [],tU E F x:=fun x hx=>by
  rcases List.mem_cons.mp hx with e | hx
  ·subst e;exact ⟨hs,c0,c1⟩
  ·rcases List.mem_cons.mp hx with e | hx
   ·subst e;exact ⟨hs',d0,d1⟩
   ·cases hx
 have all:∀ {P:Int×Int->Prop},P (s,c)->P (s',c')->∀ x∈[(s,c),(s',c')]++fl [],P x:=fun a b x hx=>by
  rcases List.mem_cons.mp hx with e | hx
  ·subst e;exact a
  ·rcases List.mem_cons.mp hx with e | hx
   ·subst e;exact b
   ·cases hx
 unfold E7
 by_cases g1:pw ↥1 - pw F<c\/pw ↥1 - pw F<c'
 ·simp only [if_pos g1]
  refine ⟨_,_,key _ (Ah (ps:=[]) (xs:=[(s,c),(s',c')]) w h (show 2<=400 by decide) (show 0<=300 by decide) hx ?_),rfl,rfl⟩
  rcases g1 with g | g
  ·exact ⟨(s,c),.head _,g⟩
  ·exact ⟨(s',c'),.tail _ (.head _),g⟩
 simp only [if_neg g1]
 have hn:∀ x∈[(s,c),(s',c')]++fl [],x.2<=pw ↥1 - pw F:=all (show c<=_ by omega) (show c'<=_ by omega)
 have inf:=fun b hb=>Cz (ps:=[]) (xs:=[(s,c),(s',c')]) (b:=b) w h (show 2<=400 by decide) (show 0<=300 by decide) hx hn (fun p hp=>nomatch hp) (Kh hx) hb
 have ec:c=pw ↥1 - pw F->xt E F (s,c)=.inr s:=fun g=>if_pos g
 have ec':¬ c=pw ↥1 - pw F->xt E F (s,c)=.inl (wt E F s c):=fun g=>if_neg g
 have ed:c'=pw ↥1 - pw F->xt E F (s',c')=.inr s':=fun g=>if_pos g
 have ed':¬ c'=pw ↥1 - pw F->xt E F (s',c')=.inl (wt E F s' c'):=fun g=>if_neg g
 have es:me ((([]:List (↥35×↥35)).map (ptp E F))++[(s,c),(s',c')].map (xt E F))=me [xt E F (s,c),xt E F (s',c')]:=rfl
 rw [es] at inf
 by_cases g2:c=pw ↥1 - pw F
 ·simp only [if_pos g2]
  rw [ec g2] at inf
  by_cases g3:c'=pw ↥1 - pw F
  ·rw [ed g3] at inf
   have ee:me [.inr s,.inr s']=[s,s']:=rfl
   rw [ee] at inf
   have q:=inf s (.head _)
   by_cases g4:s=s'
   ·simp only [if_neg (show ¬ (c'=pw ↥1 - pw F/\¬ s=s') from fun z=>z.2 g4)]
    rw [if_neg (by rw [<- g4];simp only [List.mem_cons,List.not_mem_nil,or_false,or_self];omega)] at q
    exact ⟨_,_,key _ q,rfl,rfl⟩
   ·simp only [if_pos (show c'=pw ↥1 - pw F/\¬ s=s' from ⟨g3,g4⟩)]
    rw [if_pos (by simp only [List.mem_cons,List.not_mem_nil,or_false];omega)] at q
    exact ⟨_,_,key _ q,rfl,rfl⟩
  ·rw [ed' g3] at inf
   have ee:me [.inr s,.inl (wt E F s' c')]=[s]:=rfl
   rw [ee] at inf
   have q:=inf s (.head _)
   rw [if_neg (by simp only [List.mem_cons,List.not_mem_nil,or_false];omega)] at q
   simp only [if_neg (show ¬ (c'=pw ↥1 - pw F/\¬ s=s') from fun z=>g3 z.1)]
   exact ⟨_,_,key _ q,rfl,rfl⟩
 simp only [if_neg g2]
 rw [ec' g2] at inf
 by_cases g3:c'=pw ↥1 - pw F
 ·simp only [if_pos g3]
  rw [ed g3] at inf
  have ee:me [.inl (wt E F s c),.inr s']=[s']:=rfl
  rw [ee] at inf
  have q:=inf s' (.head _)
  rw [if_neg (by simp only [List.mem_cons,List.not_mem_nil,or_false];omega)] at q
  exact ⟨_,_,key _ q,rfl,rfl⟩
 simp only [if_neg g3]
 have hf:∀ x∈[(s,c),(s',c')]++fl [],x.2<pw ↥1 - pw F:=all (show c<_ by omega) (show c'<_ by omega)
 obtain ⟨x,y,e,o⟩:=CA (ps:=[]) (xs:=[(s,c),(s',c')]) (U:=1) (V:=pw (-(lo E F))) (X:=(if s=1 then -(vl F c) else vl F c)+(if s'=1 then -(vl F c') else vl F c')) h (show 2<=400 by decide) (show 0<=300 by decide) hx hf hL (by
  show tv _ (wt E F s c)+(tv _ (wt E F s' c')+0)=_
  rw [AR h c0,AR h d0,Int.add_zero,Int.add_mul]) (by rw [Gy h,Int.one_mul]) w
 have en:(fts E F [] [(s,c),(s',c')]).map (·.1)=[s,s']:=rfl
 rw [en,DK hs hs'] at o
 exact ⟨x,y,key _ e,o⟩
theorem rz {ns:List Int} {j:Int} (h0:0<=j):aT [.lst (ns.map .int),.int j]=.ok (.int (ns.getD j.toNat 0)):=by
 unfold aT cP
 by_cases h:j<(ns.length:Int)
 ·have e:oIx (.lst (ns.map D.int)) (.int j)=.ok (.int (ns.getD j.toNat 0)):=by
   obtain ⟨k,rfl⟩:=Int.eq_ofNat_of_zero_le h0
   have hk:k<ns.length:=⋯
   refine jc ?_
   simp [List.getElem?_map,List.getElem?_eq_getElem hk,List.getD_eq_getElem?_getD]
  simp_arith [h,e]
 ·simp_arith [h,Ag h0 h]
theorem cw (i:Int):aR [.int i]=.ok ↥34:=by
 unfold aR eJ
 simp_arith []
theorem bP {E F c:Int} (h:Sz E F) (h0:0<=c) (h1:c<pw ↥1):aK [.tup [.int E,.int F],.int c]=.ok (.int (vl F c)):=by
 obtain ⟨k1,k2,k3,k4⟩:=id h
 obtain ⟨v1,v2⟩:=vc h h0 h1
 have v3:=dM h
 have v4:=vD h
 obtain ⟨r0,r1⟩:=Bk F c
 unfold fig at r0 r1
 have n1:nb (pw F+c%pw F)<=128:=cM ⋯ ⋯
 unfold aK eO vl
 by_cases g:c / pw F=0
 ·simp_arith [show (0:Int)<=F by omega,eq_true g]
 ·simp_arith [show (0:Int)<=F by omega,g,gp (k:=F) ⋯ ⋯,ag,au (i:=pw F+c%pw F) (j:=c / pw F - 1) ⋯ ⋯]
theorem HN (w:Wy) (o e:Bool) (l:Int):fz [.str w.s,.bl o,.int l,.bl e]=.ok (.bl (w.far o l e)):=by
 unfold fz ip
 cases w
 ·by_cases g:0<l
  ·simp_arith [Wy.s,g]
   simp [Wy.far,g]
  ·by_cases g2:l=0
   ·simp_arith [Wy.s,g,eq_true g2]
    simp [Wy.far,g2]
   ·simp_arith [Wy.s,g,g2]
    simp [Wy.far,g,g2]
 ·simp_arith [Wy.s]
  rfl
 ·simp_arith [Wy.s]
  rfl
 ·simp_arith [Wy.s]
  rfl
 ·simp_arith [Wy.s]
  rfl
theorem DO (w:Wy) (o e:Bool) (l:Int):dO [.str w.s,.bl o,.int l,.bl e]=.ok (.bl (w.near o l e)):=by
 unfold dO gh
 cases w
 ·by_cases g:l<0
  ·simp_arith [Wy.s,g]
   simp [Wy.near,g]
  ·by_cases g2:l=0
   ·simp_arith [Wy.s,g,eq_true g2]
    simp [Wy.near,g2]
   ·simp_arith [Wy.s,g,g2]
    simp [Wy.near,g,g2]
 ·simp_arith [Wy.s]
  rfl
 ·cases o<;>simp_arith [Wy.s]<;>rfl
 ·cases o<;>simp_arith [Wy.s]<;>rfl
 ·cases o<;>simp_arith [Wy.s]<;>rfl
section
variable {E F s T n c:Int}
theorem oR (w:Wy) (s:Int) (a:Option D) (l:Dt):or_ ↥17 ↥15 (a::some (.str w.s)::some (.int s)::l)=.ok (.bl (w.out s)):=by
 cases w<;>simp_arith [Wy.s,Wy.out]<;>rfl
theorem pO (w:Wy) (s:Int) (a a3 a4 a5 a6 a7 a8:Option D) (l:Dt):or_ (bin oEq (var 1) ↥39) ↥28 (a::some (.str w.s)::some (.int s)::a3::a4::a5::a6::a7::a8::some (.bl (w.out s))::l)=.ok (.bl (w.brs s)):=by
 have v9:var 9 (a::some (.str w.s)::some (.int s)::a3::a4::a5::a6::a7::a8::some (.bl (w.out s))::l)=.ok (.bl (w.out s)):=rfl
 cases w<;>simp_arith [Wy.s,v9]<;>rfl
theorem kA (w:Wy) (s:Int) (a a3 a4 a5 a6 a7 a8:Option D) (l:Dt):fk (bin oNe (var 1) ↥39) ↥21 (a::some (.str w.s)::some (.int s)::a3::a4::a5::a6::a7::a8::some (.bl (w.out s))::l)=.ok (.bl (!w.brs s)):=by
 have v9:var 9 (a::some (.str w.s)::some (.int s)::a3::a4::a5::a6::a7::a8::some (.bl (w.out s))::l)=.ok (.bl (w.out s)):=rfl
 cases w<;>simp_arith [Wy.s,v9]<;>first | rfl | (generalize hq:Wy.out _ s=q;cases q<;>simp [Wy.brs,hq])
theorem Am (w:Wy) (h:Sz E F) (hs:0<=s/\s<=1) (hn:0<n) (nT:nb T<=10000000) (nn:nb n<=10000000) (hb:w.brs s=true) (hT:vl F ↥24*n<=T) :
  aH [.tup [.int E,.int F],.str w.s,.int s,.int T,.int n,.tup [.int (s*pw ↥1+↥24),.int 5]]=.ok ↥34:=by
 obtain ⟨k1,k2,k3,k4⟩:=id h
 have hh:=bh h
 have hQ:=ag F
 have eM:=end_is h
 have ns:nb s<=1:=cM hs.1 ⋯
 have nE:nb (pw E - 1)<=15:=cM (by have:=ag E;omega) (by have:=dM h;omega)
 have m2:MulOk 2 T:=by walk_at "mul"
 have eK:s*pw ↥1+↥24 - s*pw ↥1=pw ↥1 - pw F:=⋯
 unfold aH bM
 have ho:=oR w s
 have hbr:=pO w s
 have hnb:=kA w s
 generalize or_ ↥17 ↥15=OUT at ho ⊢
 generalize or_ (bin oEq (var 1) ↥39) ↥28=BRS at hbr ⊢
 generalize fk (bin oNe (var 1) ↥39) ↥21=NBR at hnb ⊢
 simp_arith [cw,ho,hbr,hnb,hb,au (i:=s) (j:=E+F) ⋯ ⋯,eK,gp (k:=E) ⋯ ⋯,au (i:=pw E - 1) (j:=F) ⋯ ⋯,eM,show 0<=pw ↥1 - pw F by omega,Int.le_refl,bP (c:=pw ↥1 - pw F) h ⋯ ⋯,aG (gx (x:=pw ↥1 - pw F) h ⋯ ⋯ nn),hT]
theorem uD (w:Wy) (h:Sz E F) (hs:0<=s/\s<=1) (hn:0<n) (nT:nb T<=10000000) (nn:nb n<=10000000) (hb:w.brs s=false) (hT:vl F ↥24*n<=T) :
  aH [.tup [.int E,.int F],.str w.s,.int s,.int T,.int n,.tup [.int (s*pw ↥1+(pw ↥1 - pw F - 1)),.int 5]]=.ok ↥34:=by
 obtain ⟨k1,k2,k3,k4⟩:=id h
 have hh:=bh h
 have hQ:=ag F
 have eM:=end_is h
 have ns:nb s<=1:=cM hs.1 ⋯
 have nE:nb (pw E - 1)<=15:=cM (by have:=ag E;omega) (by have:=dM h;omega)
 have m2:MulOk 2 T:=by walk_at "mul"
 have eK:s*pw ↥1+(pw ↥1 - pw F - 1) - s*pw ↥1=pw ↥1 - pw F - 1:=⋯
 have e1:pw ↥1 - pw F - 1+1=pw ↥1 - pw F:=⋯
 have lt:=cS (F:=F) (x:=pw ↥1 - pw F - 1) (y:=pw ↥1 - pw F) hn ⋯ ⋯
 unfold aH bM
 have ho:=oR w s
 have hbr:=pO w s
 have hnb:=kA w s
 generalize or_ ↥17 ↥15=OUT at ho ⊢
 generalize or_ (bin oEq (var 1) ↥39) ↥28=BRS at hbr ⊢
 generalize fk (bin oNe (var 1) ↥39) ↥21=NBR at hnb ⊢
 simp_arith [cw,ho,hbr,hnb,hb,au (i:=s) (j:=E+F) ⋯ ⋯,eK,gp (k:=E) ⋯ ⋯,au (i:=pw E - 1) (j:=F) ⋯ ⋯,eM,show 0<=pw ↥1 - pw F - 1 by omega,show pw ↥1 - pw F - 1<=pw ↥1 - pw F by omega,bP (c:=pw ↥1 - pw F - 1) h ⋯ ⋯,aG (gx (x:=pw ↥1 - pw F - 1) h ⋯ ⋯ nn),show ¬ pw ↥1 - pw F - 1=pw ↥1 - pw F by omega,show ¬ T=vl F (pw ↥1 - pw F - 1)*n by omega,au (i:=n) (j:=F) ⋯ ⋯,show vl F (pw ↥1 - pw F - 1)*n<T by omega,e1,bP (c:=pw ↥1 - pw F) h ⋯ ⋯,aG (gx (x:=pw ↥1 - pw F) h ⋯ ⋯ nn),hT]
 split<;>rfl
theorem uE (w:Wy) (h:Sz E F) (hs:0<=s/\s<=1) (hn:0<n) (nT:nb T<=10000000) (nn:nb n<=10000000) (c0:0<=c) (c1:c<pw ↥1 - pw F) (hT:T=vl F c*n) :
  aH [.tup [.int E,.int F],.str w.s,.int s,.int T,.int n,.tup [.int ↥32,.int 0]]=.ok ↥34:=by
 obtain ⟨k1,k2,k3,k4⟩:=id h
 have hh:=bh h
 have hQ:=ag F
 have eM:=end_is h
 have ns:nb s<=1:=cM hs.1 ⋯
 have nE:nb (pw E - 1)<=15:=cM (by have:=ag E;omega) (by have:=dM h;omega)
 have m2:MulOk 2 T:=by walk_at "mul"
 have eK:s*pw ↥1+c - s*pw ↥1=c:=⋯
 unfold aH bM
 have ho:=oR w s
 have hbr:=pO w s
 have hnb:=kA w s
 generalize or_ ↥17 ↥15=OUT at ho ⊢
 generalize or_ (bin oEq (var 1) ↥39) ↥28=BRS at hbr ⊢
 generalize fk (bin oNe (var 1) ↥39) ↥21=NBR at hnb ⊢
 simp_arith [cw,ho,hbr,hnb,au (i:=s) (j:=E+F) ⋯ ⋯,eK,gp (k:=E) ⋯ ⋯,au (i:=pw E - 1) (j:=F) ⋯ ⋯,eM,c0,show c<=pw ↥1 - pw F by omega,bP (c:=c) h c0 ⋯,aG (gx (x:=c) h c0 ⋯ nn),show ¬ c=pw ↥1 - pw F by omega,eq_true hT]
theorem xm (w:Wy) (h:Sz E F) (hs:0<=s/\s<=1) (hn:0<n) (nT:nb T<=10000000) (nn:nb n<=10000000) (c0:0<=c) (c1:c<pw ↥1 - pw F) (h1:vl F c*n<T) (h2:T<vl F (c+1)*n)
  (hw:w.near (w.out s) (2*T - vl F c*n - vl F (c+1)*n) (decide (c%2=0))=true) :
  aH [.tup [.int E,.int F],.str w.s,.int s,.int T,.int n,.tup [.int ↥32,.int (if c<pw F then 3 else 1)]]=.ok ↥34:=by
 obtain ⟨k1,k2,k3,k4⟩:=id h
 have hh:=bh h
 have hQ:=ag F
 have eM:=end_is h
 have ns:nb s<=1:=cM hs.1 ⋯
 have nE:nb (pw E - 1)<=15:=cM (by have:=ag E;omega) (by have:=dM h;omega)
 have m2:MulOk 2 T:=by walk_at "mul"
 have eK:s*pw ↥1+c - s*pw ↥1=c:=⋯
 have ld:=qQ h hn c0 (Int.le_of_lt h1) h2
 have hnear:=DO w (w.out s) (decide (c%2=0)) (2*T - vl F c*n - vl F (c+1)*n)
 rw [hw] at hnear
 have ns2:(nb s:Int)+↥1<=134217728:=⋯
 unfold aH bM
 have ho:=oR w s
 have hbr:=pO w s
 have hnb:=kA w s
 generalize or_ ↥17 ↥15=OUT at ho ⊢
 generalize or_ (bin oEq (var 1) ↥39) ↥28=BRS at hbr ⊢
 generalize fk (bin oNe (var 1) ↥39) ↥21=NBR at hnb ⊢
 have i10:ifs (bin oLt (var 3) (bin bD (var 4) ↥4)) (assign 10 ⇑3) ao [some ↥11,some (.str w.s),some (.int s),some (.int T),some (.int n),some (.tup [.int ↥32,.int (if c<pw F then 3 else 1)]),some (.int c),some (.int ↥24),some (.int (vl F c*n)),some (.bl (w.out s)),some (.int 1),none,none]=.nx [some ↥11,some (.str w.s),some (.int s),some (.int T),some (.int n),some (.tup [.int ↥32,.int (if c<pw F then 3 else 1)]),some (.int c),some (.int ↥24),some (.int (vl F c*n)),some (.bl (w.out s)),some (.int (if c<pw F then 3 else 1)),none,none]:=by
  have sh:=au (i:=n) (j:=F) ⋯ ⋯
  clear hnear ho hbr hnb hw
  by_cases g:c<pw F<;>simp_arith [sh,ld,g]
 generalize ifs (bin oLt (var 3) (bin bD (var 4) ↥4)) (assign 10 ⇑3) ao=I10 at *
 generalize (if c<pw F then 3 else 1:Int)=fl at *
 simp_arith [i10,cw,ho,hbr,hnb,au (j:=E+F) ⋯ ns2,eK,gp (k:=E) ⋯ ⋯,au (i:=pw E - 1) (j:=F) ⋯ ⋯,eM,c0,show c<=pw ↥1 - pw F by omega,bP (c:=c) h c0 ⋯,aG (gx (x:=c) h c0 ⋯ nn),show ¬ c=pw ↥1 - pw F by omega,show ¬ T=vl F c*n by omega,au (i:=n) (j:=F) ⋯ ⋯,ld,h1,bP (c:=c+1) h ⋯ ⋯,aG (gx (x:=c+1) h ⋯ ⋯ nn),show ¬ vl F (c+1)*n<=T by omega,aG m2,hnear]
theorem Al (w:Wy) (h:Sz E F) (hs:0<=s/\s<=1) (hn:0<n) (nT:nb T<=10000000) (nn:nb n<=10000000) (c0:0<=c) (c1:c<pw ↥1 - pw F) (h1:vl F c*n<T) (h2:T<vl F (c+1)*n)
  (hw:w.far (w.out s) (2*T - vl F (c+1)*n - vl F c*n) (decide ((c+1)%2=0))=true) :
  aH [.tup [.int E,.int F],.str w.s,.int s,.int T,.int n,.tup [.int (s*pw ↥1+(c+1)),.int (if c+1=pw ↥1 - pw F then 5 else if c<pw F then 3 else 1)]]=.ok ↥34:=by
 obtain ⟨k1,k2,k3,k4⟩:=id h
 have hh:=bh h
 have hQ:=ag F
 have eM:=end_is h
 have ns:nb s<=1:=cM hs.1 ⋯
 have nE:nb (pw E - 1)<=15:=cM (by have:=ag E;omega) (by have:=dM h;omega)
 have m2:MulOk 2 T:=by walk_at "mul"
 have eK:s*pw ↥1+(c+1) - s*pw ↥1=c+1:=⋯
 have e1:c+1 - 1=c:=⋯
 have ld:=qQ h hn c0 (Int.le_of_lt h1) h2
 have hfar:=HN w (w.out s) (decide ((c+1)%2=0)) (2*T - vl F (c+1)*n - vl F c*n)
 rw [hw] at hfar
 have ns2:(nb s:Int)+↥1<=134217728:=⋯
 unfold aH bM
 have ho:=oR w s
 have hbr:=pO w s
 have hnb:=kA w s
 generalize or_ ↥17 ↥15=OUT at ho ⊢
 generalize or_ (bin oEq (var 1) ↥39) ↥28=BRS at hbr ⊢
 generalize fk (bin oNe (var 1) ↥39) ↥21=NBR at hnb ⊢
 have i10:ifs (bin oLt (var 3) (bin bD (var 4) ↥4)) (assign 10 ⇑3) ao [some ↥11,some (.str w.s),some (.int s),some (.int T),some (.int n),some ↥25,some (.int (c+1)),some (.int ↥24),some (.int (vl F (c+1)*n)),some (.bl (w.out s)),some (.int 1),none,none]=.nx [some ↥11,some (.str w.s),some (.int s),some (.int T),some (.int n),some ↥25,some (.int (c+1)),some (.int ↥24),some (.int (vl F (c+1)*n)),some (.bl (w.out s)),some (.int (if c<pw F then 3 else 1)),none,none]:=by
  have sh:=au (i:=n) (j:=F) ⋯ ⋯
  clear hfar ho hbr hnb hw
  by_cases g:c<pw F<;>simp_arith [sh,ld,g]
 have i5:ifs (bin oEq (var 6) (var 7)) (assign 10 ⇑5) ao [some ↥11,some (.str w.s),some (.int s),some (.int T),some (.int n),some ↥25,some (.int (c+1)),some (.int ↥24),some (.int (vl F (c+1)*n)),some (.bl (w.out s)),some (.int (if c<pw F then 3 else 1)),none,none]=.nx [some ↥11,some (.str w.s),some (.int s),some (.int T),some (.int n),some ↥25,some (.int (c+1)),some (.int ↥24),some (.int (vl F (c+1)*n)),some (.bl (w.out s)),some (.int (if c+1=pw ↥1 - pw F then 5 else if c<pw F then 3 else 1)),none,none]:=by
  clear hfar ho hbr hnb hw i10
  generalize (if c<pw F then 3 else 1:Int)=fl
  by_cases g2:c+1=pw ↥1 - pw F
  ·simp_arith [eq_true g2]
  ·simp_arith [g2]
 generalize ifs (bin oLt (var 3) (bin bD (var 4) ↥4)) (assign 10 ⇑3) ao=I10 at *
 generalize ifs (bin oEq (var 6) (var 7)) (assign 10 ⇑5) ao=I5 at *
 generalize (if c+1=pw ↥1 - pw F then 5 else if c<pw F then 3 else 1:Int)=f2 at *
 generalize (if c<pw F then 3 else 1:Int)=fl at *
 simp_arith [i10,i5,cw,ho,hbr,hnb,au (j:=E+F) ⋯ ns2,eK,gp (k:=E) ⋯ ⋯,au (i:=pw E - 1) (j:=F) ⋯ ⋯,eM,show 0<=c+1 by omega,show c+1<=pw ↥1 - pw F by omega,bP (c:=c+1) h ⋯ ⋯,aG (gx (x:=c+1) h ⋯ ⋯ nn),show ¬ vl F (c+1)*n<=T by omega,show ¬ T=vl F (c+1)*n by omega,au (i:=n) (j:=F) ⋯ ⋯,ld,show ¬ vl F (c+1)*n<T by omega,e1,bP (c:=c) h c0 ⋯,aG (gx (x:=c) h c0 ⋯ nn),show ¬ T<=vl F c*n by omega,aG m2,hfar]
theorem An {r:Int} (w:Wy) (h:Sz E F) (hs:0<=s/\s<=1) (hn:0<n) (nT:nb T<=10000000) (nn:nb n<=10000000) (c0:0<=c) (h1:vl F c*n<=T) (h2:c<pw ↥1 - pw F->T<vl F (c+1)*n)
  (hr:og F T n c r) :
  aH [.tup [.int E,.int F],.str w.s,.int s,.int T,.int n,.tup [.int (s*pw ↥1+stK w E F s c r),.int (stF w E F s c r)]]=.ok ↥34:=by
 have hh:=bh h
 have hQ:=ag F
 by_cases g:pw ↥1 - pw F<=c
 ·have hT:vl F ↥24*n<=T:=by
   rcases Int.lt_or_eq_of_le g with y | y
   ·have:=cS (F:=F) hn (show 0<=pw ↥1 - pw F by omega) y
    omega
   ·rw [y];exact h1
  unfold stF stK
  simp only [if_pos g]
  cases gb:w.brs s
  ·exact uD w h hs hn nT nn gb hT
  ·exact Am w h hs hn nT nn gb hT
 have h2:=h2 ⋯
 rcases hr with ⟨e,eT⟩ | ⟨h1',hr⟩
 ·have e1:stK w E F s c r=c:=by unfold stK;rw [if_neg g,if_pos e]
  have e2:stF w E F s c r=0:=by unfold stF;rw [if_neg g,if_pos e]
  rw [e1,e2]
  exact uE w h hs hn nT nn c0 ⋯ eT
 have r0:¬ r=0:=⋯
 cases gg:w.grw s (decide (c%2=1)) r
 ·have e1:stK w E F s c r=c:=by unfold stK;rw [if_neg g,if_neg r0,gg];rfl
  have e2:stF w E F s c r=if c<pw F then 3 else 1:=by unfold stF;rw [if_neg g,if_neg r0,e1,if_neg ⋯]
  rw [e1,e2]
  exact xm w h hs hn nT nn c0 ⋯ h1' h2 (DP hr gg)
 ·have e1:stK w E F s c r=c+1:=by unfold stK;rw [if_neg g,if_neg r0,gg];rfl
  have e2:stF w E F s c r=if c+1=pw ↥1 - pw F then 5 else if c<pw F then 3 else 1:=by unfold stF;rw [if_neg g,if_neg r0,e1]
  rw [e1,e2]
  refine Al w h hs hn nT nn c0 ⋯ h1' h2 (HP (l:=2*T - vl F (c+1)*n - vl F c*n) ?_ gg)
  omega
end
theorem Ck {E F T n g k r:Int} (w:Wy) (h:Sz E F) (hg:0<=g/\g<=1) (hn:0<n) (nT:nb T<=1000000) (nn:nb n<=1000000) (a:At F T n k r) :
  dN [.tup [.int E,.int F],.str w.s,.int g,.int T,.int n,.int (g*pw ↥1+stK w E F g k r)]=.ok (.int (stF w E F g k r)):=by
 obtain ⟨k1,k2,k3,k4⟩:=id h
 have hh:=bh h
 have hQ:=ag F
 have hH:=ag ↥1
 have i:=AY (w:=w) (s:=g) (r:=r) h a.1
 have fr:=An w h hg hn (Nat.le_trans nT ↥3) (Nat.le_trans nn ↥3) a.1 a.2.1 (fun _=>a.2.2.1) a.2.2.2
 have ld:=qQ h hn a.1 a.2.1 a.2.2.1
 have nE:nb (pw E - 1)<=15:=cM (by have:=ag E;omega) (by have:=dM h;omega)
 have ng:nb g<=1:=cM hg.1 ⋯
 have s0:=au (i:=g) (j:=E+F) ⋯ ⋯
 have s2:=gp (k:=E) ⋯ ⋯
 have s3:=au (i:=pw E - 1) (j:=F) ⋯ ⋯
 rw [end_is h] at s3
 have s4:=au (i:=n) (j:=F) ⋯ ⋯
 have b1:=bP (c:=stK w E F g k r) h i.1 ⋯
 have b2:=bP (c:=pw ↥1 - pw F) h ⋯ ⋯
 have m1:=aG (gx (x:=stK w E F g k r) (n:=n) h i.1 ⋯ (Nat.le_trans nn ↥3))
 have m2:=aG (gx (x:=pw ↥1 - pw F) (n:=n) h ⋯ ⋯ (Nat.le_trans nn ↥3))
 have ec:g*pw ↥1+stK w E F g k r - g*pw ↥1=stK w E F g k r:=⋯
 have mono:∀ x y,0<=x->x<=y->vl F x*n<=vl F y*n:=fun x y x0 xy=>by
  rcases Int.lt_or_eq_of_le xy with q | q
  ·exact Int.le_of_lt (cS hn x0 q)
  ·rw [q];exact Int.le_refl _
 have K0:=i.1
 have K1:=i.2
 unfold dN gf
 by_cases gk:pw ↥1 - pw F<=k
 ·have eF:=F9 (w:=w) (s:=g) (r:=r) gk
  rw [eF] at fr ⊢
  have big:vl F ↥24*n<=T:=Int.le_trans (mono _ _ ⋯ gk) a.2.1
  have d2:¬ (stK w E F g k r<pw ↥1 - pw F/\T=vl F (stK w E F g k r)*n):=fun z=>by
   have:=cS (F:=F) hn K0 z.1
   omega
  have lw:¬ T<n*pw F:=fun z=>by have:=ld.mp z;omega
  generalize stK w E F g k r=K at *
  by_cases q:K<pw ↥1 - pw F
  ·have q2:¬ T=vl F K*n:=fun z=>d2 ⟨q,z⟩
   simp_arith [s0,ec,s2,s3,K0,K1,s4,lw,q,b1,m1,q2,b2,m2,show ¬ K=pw ↥1 - pw F by omega,eq_true big,fr]
  ·have e:K=pw ↥1 - pw F:=⋯
   simp_arith [s0,ec,s2,s3,K0,K1,s4,lw,q,eq_true e,fr]
 ·have eF:=F8 (w:=w) (s:=g) (r:=r) (show k<pw ↥1 - pw F by omega)
  have eK:=F6 (w:=w) (s:=g) (r:=r) (show k<pw ↥1 - pw F by omega)
  have small:¬ vl F ↥24*n<=T:=fun z=>by
   have:=mono (k+1) ↥24 (by have:=a.1;omega) ⋯
   have:=a.2.2.1
   omega
  by_cases r0:r=0
  ·rw [if_pos r0] at eF eK
   have eT:T=vl F k*n:=by
    rcases a.2.2.2 with ⟨_,e⟩ | ⟨_,e⟩
    ·exact e
    ·rcases e with e | e | e<;>omega
   rw [eF] at fr ⊢
   rw [eK] at fr b1 m1 ec K0 K1 ⊢
   by_cases lw:T<n*pw F
   ·simp_arith [s0,ec,s2,s3,K0,K1,s4,lw,show k<pw ↥1 - pw F by omega,b1,m1,eq_true eT,fr]
   ·simp_arith [s0,ec,s2,s3,K0,K1,s4,lw,show k<pw ↥1 - pw F by omega,b1,m1,eq_true eT,fr]
  ·rw [if_neg r0] at eF
   have lt:vl F k*n<T:=by
    rcases a.2.2.2 with ⟨z,_⟩ | ⟨e,_⟩
    ·exact absurd z r0
    ·exact e
   have q2:¬ T=vl F (stK w E F g k r)*n:=fun z=>by
    rw [if_neg r0] at eK
    split at eK
    ·rw [eK] at z;have:=a.2.2.1;omega
    ·rw [eK] at z;omega
   by_cases q:stK w E F g k r=pw ↥1 - pw F
   ·rw [if_pos q] at eF
    rw [eF] at fr ⊢
    generalize stK w E F g k r=K at *
    by_cases lw:T<n*pw F
    ·simp_arith [s0,ec,s2,s3,K0,K1,s4,lw,show ¬ K<pw ↥1 - pw F by omega,eq_true q,fr]
    ·simp_arith [s0,ec,s2,s3,K0,K1,s4,lw,show ¬ K<pw ↥1 - pw F by omega,eq_true q,fr]
   ·rw [if_neg q] at eF
    have qq:stK w E F g k r<pw ↥1 - pw F:=⋯
    by_cases lw:T<n*pw F
    ·rw [if_pos (ld.mp lw)] at eF
     rw [eF] at fr ⊢
     generalize stK w E F g k r=K at *
     simp_arith [s0,ec,s2,s3,K0,K1,s4,lw,qq,q,b1,m1,q2,b2,m2,small,fr]
    ·rw [if_neg (fun z=>lw (ld.mpr z))] at eF
     rw [eF] at fr ⊢
     generalize stK w E F g k r=K at *
     simp_arith [s0,ec,s2,s3,K0,K1,s4,lw,qq,q,b1,m1,q2,b2,m2,small,fr]
theorem wO {E F b:Int} (h:Sz E F):cT [.tup [.int E,.int F],.int b]=.ok (.int (lnn E F b)):=by
 obtain ⟨h1,h2,h3,h4⟩:=id h
 have hv:=bP (c:=b%pw ↥1) h (HZ (b:=b)).1 (HZ (b:=b)).2
 unfold cT gi lnn cd
 by_cases g:pw ↥1<=b
 ·simp_arith [gp (k:=E+F) ⋯ ⋯,ag,hv,g]
 ·simp_arith [gp (k:=E+F) ⋯ ⋯,ag,hv,g]
theorem pq {E F s c:Int} (hs:0<=s/\s<=1) (c0:0<=c) (c1:c<pw ↥1):lnn E F ↥32=if s=1 then -(vl F c) else vl F c:=by
 have q:=(gR (E:=E) (F:=F) hs c0 c1).1
 unfold lnn cd
 rw [q]
 rcases (by omega:s=0\/s=1) with e | e<;>subst e
 ·rw [Int.zero_mul,if_neg ⋯,if_neg ↥3]
 ·rw [Int.one_mul,if_pos ⋯,if_pos rfl]
theorem pA {E F s c s' c' x y:Int} (w:Wy) (h:Sz E F) (hs:0<=s/\s<=1) (hs':0<=s'/\s'<=1) (c0:0<=c) (c1:c<pw ↥1) (d0:0<=c') (d1:c'<pw ↥1) (o:E7 w E F s c s' c' x y) :
  cm [.tup [.int E,.int F],.str w.s,.int ↥32,.int (s'*pw ↥1+c'),.int x]=.ok (.int y):=by
 obtain ⟨k1,k2,k3,k4⟩:=id h
 unfold E7 at o
 obtain ⟨q1,q2⟩:=gR (E:=E) (F:=F) hs c0 c1
 obtain ⟨r1,r2⟩:=gR (E:=E) (F:=F) hs' d0 d1
 have hh:=bh h
 have hQ:=ag F
 have hH:=ag ↥1
 have s1:=gp (k:=E+F) ⋯ ⋯
 have s2:=gp (k:=F) ⋯ ⋯
 have s7:=gp (k:=F - 1) ⋯ ⋯
 have n1:nb (pw ↥1)<=128:=gM (c:=127) ⋯
 have dv:∀ i,oDiv (.int i) (.int (pw ↥1))=.ok (.int (i / pw ↥1)):=fun i=>gL (iM.small hH ⋯)
 have ab:c=c'->(s*pw ↥1+c=s'*pw ↥1+c'↔s=s'):=fun e=>by
  subst e
  constructor
  ·intro z
   exact Int.eq_of_mul_eq_mul_right ⋯ (show s*pw ↥1=s'*pw ↥1 by omega)
  ·intro z;rw [z]
 unfold cm eV
 by_cases g1:pw ↥1 - pw F<c\/pw ↥1 - pw F<c'
 ·rw [if_pos g1] at o
  rw [o.1,o.2]
  simp_arith [s1,s2,s7,hH,q1,r1,eq_true g1]
 rw [if_neg g1] at o
 by_cases A:c=pw ↥1 - pw F
 ·rw [if_pos A] at o
  by_cases B:c'=pw ↥1 - pw F
  ·have ab:=ab (A.trans B.symm)
   by_cases C:s=s'
   ·rw [if_neg fun z=>z.2 C] at o
    have e:x=s*pw ↥1+c:=by rw [o.1,A]
    rw [e,o.2]
    simp_arith [s1,s2,s7,hH,q1,r1,g1,eq_true A,eq_true B,eq_true (ab.mpr C)]
   ·rw [if_pos ⟨B,C⟩] at o
    rw [o.1,o.2]
    have nab:¬ s*pw ↥1+c=s'*pw ↥1+c':=fun z=>C (ab.mp z)
    simp_arith [s1,s2,s7,hH,q1,r1,g1,eq_true A,eq_true B,nab]
  ·rw [if_neg fun z=>B z.1] at o
   have e:x=s*pw ↥1+c:=by rw [o.1,A]
   rw [e,o.2]
   simp_arith [s1,s2,s7,hH,q1,r1,g1,eq_true A,B]
 rw [if_neg A] at o
 by_cases B:c'=pw ↥1 - pw F
 ·rw [if_pos B] at o
  have e:x=s'*pw ↥1+c':=by rw [o.1,B]
  rw [e,o.2]
  simp_arith [s1,s2,s7,hH,q1,r1,g1,A,eq_true B]
 rw [if_neg B] at o
 have l1:=wO (b:=s*pw ↥1+c) h
 have l2:=wO (b:=s'*pw ↥1+c') h
 rw [pq hs c0 c1] at l1
 rw [pq hs' d0 d1] at l2
 have v1:=mK (x:=c) h c0 c1
 have v2:=mK (x:=c') h d0 d1
 have nX:nb ((if s=1 then -(vl F c) else vl F c)+(if s'=1 then -(vl F c') else vl F c'))<=100000:=by
  have a1:nb (if s=1 then -(vl F c) else vl F c)<=40000:=by rw [DQ];exact v1
  have a2:nb (if s'=1 then -(vl F c') else vl F c')<=40000:=by rw [DQ];exact v2
  have:=sP a1 a2
  omega
 generalize (if s=1 then -(vl F c) else vl F c)=p1 at *
 generalize (if s'=1 then -(vl F c') else vl F c')=p2 at *
 by_cases z:p1+p2=0
 ·obtain ⟨o1,o2⟩:=o.1 z
  have ms:∀ j:Int,0<=j/\j<=1->hZ (.int j) (.int (pw ↥1))=.ok (.int (j*pw ↥1)):=fun j hj=>aG (dR hj.1 hj.2 (Nat.le_trans n1 ↥3))
  rw [o1,o2]
  by_cases C:s'=s
  ·rw [if_pos C]
   simp_arith [s1,s2,s7,hH,q1,r1,g1,A,B,l1,l2,eq_true z,dv,q2,r2,eq_true C.symm,ms s hs]
  ·rw [if_neg C]
   have C':¬ s=s':=fun e=>C e.symm
   by_cases gd:w.s=PySem.Str.ofString "down"
   ·rw [if_pos gd]
    simp_arith [s1,s2,s7,hH,q1,r1,g1,A,B,l1,l2,eq_true z,dv,q2,r2,C',eq_true gd,ms 1 ↥3]
   ·rw [if_neg gd]
    simp_arith [s1,s2,s7,hH,q1,r1,g1,A,B,l1,l2,eq_true z,dv,q2,r2,C',gd,ms 0 ↥3]
 ·obtain ⟨k,r,o1,o2,a⟩:=o.2 z
  have nA:nb (if p1+p2<0 then -(p1+p2) else p1+p2)<=100000:=by rw [DQ];exact nX
  have tl:=Ck (g:=if p1+p2<0 then 1 else 0) w h (by split<;>decide) ↥3 (Nat.le_trans nA ↥3) ↥3 a
  rw [o1,o2]
  by_cases g:p1+p2<0
  ·rw [if_pos g] at tl ⊢
   rw [if_pos g] at tl
   simp_arith [s1,s2,s7,hH,q1,r1,g1,A,B,l1,l2,z,eq_true g,tl]
  ·rw [if_neg g] at tl ⊢
   rw [if_neg g] at tl
   simp_arith [s1,s2,s7,hH,q1,r1,g1,A,B,l1,l2,z,g,tl]
theorem tq {a b:Int} (ha:0<=a) (hb:0<=b):∃ x,yj (.int a) (.int b)=.ok (.int x)/\0<=x:=by
 unfold yj
 simp only
 rw [if_pos ⟨ha,hb⟩]
 exact ⟨_,rfl,⋯⟩
theorem EY {w:Wy} {E F s c s' c' x y:Int} (h:Sz E F) (hs:0<=s/\s<=1) (hs':0<=s'/\s'<=1) (o:E7 w E F s c s' c' x y):In E F x/\0<=y:=by
 have hh:=bh h
 have hQ:=ag F
 have e2:=gK (F:=F) h.2.2.1
 have hq1:=ag (F - 1)
 have nnI:In E F (pw ↥1 - pw F+pw (F - 1)):=by
  have:=(aD (s:=0) (c:=pw ↥1 - pw F+pw (F - 1)) h ↥3 ⋯ ⋯).1
  rw [Int.zero_mul,Int.zero_add] at this
  exact this
 have enI:∀ g:Int,0<=g/\g<=1->In E F (g*pw ↥1+↥24):=fun g hg=>(aD (c:=pw ↥1 - pw F) h hg ⋯ ⋯).1
 unfold E7 at o
 split at o
 ·rw [o.1,o.2];exact ⟨nnI,by decide⟩
 ·split at o
  ·split at o
   ·rw [o.1,o.2];exact ⟨nnI,by decide⟩
   ·rw [o.1,o.2];exact ⟨enI s hs,by decide⟩
  ·split at o
   ·rw [o.1,o.2];exact ⟨enI s' hs',by decide⟩
   ·by_cases z:(if s=1 then -(vl F c) else vl F c)+(if s'=1 then -(vl F c') else vl F c')=0
    ·obtain ⟨o1,o2⟩:=o.1 z
     rw [o1,o2]
     have:=(aD (s:=if s'=s then s else if w.s=PySem.Str.ofString "down" then 1 else 0) (c:=0) h (by split;exact hs;split<;>decide) ↥3 ⋯).1
     rw [Int.add_zero] at this
     exact ⟨this,by decide⟩
    ·obtain ⟨k,r,o1,o2,a⟩:=o.2 z
     rw [o1,o2]
     generalize (if s=1 then -(vl F c) else vl F c)+(if s'=1 then -(vl F c') else vl F c')=X at *
     have i:=AY (w:=w) (s:=if X<0 then 1 else 0) (r:=r) h a.1
     exact ⟨(aD (c:=stK w E F (if X<0 then 1 else 0) k r) h (by split<;>decide) i.1 ⋯).1,F7⟩
theorem sE {bs:List Int}:oEq (.lst (bs.map D.int)) (.lst (bs.map D.int))=.ok ↥34:=by
 have p:D.pl 8 (.lst (bs.map D.int))=true:=by
  unfold D.pl
  exact qD bs
 unfold oEq D.cmp
 rw [p]
 unfold D.beq
 rw [kQ]
 rfl
theorem zk {a0 a1 a2 z5 z6:Option D} {ds:List D} {k:Int} (fl:D.flats ds=true):IC 3 4 [a0,a1,a2,some (.own ds),some (.int k),z5,z6]=.rt (.tup [.lst ds,.int k]):=by
 show (if D.flats ds=true then O.rt (.tup [.lst ds,.int k]) else .bad)=_
 rw [if_pos fl]
theorem xX {a b c z4 z5:Option D} {rs ys zs:List D} {d:D} {m m':Int} {r:Bool} {g2 gc3 g4 g5 gc6 g7 g8:E} (lr:rs.length<100000) (ly:ys.length<100000) (h2:g2 [a,b,c,some (.lst rs),z4,z5]=.ok (.tup [.lst ys,d]))
  (h3:gc3 [a,b,c,some (.lst rs),some (.tup [.lst ys,d]),z5]=.ok ↥33) (h4:g4 [a,b,c,some (.lst rs),some (.tup [.lst ys,d]),z5]=.ok (.lst zs))
  (h5:g5 [a,b,c,some (.lst rs),some (.tup [.lst ys,d]),some (.lst zs)]=.ok (.int m)) (h6:gc6 [a,b,c,some (.lst (rs++[.int m])),some (.tup [.lst ys,d]),some (.lst zs)]=.ok ↥33)
  (h7:g7 [a,b,c,some (.lst (rs++[.int m])),some (.tup [.lst ys,d]),some (.lst zs)]=.ok (.int m')) (h8:g8 [a,b,c,some (.lst (rs++[.int m])),none,some (.lst zs)]=.ok (.bl r)) :
  mj 3 4 5 g2 gc3 g4 g5 gc6 g7 g8 [a,b,c,some (.own rs),z4,z5]=.rt (.bl r):=by
 unfold mj
 show few rs (okT (g2 [a,b,c,some (.lst rs),z4,z5]) _)=_
 unfold few
 rw [if_pos lr,h2]
 show few ys (okF (gc3 [a,b,c,some (.lst rs),some (.tup [.lst ys,d]),z5]) (okL (g4 [a,b,c,some (.lst rs),some (.tup [.lst ys,d]),z5]) _))=_
 unfold few
 rw [if_pos ly,h3,h4]
 show okI (g5 [a,b,c,some (.lst rs),some (.tup [.lst ys,d]),some (.lst zs)]) _=_
 rw [h5]
 show okF (gc6 [a,b,c,some (.lst (rs++[.int m])),some (.tup [.lst ys,d]),some (.lst zs)]) (okI (g7 [a,b,c,some (.lst (rs++[.int m])),some (.tup [.lst ys,d]),some (.lst zs)]) fun _=>okB (g8 [a,b,c,some (.lst (rs++[.int m])),none,some (.lst zs)]))=_
 rw [h6,h7,h8]
 rfl
inductive Tn (w:Wy) (E F:Int):Int->Int->List Int->List Int->Int->Prop
 | nil {t f:Int}:Tn w E F t f [] [] f
 | cons {t f b x y f1 f':Int} {bs ss:List Int}:cm [.tup [.int E,.int F],.str w.s,.int t,.int b,.int x]=.ok (.int y)->0<=y->yj (.int f) (.int y)=.ok (.int f1)->Tn w E F x f1 bs ss f'->Tn w E F t f (b::bs) (x::ss) f'
theorem Tn.len {w:Wy} {E F t f f':Int} {bs ss:List Int} (h:Tn w E F t f bs ss f'):ss.length=bs.length:=by
 induction h with
 | nil=>rfl
 | cons _ _ _ _ ih=>rw [List.length_cons,List.length_cons,ih]
theorem DY {l:List Int} {b:Int}:oIx (.lst ((l++[b]).map D.int)) (.int (-1))=.ok (.int b):=by
 have e0:ixN ((l++[b]).map D.int).length (-1)=some l.length:=by
  unfold ixN
  rw [List.length_map,List.length_append,if_neg ↥3,if_pos (by show -((l.length+1:Nat):Int) <= -1;omega)]
  congr 1
  show (-1+((l.length+1:Nat):Int)).toNat=_
  rw [show (-1+((l.length+1:Nat):Int))=(l.length:Int) by omega]
  rfl
 unfold oIx
 simp only [e0]
 rw [Option.bind_some,List.getElem?_map,List.getElem?_append_right ↥23,Nat.sub_self]
 rfl
theorem wV {p r:List Int} {b:Int}:oIx (.lst ((p++b::r).map D.int)) (.int p.length)=.ok (.int b):=jc (by rw [List.getElem?_map,List.getElem?_append_right ↥23,Nat.sub_self];rfl)
theorem EN {i:Nat} {δ:Dt} {x y:Int}:E6 i δ (.ok (.tup [.int x,.int y]))=.nx (δ.set i (some (.tup [.int x,.int y]))):=rfl
theorem qo {E F:Int} {bs:List Int} (w:Wy) (h:Sz E F) (hl:bs.length<=200) (hb:∀ b∈bs,In E F b):∃ ss f,cA [.tup [.int E,.int F],.str w.s,.lst (bs.map .int)]=.ok (.tup [.lst (ss.map .int),.int f])/\((bs=[]/\ss=[]/\f=0)\/∃ b r ss',bs=b::r/\ss=b::ss'/\Tn w E F b 0 r ss' f):=by
 have cb:=nM h ⋯ hb
 have fli:∀ i:Int,D.flat (.int i)=true:=fun _=>rfl
 unfold cA iq
 generalize hbody:Ac _ _ _=body
 generalize hL:bs.map D.int=L at *
 have loop:∀ (l:List Int),(∀ b∈l,In E F b)->∀ (ss:List Int) (f t:Int) (z5 z6:Option D),In E F t->0<=f->ss.length+l.length<=300->(∃ k,z5=some (.int k))->(z6=none\/∃ a b,z6=some (.tup [.int a,.int b]))->∃ (ss':List Int) (f':Int) (z5' z6':Option D),Tn w E F t f l ss' f'/\forL 5 body (l.map D.int) [some ↥11,some (.str w.s),some (.lst L),some (.own ((ss++[t]).map .int)),some (.int f),z5,z6]=.nx [some ↥11,some (.str w.s),some (.lst L),some (.own ((ss++[t]++ss').map .int)),some (.int f'),z5',z6']/\(∃ k,z5'=some (.int k))/\(z6'=none\/∃ a b,z6'=some (.tup [.int a,.int b])):=fun l=>by
  induction l with
  | nil=>exact fun _ ss f t z5 z6 _ _ _ h5 h6=>⟨[],f,z5,z6,.nil,by rw [List.append_nil];rfl,h5,h6⟩
  | cons b r ih =>
   intro hc ss f t z5 z6 ht f0 hl h5 h6
   rw [List.length_cons] at hl
   obtain ⟨s,c,hs,c0,c1,et⟩:=mO h ht
   obtain ⟨s',c',hs',d0,d1,eb⟩:=mO h (hc b (.head _))
   obtain ⟨x,y,e,o⟩:=AQ w h hs hs' c0 c1 d0 d1
   obtain ⟨ix,y0⟩:=EY h hs hs' o
   have la:=pA w h hs hs' c0 c1 d0 d1 o
   rw [<- et,<-eb] at e la
   obtain ⟨f',ef,f0'⟩:=tq f0 y0
   obtain ⟨ss',f2,z5',z6',tn,e',q5,q6⟩:=ih (fun c m=>hc c (.tail _ m)) (ss++[t]) f' x (some (.int b)) (some (.tup [.int x,.int y])) ix f0' (by rw [List.length_append];show ss.length+1+r.length<=300;omega) ⟨_,rfl⟩ (.inr ⟨_,_,rfl⟩)
   refine ⟨x::ss',f2,z5',z6',.cons la y0 ef tn,?_,q5,q6⟩
   have e3:ss++[t]++x::ss'=ss++[t]++[x]++ss':=by simp
   rw [List.map_cons,cj,e3,<-e']
   have il:=DY (l:=ss) (b:=t)
   have e2:(ss++[t]++[x]).map D.int=(ss++[t]).map D.int++[.int x]:=by rw [List.map_append];rfl
   rw [e2]
   have ln:((ss++[t]).map D.int).length=ss.length+1:=by rw [List.length_map,List.length_append];rfl
   have n0:¬ ((ss.length+1:Nat):Int)=0:=⋯
   have lt:((ss++[t]).map D.int).length<100000:=⋯
   generalize (ss++[t]).map D.int=Q at *
   subst hbody
   rcases h6 with rfl | ⟨u,v,rfl⟩<;>simp_arith [ln,n0,il,e,ef,EN,fH (fli _) lt]
 have fin:∃ (ss:List Int) (f':Int) (z5' z6':Option D),forL 5 body (bs.map D.int) [some ↥11,some (.str w.s),some (.lst L),some (.own []),some (.int 0),none,none]=.nx [some ↥11,some (.str w.s),some (.lst L),some (.own (ss.map .int)),some (.int f'),z5',z6']/\((bs=[]/\ss=[]/\f'=0)\/∃ b r ss',bs=b::r/\ss=b::ss'/\Tn w E F b 0 r ss' f'):=by
  cases bs with
  | nil=>exact ⟨[],0,none,none,rfl,.inl ⟨rfl,rfl,rfl⟩⟩
  | cons b r =>
   rw [List.length_cons] at hl
   obtain ⟨ss',f2,z5',z6',tn,e',q5,q6⟩:=loop r (fun c m=>hb c (.tail _ m)) [] 0 b (some (.int b)) none (hb b (.head _)) (Int.le_refl _) (by show 0+r.length<=300;omega) ⟨_,rfl⟩ (.inl rfl)
   refine ⟨b::ss',f2,z5',z6',?_,.inr ⟨b,r,ss',rfl,rfl,tn⟩⟩
   have e3:b::ss'=[]++[b]++ss':=rfl
   rw [List.map_cons,cj,e3,<-e']
   subst hbody
   simp_arith [fH (i:=3) (ds:=[]) (fli b) ↥3]
 obtain ⟨ss',f',z5,z6,e,tn⟩:=fin
 have ll:(bs.map D.int).length<=100000:=by rw [List.length_map];omega
 rw [hL] at ll
 rw [hL] at e
 refine ⟨ss',f',?_,tn⟩
 have rt:=zk (a0:=some ↥11) (a1:=some (.str w.s)) (a2:=some (.lst L)) (z5:=z5) (z6:=z6) (k:=f') (gm ss')
 simp_arith [cV w,cb,ll,e,rt]
theorem rX {w:Wy} {E F f:Int} {bs ss:List Int} (h:(bs=[]/\ss=[]/\f=0)\/∃ b r ss',bs=b::r/\ss=b::ss'/\Tn w E F b 0 r ss' f):ss.length=bs.length:=by
 rcases h with ⟨rfl,rfl,_⟩ | ⟨b,r,ss',rfl,rfl,tn⟩
 ·rfl
 ·rw [List.length_cons,List.length_cons,tn.len]
theorem nZ {E F:Int} {bs:List Int} (w:Wy) (h:Sz E F) (hl:bs.length<=200) (hb:∀ b∈bs,In E F b):bI [.tup [.int E,.int F],.str w.s,.lst (bs.map .int)]=.ok ↥34:=by
 obtain ⟨ss,f,e,tn⟩:=qo w h hl hb
 have ls:=rX tn
 have lF:∀ l:List Int,jh [.lst (l.map D.int)]=.ok (.lst (l.map .int)):=fun l=>by
  show dH (l.map D.int)=_
  unfold dH
  rw [if_pos (gm l)]
 have go:∀ z4 z5,mj 3 4 5 (call cA [var 0,var 1,var 3]) (or_ (lP (call iW [var 4,con (.ty "tuple")])) (or_ (bin oNe (call nY [var 4]) ⇑2) (lP (call iW [bin oIx (var 4) ⇑0,con (.ty "list")])))) (call jh [bin oIx (var 4) ⇑0]) ⇑1 (bin oNe (bin oIx (var 4) ⇑0) (var 5)) ⇑0 (fk (bin oEq (var 3) (bin bu (var 2) (qP [⇑1]))) (or_ (bin oGt (call nY [var 2]) ⇑1) (bin oEq (var 5) (var 2)))) [some ↥11,some (.str w.s),some (.lst (bs.map .int)),some (.own (bs.map .int)),z4,z5]=.rt ↥34:=fun z4 z5=>by
  have ea:bs.map D.int++[.int 1]=(bs++[1]).map .int:=by rw [List.map_append];rfl
  refine xX (ys:=ss.map .int) (d:=.int f) (zs:=ss.map .int) (m:=1) (m':=0) (by rw [List.length_map];omega) (by rw [List.length_map];omega) (by simp_arith [e]) (by simp_arith []) (by simp_arith [lF]) (by simp_arith []) (by simp_arith [sC]) (by simp_arith []) ?_
  rw [ea]
  have oa:bu (.lst (bs.map D.int)) (.lst [.int 1])=.ok (.lst ((bs++[1]).map .int)):=by
   rw [sG (by rw [List.length_map];show bs.length+1<=100000;omega),ea]
  by_cases g:(1:Int)<bs.length
  ·simp_arith [oa,sE,List.length_map,eq_true g]
  ·have es:ss=bs:=by
    rcases tn with ⟨rfl,rfl,_⟩ | ⟨b,r,ss',rfl,rfl,tn⟩
    ·rfl
    ·cases tn with
     | nil=>rfl
     | cons _ _ _ _=>rw [List.length_cons,List.length_cons] at g;omega
   rw [es]
   simp_arith [oa,sE,List.length_map,g]
 unfold bI eS
 simp_arith [lF,go]
theorem si {a b:Int} (h:a<b):oJ a b=.int a::oJ (a+1) b:=by
 unfold oJ
 rw [show (b - a).toNat=(b - (a+1)).toNat+1 by omega,List.range_succ_eq_map,List.map_cons,List.map_map]
 congr 1
 ·show D.int (a+((0:Nat):Int))=_
  rw [show a+((0:Nat):Int)=a by omega]
 ·refine List.map_congr_left fun k _ => ?_
  show D.int (a+((k+1:Nat):Int))=_
  rw [show a+((k+1:Nat):Int)=a+1+k by omega]
theorem CT {a b:Int} (h:b<=a):oJ a b=[]:=by
 unfold oJ
 rw [show (b - a).toNat=0 by omega]
 rfl
theorem zY:Good zw:=by
 intro ns hl hb
 have h:=Jt (ns.getD 0 0)
 obtain ⟨w,ew⟩:=va (ns.getD 1 0)
 have c0:=rz (ns:=ns) (j:=0) ↥3
 have c1:=rz (ns:=ns) (j:=1) ↥3
 have c2:=rz (ns:=ns) (j:=2) ↥3
 have q0:ns.getD (0:Int).toNat 0=ns.getD 0 0:=rfl
 have q1:ns.getD (1:Int).toNat 0=ns.getD 1 0:=rfl
 have q2:ns.getD (2:Int).toNat 0=ns.getD 2 0:=rfl
 rw [q0] at c0
 rw [q1] at c1
 rw [q2] at c2
 have so:=CK (c:=ns.getD 0 0)
 generalize szE (ns.getD 0 0)=E at *
 generalize szF (ns.getD 0 0)=F at *
 generalize ns.getD 2 0=q at *
 generalize ns.getD 1 0=q' at *
 generalize ns.getD 0 0=q'' at *
 generalize hcs:EV.cut ns (some 3) (some 203)=cs
 have lcs:cs.length<=63:=by
  have:=xB ns (some 3) (some 203)
  rw [hcs] at this
  omega
 have ecs:EV.cut (ns.map D.int) (some 3) (some 203)=cs.map D.int:=by rw [<- hcs];exact xA _ _ _ _
 obtain ⟨bs,eb,ib,lb⟩:=vB (q:=q) h lcs fun c hc=>hb c (by rw [<- hcs] at hc;exact xx hc)
 obtain ⟨ss,f,et,tn⟩:=qo w h lb ib
 have ls:=rX tn
 have ap:=nZ w h lb ib
 have ap0:=nZ (bs:=[]) w h (show 0<=200 by decide) (fun _ z=>nomatch z)
 rw [List.map_nil] at ap0
 have ap1:=nZ (bs:=bs.take 1) w h (by rw [List.length_take];omega) (fun b m=>ib b (List.mem_of_mem_take m))
 have ec:EV.cut (bs.map D.int) none (some 1)=(bs.take 1).map .int:=by
  cases bs with
  | nil=>rfl
  | cons b r =>
   show List.take (min 1 ((r.map D.int).length+1) - 0) (D.int b::r.map D.int)=_
   rw [show min 1 ((r.map D.int).length+1) - 0=1 by omega]
   rfl
 have ns0:=sC (bs:=bs)
 have ll:∀ l:List Int,(l.map D.int).length=l.length:=fun l=>List.length_map ..
 have ls2:(ss.length:Int)=bs.length:=by rw [ls]
 unfold zw Aj
 generalize hbody:seq (ifs (or_ (lP (call aR [bin oIx (bin oIx (var 5) ⇑0) (var 7)])) _) _ _) _=body
 have loop:∀ {t f:Int} {r ss':List Int} {f':Int},Tn w E F t f r ss' f'->∀ (f0:Int) (pb ps:List Int) (z8:Option D) (k0:Int),pb.length=ps.length+1->bs=pb++r->ss=ps++t::ss'->(z8=none\/∃ k,z8=some (.int k)) ->
   ∃ k1 z8',forL 7 body (oJ pb.length bs.length) [some (.lst (ns.map .int)),some ↥11,some (.str w.s),some (.lst (bs.map .int)),some (.lst (bs.map .int)),some (.tup [.lst (ss.map .int),.int f0]),some (.int f),some (.int k0),z8] =
    .nx [some (.lst (ns.map .int)),some ↥11,some (.str w.s),some (.lst (bs.map .int)),some (.lst (bs.map .int)),some (.tup [.lst (ss.map .int),.int f0]),some (.int f'),some (.int k1),z8']:=by
  intro t f r ss' f' tn
  induction tn with
  | nil =>
   intro f0 pb ps z8 k0 hp eb es _
   rw [List.append_nil] at eb
   rw [CT (by rw [eb];omega)]
   exact ⟨k0,z8,rfl⟩
  | @cons t f b x y f1 f' bs' ss'' la y0 ef tn ih =>
   intro f0 pb ps z8 k0 hp eb es h8
   obtain ⟨k1,z8',e⟩:=ih f0 (pb++[b]) (ps++[t]) (some (.int y)) pb.length (by rw [List.length_append,List.length_append];show pb.length+1=ps.length+1+1;omega) (by rw [eb,List.append_assoc];rfl) (by rw [es,List.append_assoc];rfl) (.inr ⟨y,rfl⟩)
   refine ⟨k1,z8',?_⟩
   have lp:(pb.length:Int)<bs.length:=by rw [eb,List.length_append,List.length_cons];omega
   rw [si lp,cj,<-e,List.length_append,show ((pb.length+[b].length:Nat):Int)=(pb.length:Int)+1 from rfl]
   have e1:oIx (.lst (ss.map D.int)) (.int pb.length)=.ok (.int x):=by
    have z:=wV (p:=ps++[t]) (b:=x) (r:=ss'')
    rw [List.append_assoc,List.length_append] at z
    rw [es,hp]
    exact z
   have e2:oIx (.lst (ss.map D.int)) (.int (pb.length - 1))=.ok (.int t):=by
    have z:=wV (p:=ps) (b:=t) (r:=x::ss'')
    rw [es,hp,show ((ps.length+1:Nat):Int) - 1=ps.length by omega]
    exact z
   have e3:oIx (.lst (bs.map D.int)) (.int pb.length)=.ok (.int b):=by
    rw [eb]
    exact wV
   have p0:(0:Int)<pb.length:=⋯
   have p1:¬ (pb.length:Int)=0:=⋯
   have y1:¬ y<0:=⋯
   clear ih e tn es eb
   generalize bs.map D.int=BL at *
   generalize ss.map D.int=SL at *
   generalize (pb.length:Int)=P at *
   generalize forL 7 body=W
   subst hbody
   rcases h8 with rfl | ⟨u,rfl⟩<;>simp_arith [e1,e2,e3,p0,p1,y1,la,ef,cw]
 have run:∃ k1 z8',forL 7 body (oJ 0 bs.length) [some (.lst (ns.map .int)),some ↥11,some (.str w.s),some (.lst (bs.map .int)),some (.lst (bs.map .int)),some (.tup [.lst (ss.map .int),.int f]),some (.int 0),none,none] =
    .nx [some (.lst (ns.map .int)),some ↥11,some (.str w.s),some (.lst (bs.map .int)),some (.lst (bs.map .int)),some (.tup [.lst (ss.map .int),.int f]),some (.int f),k1,z8']:=by
  rcases tn with ⟨rfl,rfl,rfl⟩ | ⟨b,r,ss',rfl,rfl,tn⟩
  ·exact ⟨none,none,rfl⟩
  ·obtain ⟨k1,z8',e⟩:=loop tn f [b] [] none 0 rfl rfl rfl (.inl rfl)
   refine ⟨some (.int k1),z8',?_⟩
   rw [si (by rw [List.length_cons];omega),cj]
   have e':(0:Int)+1=(([b]:List Int).length:Int):=rfl
   rw [e',<-e]
   generalize forL 7 body=W
   subst hbody
   rw [List.map_cons,List.map_cons]
   simp_arith [cw]
 obtain ⟨k1,z8',run⟩:=run
 generalize hB:bs.map D.int=BL at *
 have lB:BL.length=bs.length:=by rw [<- hB];exact ll bs
 have lS:(ss.map D.int).length=bs.length:=by rw [ll];exact ls
 generalize ss.map D.int=SL at *
 simp_arith [c0,so,c1,ew,ecs,c2,eb,et,ns0,lB,lS,cw,run,ap,ec,ap1,ap0,show (bs.length:Int)<4611686018427387904 by omega,show -4611686018427387904<=(bs.length:Int) by omega]
end T
open PySem PySem.W PyProof.Rows
set_option maxHeartbeats 0 in
theorem PySem.Challenge.cw_roundmill_k40_in_turn_holds : PySem.Challenge.rw_roundmill_k40_in_turn.Holds := by
 w_on;o_law
 refine holds_open (q:=H.q) (loose:=[]) (Xt:=H.Xt) (XP:=XL H.q []) (Yf:=(kHook H.K H.as H.he).obs) (Ya:=(kHook H.K H.as H.he).val) (YP:=(kHook H.K H.as H.he).says) (N:=6368) H.left (kHook H.K H.as H.he).of (kHook H.K H.as H.he).keeps (fun s e=>xl_of s (Bool.and_eq_true_iff.mp e).1) XL.keeps (by rfl) (by rfl) (by rfl) (fun s e=>recFacts_of (Bool.and_eq_true_iff.mp e).2) (by rfl) (by first | assumption | decide +kernel) (by decide +kernel) ⟨rfl,rfl,rfl,rfl,rfl,by decide +kernel⟩ ?hw ?hc
 (case hw=>w_witness2)
 k_fill
 refine ES.yy (l:=PySem.Challenge.rw_roundmill_k40_in_turn) (k:=12) (x:="_law_script") (f:=T.zw) T.zY rfl rfl ⟨rfl,by decide,by decide⟩ (fun w h Y=>PySem.W.kIn_of Y) ?F
 case F =>
  intro w mg fa h KX GG hmg
  refine' T.all_mk KX GG hmg ?n_Way ?pg_Way ?hd_Way ?po_Way ?sa_Way ?na_Way ?aIWay ?uIWay ?mm_Way ?kc_Way ?lIWay ?eIWay ?kIWay ?q1 ?q2 ?q3 ?q4 ?q5 ?q6 ?q7 ?q8 ?q9 ?q10 ?q11 ?q12 ?q13 ?q14 ?q15 ?q16 ?q17 ?q18 ?q19 ?q20 ?q21 ?q22 ?q23 ?q24 ?q25 ?q26 ?a27 ?u27 ?l27 ?e27 ?k27 ?a28 ?u28 ?l28 ?e28 ?k28 ?a29 ?u29 ?l29 ?e29 ?k29 ?q30 ?q31 ?q32 ?q33 ?q34 ?q35 ?q36 ?q37 ?q38 ?q39 ?q40 ?q41 ?q42 ?a43 ?l43 ?e43 ?k43 ?q44 ?q45 ?q46 ?q47 ?q48 ?q49 ?q50 ?q51 ?q52 ?q53 ?a54 ?l54 ?e54 ?k54 ?z_min ?z_max ?z_len ?z_abs ?z_list ?z_any ?z_tuple ?z_isinstance ?z_int ?z_bool ?z_range ?y_NAMES ?yl_NAMES ?y_INEXACT ?y_GREAT ?y_SMALL ?y_WRONG ?n_MillError ?n_NoBits ?n_NotFinite ?n_NoWay ?n_NoFraction ?xi_NoWay ?xi_NoBits ?xi_NoFraction ?xi_NotFinite ?v_MillError ?w_NoSize ?v_NoBits ?w_NoParts ?w_NoRank ?v_NotFinite ?v_NoWay ?w_NoFlags ?v_NoFraction ?w_Unlike ?w_Empty ?w_NoLeft ?w_NoText ?w_NoRow ?w_NoName ?w_Stopped ?i_tuple_NoneType ?i_tuple_bool ?i_tuple_int ?i_tuple_str ?i_tuple_tuple ?i_tuple_list ?i_list_NoneType ?i_list_bool ?i_list_int ?i_list_str ?i_list_tuple ?i_list_list ?i_int_NoneType ?i_int_bool ?i_int_int ?i_int_str ?i_int_tuple ?i_int_list ?i_bool_NoneType ?i_bool_bool ?i_bool_int ?i_bool_str ?i_bool_tuple ?i_bool_list
  (case n_Way | pg_Way | hd_Way | po_Way | sa_Way | na_Way | aIWay | uIWay | mm_Way | kc_Way | lIWay | eIWay | kIWay=>k_is)
  (case q1 | q2 | q3 | q4 | q5 | q6 | q7 | q8 | q9 | q10 | q11 | q12 | q13 | q14 | q15 | q16 | q17 | q18 | q19 | q20 | q21 | q22 | q23 | q24 | q25 | q26=>exact ES.Er (by k_is) (by k_is) (by k_is) (by k_is))
  (case a27 | u27 | l27 | e27 | k27 | a28 | u28 | l28 | e28 | k28 | a29 | u29 | l29 | e29 | k29=>k_is)
  (case q30 | q31 | q32 | q33 | q34 | q35 | q36 | q37 | q38 | q39 | q40 | q41 | q42=>exact ES.Er (by k_is) (by k_is) (by k_is) (by k_is))
  (case a43 | l43 | e43 | k43=>k_is)
  (case q44 | q45 | q46 | q47 | q48 | q49 | q50 | q51 | q52 | q53=>exact ES.Er (by k_is) (by k_is) (by k_is) (by k_is))
  (case a54 | l54 | e54 | k54 | z_min | z_max | z_len | z_abs | z_list | z_any | z_tuple | z_isinstance | z_int | z_bool | z_range | y_NAMES | yl_NAMES | y_INEXACT | y_GREAT | y_SMALL | y_WRONG | n_MillError | n_NoBits | n_NotFinite | n_NoWay | n_NoFraction=>k_is)
  (case xi_NoWay | xi_NoBits | xi_NoFraction | xi_NotFinite=>k_exc)
  (case v_MillError=>exact ⟨by k_is,by k_is,by k_is,by k_is,by k_is,⟨_,by k_is⟩⟩)
  (case w_NoSize=>k_is)
  (case v_NoBits=>exact ⟨by k_is,by k_is,by k_is,by k_is,by k_is,⟨_,by k_is⟩⟩)
  (case w_NoParts | w_NoRank=>k_is)
  (case v_NotFinite | v_NoWay=>exact ⟨by k_is,by k_is,by k_is,by k_is,by k_is,⟨_,by k_is⟩⟩)
  (case w_NoFlags=>k_is)
  (case v_NoFraction=>exact ⟨by k_is,by k_is,by k_is,by k_is,by k_is,⟨_,by k_is⟩⟩)
  (case w_Unlike | w_Empty | w_NoLeft | w_NoText | w_NoRow | w_NoName | w_Stopped=>k_is)
  (case i_tuple_NoneType | i_tuple_bool | i_tuple_int | i_tuple_str | i_tuple_tuple | i_tuple_list | i_list_NoneType | i_list_bool | i_list_int | i_list_str | i_list_tuple | i_list_list | i_int_NoneType | i_int_bool | i_int_int | i_int_str | i_int_tuple | i_int_list | i_bool_NoneType | i_bool_bool | i_bool_int | i_bool_str | i_bool_tuple | i_bool_list=>kit_is)
#print axioms PySem.Challenge.cw_roundmill_k40_in_turn_holds
