import PyProof.Rows.All
import Wide.All
import OpenK.AllK
import Wide.FinOn
import Lean
import PyProof.EqAt
import PyProof.EqKinds
import PyProof.TupleCall
import PySem.Challenge.RW_roundmill_k34_whole_deeds
set_option Elab.async false
set_option linter.all false
set_option genSizeOf false
set_option maxRecDepth 100000
local macro_rules (kind:=Lean.Parser.Command.declaration)
 | s=>if (s[1].isOfKind ``Lean.Parser.Command.definition||s[1].isOfKind ``Lean.Parser.Command.abbrev)&&s[0][4].getNumArgs == 0&&s[1][1][0].getId != `bmV then pure (s.setArg 0 (s[0].setArg 4 (Lean.mkNullNode #[Lean.mkNode ``Lean.Parser.Command.noncomputable #[Lean.mkAtom "noncomputable"]]))) else Lean.Macro.throwUnsupported
set_option hygiene false
local macro_rules | `(tactic| omega)=>`(tactic| first | lia | omega +splitNatSub)
local macro_rules | `(⋯)=>`(by omega)
local macro_rules | `(⇑$x)=>`(con (.int $x))
local macro_rules | `(↥$n:num)=>match n.getNat with | 0=>`(E+F) | 1=>`(by decide) | 2=>`(bin oIx (var 0) ⇑1) | 3=>`(Life.mk [] [] [] 0 [] [] false #[] [] 0 false false false 0 [2000,10,10] false 0 true [] [] 0 false) | 4=>`(PySem.W.fnOf x qual (gB st) (aj st) (aa st) .none kV doc pm an cdv ct) | 5=>`(.type "tuple") | 6=>`(po E F (c / pw F)) | 7=>`(bin oIx (var 0) ⇑0) | 8=>`(model X.prog X.w) | 9=>`(cxU X xs ksn sc C fp s H W) | 10=>`(Shared.mk (hf w.params) ⟨[]⟩ (Drawn.mk 0 0 0 0) 1134 os) | 11=>`(importedModules (Program.main PySem.Challenge.pw_roundmill_k34_whole_deeds).body) | 12=>`(2*cG E F t n) | 13=>`(s*pw ↥0+c) | 14=>`(Addr×Obj) | 15=>`(-(lo E F)) | 16=>`(a9 af (aU (P.y 0) af)) | 17=>`(aU (a9 af (P.y 0)) af) | 18=>`(bin bH (bin bT (bin bH ⇑1 ↥7) ⇑1) ↥2) | 19=>`(cxU X xs ksn sc s3.heap.objs.size fp s3 H3 WW) | 20=>`(c / pw F) | 21=>`(cxU X [x] ksn sc C fp s H W) | 22=>`(bin bx (bin bT (bin bH ⇑1 (bin bT ↥7 ⇑1)) ⇑2) ↥2) | 23=>`(vS "roundmill.errors" 187) | 24=>`(eB (bin oEq (var 1) (con (.str "down"))) (bin oEq (var 2) ⇑1)) | 25=>`(model prog w) | 26=>`(.bl true) | 27=>`(eB (bin oEq (var 1) (con (.str "up"))) (bin oEq (var 2) ⇑0)) | 28=>`(gP I q (by simp)) | 29=>`(P.v 0) | 30=>`(aD.refl _) | 31=>`(eB (bin oNe (var 1) (con (.str "away"))) (uY (var 9))) | 32=>`(qe E F t n) | 33=>`(ze (rW S' 0 rfl) af) | 34=>`(((s,c),(s',c'))) | 35=>`(.bl false) | 36=>`(hide H os) | 37=>`(s'*pw ↥0+c') | 38=>`(Nat.le_refl _) | 39=>`(a9 af (aC (P.y 0) (P.y 0))) | _=>Lean.Macro.throwUnsupported
set_option hygiene true
namespace L2
open PySem PySem.Spec PyProof.Rows
abbrev Key:=Sum Int Str
def Mn:Key->Value->Bool
 | .inl k,v=>Value.isInt k v
 | .inr x,v=>Value.isStrOf x v
def VC (w:World):Key->Int
 | .inl k=>hashInt k
 | .inr x=>hashStr w x
theorem bL:∀ {k:Key} {v:Value},Mn k v=true->(∃ i t,k=Sum.inl i/\v=Value.int i t)\/(∃ x t,k=Sum.inr x/\v=Value.str x t)
 | .inl i,v,h=>by
  obtain ⟨t,e⟩:=Value.isInt_shape (k:=i) (v:=v) h
  exact .inl ⟨i,t,rfl,e⟩
 | .inr x,v,h=>by
  obtain ⟨t,e⟩:=Value.isStrOf_shape (x:=x) (v:=v) h
  exact .inr ⟨x,t,rfl,e⟩
theorem Mm (a b:Int):decide ((Sum.inl a:Key)=Sum.inl b)=(a == b):=by
 by_cases e:a=b
 ·subst e;simp
 ·have h:¬ (Sum.inl a:Key)=Sum.inl b:=fun q=>e (Sum.inl.inj q)
  rw [decide_eq_false h]
  exact (beq_eq_false_iff_ne.mpr e).symm
theorem Mi (a b:Str):decide ((Sum.inr a:Key)=Sum.inr b)=decide (a=b):=by
 by_cases e:a=b
 ·subst e;simp
 ·have h:¬ (Sum.inr a:Key)=Sum.inr b:=fun q=>e (Sum.inr.inj q)
  rw [decide_eq_false h,decide_eq_false e]
theorem Ml (a:Int) (b:Str):decide ((Sum.inl a:Key)=Sum.inr b)=false:=decide_eq_false (fun q=>nomatch q)
theorem Mj (a:Str) (b:Int):decide ((Sum.inr a:Key)=Sum.inl b)=false:=decide_eq_false (fun q=>nomatch q)
def Bf (prog:Program) (w:World):PySem.KeyKind prog w Key where
 is:=Mn
 hash:=VC w
 inj:=fun v a b ha hb=>by
  rcases bL ha with ⟨i,t,rfl,rfl⟩ | ⟨x,t,rfl,rfl⟩
  ·rcases bL hb with ⟨j,u,rfl,e⟩ | ⟨y,u,rfl,e⟩
   ·injection e with e1 _;rw [e1]
   ·exact nomatch e
  ·rcases bL hb with ⟨j,u,rfl,e⟩ | ⟨y,u,rfl,e⟩
   ·exact nomatch e
   ·injection e with e1 _;rw [e1]
 byValue:=fun k v h=>by
  rcases bL h with ⟨i,t,rfl,rfl⟩ | ⟨x,t,rfl,rfl⟩<;>rfl
 pyHash:=fun hv h=>by
  rcases bL hv with ⟨i,t,rfl,rfl⟩ | ⟨x,t,rfl,rfl⟩
  ·exact wpAny_pyHash_int h
  ·exact wpAny_pyHash_str h
 eqBool:=fun hu hv h=>by
  rcases bL hu with ⟨i,t,rfl,rfl⟩ | ⟨x,t,rfl,rfl⟩
  ·rcases bL hv with ⟨j,u,rfl,rfl⟩ | ⟨y,u,rfl,rfl⟩
   ·rw [Mm] at h;exact wpAny_eqBool_int h
   ·rw [Ml] at h;exact SeqAt.EqAt.int_str i t y u _ _ _ _ h
  ·rcases bL hv with ⟨j,u,rfl,rfl⟩ | ⟨y,u,rfl,rfl⟩
   ·rw [Mj] at h;exact SeqAt.EqAt.str_int x t j u _ _ _ _ h
   ·rw [Mi] at h;exact wpAny_eqBool_str h
 «strs»:=fun k x t v h=>by
  rcases bL h with ⟨i,u,rfl,e⟩ | ⟨y,u,rfl,e⟩
  ·exact nomatch e
  ·injection e with e1 _
   subst e1
   cases v<;>rfl
end L2
namespace L2
open PySem PySem.Spec PyProof.Rows
inductive V where
 | non | bl (b:Bool) | int (i:Int) | str (x:Str) | byt (b:Array UInt8) | flt (b:UInt64) | ref (a:Addr) | ty (n:String)
 deriving DecidableEq
def RelV:V->Value->Prop
 | .non,u=>u=Value.none
 | .bl b,u=>u=Value.bool b
 | .int i,u=>∃ t,u=Value.int i t
 | .str x,u=>∃ t,u=Value.str x t
 | .byt b,u=>∃ t,u=Value.bytes b t
 | .flt b,u=>∃ t,u=Value.float b t
 | .ref a,u=>u=Value.ref a
 | .ty n,u=>u=Value.type n
abbrev Vals:List V->List Value->Prop:=Paired RelV
theorem Vals.length {xs:List V} {us:List Value} (r:Vals xs us):xs.length=us.length:=Paired.length r
theorem Vals.get:∀ {xs:List V} {us:List Value} {i:Nat} {x:V},Vals xs us->xs[i]? = some x->∃ u,us[i]? = some u/\RelV x u
 | _,_,_,_,.nil,e=>by simp at e
 | _,_,0,_,.cons r _,e=>by simp at e;subst e;exact ⟨_,rfl,r⟩
 | _,_,i+1,x,.cons _ t,e=>by
  obtain ⟨u,h1,h2⟩:=Vals.get (i:=i) (x:=x) t (by simpa using e)
  exact ⟨u,by simpa using h1,h2⟩
theorem Vals.append:∀ {xs ys:List V} {us ws:List Value},Vals xs us->Vals ys ws->Vals (xs++ys) (us++ws)
 | _,_,_,_,.nil,s=>s
 | _,_,_,_,.cons r t,s=>.cons r (Vals.append t s)
theorem Vals.take:∀ {xs:List V} {us:List Value} (n:Nat),Vals xs us->Vals (xs.take n) (us.take n)
 | _,_,0,_=>.nil
 | _,_,_+1,.nil=>.nil
 | _,_,n+1,.cons r t=>.cons r (Vals.take n t)
theorem Vals.drop:∀ {xs:List V} {us:List Value} (n:Nat),Vals xs us->Vals (xs.drop n) (us.drop n)
 | _,_,0,r=>r
 | _,_,_+1,.nil=>.nil
 | _,_,n+1,.cons _ t=>Vals.drop n t
def CD:Option V->Option Value->Prop
 | some v,some u=>RelV v u
 | none,none=>True
 | _,_=>False
def KV {κ:Type}:List (κ×V)->List (κ×Value)->Prop:=Paired fun (p:κ×V) (q:κ×Value)=>p.1=q.1/\RelV p.2 q.2
def kV:Key->V
 | .inl i=>.int i
 | .inr x=>.str x
inductive HO where
 /-- a list -/
 | lst (xs:List V)
 /-- a tuple (never changes) -/
 | tup (xs:List V)
 /-- a dict whose keys are ints and texts;one whose keys are tuples of ints and texts (the empty one is both) -/
 | dK (kvs:List (Key×V)) | dT (kvs:List (List Key×V))
 /-- a set of ints: its members,its size -/
 | set (S:Int->Bool) (n:Nat)
 /-- an instance of the class at C,its dict at dx,its attributes -/
 | ins (C dx:Addr) (fs:List (Str×V))
 /-- the dict of the instance at x -/
 | own (x:Addr)
 /-- the dict of an exception -/
 | xd (fs:List (Str×V))
 /-- a bound method,f of x -/
 | met (f x:Addr)
 /-- a range object lo,lo+1,.. below hi -/
 | rng (lo hi:Int)
 /-- a thing that is known to the object (the script;a dict while a loop walks it): read,never written while it is so -/
 | frz (o:Obj) (u:HO)
 /-- a code object's table -/
 | tbl (ps:Array Value)
 /-- any other thing,by what is true of its one object (a def of one's own: SetO a S n:=HO.ext fun h=>..) -/
 | ext (φ:Heap->Prop)
abbrev Hp:=Addr->Option HO
def upd (H:Hp) (a:Addr) (o:HO):Hp:=fun b=>if b=a then some o else H b
theorem bz {H:Hp} {a:Addr} {o:HO}:upd H a o a=some o:=by unfold upd;rw [if_pos rfl]
theorem bN {H:Hp} {a b:Addr} {o:HO} (h:b≠a):upd H a o b=H b:=by unfold upd;rw [if_neg h]
theorem dJ {H:Hp} {a b:Addr} {o:HO} (h:H a=some o) (h':H b=none):a≠b:=by
 intro e;subst e;rw [h] at h';cases h'
section
variable (P:Program) (w:World)
def jZ (H:Hp) (h:Heap) (a:Addr):HO->Prop
 | .lst xs=>xs.length<=sizeLine/\∃ (its:List Value) (n:Nat),Vals xs its/\h.get? a=some { cls:=.type "list",data:=.seq its.toArray n }
 | .tup xs=>xs.length<=sizeLine/\∃ its:List Value,Vals xs its/\IsTup h a its.toArray
 | .dK kvs=>kvs.length<=sizeLine/\(a == sysModules)=false/\∃ vs,KV kvs vs/\h.DictOf (Bf P w) a vs
 | .dT kvs=>kvs.length<=sizeLine/\(a == sysModules)=false/\∃ xs:List (List Key×Addr×Value),
   Paired (fun (p:List Key×V) (q:List Key×Addr×Value)=>p.1=q.1/\H q.2.1=some (.tup (p.1.map kV))/\RelV p.2 q.2.2) kvs xs /\
   ∃ o es ep,h.get? a=some o/\o.ExactDict/\o.data=.dict es ep/\es.toList=xs.map (entryOfKey (tupleKind (Bf P w)))/\(xs.map (·.1)).Nodup
 | .set S n=>h.SetOf (intKind P w) a S n
 | .ins C dx fs=>H dx=some (.own a)/\fs.length<=1000/\dx≠a/\h.get? a=some (PySem.W.instObj C dx) /\
   ∃ mA,h.Ns1 dx mA/\(∀ f,CD (fs.lookup f) (mA f))/\PySem.Within mA (fs.map (·.1))
 | .own _=>∃ o,h.get? a=some o
 | .xd fs=>∃ mA,h.Ns1 a mA/\∀ f,CD (fs.lookup f) (mA f)
 | .rng lo hi=>∃ t u v,h.get? a=some { cls:=.type "range",data:=.fields #[.int lo t,.int hi u,.int 1 v] }
 | .frz o u=>h.get? a=some o/\jZ H h a u
 | .tbl ps=>h.get? a=some { cls:=.none,data:=.fields ps }
 | .met f x=>h.get? a=some (PySem.W.methodObj (.ref f) (.ref x))
 | .ext φ=>φ h/\(∃ o,h.get? a=some o)/\∀ h1 h2:Heap,φ h1->(∀ o,h1.get? a=some o->h2.get? a=some o)->φ h2
def HOk (H:Hp) (h:Heap):Prop:=∀ a o,H a=some o->jZ P w H h a o
end
section
variable {P:Program} {w:World} {H H':Hp} {h h':Heap} {a:Addr} {o:HO}
theorem jZ.lt (x:jZ P w H h a o):a<h.objs.size:=by
 cases o with
 | lst xs=>obtain ⟨_,_,_,_,e⟩:=x;exact Heap.lt_size e
 | tup xs=>obtain ⟨_,_,_,p⟩:=x;exact p.lt
 | dK kvs=>obtain ⟨_,_,_,_,o,_,_,e,_⟩:=x;exact Heap.lt_size e
 | dT kvs=>obtain ⟨_,_,_,_,o,_,_,e,_⟩:=x;exact Heap.lt_size e
 | set S n=>obtain ⟨o,_,_,_,e,_⟩:=x;exact Heap.lt_size e
 | ins C dx fs=>obtain ⟨_,_,_,e,_⟩:=x;exact Heap.lt_size e
 | own y=>obtain ⟨_,e⟩:=x;exact Heap.lt_size e
 | xd fs=>obtain ⟨_,⟨_,_,_,e,_⟩,_⟩:=x;exact Heap.lt_size e
 | rng lo hi=>obtain ⟨_,_,_,e⟩:=x;exact Heap.lt_size e
 | frz ob u=>obtain ⟨e,_⟩:=x;exact Heap.lt_size e
 | tbl ps=>exact Heap.lt_size (show h.get? a=some _ from x)
 | met f y=>exact Heap.lt_size (show h.get? a=some _ from x)
 | ext φ=>obtain ⟨_,⟨_,e⟩,_⟩:=x;exact Heap.lt_size e
theorem Paired.mapP {α β:Type} {F G:α->β->Prop}:∀ {l₁:List α} {l₂:List β},Paired F l₁ l₂->(∀ a b,F a b->G a b)->Paired G l₁ l₂
 | _,_,.nil,_=>.nil
 | _,_,.cons r t,f=>.cons (f _ _ r) (Paired.mapP t f)
theorem jZ.stay (x:jZ P w H h a o) (k:∀ b u,(b=a\/H b=some (.own a))->h.get? b=some u->h'.get? b=some u)
  (ho:∀ b,H b=some (.own a)->H' b=some (.own a)) (ht:∀ b xs,H b=some (.tup xs)->H' b=some (.tup xs)):jZ P w H' h' a o:=by
 induction o with
 | lst xs=>obtain ⟨z,its,n,r,e⟩:=x;exact ⟨z,its,n,r,k _ _ (.inl rfl) e⟩
 | tup xs=>obtain ⟨z,its,r,ob,e,c⟩:=x;exact ⟨z,its,r,ob,k _ _ (.inl rfl) e,c⟩
 | dK kvs=>obtain ⟨z,y,vs,r,ob,es,ep,e,c⟩:=x;exact ⟨z,y,vs,r,ob,es,ep,k _ _ (.inl rfl) e,c⟩
 | dT kvs =>
  obtain ⟨z,y,xs,r,ob,es,ep,e,c⟩:=x
  exact ⟨z,y,xs,Paired.mapP r fun p q z=>⟨z.1,ht _ _ z.2.1,z.2.2⟩,ob,es,ep,k _ _ (.inl rfl) e,c⟩
 | set S n=>obtain ⟨ob,es,ep,t,e,c⟩:=x;exact ⟨ob,es,ep,t,k _ _ (.inl rfl) e,c⟩
 | ins C dx fs =>
  obtain ⟨d,z,ne,e,mA,⟨od,es,ep,e2,c⟩,r⟩:=x
  exact ⟨ho _ d,z,ne,k _ _ (.inl rfl) e,mA,⟨od,es,ep,k _ _ (.inr d) e2,c⟩,r⟩
 | own y=>obtain ⟨ob,e⟩:=x;exact ⟨ob,k _ _ (.inl rfl) e⟩
 | xd fs=>obtain ⟨mA,⟨od,es,ep,e,c⟩,r⟩:=x;exact ⟨mA,⟨od,es,ep,k _ _ (.inl rfl) e,c⟩,r⟩
 | rng lo hi=>obtain ⟨t,u,v,e⟩:=x;exact ⟨t,u,v,k _ _ (.inl rfl) e⟩
 | frz ob u ih=>obtain ⟨e,q⟩:=x;exact ⟨k _ _ (.inl rfl) e,ih q⟩
 | tbl ps =>
  have e:h.get? a=some { cls:=.none,data:=.fields ps }:=x
  show h'.get? a=some { cls:=.none,data:=.fields ps }
  exact k a _ (.inl rfl) e
 | met f y =>
  have e:h.get? a=some (PySem.W.methodObj (.ref f) (.ref y)):=x
  show h'.get? a=some (PySem.W.methodObj (.ref f) (.ref y))
  exact k a _ (.inl rfl) e
 | ext φ=>obtain ⟨p,⟨o,e⟩,st⟩:=x;exact ⟨st _ _ p fun o q=>k _ _ (.inl rfl) q,⟨o,k _ _ (.inl rfl) e⟩,st⟩
theorem HOk.lt (x:HOk P w H h) (e:H a=some o):a<h.objs.size:=(x a o e).lt
theorem HOk.fresh (x:HOk P w H h) (e:h.objs.size<=a):H a=none:=by
 cases q:H a with
 | none=>rfl
 | some u=>exact absurd (Nat.lt_of_lt_of_le (x.lt q) e) (Nat.lt_irrefl _)
theorem HOk.kept (x:HOk P w H h) (k:∀ b u,h.get? b=some u->h'.get? b=some u):HOk P w H h':=fun a o e =>
 (x a o e).stay (fun b u _ q=>k b u q) (fun _ q=>q) fun _ _ q=>q
theorem HOk.laid (x:HOk P w H h) (k:∀ b u,h.get? b=some u->h'.get? b=some u) (hp:h.objs.size<=a) (new:jZ P w (upd H a o) h' a o):HOk P w (upd H a o) h':=fun b u e=>by
 have hn:=x.fresh hp
 by_cases hb:b=a
 ·subst hb;rw [bz] at e;cases e;exact new
 ·rw [bN hb] at e
  exact (x b u e).stay (fun c v _ q=>k c v q) (fun c q=>by rw [bN (dJ q hn)];exact q) fun c xs q=>by rw [bN (dJ q hn)];exact q
end
def Rd (H:Hp) (a:Addr) (u:HO):Prop:=H a=some u\/∃ o,H a=some (.frz o u)
theorem Rd.ok {P:Program} {w:World} {H:Hp} {h:Heap} {a:Addr} {u:HO} (r:Rd H a u) (x:HOk P w H h):jZ P w H h a u:=by
 rcases r with r | ⟨o,r⟩
 ·exact x a u r
 ·obtain ⟨_,q⟩:=x a _ r
  exact q
def Mut:Option HO->Prop
 | some (.lst _)=>True
 | some (.dK _)=>True
 | some (.dT _)=>True
 | some (.set _ _)=>True
 | some (.ins _ _ _)=>True
 | some (.ext _)=>True
 | _=>False
section
variable {P:Program} {w:World} {H:Hp} {h h':Heap} {x e:Addr} {o':HO}
theorem HOk.write (ok:HOk P w H h) (mu:Mut (H x)) (he:e=x\/H e=some (.own x)) (k:∀ b u,b≠e->h.get? b=some u->h'.get? b=some u) (heo:∃ u,h'.get? e=some u)
  (new:jZ P w (upd H x o') h' x o'):HOk P w (upd H x o') h':=fun b u q=>by
 have nown:∀ c y,H c=some (.own y)->c≠x:=fun c y r z=>by subst z;rw [r] at mu;exact mu
 have ntup:∀ c xs,H c=some (.tup xs)->c≠x:=fun c xs r z=>by subst z;rw [r] at mu;exact mu
 by_cases hb:b=x
 ·subst hb;rw [bz] at q;cases q;exact new
 ·rw [bN hb] at q
  by_cases hbe:b=e
  ·have q':H b=some (.own x):=by
    rcases he with z | z
    ·exact absurd (hbe.trans z) hb
    ·rw [hbe];exact z
   rw [q] at q';cases q'
   obtain ⟨v,hv⟩:=heo
   exact ⟨v,by rw [hbe];exact hv⟩
  ·refine (ok b u q).stay (fun c v hc r=>k c v ?_ r) (fun c r=>by rw [bN (nown c b r)];exact r) fun c xs r=>by rw [bN (ntup c xs r)];exact r
   rcases hc with rfl | hc
   ·exact hbe
   ·rintro rfl
    rcases he with z | z
    ·exact nown c b hc z
    ·rw [hc] at z;cases z;exact hb rfl
end
structure Un (fs ex:List Addr) (H H':Hp) (h h':Heap):Prop where
 keep:∀ b o,h.get? b=some o->H b=none->b∉fs->b∉ex->h'.get? b=some o
 slot:∀ b o,h.get? b=some o->H b=none->b∈fs->b∉ex->∃ sl,h'.get? b=some { o with slots:=sl }
 free:∀ b o,h.get? b=some o->H b=none->b∉ex->H' b=none
 there:∀ b o,h.get? b=some o->b∉ex->∃ o',h'.get? b=some o'
 tups:∀ b xs,H b=some (.tup xs)->H' b=some (.tup xs)
 frzs:∀ b o u,H b=some (.frz o u)->H' b=some (.frz o u)
 tbls:∀ b ps,H b=some (.tbl ps)->∃ more,H' b=some (.tbl (ps++more))
section
variable {fs fs' ex ex':List Addr} {H H1 H2:Hp} {h h1 h2 h':Heap} {a x e:Addr} {o:HO}
theorem Un.any (u:Un fs ex H H1 h h1) {b:Addr} {ob:Obj} (q:h.get? b=some ob) (n:H b=none) (hx:b∉ex):∃ sl,h1.get? b=some { ob with slots:=sl }:=by
 by_cases hb:b∈fs
 ·exact u.slot b ob q n hb hx
 ·exact ⟨ob.slots,u.keep b ob q n hb hx⟩
theorem Un.kept (k:∀ b u,h.get? b=some u->h'.get? b=some u):Un fs ex H H h h' :=
 ⟨fun b ob q _ _ _=>k b ob q,fun b ob q _ _ _=>⟨ob.slots,k b ob q⟩,fun _ _ _ n _=>n,fun b ob q _=>⟨ob,k b ob q⟩,fun _ _ q=>q,fun _ _ _ q=>q,fun _ ps q=>⟨#[],by rw [q];simp⟩⟩
theorem Un.refl:Un fs ex H H h h:=Un.kept fun _ _ q=>q
theorem Un.laid (k:∀ b u,h.get? b=some u->h'.get? b=some u) (hp:h.objs.size<=a) (hn:H a=none):Un fs ex H (upd H a o) h h' where
 keep:=fun b u q _ _ _=>k b u q
 slot:=fun b u q _ _ _=>⟨u.slots,k b u q⟩
 free:=fun b u q n _=>by rw [bN (Nat.ne_of_lt (Nat.lt_of_lt_of_le (Heap.lt_size q) hp))];exact n
 there:=fun b u q _=>⟨u,k b u q⟩
 tups:=fun b xs q=>by rw [bN (dJ q hn)];exact q
 frzs:=fun b u xs q=>by rw [bN (dJ q hn)];exact q
 tbls:=fun b ps q=>⟨#[],by rw [bN (dJ q hn),q];simp⟩
theorem Un.write (mu:Mut (H x)) (he:e=x\/H e=some (.own x)) (k:∀ b u,b≠e->h.get? b=some u->h'.get? b=some u) (heo:∃ u,h'.get? e=some u):Un fs ex H (upd H x o) h h':=by
 have hx:∀ b,H b=none->b≠x:=fun b n z=>by subst z;rw [n] at mu;exact mu
 have hb:∀ b,H b=none->b≠e:=fun b n z=>by
  subst z
  rcases he with r | r
  ·exact hx b n r
  ·rw [n] at r;cases r
 have hm:∀ b u,H b=some u->¬ Mut (some u)->b≠x:=fun b u q nm z=>by subst z;rw [q] at mu;exact nm mu
 refine ⟨fun b u q n _ _=>k b u (hb b n) q,fun b u q n _ _=>⟨u.slots,k b u (hb b n) q⟩,fun b u q n _=>by rw [bN (hx b n)];exact n,fun b u q _ => ?_,
  fun b xs q=>by rw [bN (hm b _ q fun z=>z)];exact q,fun b u xs q=>by rw [bN (hm b _ q fun z=>z)];exact q,fun b ps q=>⟨#[],by rw [bN (hm b _ q fun z=>z),q];simp⟩⟩
 by_cases hbe:b=e
 ·subst hbe;exact heo
 ·exact ⟨u,k b u hbe q⟩
end
def trk (h:Heap) (H:Hp):List Addr:=(List.range h.objs.size).filter fun a=>(H a).isSome
def Eo (h:Heap) (H:Hp):Heap:=PySem.W.hideAll h (trk h H)
theorem Bv (h:Heap) (H:Hp):(Eo h H).objs.size=h.objs.size:=PySem.W.hideAll_size _ _
theorem En {h:Heap} {H:Hp} {b:Addr} {o:Obj} (e:h.get? b=some o) (n:H b=none):(Eo h H).get? b=some o :=
 PySem.W.hideAll_get _ e fun hm=>by
  have q:(H b).isSome=true:=(List.mem_filter.mp hm).2
  rw [n] at q;simp at q
theorem Ii {h:Heap} {H:Hp} {b:Addr} {o:Obj} (e:(Eo h H).get? b=some o):h.get? b=some o/\H b=none:=by
 have e':h.get? b=some o:=PySem.W.of_hideAll (trk h H) e
 refine ⟨e',?_⟩
 cases q:H b with
 | none=>rfl
 | some x =>
  have hm:b∈trk h H:=List.mem_filter.mpr ⟨List.mem_range.mpr (Heap.lt_size e'),by simp [q]⟩
  have z:(Eo h H).get? b=none:=PySem.W.hideAll_none (trk h H) hm
  rw [z] at e;cases e
def J0 (g h:Heap) (L:Addr):List ↥14:=(List.range h.objs.size).filterMap fun a=>if a=L\/(g.get? a).isSome=true then none else (h.get? a).map fun o=>(a,o)
def rest (g h:Heap) (L d:Addr):List ↥14:=(J0 g h L).filter fun p=>decide (p.1≠d)
end L2
namespace L2
open PySem PySem.Spec PyProof.Rows
structure Mod (K:PySem.W.Frag) (mg:Str->Option Value) (base:Heap):Prop where
 kin:K.In base
 glob:base.Ns mainGlobals mg
 blt:∃ mb,base.Ns builtinsNs mb/\∀ x:Str,x≠"__name__"->mb x=bootBuiltins x
 nolimit:base.NoLimit
structure Cx where
 prog:Program
 w:World
 K:PySem.W.Frag
 mg:Str->Option Value
 base:Heap
 A:Around
 N:List Str
 s₀:Shared
 H₀:Hp
 env:Env
 outer:List Env
 stack:List Env
 ex:List Addr
 fn:Str->Bool
 calm:Bool
 pn:List ↥14
 xe:Value->Shared->Prop
def frs (l:List Env):List Addr:=l.filterMap (·.frame)
abbrev Cx.fs (X:Cx):List Addr:=frs X.outer
def Vis (sc:Scope) (x:Str):Prop:=sc.names.lookup x=some .local\/sc.names.lookup x=some .cell\/sc.names.lookup x=some .free
def Loc (sc:Scope) (x:Str):Prop:=sc.names.lookup x=some .local\/sc.names.lookup x=some .cell
def Look (env:Env) (h:Heap) (m:Str->Option Value) (x:Str) (u:Value):Prop :=
 (env.kindOf x=some .local/\m x=some u)\/((env.kindOf x=some .cell\/env.kindOf x=some .free)/\∃ c,env.cells.lookup x=some c/\h.IsCell c (some u))
structure Cx.Ok (X:Cx):Prop where
 mod:Mod X.K X.mg X.base
 kind:X.env.scope.kind=.function
 glob:X.env.globals=mainGlobals
 blt:X.env.builtins=builtinsNs
 above:X.s₀.heap.objs.size<=X.env.locals
 inj:∀ x y c,X.env.cells.lookup x=some c->X.env.cells.lookup y=some c->x=y
 has:∀ x,(X.env.kindOf x=some .cell\/X.env.kindOf x=some .free)->∃ c,X.env.cells.lookup x=some c
 cab:∀ x c,X.fn x=true->X.env.cells.lookup x=some c->X.s₀.heap.objs.size<=c
 hd:X.calm=true->X.A.handled=none
 frames:X.A.frames=some X.stack
 stk:X.stack=X.outer\/(X.stack=X.env::X.outer/\X.env.frame=some X.env.locals)
 exf:∀ b∈X.ex,b≠X.env.locals/\∀ x c,X.env.cells.lookup x=some c->c≠b
 bs:∀ b o,X.base.get? b=some o->X.s₀.heap.get? b=some o/\X.H₀ b=none
 bsz:X.base.objs.size<=X.s₀.heap.objs.size
 noex:∀ b o,X.base.get? b=some o->b∉X.ex
 exfs:∀ b∈X.ex,b∉X.fs
 funs:X.s₀.heap.FunFrames X.base X.outer
 frf:∀ b∈X.fs,X.H₀ b=none
structure Inv (X:Cx) (pins:List ↥14) (σ:List (Option V)) (H:Hp) (s:Shared):Prop where
 ok:X.Ok
 os:s.os=X.s₀.os
 bare:AllBare s.gens
 base:Un X.fs X.ex X.H₀ H X.s₀.heap s.heap
 loc:∃ m,s.heap.Ns X.env.locals m/\∀ (i:Nat) (x:Str) (v:V),X.N[i]? = some x->σ[i]? = some (some v)->Vis X.env.scope x->∃ u,RelV v u/\Look X.env s.heap m x u
 cell:∀ x c,X.env.cells.lookup x=some c->∃ v,s.heap.IsCell c v
 free:H X.env.locals=none
 freeC:∀ x c,X.env.cells.lookup x=some c->H c=none
 pin:∀ p∈X.pn++pins,s.heap.get? p.1=some p.2/\H p.1=none/\p.1≠X.env.locals/\p.1∉X.fs/\∀ v,p.2.data ≠ .cell v
 hok:HOk X.prog X.w H s.heap
 len:σ.length=X.N.length
section
variable {X:Cx} {pins:List ↥14} {σ:List (Option V)} {H H':Hp} {s:Shared} {h':Heap}
theorem Cx.Ok.nofr (ok:X.Ok) {b:Addr} {o:Obj} (e:X.base.get? b=some o):b∉X.fs:=fun hb=>by
 have:=(ok.funs.mem hb).1
 rw [e] at this;cases this
theorem Inv.bs (I:Inv X pins σ H s):∀ b o,X.base.get? b=some o->s.heap.get? b=some o/\H b=none:=fun b o e =>
 ⟨I.base.keep b o (I.ok.bs b o e).1 (I.ok.bs b o e).2 (I.ok.nofr e) (I.ok.noex b o e),I.base.free b o (I.ok.bs b o e).1 (I.ok.bs b o e).2 (I.ok.noex b o e)⟩
theorem Inv.bk (I:Inv X pins σ H s):∀ b o,X.base.get? b=some o->s.heap.get? b=some o:=fun b o e=>(I.bs b o e).1
theorem Inv.mod (I:Inv X pins σ H s):Mod X.K X.mg X.base:=I.ok.mod
theorem Inv.kIn (I:Inv X pins σ H s):X.K.In s.heap:=I.ok.mod.kin.keeps I.bk
theorem Inv.lt (I:Inv X pins σ H s):X.env.locals<s.heap.objs.size:=let ⟨_,hn,_⟩:=I.loc;hn.lt
theorem Inv.sz (I:Inv X pins σ H s):X.s₀.heap.objs.size<=s.heap.objs.size:=Nat.le_trans I.ok.above (Nat.le_of_lt I.lt)
theorem Inv.nofs (I:Inv X pins σ H s) {a:Addr} (h:s.heap.objs.size<=a):a∉X.fs:=fun hb=>by
 obtain ⟨_,o,ho,_⟩:=I.ok.funs.mem hb
 exact absurd (Nat.lt_of_lt_of_le (Heap.lt_size ho) (Nat.le_trans I.sz h)) (Nat.lt_irrefl _)
theorem Inv.cne (I:Inv X pins σ H s):∀ x c,X.env.cells.lookup x=some c->c≠X.env.locals:=fun x c e z=>by
 obtain ⟨v,o,ho,hd⟩:=I.cell x c e
 obtain ⟨m,⟨o',es,ep,ho',hd',_⟩,_⟩:=I.loc
 rw [z,ho'] at ho;cases ho;rw [hd'] at hd;cases hd
theorem Inv.funs (I:Inv X pins σ H s):s.heap.FunFrames X.base X.outer:=by
 have all:∀ (l:List Env),(∀ b∈frs l,b∈X.fs)->X.s₀.heap.FunFrames X.base l->s.heap.FunFrames X.base l:=by
  intro l
  induction l with
  | nil=>intro _ _;trivial
  | cons env r ih =>
   intro hs hl
   obtain ⟨hk,⟨L,o,hf,hn,ho,hd⟩,hr⟩:=hl
   have hL:L∈X.fs:=hs L (by unfold frs;rw [List.filterMap_cons,hf];exact List.mem_cons_self)
   obtain ⟨sl,e⟩:=I.base.slot L o ho (I.ok.frf L hL) hL fun z=>I.ok.exfs L z hL
   exact ⟨hk,⟨L,_,hf,hn,e,hd⟩,ih (fun b hb=>hs b (by unfold frs;rw [List.filterMap_cons,hf];exact List.mem_cons_of_mem _ hb)) hr⟩
 exact all X.outer (fun _ hb=>hb) I.ok.funs
theorem Inv.stack (I:Inv X pins σ H s):s.heap.FunFrames X.base X.stack:=by
 rcases I.ok.stk with e | ⟨e,hf⟩
 ·rw [e];exact I.funs
 ·rw [e]
  obtain ⟨m,hn,_⟩:=I.loc
  refine .cons (by rw [I.ok.kind];decide) hf hn ?_ I.funs
  exact Heap.get?_none_of_le (Nat.le_trans I.ok.bsz I.ok.above)
theorem Inv.stkSub (I:Inv X pins σ H s):∀ b∈frs X.stack,b∈X.env.locals::X.fs:=fun b hb=>by
 rcases I.ok.stk with e | ⟨e,hf⟩
 ·rw [e] at hb;exact List.mem_cons_of_mem _ hb
 ·rw [e] at hb
  unfold frs at hb
  rw [List.filterMap_cons,hf] at hb
  exact hb
theorem Inv.stkFree (I:Inv X pins σ H s):∀ b∈frs X.stack,H b=none:=fun b hb=>by
 rcases List.mem_cons.mp (I.stkSub b hb) with e | hb
 ·rw [e];exact I.free
 ·obtain ⟨_,o,ho,_⟩:=I.ok.funs.mem hb
  exact I.base.free b o ho (I.ok.frf b hb) fun z=>I.ok.exfs b z hb
theorem Inv.step {g':Array GenState} {t':Nat} {d':Drawn} {ch:List Addr} (I:Inv X pins σ H s)
  (hch:∀ b∈ch,(b∈X.ex\/X.s₀.heap.objs.size<=b)/\b≠X.env.locals/\(∀ x c,X.env.cells.lookup x=some c->c≠b)/\∀ p∈X.pn++pins,p.1≠b)
  (keep:∀ b o,b≠X.env.locals->b∉X.fs->b∉ch->s.heap.get? b=some o->H b=none->h'.get? b=some o)
  (slot:∀ b o,b≠X.env.locals->b∈X.fs->b∉ch->s.heap.get? b=some o->H b=none->∃ sl,h'.get? b=some { o with slots:=sl }) (free:∀ b o,b∉ch->s.heap.get? b=some o->H b=none->H' b=none)
  (there:∀ b o,b∉ch->s.heap.get? b=some o->∃ o',h'.get? b=some o')
  (tups:∀ b xs,H b=some (.tup xs)->H' b=some (.tup xs)) (frzs:∀ b o u,H b=some (.frz o u)->H' b=some (.frz o u)) (tbls:∀ b ps,H b=some (.tbl ps)->∃ more,H' b=some (.tbl (ps++more)))
  (ns:∀ m,s.heap.Ns X.env.locals m->h'.Ns X.env.locals m) (hok:HOk X.prog X.w H' h') (hg:AllBare g') :
  Inv X pins σ H' { s with heap:=h',gens:=g',drawn:=d',toks:=t' }:=by
 have neL:∀ b o,X.s₀.heap.get? b=some o->b≠X.env.locals:=fun b o e=>Nat.ne_of_lt (Nat.lt_of_lt_of_le (Heap.lt_size e) I.ok.above)
 have neC:∀ b o,X.s₀.heap.get? b=some o->b∉X.ex->b∉ch:=fun b o e hx hb=>by
  rcases (hch b hb).1 with z | z
  ·exact hx z
  ·exact absurd (Nat.lt_of_lt_of_le (Heap.lt_size e) z) (Nat.lt_irrefl _)
 have cellK:∀ x c,X.env.cells.lookup x=some c->∀ v,s.heap.IsCell c v->h'.IsCell c v:=fun x c e v ⟨o,ho,hd⟩=>by
  have nch:c∉ch:=fun z=>(hch c z).2.2.1 x c e rfl
  by_cases hc:c∈X.fs
  ·obtain ⟨sl,q⟩:=slot c o (I.cne x c e) hc nch ho (I.freeC x c e)
   exact ⟨_,q,hd⟩
  ·exact ⟨o,keep c o (I.cne x c e) hc nch ho (I.freeC x c e),hd⟩
 refine ⟨I.ok,I.os,hg,⟨fun b o e n hb hx => ?_,fun b o e n hb hx => ?_,fun b o e n hx => ?_,fun b o e hx => ?_,fun b xs e=>tups b xs (I.base.tups b xs e),fun b o xs e=>frzs b o xs (I.base.frzs b o xs e),fun b ps e => ?_⟩,?_,fun x c e => ?_,?_,fun x c e => ?_,fun p hp => ?_,hok,I.len⟩
 ·exact keep b o (neL b o e) hb (neC b o e hx) (I.base.keep b o e n hb hx) (I.base.free b o e n hx)
 ·obtain ⟨sl,e1⟩:=I.base.slot b o e n hb hx
  obtain ⟨sl',e2⟩:=slot b _ (neL b o e) hb (neC b o e hx) e1 (I.base.free b o e n hx)
  exact ⟨sl',e2⟩
 ·obtain ⟨o',e1⟩:=I.base.there b o e hx
  exact free b o' (neC b o e hx) e1 (I.base.free b o e n hx)
 ·obtain ⟨o',e1⟩:=I.base.there b o e hx
  exact there b o' (neC b o e hx) e1
 ·obtain ⟨m1,e1⟩:=I.base.tbls b ps e
  obtain ⟨m2,e2⟩:=tbls b _ e1
  exact ⟨m1++m2,by rw [e2,Array.append_assoc]⟩
 ·obtain ⟨m,hn,hl⟩:=I.loc
  refine ⟨m,ns m hn,fun i x v e1 e2 e3 => ?_⟩
  obtain ⟨u,r,l⟩:=hl i x v e1 e2 e3
  refine ⟨u,r,?_⟩
  rcases l with l | ⟨k,c,e,z⟩
  ·exact .inl l
  ·exact .inr ⟨k,c,e,cellK x c e _ z⟩
 ·obtain ⟨v,z⟩:=I.cell x c e
  exact ⟨v,cellK x c e v z⟩
 ·obtain ⟨m,⟨o,_,_,ho,_⟩,_⟩:=I.loc
  exact free _ o (fun z=>(hch _ z).2.1 rfl) ho I.free
 ·obtain ⟨v,o,ho,hd⟩:=I.cell x c e
  exact free c o (fun z=>(hch c z).2.2.1 x c e rfl) ho (I.freeC x c e)
 ·obtain ⟨e,n,ne,nf,d⟩:=I.pin p hp
  have nch:p.1∉ch:=fun z=>(hch p.1 z).2.2.2 p hp rfl
  exact ⟨keep p.1 p.2 ne nf nch e n,free p.1 p.2 nch e n,ne,nf,d⟩
theorem Inv.un {t':Nat} (I:Inv X pins σ H s) (u:Un X.fs [] H H' s.heap h') (hok:HOk X.prog X.w H' h'):Inv X pins σ H' { s with heap:=h',toks:=t' }:=by
 obtain ⟨m,⟨o,es,ep,ho,r⟩,_⟩:=id I.loc
 obtain ⟨sl,hL⟩:=u.any ho I.free (by simp)
 exact I.step (g':=s.gens) (d':=s.drawn) (ch:=[]) (fun _ z=>nomatch z) (fun b o _ hb _ e n=>u.keep b o e n hb (by simp)) (fun b o _ hb _ e n=>u.slot b o e n hb (by simp)) (fun b o _ e n=>u.free b o e n (by simp)) (fun b o _ e=>u.there b o e (by simp)) u.tups u.frzs u.tbls (fun m' hm=>by
  obtain ⟨o',es',ep',ho',r'⟩:=hm
  rw [ho] at ho';cases ho'
  exact ⟨_,es',ep',hL,r'⟩) hok I.bare
theorem Inv.call {g':Array GenState} {t':Nat} {d':Drawn} {ch:List Addr} (I:Inv X pins σ H s) (u:Un (frs X.stack) ch H H' s.heap h') (hok:HOk X.prog X.w H' h') (hg:AllBare g')
  (hch:∀ b∈ch,(b∈X.ex\/X.s₀.heap.objs.size<=b)/\b≠X.env.locals/\(∀ x c,X.env.cells.lookup x=some c->c≠b)/\∀ p∈X.pn++pins,p.1≠b) :
  Inv X pins σ H' { s with heap:=h',gens:=g',drawn:=d',toks:=t' }:=by
 obtain ⟨m,⟨o,es,ep,ho,r⟩,_⟩:=id I.loc
 obtain ⟨sl,hL⟩:=u.any ho I.free fun z=>(hch _ z).2.1 rfl
 exact I.step (ch:=ch) hch (fun b o hL hb hc e n=>u.keep b o e n (fun z=>(List.mem_cons.mp (I.stkSub b z)).elim hL hb) hc) (fun b o _ _ hc e n=>u.any e n hc) (fun b o hc e n=>u.free b o e n hc) (fun b o hc e=>u.there b o e hc) u.tups u.frzs u.tbls (fun m' hm=>by
  obtain ⟨o',es',ep',ho',r'⟩:=hm
  rw [ho] at ho';cases ho'
  exact ⟨_,es',ep',hL,r'⟩) hok hg
theorem Inv.turned {t':Nat} {it:Addr} (I:Inv X pins σ H s) (k:∀ b o,b≠it->s.heap.get? b=some o->h'.get? b=some o) (hn:H it=none) (hL:it≠X.env.locals)
  (h1:it∈X.ex\/X.s₀.heap.objs.size<=it) (h2:∀ x c,X.env.cells.lookup x=some c->c≠it) (h3:∀ p∈X.pn++pins,p.1≠it):Inv X pins σ H { s with heap:=h',toks:=t' }:=by
 have nit:∀ b u,H b=some u->b≠it:=fun b u e z=>by rw [z,hn] at e;cases e
 refine I.step (g':=s.gens) (d':=s.drawn) (ch:=[it]) (fun b hb => ?_) (fun b o _ _ hc e _=>k b o (fun z=>hc (by simp [z])) e) (fun b o _ _ hc e _=>⟨o.slots,k b o (fun z=>hc (by simp [z])) e⟩) (fun _ _ _ _ n=>n)
  (fun b o hc e=>⟨o,k b o (fun z=>hc (by simp [z])) e⟩) (fun _ _ e=>e) (fun _ _ _ e=>e) (fun b ps e=>⟨#[],by rw [e];simp⟩) (fun m hm => ?_) (fun b u e => ?_) I.bare
 ·have e:b=it:=by simpa using hb
  subst e
  exact ⟨h1,hL,h2,h3⟩
 ·obtain ⟨o,es,ep,ho,r⟩:=hm
  exact ⟨o,es,ep,k _ o (Ne.symm hL) ho,r⟩
 ·refine (I.hok b u e).stay (fun c v hc q=>k c v ?_ q) (fun _ q=>q) fun _ _ q=>q
  rcases hc with z | z
  ·rw [z];exact nit b u e
  ·exact nit c _ z
theorem Inv.tok (I:Inv X pins σ H s) (t:Nat):Inv X pins σ H { s with toks:=t }:=I.un (h':=s.heap) (t':=t) Un.refl I.hok
theorem Inv.kept {t':Nat} (I:Inv X pins σ H s) (k:∀ b u,s.heap.get? b=some u->h'.get? b=some u):Inv X pins σ H { s with heap:=h',toks:=t' }:=I.un (Un.kept k) (I.hok.kept k)
theorem Inv.laid {a:Addr} {o:HO} {t':Nat} (I:Inv X pins σ H s) (k:∀ b u,s.heap.get? b=some u->h'.get? b=some u) (hp:s.heap.objs.size<=a) (new:jZ X.prog X.w (upd H a o) h' a o) :
  Inv X pins σ (upd H a o) { s with heap:=h',toks:=t' }:=I.un (Un.laid k hp (I.hok.fresh hp)) (I.hok.laid k hp new)
theorem Inv.write {x e:Addr} {o:HO} {t':Nat} (I:Inv X pins σ H s) (mu:Mut (H x)) (he:e=x\/H e=some (.own x)) (k:∀ b u,b≠e->s.heap.get? b=some u->h'.get? b=some u) (heo:∃ u,h'.get? e=some u)
  (new:jZ X.prog X.w (upd H x o) h' x o):Inv X pins σ (upd H x o) { s with heap:=h',toks:=t' }:=I.un (Un.write mu he k heo) (I.hok.write mu he k heo new)
theorem Inv.pins_of {pins':List ↥14} (I:Inv X pins σ H s) (h:∀ p∈pins',s.heap.get? p.1=some p.2/\H p.1=none/\p.1≠X.env.locals/\p.1∉X.fs/\∀ v,p.2.data ≠ .cell v):Inv X pins' σ H s :=
 ⟨I.ok,I.os,I.bare,I.base,I.loc,I.cell,I.free,I.freeC,fun p hp=>(List.mem_append.mp hp).elim (fun z=>I.pin p (List.mem_append_left _ z)) (h p),I.hok,I.len⟩
theorem xn {N:List Str} (hN:N.Nodup) {i j:Nat} {x:Str} (a:N[i]? = some x) (b:N[j]? = some x):i=j:=by
 obtain ⟨h1,e1⟩:=List.getElem?_eq_some_iff.mp a
 obtain ⟨h2,e2⟩:=List.getElem?_eq_some_iff.mp b
 exact (List.getElem_inj hN).mp (e1.trans e2.symm)
theorem Ae {M:Model} {A:Around} {E:Value->Shared->Prop} {i:Nat} {x:Str} {v:V} {u:Value} {Q:Unit->Shared->Prop} (I:Inv X pins σ H s) (hN:X.N.Nodup) (hi:X.N[i]? = some x) (hx:Loc X.env.scope x) (r:RelV v u)
  (h:∀ s',Inv X pins (σ.set i (some v)) H s'->(∃ a,Heap.SameBut a s.heap s'.heap/\(a=X.env.locals\/X.env.cells.lookup x=some a))->Q () s') (hf:X.fn x=true\/X.env.scope.names.lookup x=some .local:=by first | exact .inl rfl | exact .inr rfl | assumption):wpAny M A (storeName X.env x u) Q E s:=by
 obtain ⟨m,hn,hl⟩:=id I.loc
 have hcls:(X.env.scope.kind == .class||(X.env.scope.kind == .module&&X.env.locals != X.env.globals))=false:=by rw [I.ok.kind];rfl
 have hiσ:i<σ.length:=by rw [I.len];exact (List.getElem?_eq_some_iff.mp hi).1
 have cne:=I.cne
 have tracked:∀ {a:Addr} {h':Heap},(∃ o,s.heap.get? a=some o/\H a=none)->Heap.SameBut a s.heap h'->HOk X.prog X.w H h':=fun {a h'} ha hs b ob e=>by
  obtain ⟨_,_,hfree⟩:=ha
  refine (I.hok b ob e).stay (fun c w' hc q=>(hs.2 c ?_).trans q) (fun _ q=>q) fun _ _ q=>q
  rintro rfl
  rcases hc with rfl | hc
  ·rw [hfree] at e;cases e
  ·rw [hfree] at hc;cases hc
 rcases hx with hk | hk
 ·refine wpAny_storeName_local hk hn (fun h' hn' hs => ?_) hcls
  obtain ⟨oL,_,_,hoL,_⟩:=id hn
  refine h _ ⟨I.ok,I.os,I.bare,⟨fun b o e n hb hx => ?_,fun b o e n hb hx => ?_,I.base.free,fun b o e hx => ?_,I.base.tups,I.base.frzs,I.base.tbls⟩,⟨_,hn',fun j y v' e1 e2 e3 => ?_⟩,fun y c e => ?_,I.free,I.freeC,fun p hp => ?_,tracked ⟨oL,hoL,I.free⟩ hs,by simpa using I.len⟩ ⟨_,hs,.inl rfl⟩
  ·exact (hs.2 b (Nat.ne_of_lt (Nat.lt_of_lt_of_le (Heap.lt_size e) I.ok.above))).trans (I.base.keep b o e n hb hx)
  ·obtain ⟨sl,e1⟩:=I.base.slot b o e n hb hx
   exact ⟨sl,(hs.2 b (Nat.ne_of_lt (Nat.lt_of_lt_of_le (Heap.lt_size e) I.ok.above))).trans e1⟩
  ·obtain ⟨o',e1⟩:=I.base.there b o e hx
   exact ⟨o',(hs.2 b (Nat.ne_of_lt (Nat.lt_of_lt_of_le (Heap.lt_size e) I.ok.above))).trans e1⟩
  ·by_cases hj:j=i
   ·subst hj
    rw [hi] at e1;cases e1
    rw [List.getElem?_set_self hiσ] at e2
    cases e2
    exact ⟨u,r,.inl ⟨hk,by simp⟩⟩
   ·rw [List.getElem?_set_ne (Ne.symm hj)] at e2
    obtain ⟨u',r',q⟩:=hl j y v' e1 e2 e3
    refine ⟨u',r',?_⟩
    rcases q with ⟨k,e⟩ | ⟨k,c,e,z⟩
    ·refine .inl ⟨k,?_⟩
     have:y≠x:=fun e=>hj (xn hN e1 (e▸hi))
     simp [this,e]
    ·exact .inr ⟨k,c,e,z.sameBut hs (cne y c e)⟩
  ·obtain ⟨w',z⟩:=I.cell y c e
   exact ⟨w',z.sameBut hs (cne y c e)⟩
  ·obtain ⟨e,n,ne,nf,d⟩:=I.pin p hp
   exact ⟨(hs.2 p.1 ne).trans e,n,ne,nf,d⟩
 ·have hfn:X.fn x=true:=by
   rcases hf with z | z
   ·exact z
   ·rw [z] at hk;cases hk
  obtain ⟨c,hc⟩:=I.ok.has x (.inl hk)
  obtain ⟨w',z⟩:=I.cell x c hc
  refine wpAny_storeName_cell I.ok.kind hk hc z (fun h' hc' hs => ?_)
  obtain ⟨oc,hoc,hocd⟩:=id z
  refine h { s with heap:=h' } ⟨I.ok,I.os,I.bare,⟨fun b o e n hb hx => ?_,fun b o e n hb hx => ?_,I.base.free,fun b o e hx => ?_,I.base.tups,I.base.frzs,I.base.tbls⟩,⟨m,hn.sameBut hs (Ne.symm (cne x c hc)),fun j y v' e1 e2 e3 => ?_⟩,fun y c' e => ?_,I.free,I.freeC,fun p hp => ?_,tracked ⟨oc,hoc,I.freeC x c hc⟩ hs,by simpa using I.len⟩ ⟨c,hs,.inr hc⟩
  ·exact (hs.2 b (Nat.ne_of_lt (Nat.lt_of_lt_of_le (Heap.lt_size e) (I.ok.cab x c hfn hc)))).trans (I.base.keep b o e n hb hx)
  ·obtain ⟨sl,e1⟩:=I.base.slot b o e n hb hx
   exact ⟨sl,(hs.2 b (Nat.ne_of_lt (Nat.lt_of_lt_of_le (Heap.lt_size e) (I.ok.cab x c hfn hc)))).trans e1⟩
  ·obtain ⟨o',e1⟩:=I.base.there b o e hx
   exact ⟨o',(hs.2 b (Nat.ne_of_lt (Nat.lt_of_lt_of_le (Heap.lt_size e) (I.ok.cab x c hfn hc)))).trans e1⟩
  ·by_cases hj:j=i
   ·subst hj
    rw [hi] at e1;cases e1
    rw [List.getElem?_set_self hiσ] at e2
    cases e2
    exact ⟨u,r,.inr ⟨.inl hk,c,hc,hc'⟩⟩
   ·rw [List.getElem?_set_ne (Ne.symm hj)] at e2
    obtain ⟨u',r',q⟩:=hl j y v' e1 e2 e3
    refine ⟨u',r',?_⟩
    rcases q with q | ⟨k,c',e,z'⟩
    ·exact .inl q
    ·refine .inr ⟨k,c',e,z'.sameBut hs ?_⟩
     rintro rfl
     exact hj (xn hN e1 (I.ok.inj _ _ _ e hc▸hi))
  ·by_cases hcc:c'=c
   ·subst hcc;exact ⟨_,hc'⟩
   ·obtain ⟨w2,z2⟩:=I.cell y c' e
    exact ⟨w2,z2.sameBut hs hcc⟩
  ·obtain ⟨e,n,ne,nf,d⟩:=I.pin p hp
   refine ⟨(hs.2 p.1 ?_).trans e,n,ne,nf,d⟩
   intro q
   rw [q,hoc] at e
   have q':oc=p.2:=Option.some.inj e
   exact d w' (by rw [<- q'];exact hocd)
theorem qI {M:Model} {A:Around} {E:Value->Shared->Prop} {i:Nat} {x:Str} {v:V} {u:Value} {Q:Unit->Shared->Prop} (I:Inv X pins σ H s) (hN:X.N.Nodup) (hi:X.N[i]? = some x) (hx:Loc X.env.scope x) (r:RelV v u)
  (h:∀ s',Inv X pins (σ.set i (some v)) H s'->Q () s') (hf:X.fn x=true\/X.env.scope.names.lookup x=some .local:=by first | exact .inl rfl | exact .inr rfl | assumption):wpAny M A (storeName X.env x u) Q E s :=
 Ae I hN hi hx r (fun s' I' _=>h s' I') hf
theorem Inv.call' {s':Shared} {ch:List Addr} (I:Inv X pins σ H s) (ho:s'.os=s.os) (u:Un (frs X.stack) ch H H' s.heap s'.heap) (hok:HOk X.prog X.w H' s'.heap) (hg:AllBare s'.gens)
  (hch:∀ b∈ch,(b∈X.ex\/X.s₀.heap.objs.size<=b)/\b≠X.env.locals/\(∀ x c,X.env.cells.lookup x=some c->c≠b)/\∀ p∈X.pn++pins,p.1≠b):Inv X pins σ H' s':=by
 obtain ⟨h',g',d',t',o'⟩:=s'
 have e:o'=s.os:=ho
 subst e
 exact I.call (g':=g') (t':=t') (d':=d') u hok hg hch
end
abbrev XK:=Value->Option Addr->Hp->Prop
abbrev St:=List (Option V)
abbrev VK:=V->Hp->Prop
abbrev TE:=St->Hp->VK->Prop
abbrev TT:=St->Hp->(Bool->Hp->Prop)->Prop
abbrev TA:=St->Hp->(List V->Hp->Prop)->Prop
structure Ends where
 nx:St->Hp->Prop
 rt:VK
 bk:St->Hp->Prop:=fun _ _=>False
 ct:St->Hp->Prop:=fun _ _=>False
abbrev TS:=Ends->St->Hp->Prop
def EP (X:Cx) (pins:List ↥14) (σ:St) (Q:VK) (u:Value) (s':Shared):Prop:=∃ v H',Inv X pins σ H' s'/\RelV v u/\Q v H'
def TP (X:Cx) (pins:List ↥14) (σ:St) (Q:Bool->Hp->Prop) (b:Bool) (s':Shared):Prop:=∃ H',Inv X pins σ H' s'/\Q b H'
def AP (X:Cx) (pins:List ↥14) (σ:St) (Q:List V->Hp->Prop) (us:List Value) (s':Shared):Prop:=∃ vs H',Inv X pins σ H' s'/\Vals vs us/\Q vs H'
def SP (X:Cx) (pins:List ↥14) (D:Ends) (f:Flow) (s':Shared):Prop :=
 match f with
 | .next=>∃ σ' H',Inv X pins σ' H' s'/\D.nx σ' H'
 | .brk=>∃ σ' H',Inv X pins σ' H' s'/\D.bk σ' H'
 | .cont=>∃ σ' H',Inv X pins σ' H' s'/\D.ct σ' H'
 | .ret u=>∃ v σ' H',Inv X pins σ' H' s'/\RelV v u/\D.rt v H'
def PE (X:Cx) (e:Expr) (t:TE):Prop :=
 ∀ (pins:List ↥14) (s:Shared) (σ:St) (H:Hp) (Q:VK),Inv X pins σ H s->t σ H Q->wpAny ↥8 X.A (eval e X.env) (EP X pins σ Q) X.xe s
def PT (X:Cx) (e:Expr) (t:TT):Prop :=
 ∀ (pins:List ↥14) (s:Shared) (σ:St) (H:Hp) (Q:Bool->Hp->Prop),Inv X pins σ H s->t σ H Q->wpAny ↥8 X.A (isTrue e X.env (eval e X.env)) (TP X pins σ Q) X.xe s
def PW (X:Cx) (e:Expr) (t:TT):Prop :=
 ∀ (whole:Sem Value) (pins:List ↥14) (s:Shared) (σ:St) (H:Hp) (Q:Bool->Hp->Prop),Inv X pins σ H s->t σ H Q->wpAny ↥8 X.A (isTrue e X.env whole) (TP X pins σ Q) X.xe s
theorem PW.pt {X:Cx} {e:Expr} {t:TT} (h:PW X e t):PT X e t:=h _
def PA (X:Cx) (es:List Expr) (t:TA):Prop :=
 ∀ (pos:Pos) (pins:List ↥14) (s:Shared) (σ:St) (H:Hp) (Q:List V->Hp->Prop),Inv X pins σ H s->t σ H Q->wpAny ↥8 X.A (spliced (backTo pos (starEach es X.env))) (AP X pins σ Q) X.xe s
def PS (X:Cx) (st:Stmt) (t:TS):Prop :=
 ∀ (pins:List ↥14) (s:Shared) (σ:St) (H:Hp) (D:Ends),Inv X pins σ H s->t D σ H->wpAny ↥8 X.A (exec st X.env) (SP X pins D) X.xe s
def PSs (X:Cx) (st:List Stmt) (t:TS):Prop :=
 ∀ (pins:List ↥14) (s:Shared) (σ:St) (H:Hp) (D:Ends),Inv X pins σ H s->t D σ H->wpAny ↥8 X.A (execs st X.env) (SP X pins D) X.xe s
theorem thn {α:Type} {t:Sem α} {Q Q':α->Shared->Prop} {M:Model} {A:Around} {E:Value->Shared->Prop} {s:Shared} (h:wpAny M A t Q E s) (hQ:∀ a s,Q a s->Q' a s):wpAny M A t Q' E s:=wpAny_mono h hQ fun _ _ x=>x
end L2
namespace L2
open PySem PySem.Spec PyProof.Rows
section
variable {X:Cx}
theorem bin {a b:Expr} {ta tb:TE} (ha:PE X a ta) (hb:PE X b tb) {pins:List ↥14} {s:Shared} {σ:St} {H:Hp} {R:V->V->Hp->Prop} (I:Inv X pins σ H s) (h:ta σ H fun x H1=>tb σ H1 fun y H2=>R x y H2)
  {α:Type} {Q:α->Shared->Prop} {f:Value->Value->Sem α}
  (hf:∀ v u s2 x y H2,Inv X pins σ H2 s2->RelV x v->RelV y u->R x y H2->wpAny ↥8 X.A (f v u) Q X.xe s2) :
  wpAny ↥8 X.A (eval a X.env) (fun v s₁=>wpAny ↥8 X.A (eval b X.env) (fun u s₂=>wpAny ↥8 X.A (f v u) Q X.xe s₂) X.xe s₁) X.xe s:=by
 refine thn (ha pins s σ H _ I h) fun v s1 ⟨x,H1,I1,r1,q1⟩ => ?_
 refine thn (hb pins s1 σ H1 _ I1 q1) fun u s2 ⟨y,H2,I2,r2,q2⟩ => ?_
 exact hf v u s2 x y H2 I2 r1 r2 q2
def TC (i:Nat):TE:=fun σ H Q=>∃ v,σ[i]? = some (some v)/\Q v H
def tC (v:V):TE:=fun _ H Q=>Q v H
theorem tG {i:Nat} {x:Str} {pos:Pos} (hN:X.N[i]? = some x) (hv:Vis X.env.scope x) (hd:(x == ("__debug__":Str))=false:=by decide) (hcd:(x == ("__classdict__":Str))=false:=by decide):PE X (.Name x pos) (TC i):=by
 intro pins s σ H Q I h
 obtain ⟨v,e,h⟩:=h
 obtain ⟨m,hn,hl⟩:=I.loc
 obtain ⟨u,r,l⟩:=hl i x v hN e hv
 have fin:EP X pins σ Q u s:=⟨v,H,I,r,h⟩
 rcases l with ⟨hk,hm⟩ | ⟨hk,c,hc,hcell⟩
 ·exact wpAny_Name (wpAny_loadName_local I.ok.kind hk hn hm fin) hd
 ·rcases hk with hk | hk
  ·exact wpAny_Name (wpAny_loadName_cell I.ok.kind hk hc hcell fin) hd
  ·exact wpAny_Name (wpAny_loadName_free I.ok.kind hk hc hcell fin hcd) hd
theorem LD {i j pos}:PE X (.Constant (.int i) j pos) (tC (.int i)):=fun _ _ _ H _ I h=>wpAny_Constant_int ⟨.int i,H,I.tok _,⟨_,rfl⟩,h⟩
theorem Oe {b j pos}:PE X (.Constant (.bool b) j pos) (tC (.bl b)):=fun _ _ _ H _ I h=>Constant_bool ⟨.bl b,H,I,rfl,h⟩
theorem LC {j pos}:PE X (.Constant .none j pos) (tC .non):=fun _ _ _ H _ I h=>Constant_none ⟨.non,H,I,rfl,h⟩
theorem Fv {x j pos}:PE X (.Constant (.str x) j pos) (tC (.str x)):=fun _ _ _ H _ I h=>Calls.Constant_str ⟨.str x,H,I.tok _,⟨_,rfl⟩,h⟩
def Gl (X:Cx) (x:Str):Prop:=X.env.kindOf x=some .globalImplicit
theorem rH {E:Value->Shared->Prop} {pins:List ↥14} {s:Shared} {σ:St} {H:Hp} {x:Str} {u:Value} {pos:Pos} {Q:Value->Shared->Prop} (I:Inv X pins σ H s) (hg:Gl X x) (hm:X.mg x=some u) (h:Q u s)
  (hd:(x == ("__debug__":Str))=false:=by decide):wpAny ↥8 X.A (eval (.Name x pos) X.env) Q E s :=
 Calls.Name_function_global I.ok.kind hg (Calls.loadGlobal_global (by rw [I.ok.glob];exact I.mod.glob.keeps I.bk) hm h) hd
theorem xv {E:Value->Shared->Prop} {pins:List ↥14} {s:Shared} {σ:St} {H:Hp} {x:Str} {u:Value} {pos:Pos} {Q:Value->Shared->Prop} (I:Inv X pins σ H s) (hg:Gl X x) (hm:X.mg x=none) (hv:bootBuiltins x=some u) (h:Q u s)
  (hn:x≠"__name__":=by decide) (hd:(x == ("__debug__":Str))=false:=by decide):wpAny ↥8 X.A (eval (.Name x pos) X.env) Q E s:=by
 obtain ⟨mb,h1,h2⟩:=I.mod.blt
 exact Calls.Name_function_global I.ok.kind hg (Calls.loadGlobal_builtin (by rw [I.ok.glob];exact I.mod.glob.keeps I.bk) hm (by rw [I.ok.blt];exact h1.keeps I.bk) ((h2 x hn).trans hv) h) hd
theorem AJ {x:Str} {v:V} {u:Value} {pos:Pos} (hg:Gl X x) (hm:X.mg x=some u) (r:RelV v u) (hd:(x == ("__debug__":Str))=false:=by decide):PE X (.Name x pos) (tC v) :=
 fun _ _ _ H _ I h=>rH I hg hm ⟨v,H,I,r,h⟩ hd
theorem HQ {x:Str} {v:V} {u:Value} {pos:Pos} (hg:Gl X x) (hm:X.mg x=none) (hv:bootBuiltins x=some u) (r:RelV v u) (hn:x≠"__name__":=by decide) (hd:(x == ("__debug__":Str))=false:=by decide):PE X (.Name x pos) (tC v) :=
 fun _ _ _ H _ I h=>xv I hg hm hv ⟨v,H,I,r,h⟩ hn hd
variable {a b:Expr} {ta tb:TE} {pos:Pos}
def tB (t:TE):TT:=fun σ H Q=>t σ H fun x H1=>∃ c,x=.bl c/\Q c H1
theorem Ln {e:Expr} {t:TE} (h:PE X e t) (he:∀ whole,isTrue e X.env whole=(do let v<-whole;standAt e.pos;holding [v] (truthy v)):=by intro _;rfl):PT X e (tB t):=by
 intro pins s σ H Q I hw
 refine isTrue_plain (thn (h pins s σ H _ I hw) fun v s1 ⟨x,H1,I1,r1,q1⟩ => ?_) (he _)
 obtain ⟨d,rfl,q⟩:=q1
 cases r1
 exact wpAny_truthy_bool ⟨H1,I1,q⟩
variable {tA tB':TT} {rest:List Expr}
def TX (t u:TT):TT:=fun σ H Q=>t σ H fun c H1=>if c=true then u σ H1 Q else Q false H1
def tOr (t u:TT):TT:=fun σ H Q=>t σ H fun c H1=>if c=true then Q true H1 else u σ H1 Q
def TL (t:TT):TT:=fun σ H Q=>t σ H fun c H1=>Q (!c) H1
theorem HG (ha:PT X a tA):PW X (.BoolOp .And [a] pos) tA:=by
 intro wh pins s σ H Q I h
 refine isTrue_and (thn (ha pins s σ H Q I h) fun c s1 e => ?_)
 cases c with
 | true=>exact isTrue_and_nil e
 | false=>exact e
theorem Ll (ha:PT X a tA):PW X (.BoolOp .Or [a] pos) tA:=by
 intro wh pins s σ H Q I h
 refine isTrue_or (thn (ha pins s σ H Q I h) fun c s1 e => ?_)
 cases c with
 | false=>exact isTrue_or_nil e
 | true=>exact e
theorem Lm (ha:PT X a tA) (hb:PW X (.BoolOp .And (b::rest) pos) tB'):PW X (.BoolOp .And (a::b::rest) pos) (TX tA tB'):=by
 intro wh pins s σ H Q I h
 refine isTrue_and (thn (ha pins s σ H _ I h) fun c s1 ⟨H1,I1,q1⟩ => ?_)
 cases c with
 | true=>exact hb wh pins s1 σ H1 Q I1 q1
 | false=>exact ⟨H1,I1,q1⟩
theorem N5 (ha:PT X a tA) (hb:PW X (.BoolOp .Or (b::rest) pos) tB'):PW X (.BoolOp .Or (a::b::rest) pos) (tOr tA tB'):=by
 intro wh pins s σ H Q I h
 refine isTrue_or (thn (ha pins s σ H _ I h) fun c s1 ⟨H1,I1,q1⟩ => ?_)
 cases c with
 | true=>exact ⟨H1,I1,q1⟩
 | false=>exact hb wh pins s1 σ H1 Q I1 q1
theorem Lo (ha:PT X a tA):PT X (.UnaryOp .Not a pos) (TL tA):=by
 intro pins s σ H Q I h
 exact isTrue_not (ha pins s σ H (fun c H1=>Q (!c) H1) I h)
def NU (ta tb:TE):TE:=fun σ H Q=>ta σ H fun x H1=>∃ c,x=.bl c/\if c=true then tb σ H1 Q else Q ↥35 H1
def TK (ta tb:TE):TE:=fun σ H Q=>ta σ H fun x H1=>∃ c,x=.bl c/\if c=true then Q ↥26 H1 else tb σ H1 Q
def NO (ta:TE):TE:=fun σ H Q=>ta σ H fun x H1=>∃ c,x=.bl c/\Q (.bl (!c)) H1
theorem LA {op} {t:TE} (h:PE X a t):PE X (.BoolOp op [a] pos) t:=fun pins s σ H Q I hw=>BoolOp_one (h pins s σ H Q I hw)
theorem LI (ha:PE X a ta) (hb:PE X (.BoolOp .And (b::rest) pos) tb):PE X (.BoolOp .And (a::b::rest) pos) (NU ta tb):=by
 intro pins s σ H Q I h
 refine BoolOp_and (thn (ha pins s σ H _ I h) fun v s1 ⟨x,H1,I1,r1,q1⟩ => ?_)
 obtain ⟨c,rfl,q1⟩:=q1
 cases r1
 refine wpAny_truthy_bool ?_
 cases c with
 | true=>exact hb pins s1 σ H1 Q I1 q1
 | false=>exact ⟨.bl false,H1,I1,rfl,q1⟩
theorem Ob (ha:PE X a ta) (hb:PE X (.BoolOp .Or (b::rest) pos) tb):PE X (.BoolOp .Or (a::b::rest) pos) (TK ta tb):=by
 intro pins s σ H Q I h
 refine BoolOp_or (thn (ha pins s σ H _ I h) fun v s1 ⟨x,H1,I1,r1,q1⟩ => ?_)
 obtain ⟨c,rfl,q1⟩:=q1
 cases r1
 refine wpAny_truthy_bool ?_
 cases c with
 | false=>exact hb pins s1 σ H1 Q I1 q1
 | true=>exact ⟨.bl true,H1,I1,rfl,q1⟩
theorem LB (ha:PE X a ta):PE X (.UnaryOp .Not a pos) (NO ta):=by
 intro pins s σ H Q I h
 refine UnaryOp_ (thn (ha pins s σ H _ I h) fun v s1 ⟨x,H1,I1,r1,q1⟩ => ?_)
 obtain ⟨c,rfl,q1⟩:=q1
 cases r1
 exact not_of (wpAny_truthy_bool ⟨.bl (!c),H1,I1,rfl,q1⟩)
def tIf (t:TT) (ta tb:TE):TE:=fun σ H Q=>t σ H fun c H1=>if c=true then ta σ H1 Q else tb σ H1 Q
theorem DD {c:Expr} (hc:PT X c tA) (ha:PE X a ta) (hb:PE X b tb):PE X (.IfExp c a b pos) (tIf tA ta tb):=by
 intro pins s σ H Q I h
 refine wpAny_IfExp (thn (hc pins s σ H _ I h) fun d s1 ⟨H1,I1,q1⟩ => ?_)
 cases d with
 | true=>exact ha pins s1 σ H1 Q I1 q1
 | false=>exact hb pins s1 σ H1 Q I1 q1
end
end L2
namespace L2
open PySem PySem.Spec PyProof.Rows
def SqL (K:PySem.W.Frag) (H:Hp) (a:Addr) (xs:List V):Prop :=
 Rd H a (.lst xs) \/
  ∃ (o:Obj) (its:Array Value) (n:Nat),K.lookup a=some o/\o.cls=.type "list"/\o.dict=none/\o.data=.seq its n/\its.size<=sizeLine/\Vals xs its.toList
def SqT (K:PySem.W.Frag) (H:Hp) (a:Addr) (xs:List V):Prop :=
 Rd H a (.tup xs) \/
  ∃ (o:Obj) (its:Array Value) (n:Nat),K.lookup a=some o/\o.cls=.type "tuple"/\o.data=.seq its n/\its.size<=sizeLine/\Vals xs its.toList
def V4:Value->Option V
 | .none=>some .non
 | .bool b=>some (.bl b)
 | .int i _=>some (.int i)
 | .str x _=>some (.str x)
 | .bytes b _=>some (.byt b)
 | .float b _=>some (.flt b)
 | .ref a=>some (.ref a)
 | .type n=>some (.ty n)
 | _=>none
theorem RelV.abs {x:V} {u:Value} (r:RelV x u):V4 u=some x:=by
 cases x with
 | non=>cases r;rfl
 | bl _=>cases r;rfl
 | int _=>obtain ⟨t,rfl⟩:=r;rfl
 | str _=>obtain ⟨t,rfl⟩:=r;rfl
 | byt _=>obtain ⟨t,rfl⟩:=r;rfl
 | flt _=>obtain ⟨t,rfl⟩:=r;rfl
 | ref _=>cases r;rfl
 | ty _=>cases r;rfl
theorem RelV.inj {x y:V} {u:Value} (r:RelV x u) (q:RelV y u):x=y:=Option.some.inj (r.abs.symm.trans q.abs)
theorem Vals.inj:∀ {xs ys:List V} {us:List Value},Vals xs us->Vals ys us->xs=ys
 | _,_,_,.nil,.nil=>rfl
 | _,_,_,.cons r t,.cons r' t'=>by rw [r.inj r',Vals.inj t t']
section
variable {X:Cx} {pins:List ↥14} {σ:St} {H:Hp} {s:Shared} {a:Addr} {xs ys:List V}
theorem SqL.of {K:PySem.W.Frag} (h:H a=some (.lst xs)):SqL K H a xs:=.inl (.inl h)
theorem SqT.of {K:PySem.W.Frag} (h:H a=some (.tup xs)):SqT K H a xs:=.inl (.inl h)
theorem Inv.list (I:Inv X pins σ H s) (h:SqL X.K H a xs):∃ its:List Value,Vals xs its/\PlainL s.heap a its.toArray/\xs.length<=sizeLine:=by
 rcases h with h | ⟨o,its,n,hk,hc,hd,hs,hz,r⟩
 ·obtain ⟨z,its,n,r,e⟩:=h.ok I.hok
  exact ⟨its,r,⟨_,n,e,rfl,rfl,rfl⟩,z⟩
 ·refine ⟨its.toList,r,⟨o,n,I.kIn a o hk,hc,hd,by simpa using hs⟩,?_⟩
  have e:=r.length
  simp only [Array.length_toList] at e
  omega
theorem Inv.tuple (I:Inv X pins σ H s) (h:SqT X.K H a xs):∃ its:List Value,Vals xs its/\IsTup s.heap a its.toArray/\xs.length<=sizeLine:=by
 rcases h with h | ⟨o,its,n,hk,hc,hs,hz,r⟩
 ·obtain ⟨z,its,r,p⟩:=h.ok I.hok
  exact ⟨its,r,p,z⟩
 ·refine ⟨its.toList,r,⟨o,I.kIn a o hk,hc,n,by simpa using hs⟩,?_⟩
  have e:=r.length
  simp only [Array.length_toList] at e
  omega
theorem Inv.list_inj (I:Inv X pins σ H s) (h:SqL X.K H a xs) (h':SqL X.K H a ys):xs=ys:=by
 obtain ⟨its,r,⟨o,n,e,_,_,d⟩,_⟩:=I.list h
 obtain ⟨its',r',⟨o',n',e',_,_,d'⟩,_⟩:=I.list h'
 rw [e] at e';cases e'
 rw [d] at d'
 injection d' with d1 _
 have:its=its':=by simpa using congrArg Array.toList d1
 subst this
 exact r.inj r'
theorem Inv.tuple_inj (I:Inv X pins σ H s) (h:SqT X.K H a xs) (h':SqT X.K H a ys):xs=ys:=by
 obtain ⟨its,r,⟨o,e,_,n,d⟩,_⟩:=I.tuple h
 obtain ⟨its',r',⟨o',e',_,n',d'⟩,_⟩:=I.tuple h'
 rw [e] at e';cases e'
 rw [d] at d'
 injection d' with d1 _
 have:its=its':=by simpa using congrArg Array.toList d1
 subst this
 exact r.inj r'
end
abbrev Cx.wish (X:Cx) (E:Value->Shared->Prop):Cx:={ X with xe:=E }
abbrev Cx.nox (X:Cx):Cx:=X.wish fun _ _=>False
theorem Cx.Ok.wish {X:Cx} (ok:X.Ok) (E:Value->Shared->Prop):(X.wish E).Ok :=
 ⟨ok.mod,ok.kind,ok.glob,ok.blt,ok.above,ok.inj,ok.has,ok.cab,ok.hd,ok.frames,ok.stk,ok.exf,ok.bs,ok.bsz,ok.noex,ok.exfs,ok.funs,ok.frf⟩
theorem Cx.Ok.unwish {X:Cx} {E:Value->Shared->Prop} (ok:(X.wish E).Ok):X.Ok :=
 ⟨ok.mod,ok.kind,ok.glob,ok.blt,ok.above,ok.inj,ok.has,ok.cab,ok.hd,ok.frames,ok.stk,ok.exf,ok.bs,ok.bsz,ok.noex,ok.exfs,ok.funs,ok.frf⟩
section
variable {X:Cx} {pins:List ↥14} {σ:St} {H:Hp} {s:Shared} {E:Value->Shared->Prop}
theorem Inv.wish (I:Inv X pins σ H s) (E:Value->Shared->Prop):Inv (X.wish E) pins σ H s:=⟨I.ok.wish E,I.os,I.bare,I.base,I.loc,I.cell,I.free,I.freeC,I.pin,I.hok,I.len⟩
theorem Inv.unwish (I:Inv (X.wish E) pins σ H s):Inv X pins σ H s:=⟨I.ok.unwish,I.os,I.bare,I.base,I.loc,I.cell,I.free,I.freeC,I.pin,I.hok,I.len⟩
theorem SP.unwish {D:Ends} {f:Flow} {s':Shared} (h:SP (X.wish E) pins D f s'):SP X pins D f s':=by
 cases f with
 | next=>obtain ⟨σ',H',I,q⟩:=h;exact ⟨σ',H',I.unwish,q⟩
 | brk=>obtain ⟨σ',H',I,q⟩:=h;exact ⟨σ',H',I.unwish,q⟩
 | cont=>obtain ⟨σ',H',I,q⟩:=h;exact ⟨σ',H',I.unwish,q⟩
 | ret u=>obtain ⟨v,σ',H',I,r,q⟩:=h;exact ⟨v,σ',H',I.unwish,r,q⟩
theorem PSs.nox {st:List Stmt} {t:TS} (h:PSs X.nox st t):PSs X st t:=fun pins s σ H D I hw =>
 wpAny_mono (h pins s σ H D (I.wish _) hw) (fun _ _ q=>q.unwish) fun _ _ z=>False.elim z
end
section
variable {X:Cx} {st:Stmt} {rest:List Stmt} {t u:TS} {e:Expr} {te:TE} {pos:Pos}
def NP:TS:=fun D σ H=>D.nx σ H
def TH (t u:TS):TS:=fun D σ H=>t { D with nx:=u D } σ H
theorem HH:PSs X [] NP:=fun _ _ σ H _ I h=>wpAny_execs_nil ⟨σ,H,I,h⟩
theorem Dw (h1:PS X st t) (h2:PSs X rest u):PSs X (st::rest) (TH t u):=by
 intro pins s σ H D I h
 refine wpAny_execs_cons (thn (h1 pins s σ H { D with nx:=u D } I h) fun f s1 q => ?_)
 cases f with
 | next =>
  obtain ⟨σ',H',I',q⟩:=q
  exact h2 pins s1 σ' H' D I' q
 | ret v=>exact q
 | brk=>exact q
 | cont=>exact q
theorem AG (h1:PS X st t):PSs X [st] t:=by
 intro pins s σ H D I h
 refine wpAny_execs_cons (thn (h1 pins s σ H D I h) fun f s1 q => ?_)
 cases f with
 | next=>exact wpAny_execs_nil q
 | ret v=>exact q
 | brk=>exact q
 | cont=>exact q
def NS:TS:=fun D σ H=>D.ct σ H
theorem vy:PS X (.Continue pos) NS:=fun _ _ σ H _ I h=>wpAny_Continue ⟨σ,H,I,h⟩
theorem Inv.quiet {pins:List ↥14} {σ:St} {H:Hp} {s:Shared} (I:Inv X pins σ H s):interactive X.env=false:=by simp [interactive,I.ok.kind]
def NR (te:TE):TS:=fun D σ H=>te σ H fun _ H1=>D.nx σ H1
theorem vx (he:PE X e te) (hs:swapsWith e none pos.line X.env=pure false:=by rfl):PS X (.Expr e pos) (NR te):=by
 intro pins s σ H D I h
 exact wpAny_Expr_any (thn (he pins s σ H _ I h) fun v s1 ⟨x,H1,I1,r1,q1⟩=>⟨σ,H1,I1,q1⟩) I.quiet hs
def TJ (te:TE):TS:=fun D σ H=>te σ H D.rt
theorem Lq (he:PE X e te):PS X (.Return (some e) pos) (TJ te):=by
 intro pins s σ H D I h
 exact wpAny_Return_some (thn (he pins s σ H _ I h) fun v s1 ⟨x,H1,I1,r1,q1⟩=>⟨x,σ,H1,I1,r1,q1⟩)
def TQ (c:TT) (t u:TS):TS:=fun D σ H=>c σ H fun b H1=>if b=true then t D σ H1 else u D σ H1
theorem Lr {c:Expr} {a b:List Stmt} {tc:TT} (hc:PT X c tc) (ha:PSs X a t) (hb:PSs X b u):PS X (.If c a b pos) (TQ tc t u):=by
 intro pins s σ H D I h
 refine wpAny_If (thn (hc pins s σ H _ I h) fun d s1 ⟨H1,I1,q1⟩ => ?_)
 cases d with
 | true=>exact ha pins s1 σ H1 D I1 q1
 | false=>exact hb pins s1 σ H1 D I1 q1
end
abbrev TG:=V->St->Hp->(St->Hp->Prop)->Prop
abbrev TGs:=List V->St->Hp->(St->Hp->Prop)->Prop
def PG (X:Cx) (target:Expr) (t:TG):Prop :=
 ∀ (pins:List ↥14) (s:Shared) (σ:St) (H:Hp) (v:V) (u:Value) (Q:St->Hp->Prop),Inv X pins σ H s->RelV v u->t v σ H Q ->
  wpAny ↥8 X.A (assign target X.env u) (fun _ s'=>∃ σ' H',Inv X pins σ' H' s'/\Q σ' H') X.xe s
def PGs (X:Cx) (ts:List Expr) (t:TGs):Prop :=
 ∀ (pins:List ↥14) (s:Shared) (σ:St) (H:Hp) (vs:List V) (us:List Value) (Q:St->Hp->Prop),Inv X pins σ H s->Vals vs us->t vs σ H Q ->
  wpAny ↥8 X.A (assignInOrder ((assignEach ts X.env).map (·.2)) us) (fun _ s'=>∃ σ' H',Inv X pins σ' H' s'/\Q σ' H') X.xe s
section
variable {X:Cx} {pos:Pos}
def yZ (i:Nat):TG:=fun v σ H Q=>Q (σ.set i (some v)) H
theorem oh {i:Nat} {x:Str} (hN:X.N.Nodup) (hi:X.N[i]? = some x) (hx:Loc X.env.scope x) (hf:X.fn x=true\/X.env.scope.names.lookup x=some .local:=by first | exact .inl rfl | exact .inr rfl | assumption):PG X (.Name x pos) (yZ i):=by
 intro pins s σ H v u Q I r h
 exact wpAny_assign_Name (qI I hN hi hx r (fun s' I'=>⟨_,H,I',h⟩) hf)
def Te:TGs:=fun vs σ H Q=>vs=[]/\Q σ H
def MA (t:TG) (u:TGs):TGs:=fun vs σ H Q=>∃ v r,vs=v::r/\t v σ H fun σ' H'=>u r σ' H' Q
theorem HM:PGs X [] Te:=by
 intro pins s σ H vs us Q I r h
 obtain ⟨e,h⟩:=h
 subst e
 cases r
 exact assignInOrder_nil ⟨σ,H,I,h⟩
theorem xf {e:Expr} {es:List Expr} {t:TG} {u:TGs} (h1:PG X e t) (h2:PGs X es u)
  (hs:(assignEach (e::es) X.env).map (·.2)=assign e X.env::(assignEach es X.env).map (·.2):=by rfl):PGs X (e::es) (MA t u):=by
 intro pins s σ H vs us Q I r h
 obtain ⟨v,vr,e1,h⟩:=h
 subst e1
 cases r with
 | cons r rr =>
  rw [hs]
  refine assignInOrder_cons (thn (h1 pins s σ H _ _ _ I r h) fun _ s1 ⟨σ1,H1,I1,q1⟩ => ?_)
  exact h2 pins s1 σ1 H1 _ _ Q I1 rr q1
def VQ (K:PySem.W.Frag) (n:Nat) (t:TGs):TG:=fun v σ H Q=>∃ a xs,v=.ref a/\SqT K H a xs/\xs.length=n/\t xs σ H Q
theorem Ly {es:List Expr} {k:Nat} {t:TGs} {n:Nat} (hc:X.calm=true) (h:PGs X es t)
  (hn:(assignEach es X.env).length=n:=by rfl) (hst:(assignEach es X.env).findIdx? (·.1)=none:=by rfl):PG X (.Tuple es k pos) (VQ X.K n t):=by
 intro pins s σ H v u Q I r hw
 obtain ⟨a,xs,e1,hq,hl,hw⟩:=hw
 subst e1
 cases r
 obtain ⟨its,rv,ht,hz⟩:=I.tuple hq
 refine assign_Tuple_tuple (I.ok.hd hc) ht (by simp [hn,<-hl,rv.length]) hst fun h' hx => ?_
 have I1:Inv X pins σ H { s with heap:=h' }:=I.kept (t':=s.toks) fun b o e=>hx b o (Nat.ne_of_lt (Heap.lt_size e)) e
 exact h pins _ σ H xs _ Q I1 (by simpa using rv) hw
def O6 (te:TE) (g:TG):TS:=fun D σ H=>te σ H fun x H1=>g x σ H1 D.nx
theorem Lv {tg e:Expr} {te:TE} {g:TG} (he:PE X e te) (hg:PG X tg g) (hs:swapsWithSole [tg] e pos.line X.env=pure false:=by rfl) (hw:swappedStores [tg] e X.env=pure none:=by rfl)
  (h1:(assignEach [tg] X.env).map (·.2)=[assign tg X.env]:=by rfl):PS X (.Assign [tg] e pos) (O6 te g):=by
 intro pins s σ H D I h
 refine wpAny_Assign_stores (thn (he pins s σ H _ I h) fun v s1 ⟨x,H1,I1,r1,q1⟩ => ?_) hs hw
 rw [h1]
 exact thn (hg pins s1 σ H1 x v _ I1 r1 q1) fun _ s2 q=>q
theorem Ft {i:Nat} {x:Str} {e:Expr} {te:TE} {pos':Pos} (hN:X.N.Nodup) (hi:X.N[i]? = some x) (hx:Loc X.env.scope x) (he:PE X e te) (hs:swapsWith e (some (.Name x pos')) pos.line X.env=pure false:=by rfl) (hf:X.fn x=true\/X.env.scope.names.lookup x=some .local:=by first | exact .inl rfl | exact .inr rfl | assumption) :
  PS X (.Assign [.Name x pos'] e pos) (O6 te (yZ i)):=by
 intro pins s σ H D I h
 refine wpAny_Assign_Name (thn (he pins s σ H _ I h) fun v s1 ⟨y,H1,I1,r1,q1⟩ => ?_) hs
 exact qI I1 hN hi hx r1 (fun s2 I2=>⟨_,H1,I2,q1⟩) hf
end
section
variable {X:Cx} {pos:Pos}
def Fn (c:TT) (tb:TS):TS:=fun D σ H=>∃ W:Nat->St->Hp->Prop,(∃ m,W m σ H)/\∀ m σ H,W m σ H ->
 c σ H fun b H1=>if b=true then ∃ N:St->Hp->Prop,(∀ σ' H',N σ' H'->∃ m',m'<m/\W m' σ' H')/\tb { D with nx:=N,ct:=N,bk:=D.nx } σ H1 else D.nx σ H1
theorem Dx {c:Expr} {body:List Stmt} {tc:TT} {tb:TS} (hp:PassesOwn ↥8 X.A X.env X.xe) (hc:PT X c tc) (hb:PSs X body tb):PS X (.While c body [] pos) (Fn tc tb):=by
 intro pins s σ H D I h
 obtain ⟨W,⟨m0,w0⟩,turn⟩:=h
 refine wpAny_While (codeAny_whileLoop (fun n s'=>∃ σ' H',Inv X pins σ' H' s'/\W n σ' H') ?_ m0 ⟨σ,H,I,w0⟩)
 rintro n s1 ⟨σ1,H1,I1,w1⟩
 refine wpAny_passesOwn hp (thn (hc pins s1 σ1 H1 _ I1 (turn n σ1 H1 w1)) fun b s2 ⟨H2,I2,q2⟩ => ?_)
 cases b with
 | true =>
  obtain ⟨N,hN,q2⟩:=q2
  rw [if_pos rfl]
  refine wpAny_passesOwn hp (thn (hb pins s2 σ1 H2 _ I2 q2) fun f s3 q3 => ?_)
  cases f with
  | next =>
   obtain ⟨σ3,H3,I3,n3⟩:=q3
   obtain ⟨m',hm,w3⟩:=hN σ3 H3 n3
   exact ⟨m',hm,σ3,H3,I3,w3⟩
  | cont =>
   obtain ⟨σ3,H3,I3,n3⟩:=q3
   obtain ⟨m',hm,w3⟩:=hN σ3 H3 n3
   exact ⟨m',hm,σ3,H3,I3,w3⟩
  | brk=>exact q3
  | ret v=>exact q3
 | false =>
  rw [if_neg Bool.false_ne_true]
  exact wpAny_execs_nil ⟨σ1,H2,I2,q2⟩
end
structure It where
 go:Nat->Hp->Prop
 yld:Nat->Hp->V->Hp->Prop
 stop:Nat->Hp->Prop
def zA (X:Cx) (pins:List ↥14) (H:Hp) (b:Addr):Prop :=
 H b=none/\b≠X.env.locals/\b∉X.fs/\(b∈X.ex\/X.s₀.heap.objs.size<=b)/\(∀ x c,X.env.cells.lookup x=some c->c≠b)/\∀ p∈X.pn++pins,p.1≠b
theorem Inv.fpOk {X:Cx} {pins:List ↥14} {σ:St} {H H':Hp} {s:Shared} {b:Addr} (I:Inv X pins σ H s) (hb:s.heap.objs.size<=b) (hn:H' b=none):zA X pins H' b:=by
 refine ⟨hn,Nat.ne_of_gt (Nat.lt_of_lt_of_le I.lt hb),I.nofs hb,.inr (Nat.le_trans I.sz hb),fun x c e z => ?_,fun p hp z => ?_⟩
 ·obtain ⟨v,q⟩:=I.cell x c e
  exact absurd (Nat.lt_of_lt_of_le q.lt (by rw [z];exact hb)) (Nat.lt_irrefl _)
 ·exact absurd (Nat.lt_of_lt_of_le (Heap.lt_size (I.pin p hp).1) (by rw [z];exact hb)) (Nat.lt_irrefl _)
structure Turn (P:Program) (w:World) (K:PySem.W.Frag) (tg:Expr) (J:It) (fp:List Addr) (it:Addr) (tn:Nat->Heap->Prop):Prop where
 mem:it∈fp
 obj:∀ i h,tn i h->∀ b∈fp,∃ o,h.get? b=some o/\∀ v,o.data ≠ .cell v
 keep:∀ i h h',tn i h->(∀ b∈fp,∀ o,h.get? b=some o->h'.get? b=some o)->tn i h'
 item:∀ (X:Cx),X.prog=P->X.w=w->X.K=K->X.calm=true->∀ (i:Nat) (pins:List ↥14) (s:Shared) (σ:St) (H:Hp) (E:Value->Shared->Prop),Inv X pins σ H s->(∀ b∈fp,zA X pins H b)->tn i s.heap->J.go i H ->
  wpAny (model P w) X.A (pyNext (.ref it)) (fun r s1=>∃ u,r=some u /\
   wpAny (model P w) X.A (letOwnedTupleGo tg (.ref it) u) (fun _ s2=>∃ x H',Inv X pins σ H' s2/\RelV x u/\J.yld i H x H'/\tn (i+1) s2.heap/\∀ b∈fp,H' b=none) E s1) E s
 done:∀ (X:Cx),X.prog=P->X.w=w->X.K=K->X.calm=true->∀ (i:Nat) (pins:List ↥14) (s:Shared) (σ:St) (H:Hp) (E:Value->Shared->Prop),Inv X pins σ H s->(∀ b∈fp,zA X pins H b)->tn i s.heap->J.stop i H ->
  wpAny (model P w) X.A (pyNext (.ref it)) (fun r s1=>r=none/\Inv X pins σ H s1) E s
 self:∀ (A:Around) (i:Nat) (s:Shared) (Q:Value->Shared->Prop) (E:Value->Shared->Prop),tn i s.heap->Q (.ref it) s->wpAny (model P w) A (pyIter (.ref it)) Q E s
abbrev TI:=St->Hp->(It->Hp->Prop)->Prop
def PIE (X:Cx) (pins:List ↥14) (σ:St) (tg:Expr) (R:It->Hp->Prop) (itv:Value) (s2:Shared):Prop :=
 ∃ (it:Addr) (fp:List Addr) (tn:Nat->Heap->Prop) (J:It) (H':Hp),itv=.ref it/\Inv X pins σ H' s2/\Turn X.prog X.w X.K tg J fp it tn/\tn 0 s2.heap/\(∀ b∈fp,zA X pins H' b)/\R J H'
def PI (X:Cx) (tg iter:Expr) (wi:TI):Prop :=
 ∀ (pins:List ↥14) (s:Shared) (σ:St) (H:Hp) (R:It->Hp->Prop),Inv X pins σ H s->wi σ H R ->
  wpAny ↥8 X.A (eval iter X.env) (fun v s1=>wpAny ↥8 X.A (pyIter v) (PIE X pins σ tg R) X.xe s1) X.xe s
theorem Mz {M:Model} {A:Around} {E:Value->Shared->Prop} {s:Shared} {tg:Expr} {it:Addr} {u:Value} {o:Obj} {n:String} {vs:Array Value} {Q:Unit->Shared->Prop} (ho:s.heap.get? it=some o) (hc:o.cls=.type n) (hd:o.data=.fields vs)
  (hn:["enumerate","zip","dict_itemiterator","dict_reverseitemiterator","odict_iterator","itertools.zip_longest","itertools.pairwise"].contains n=false) (hQ:Q () s):wpAny M A (letOwnedTupleGo tg (.ref it) u) Q E s:=by
 unfold letOwnedTupleGo
 cases tg<;>first
  | exact wpAny_pure hQ
  | (cases u<;>first
    | exact wpAny_pure hQ
    | (refine wpAny_bind (wpAny_load ho ?_)
       rw [hc,hd]
       show wpAny M A (if (["enumerate","zip","dict_itemiterator","dict_reverseitemiterator","odict_iterator","itertools.zip_longest","itertools.pairwise"].contains n&&vs[0]? == some (rawInt _))=true then _ else _) Q E s
       rw [if_neg (by intro h;rw [hn,Bool.false_and] at h;cases h)]
       exact wpAny_pure hQ))
def Itl (K:PySem.W.Frag) (a:Addr):It :=
 ⟨fun i H=>∃ xs x,SqL K H a xs/\xs[i]? = some x,fun i H x H'=>H'=H/\∀ xs,SqL K H a xs->xs[i]? = some x,fun i H=>∃ xs,SqL K H a xs/\xs.length<=i⟩
def Itt (K:PySem.W.Frag) (a:Addr):It :=
 ⟨fun i H=>∃ xs x,SqT K H a xs/\xs[i]? = some x,fun i H x H'=>H'=H/\∀ xs,SqT K H a xs->xs[i]? = some x,fun i H=>∃ xs,SqT K H a xs/\xs.length<=i⟩
theorem Ab {P:Program} {w:World} {K:PySem.W.Frag} {tg:Expr} (a it:Addr):Turn P w K tg (Itl K a) [it] it (fun i h=>h.IsListIter it a i) where
 mem:=by simp
 obj:=fun i h st b hb=>by
  have e:b=it:=by simpa using hb
  subst e
  obtain ⟨o,e,c,d⟩:=st
  exact ⟨o,e,fun v z=>by rw [d] at z;cases z⟩
 keep:=fun i h h' st k=>st.at fun o e=>k it (by simp) o e
 item:=by
  intro X hP hw hK hc i pins s σ H E I hf st hg
  subst hP hw hK
  obtain ⟨xs,x,hq,hx⟩:=hg
  obtain ⟨its,rv,p,hz⟩:=I.list hq
  obtain ⟨u,hu,ru⟩:=rv.get hx
  obtain ⟨f0,f1,f2,f3,f4,f5⟩:=hf it (by simp)
  refine wpAny_pyNext_list_item st p.isList (x:=u) (by simpa using hu) fun h' st' sb => ?_
  have I1:Inv X pins σ H { s with heap:=h' }:=I.turned (t':=s.toks) (fun b o hb e=>(sb.2 b hb).trans e) f0 f1 f3 f4 f5
  obtain ⟨o,e,c,d⟩:=id st'
  exact ⟨u,rfl,Mz (s:={ s with heap:=h' }) e c d ↥1 ⟨x,H,I1,ru,⟨rfl,fun ys hy=>by rw [I.list_inj hy hq];exact hx⟩,st',fun b hb=>(hf b hb).1⟩⟩
 done:=by
  intro X hP hw hK hc i pins s σ H E I hf st hg
  subst hP hw hK
  obtain ⟨xs,hq,hx⟩:=hg
  obtain ⟨its,rv,p,hz⟩:=I.list hq
  obtain ⟨f0,f1,f2,f3,f4,f5⟩:=hf it (by simp)
  have hl:=rv.length
  exact wpAny_pyNext_list_end (I.ok.hd hc) st p.isList (by simp;omega) fun h' eb=>⟨rfl,I.turned (t':=s.toks) (fun b o hb e=>eb b o hb e) f0 f1 f3 f4 f5⟩
 self:=fun _ _ _ _ _ st h=>wpAny_pyIter_listiter st h
theorem yq {P:Program} {w:World} {K:PySem.W.Frag} {tg:Expr} (a it:Addr):Turn P w K tg (Itt K a) [it] it (fun i h=>h.IsTupleIter it a i) where
 mem:=by simp
 obj:=fun i h st b hb=>by
  have e:b=it:=by simpa using hb
  subst e
  obtain ⟨o,e,c,d⟩:=st
  exact ⟨o,e,fun v z=>by rw [d] at z;cases z⟩
 keep:=fun i h h' st k=>st.at fun o e=>k it (by simp) o e
 item:=by
  intro X hP hw hK hc i pins s σ H E I hf st hg
  subst hP hw hK
  obtain ⟨xs,x,hq,hx⟩:=hg
  obtain ⟨its,rv,p,hz⟩:=I.tuple hq
  obtain ⟨u,hu,ru⟩:=rv.get hx
  obtain ⟨f0,f1,f2,f3,f4,f5⟩:=hf it (by simp)
  refine wpAny_pyNext_tuple_item st (show s.heap.IsTuple a its.toArray from p) (x:=u) (by simpa using hu) fun h' st' sb => ?_
  have I1:Inv X pins σ H { s with heap:=h' }:=I.turned (t':=s.toks) (fun b o hb e=>(sb.2 b hb).trans e) f0 f1 f3 f4 f5
  obtain ⟨o,e,c,d⟩:=id st'
  exact ⟨u,rfl,Mz (s:={ s with heap:=h' }) e c d ↥1 ⟨x,H,I1,ru,⟨rfl,fun ys hy=>by rw [I.tuple_inj hy hq];exact hx⟩,st',fun b hb=>(hf b hb).1⟩⟩
 done:=by
  intro X hP hw hK hc i pins s σ H E I hf st hg
  subst hP hw hK
  obtain ⟨xs,hq,hx⟩:=hg
  obtain ⟨its,rv,p,hz⟩:=I.tuple hq
  obtain ⟨f0,f1,f2,f3,f4,f5⟩:=hf it (by simp)
  have hl:=rv.length
  exact wpAny_pyNext_tuple_end (I.ok.hd hc) st (show s.heap.IsTuple a its.toArray from p) (by simp;omega) fun h' eb=>⟨rfl,I.turned (t':=s.toks) (fun b o hb e=>eb b o hb e) f0 f1 f3 f4 f5⟩
 self:=fun _ _ _ _ _ st h=>wpAny_pyIter_tupleiter st h
end L2
namespace L2
open PySem PySem.Spec PyProof.Rows
section
variable {X:Cx} {tg:Expr}
def OI (K:PySem.W.Frag) (tl:TE):TI:=fun σ H R=>tl σ H fun x H1=>∃ a,x=.ref a/\(∃ xs,SqL K H1 a xs)/\R (Itl K a) H1
def VP (K:PySem.W.Frag) (tl:TE):TI:=fun σ H R=>tl σ H fun x H1=>∃ a,x=.ref a/\(∃ xs,SqT K H1 a xs)/\R (Itt K a) H1
theorem HL {l:Expr} {tl:TE} (hl:PE X l tl):PI X tg l (OI X.K tl):=by
 intro pins s σ H R I h
 refine thn (hl pins s σ H _ I h) fun v s1 ⟨x,H1,I1,r1,q1⟩ => ?_
 obtain ⟨a,e,⟨xs,hq⟩,q⟩:=q1
 subst e
 cases r1
 obtain ⟨its,rv,p,hz⟩:=I1.list hq
 refine wpAny_pyIter_list p.isList ?_
 refine ⟨s1.heap.objs.size,[s1.heap.objs.size],_,_,H1,rfl,I1.kept (t':=s1.toks) fun b o e=>Heap.get?_push_of_some _ e,Ab a _,⟨_,Heap.get?_push_size _ rfl,rfl,rfl⟩,fun b hb => ?_,q⟩
 have e:b=s1.heap.objs.size:=by simpa using hb
 subst e
 exact I1.fpOk ↥38 (I1.hok.fresh ↥38)
theorem Lx {l:Expr} {tl:TE} (hl:PE X l tl):PI X tg l (VP X.K tl):=by
 intro pins s σ H R I h
 refine thn (hl pins s σ H _ I h) fun v s1 ⟨x,H1,I1,r1,q1⟩ => ?_
 obtain ⟨a,e,⟨xs,hq⟩,q⟩:=q1
 subst e
 cases r1
 obtain ⟨its,rv,p,hz⟩:=I1.tuple hq
 refine wpAny_pyIter_tuple (show s1.heap.IsTuple a its.toArray from p) ?_
 refine ⟨s1.heap.objs.size,[s1.heap.objs.size],_,_,H1,rfl,I1.kept (t':=s1.toks) fun b o e=>Heap.get?_push_of_some _ e,yq a _,⟨_,Heap.get?_push_size _ rfl,rfl,rfl⟩,fun b hb => ?_,q⟩
 have e:b=s1.heap.objs.size:=by simpa using hb
 subst e
 exact I1.fpOk ↥38 (I1.hok.fresh ↥38)
def TR (wi:TI) (g:TG) (tb:TS):TS:=fun D σ H=>wi σ H fun J H1=>∃ W:Nat->Nat->St->Hp->Prop,(∃ m,W 0 m σ H1)/\∀ i m σ H,W i m σ H ->
 (J.stop i H/\D.nx σ H)\/(J.go i H/\∃ N:St->Hp->Prop,(∀ σ' H',N σ' H'->∃ m',m'<m/\W (i+1) m' σ' H')/\∀ x H',J.yld i H x H'->g x σ H' fun σ2 H2=>tb { D with nx:=N,ct:=N,bk:=D.nx } σ2 H2)
def pX (fp:List Addr) (h:Heap):List ↥14:=fp.filterMap fun b=>(h.get? b).map fun o=>(b,o)
theorem fA {fp:List Addr} {h:Heap} {b:Addr} {o:Obj} (hb:b∈fp) (e:h.get? b=some o):(b,o)∈pX fp h:=List.mem_filterMap.mpr ⟨b,hb,by rw [e];rfl⟩
theorem tU {fp:List Addr} {h:Heap} {p:Addr×Obj} (hp:p∈pX fp h):p.1∈fp/\h.get? p.1=some p.2:=by
 obtain ⟨b,hb,e⟩:=List.mem_filterMap.mp hp
 cases q:h.get? b with
 | none=>rw [q] at e;cases e
 | some o =>
  rw [q] at e
  have e':(b,o)=p:=Option.some.inj e
  subst e'
  exact ⟨hb,q⟩
theorem Inv.pinned {pins:List ↥14} {σ:St} {H:Hp} {s:Shared} {fp:List Addr} (I:Inv X pins σ H s) (hf:∀ b∈fp,zA X pins H b) (ho:∀ b∈fp,∃ o,s.heap.get? b=some o/\∀ v,o.data ≠ .cell v):Inv X (pins++pX fp s.heap) σ H s :=
 I.pins_of fun p hp=>(List.mem_append.mp hp).elim (fun z=>I.pin p (List.mem_append_right _ z)) fun z=>by
  obtain ⟨hb,e⟩:=tU z
  obtain ⟨f0,f1,f2,_⟩:=hf p.1 hb
  obtain ⟨o,e',d⟩:=ho p.1 hb
  rw [e] at e';cases e'
  exact ⟨e,f0,f1,f2,d⟩
theorem Inv.unpinned {pins pl:List ↥14} {σ:St} {H:Hp} {s:Shared} (I:Inv X (pins++pl) σ H s):Inv X pins σ H s:=I.pins_of fun p hp=>I.pin p (List.mem_append_right _ (List.mem_append_left _ hp))
theorem Ls {iter:Expr} {body:List Stmt} {wi:TI} {g:TG} {tb:TS} {pos:Pos} (hp:PassesOwn ↥8 X.A X.env X.xe) (hc:X.calm=true) (hi:PI X tg iter wi) (hg:PG X tg g) (hb:PSs X body tb)
  (hs:∀ x,foldedSetIterable iter X.env x=pure x:=by intro _;rfl):PS X (.For tg iter body [] pos) (TR wi g tb):=by
 intro pins s σ H D I h
 refine wpAny_For (thn (hi pins s σ H _ I h) fun v s1 h1=>thn h1 fun itv s2 h2 => ?_) hs
 obtain ⟨it,fp,tn,J,H2,e,I2,T,st2,f2,W,⟨m0,w0⟩,turn⟩:=h2
 subst e
 have stat:∀ {H':Hp},(∀ b∈fp,H' b=none)->∀ b∈fp,zA X pins H' b:=fun hn b hb=>⟨hn b hb,(f2 b hb).2⟩
 refine codeAny_forLoop_any (fun n s'=>∃ i σ' H',Inv X pins σ' H' s'/\tn i s'.heap/\(∀ b∈fp,H' b=none)/\W i n σ' H') ?_ m0 ⟨0,σ,H2,I2,st2,fun b hb=>(f2 b hb).1,w0⟩
 rintro n s3 ⟨i,σ3,H3,I3,st3,fr3,w3⟩
 rcases turn i n σ3 H3 w3 with ⟨stop,qn⟩ | ⟨go,N,hN,step⟩
 ·refine wpAny_passesOwn hp (thn (T.done X rfl rfl rfl hc i pins s3 σ3 H3 X.xe I3 (stat fr3) st3 stop) fun r s4 ⟨hr,I4⟩ => ?_)
  subst hr
  exact wpAny_execs_nil ⟨σ3,H3,I4,qn⟩
 ·refine wpAny_passesOwn hp (thn (T.item X rfl rfl rfl hc i pins s3 σ3 H3 X.xe I3 (stat fr3) st3 go) fun r s4 ⟨u,hr,h4⟩ => ?_)
  subst hr
  refine wpAny_passesOwn hp (thn h4 fun _ s5 ⟨x,H5,I5,r5,y5,st5,fr5⟩ => ?_)
  have I5':=I5.pinned (stat fr5) (T.obj _ _ st5)
  refine wpAny_passesOwn hp (thn (hg _ s5 σ3 H5 x u _ I5' r5 (step x H5 y5)) fun _ s6 ⟨σ6,H6,I6,q6⟩ => ?_)
  refine wpAny_passesOwn hp (thn (hb _ s6 σ6 H6 _ I6 q6) fun f s7 q7 => ?_)
  have again:∀ {σ7:St} {H7:Hp},Inv X (pins++pX fp s5.heap) σ7 H7 s7->N σ7 H7->∃ m,m<n/\∃ i σ' H',Inv X pins σ' H' s7/\tn i s7.heap/\(∀ b∈fp,H' b=none)/\W i m σ' H':=fun {σ7 H7} I7 n7=>by
   obtain ⟨m',hm,w7⟩:=hN σ7 H7 n7
   refine ⟨m',hm,i+1,σ7,H7,I7.unpinned,T.keep _ _ _ st5 fun b hb o e=>(I7.pin (b,o) (List.mem_append_right _ (List.mem_append_right _ (fA hb e)))).1,fun b hb => ?_,w7⟩
   obtain ⟨o,e,d⟩:=T.obj _ _ st5 b hb
   exact (I7.pin (b,o) (List.mem_append_right _ (List.mem_append_right _ (fA hb e)))).2.1
  cases f with
  | next=>obtain ⟨σ7,H7,I7,n7⟩:=q7;exact again I7 n7
  | cont=>obtain ⟨σ7,H7,I7,n7⟩:=q7;exact again I7 n7
  | brk=>obtain ⟨σ7,H7,I7,q7⟩:=q7;exact ⟨σ7,H7,I7.unpinned,q7⟩
  | ret v=>obtain ⟨x7,σ7,H7,I7,r7,q7⟩:=q7;exact ⟨x7,σ7,H7,I7.unpinned,r7,q7⟩
end
theorem wK {c:TT} {tb:TS} {D:Ends} {σ:St} {H:Hp} (Pv:St->Hp->Prop) (μ:St->Hp->Nat) (h0:Pv σ H)
  (hs:∀ σ H,Pv σ H->c σ H fun b H1=>if b=true then tb { D with nx:=fun σ' H'=>Pv σ' H'/\μ σ' H'<μ σ H,ct:=fun σ' H'=>Pv σ' H'/\μ σ' H'<μ σ H,bk:=D.nx } σ H1 else D.nx σ H1)
  (mono:∀ σ H Q Q',(∀ b H1,Q b H1->Q' b H1)->c σ H Q->c σ H Q'):Fn c tb D σ H:=by
 refine ⟨fun m σ H=>m=μ σ H/\Pv σ H,⟨_,rfl,h0⟩,?_⟩
 rintro m σ H ⟨rfl,p⟩
 refine mono σ H _ _ (fun b H1 q => ?_) (hs σ H p)
 cases b with
 | true=>exact ⟨_,fun σ' H' ⟨p',l⟩=>⟨_,l,rfl,p'⟩,q⟩
 | false=>exact q
end L2
namespace L2
open PySem PySem.Spec PyProof.Rows
abbrev R2:=V->V->Hp->VK->Prop
def OpR (X:Cx) (f:Value->Value->Sem Value) (r:R2):Prop :=
 ∀ (pins:List ↥14) (s:Shared) (σ:St) (H:Hp) (x y:V) (v u:Value) (Q:VK),Inv X pins σ H s->RelV x v->RelV y u->r x y H Q ->
  wpAny ↥8 X.A (f v u) (EP X pins σ Q) X.xe s
def UnR (X:Cx) (f:Value->Sem Value) (r:V->Hp->VK->Prop):Prop :=
 ∀ (pins:List ↥14) (s:Shared) (σ:St) (H:Hp) (x:V) (v:Value) (Q:VK),Inv X pins σ H s->RelV x v->r x H Q ->
  wpAny ↥8 X.A (f v) (EP X pins σ Q) X.xe s
def iD (X:Cx) (f:Value) (r:List V->Hp->VK->Prop):Prop :=
 ∀ (pins:List ↥14) (s:Shared) (σ:St) (H:Hp) (xs:List V) (us:List Value) (Q:VK),Inv X pins σ H s->Vals xs us->r xs H Q ->
  wpAny ↥8 X.A (call f us) (EP X pins σ Q) X.xe s
def tOp (r:R2) (ta tb:TE):TE:=fun σ H Q=>ta σ H fun x H1=>tb σ H1 fun y H2=>r x y H2 Q
def tUn (r:V->Hp->VK->Prop) (ta:TE):TE:=fun σ H Q=>ta σ H fun x H1=>r x H1 Q
def rI (C:Int->Int->Prop) (g:Int->Int->V):R2:=fun x y H Q=>∃ i j,x=.int i/\y=.int j/\C i j/\Q (g i j) H
def rI0 (g:Int->Int->V):R2:=fun x y H Q=>∃ i j,x=.int i/\y=.int j/\Q (g i j) H
def rU (g:Int->V):V->Hp->VK->Prop:=fun x H Q=>∃ i,x=.int i/\Q (g i) H
section
variable {X:Cx} {a b c:Expr} {ta tb tc:TE} {pos:Pos}
theorem OX (ha:PE X a ta) (hb:PE X b tb) {pins:List ↥14} {s:Shared} {σ:St} {H:Hp} {R:V->V->Hp->Prop} (I:Inv X pins σ H s)
  (h:ta σ H fun x H1=>tb σ H1 fun y H2=>R x y H2) {Q:Value->Shared->Prop} {f:Value->Value->Sem Value}
  (hf:∀ v u s2 x y H2,Inv X pins σ H2 s2->RelV x v->RelV y u->R x y H2->wpAny ↥8 X.A (f v u) Q X.xe s2) :
  wpAny ↥8 X.A (eval a X.env) (fun v s₁=>wpAny ↥8 X.A (eval b X.env) (fun u s₂=>wpAny ↥8 X.A (f v u) Q X.xe s₂) X.xe s₁) X.xe s:=by
 refine thn (ha pins s σ H _ I h) fun v s1 ⟨x,H1,I1,r1,q1⟩ => ?_
 refine thn (hb pins s1 σ H1 _ I1 q1) fun u s2 ⟨y,H2,I2,r2,q2⟩ => ?_
 exact hf v u s2 x y H2 I2 r1 r2 q2
theorem Oc {op:Operator} {r:R2} (ho:OpR X (binaryOp op) r) (ha:PE X a ta) (hb:PE X b tb):PE X (.BinOp a op b pos) (tOp r ta tb):=by
 intro pins s σ H Q I h
 exact wpAny_BinOp (OX ha hb I h fun v u s2 x y H2 I2 rx ry q=>ho pins s2 σ H2 x y v u Q I2 rx ry q)
theorem Oa {op:UnaryOp} {r:V->Hp->VK->Prop} (ho:UnR X (unaryOp op) r) (ha:PE X a ta):PE X (.UnaryOp op a pos) (tUn r ta):=by
 intro pins s σ H Q I h
 exact UnaryOp_ (thn (ha pins s σ H _ I h) fun v s1 ⟨x,H1,I1,r1,q1⟩=>ho pins s1 σ H1 x v Q I1 r1 q1)
theorem opI {f:Value->Value->Sem Value} {C:Int->Int->Prop} {g:Int->Int->Int}
  (rule:∀ (i j:Int) (t u:Tok) (s:Shared) (Q:Value->Shared->Prop) (E:Value->Shared->Prop),C i j->Q (.int (g i j) s.toks) { s with toks:=s.toks+1 }->wpAny ↥8 X.A (f (.int i t) (.int j u)) Q E s) :
  OpR X f (rI C fun i j=>.int (g i j)):=by
 intro pins s σ H x y v u Q I rx ry h
 obtain ⟨i,j,rfl,rfl,hc,q⟩:=h
 obtain ⟨t,rfl⟩:=rx
 obtain ⟨t',rfl⟩:=ry
 exact rule i j t t' s _ _ hc ⟨.int (g i j),H,I.tok _,⟨_,rfl⟩,q⟩
theorem LY {f:Value->Value->Sem Value} {g:Int->Int->Int}
  (rule:∀ (i j:Int) (t u:Tok) (s:Shared) (Q:Value->Shared->Prop) (E:Value->Shared->Prop),Q (.int (g i j) s.toks) { s with toks:=s.toks+1 }->wpAny ↥8 X.A (f (.int i t) (.int j u)) Q E s) :
  OpR X f (rI0 fun i j=>.int (g i j)):=by
 intro pins s σ H x y v u Q I rx ry h
 obtain ⟨i,j,rfl,rfl,q⟩:=h
 obtain ⟨t,rfl⟩:=rx
 obtain ⟨t',rfl⟩:=ry
 exact rule i j t t' s _ _ ⟨.int (g i j),H,I.tok _,⟨_,rfl⟩,q⟩
theorem M8 {f:Value->Value->Sem Value} {g:Int->Int->Bool}
  (rule:∀ (i j:Int) (t u:Tok) (s:Shared) (Q:Value->Shared->Prop) (E:Value->Shared->Prop),Q (.bool (g i j)) s->wpAny ↥8 X.A (f (.int i t) (.int j u)) Q E s) :
  OpR X f (rI0 fun i j=>.bl (g i j)):=by
 intro pins s σ H x y v u Q I rx ry h
 obtain ⟨i,j,rfl,rfl,q⟩:=h
 obtain ⟨t,rfl⟩:=rx
 obtain ⟨t',rfl⟩:=ry
 exact rule i j t t' s _ _ ⟨.bl (g i j),H,I,rfl,q⟩
theorem yp (k:Nat):(0:Int)<=2^k:=by
 rw [two_pow_cast]
 exact Int.natCast_nonneg _
theorem LX:OpR X (binaryOp .Add) (rI0 fun i j=>.int (i+j)):=LY fun _ _ _ _ _ _ _ q=>add_int q
theorem LR:OpR X (binaryOp .Sub) (rI0 fun i j=>.int (i - j)):=LY fun _ _ _ _ _ _ _ q=>sub_int q
theorem LU:OpR X (binaryOp .Mod) (rI (fun _ j=>0<j) fun i j=>.int (i%j)):=opI fun i j _ _ _ _ _ hc q=>by
 have h1:(0:Int)<j:=hc
 exact mod_int' ⋯ (by rw [Int.fmod_eq_emod_of_nonneg i ⋯];exact q)
theorem LS:OpR X (binaryOp .RShift) (rI (fun _ j=>0<=j) fun i j=>.int (i / 2^j.toNat)):=opI fun i j _ _ _ _ _ hc q =>
 rshift_int hc (by rw [Int.fdiv_eq_ediv_of_nonneg i (yp _)];exact q)
theorem LW:OpR X (binaryOp .BitAnd) (rI0 fun i j=>.int (Builtin.bitAnd i j)):=LY fun _ _ _ _ _ _ _ q=>and_int q
theorem Og:OpR X (binaryOp .BitOr) (rI0 fun i j=>.int (Builtin.bitOr i j)):=LY fun _ _ _ _ _ _ _ q=>or_int q
theorem LQ:OpR X (binaryOp .BitXor) (rI0 fun i j=>.int (Builtin.bitXor i j)):=LY fun _ _ _ _ _ _ _ q=>xor_int q
theorem unI {f:Value->Sem Value} {g:Int->Int}
  (rule:∀ (i:Int) (t:Tok) (s:Shared) (Q:Value->Shared->Prop) (E:Value->Shared->Prop),Q (.int (g i) s.toks) { s with toks:=s.toks+1 }->wpAny ↥8 X.A (f (.int i t)) Q E s) :
  UnR X f (rU fun i=>.int (g i)):=by
 intro pins s σ H x v Q I rx h
 obtain ⟨i,rfl,q⟩:=h
 obtain ⟨t,rfl⟩:=rx
 exact rule i t s _ _ ⟨.int (g i),H,I.tok _,⟨_,rfl⟩,q⟩
theorem Kn:UnR X (unaryOp .USub) (rU fun i=>.int (-i)):=unI fun _ _ _ _ _ q=>neg_int q
end
def M7:V->V->Bool
 | .non,.non=>true | .non,.int _=>true | .int _,.non=>true | .non,.bl _=>true | .bl _,.non=>true | .non,.str _=>true | .str _,.non=>true
 | .int _,.int _=>true | .bl _,.bl _=>true | .str _,.str _=>true | .byt _,.byt _=>true
 | .int _,.str _=>true | .str _,.int _=>true | .bl _,.str _=>true | .str _,.bl _=>true
 | _,_=>false
def rEq:R2:=fun x y H Q=>M7 x y=true/\Q (.bl (decide (x=y))) H
def rNe:R2:=fun x y H Q=>M7 x y=true/\Q (.bl (!decide (x=y))) H
theorem we {i j:Int}:decide (V.int i=V.int j)=(i == j):=by
 rw [Bool.eq_iff_iff]
 simp
theorem BM {i j:Bool}:decide (V.bl i=V.bl j)=(i == j):=by
 rw [Bool.eq_iff_iff]
 simp
theorem wd {i j:Str}:decide (V.str i=V.str j)=(i == j):=by
 rw [Bool.eq_iff_iff]
 simp
theorem BL {i j:Array UInt8}:decide (V.byt i=V.byt j)=(i.toList == j.toList):=by
 rw [Bool.eq_iff_iff]
 cases i
 cases j
 simp
section
variable {X:Cx} {a b c:Expr} {ta tb tc:TE} {pos:Pos}
theorem gP {pins:List ↥14} {σ:St} {H:Hp} {s:Shared} {Q:VK} {k k':Bool} (I:Inv X pins σ H s) (q:Q (.bl k) H) (e:k=k'):EP X pins σ Q (.bool k') s:=by
 subst e
 exact ⟨.bl k,H,I,rfl,q⟩
theorem Oo:OpR X (compareOp .Eq) rEq:=by
 intro pins s σ H x y v u Q I rx ry h
 obtain ⟨hs,q⟩:=h
 cases x with
 | non =>
  cases rx
  cases y with
  | non=>cases ry;exact PySem.EqNone.eq_none_none ↥28
  | bl j=>cases ry;exact PySem.EqNone.eq_none_bool ↥28
  | int j=>obtain ⟨t',rfl⟩:=ry;exact PySem.EqNone.eq_none_int ↥28
  | str j=>obtain ⟨t',rfl⟩:=ry;exact PySem.EqNone.eq_none_str ↥28
  | _=>exact absurd (show false=true from hs) Bool.false_ne_true
 | bl i =>
  cases rx
  cases y with
  | non=>cases ry;exact PySem.EqNone.eq_bool_none ↥28
  | bl j=>cases ry;exact eq_bool (gP I q BM)
  | str j=>obtain ⟨t',rfl⟩:=ry;exact PySem.EqMixed.eq_bool_str ↥28
  | _=>exact absurd (show false=true from hs) Bool.false_ne_true
 | int i =>
  obtain ⟨t,rfl⟩:=rx
  cases y with
  | non=>cases ry;exact PySem.EqNone.eq_int_none ↥28
  | int j=>obtain ⟨t',rfl⟩:=ry;exact eq_int (gP I q we)
  | str j=>obtain ⟨t',rfl⟩:=ry;exact PySem.EqMixed.eq_int_str ↥28
  | _=>exact absurd (show false=true from hs) Bool.false_ne_true
 | str i =>
  obtain ⟨t,rfl⟩:=rx
  cases y with
  | non=>cases ry;exact PySem.EqNone.eq_str_none ↥28
  | bl j=>cases ry;exact PySem.EqMixed.eq_str_bool ↥28
  | int j=>obtain ⟨t',rfl⟩:=ry;exact PySem.EqMixed.eq_str_int ↥28
  | str j=>obtain ⟨t',rfl⟩:=ry;exact eq_str (gP I q wd)
  | _=>exact absurd (show false=true from hs) Bool.false_ne_true
 | byt i =>
  obtain ⟨t,rfl⟩:=rx
  cases y with
  | byt j=>obtain ⟨t',rfl⟩:=ry;exact PySem.W.eq_bytes (gP I q BL)
  | _=>exact absurd (show false=true from hs) Bool.false_ne_true
 | _=>cases y<;>exact absurd (show false=true from hs) Bool.false_ne_true
theorem Oh:OpR X (compareOp .NotEq) rNe:=by
 intro pins s σ H x y v u Q I rx ry h
 obtain ⟨hs,q⟩:=h
 cases x with
 | non =>
  cases rx
  cases y with
  | non=>cases ry;exact PySem.EqNone.ne_none_none ↥28
  | bl j=>cases ry;exact PySem.EqNone.ne_none_bool ↥28
  | int j=>obtain ⟨t',rfl⟩:=ry;exact PySem.EqNone.ne_none_int ↥28
  | str j=>obtain ⟨t',rfl⟩:=ry;exact PySem.EqNone.ne_none_str ↥28
  | _=>exact absurd (show false=true from hs) Bool.false_ne_true
 | bl i =>
  cases rx
  cases y with
  | non=>cases ry;exact PySem.EqNone.ne_bool_none ↥28
  | bl j=>cases ry;exact ne_bool (gP I q (congrArg not BM))
  | str j=>obtain ⟨t',rfl⟩:=ry;exact PySem.EqMixed.ne_bool_str ↥28
  | _=>exact absurd (show false=true from hs) Bool.false_ne_true
 | int i =>
  obtain ⟨t,rfl⟩:=rx
  cases y with
  | non=>cases ry;exact PySem.EqNone.ne_int_none ↥28
  | int j=>obtain ⟨t',rfl⟩:=ry;exact ne_int (gP I q (congrArg not we))
  | str j=>obtain ⟨t',rfl⟩:=ry;exact PySem.EqMixed.ne_int_str ↥28
  | _=>exact absurd (show false=true from hs) Bool.false_ne_true
 | str i =>
  obtain ⟨t,rfl⟩:=rx
  cases y with
  | non=>cases ry;exact PySem.EqNone.ne_str_none ↥28
  | bl j=>cases ry;exact PySem.EqMixed.ne_str_bool ↥28
  | int j=>obtain ⟨t',rfl⟩:=ry;exact PySem.EqMixed.ne_str_int ↥28
  | str j=>obtain ⟨t',rfl⟩:=ry;exact ne_str (gP I q (congrArg not wd))
  | _=>exact absurd (show false=true from hs) Bool.false_ne_true
 | byt i =>
  obtain ⟨t,rfl⟩:=rx
  cases y with
  | byt j=>obtain ⟨t',rfl⟩:=ry;exact PySem.W.ne_bytes (gP I q (congrArg not BL))
  | _=>exact absurd (show false=true from hs) Bool.false_ne_true
 | _=>cases y<;>exact absurd (show false=true from hs) Bool.false_ne_true
theorem Oi:OpR X (compareOp .Lt) (rI0 fun i j=>.bl (decide (i<j))):=M8 fun _ _ _ _ _ _ _ q=>lt_int q
theorem Oj:OpR X (compareOp .LtE) (rI0 fun i j=>.bl (decide (i<=j))):=M8 fun _ _ _ _ _ _ _ q=>le_int q
theorem Ol:OpR X (compareOp .Gt) (rI0 fun i j=>.bl (decide (j<i))):=M8 fun _ _ _ _ _ _ _ q=>gt_int q
theorem Om:OpR X (compareOp .GtE) (rI0 fun i j=>.bl (decide (j<=i))):=M8 fun _ _ _ _ _ _ _ q=>ge_int q
theorem AL:OpR X (compareOp .In) (fun x y H Q=>∃ i j,x=.str i/\y=.str j/\Q (.bl (!(Builtin.Str.occurrences j i 0 j.length 1).isEmpty)) H):=by
 intro pins s σ H x y v u Q I rx ry h
 obtain ⟨i,j,rfl,rfl,q⟩:=h
 obtain ⟨t,rfl⟩:=rx
 obtain ⟨t',rfl⟩:=ry
 exact in_str (gP I q rfl)
theorem LV:OpR X (compareOp .Is) (fun x y H Q=>y=.non/\Q (.bl (decide (x=.non))) H):=by
 intro pins s σ H x y v u Q I rx ry h
 obtain ⟨rfl,q⟩:=h
 cases ry
 refine is_none_gen (gP I q ?_)
 cases x<;>first
  | (cases rx;rfl)
  | (obtain ⟨t,rfl⟩:=rx;rfl)
def isObj:HO->Bool
 | .lst _=>true
 | .ins _ _ _=>true
 | _=>false
theorem tX {pins:List ↥14} {s:Shared} {σ:St} {H:Hp} {a:Addr} {o:HO} (I:Inv X pins σ H s) (h:H a=some o) (p:isObj o=true):∃ ob,s.heap.get? a=some ob/\ob.cls ≠ .type "tuple":=by
 cases o with
 | lst xs =>
  obtain ⟨_,its,n,_,e⟩:xs.length<=sizeLine/\∃ (its:List Value) (n:Nat),Vals xs its/\s.heap.get? a=some { cls:=.type "list",data:=.seq its.toArray n }:=I.hok a _ h
  exact ⟨_,e,(by show Value.type "list" ≠ .type "tuple";decide +kernel)⟩
 | ins C dx fs =>
  have x:=I.hok a _ h
  obtain ⟨_,_,_,e,_⟩:=x
  exact ⟨_,e,(by show Value.ref C ≠ .type "tuple";exact fun z=>by cases z)⟩
 | _=>exact absurd (show false=true from p) Bool.false_ne_true
theorem iF (b:Expr) {op:CmpOp} (h:op ≠ .In:=by decide) (h2:op ≠ .NotIn:=by decide):behindInMarks op b=false:=by
 have e1:(op == CmpOp.In)=false:=by cases op<;>first | rfl | exact absurd rfl h
 have e2:(op == CmpOp.NotIn)=false:=by cases op<;>first | rfl | exact absurd rfl h2
 cases b<;>simp [behindInMarks,e1,e2]
theorem HP {op:CmpOp} {r:R2} (ho:OpR X (compareOp op) r) (ha:PE X a ta) (hb:PE X b tb) (hm:behindInMarks op b=false):PE X (.Compare a [op] [b] pos) (tOp r ta tb):=by
 intro pins s σ H Q I h
 exact wpAny_Compare1 (OX ha hb I h fun v u s2 x y H2 I2 rx ry q=>ho pins s2 σ H2 x y v u Q I2 rx ry q) hm
def KS (t:TE):TT:=fun σ H Q=>t σ H fun x H'=>∃ k,x=.bl k/\Q k H'
theorem AF {op:CmpOp} {r:R2} (ho:OpR X (compareOp op) r) (ha:PE X a ta) (hb:PE X b tb) (hm:behindInMarks op b=false):PT X (.Compare a [op] [b] pos) (KS (tOp r ta tb)):=by
 intro pins s σ H Q I h
 refine wpAny_isTrue_Compare1 (thn (ha pins s σ H _ I h) fun v s1 ⟨x,H1,I1,r1,q1⟩=>thn (hb pins s1 σ H1 _ I1 q1) fun u s2 ⟨y,H2,I2,r2,q2⟩ =>
  thn (ho pins s2 σ H2 x y v u _ I2 r1 r2 q2) fun c s3 ⟨z,H3,I3,r3,k,e,q3⟩ => ?_) hm
 subst e
 cases r3
 exact wpAny_truthy_bool ⟨H3,I3,q3⟩
def KU (r r':R2) (ta tb tc:TE):TE:=fun σ H Q=>ta σ H fun x H1=>tb σ H1 fun y H2=>r x y H2 fun z H3=>∃ k,z=.bl k /\
 (if k=true then tc σ H3 fun w' H4=>r' y w' H4 Q else Q ↥35 H3)
theorem Dv {op op':CmpOp} {r r':R2} (ho:OpR X (compareOp op) r) (ho':OpR X (compareOp op') r') (ha:PE X a ta) (hb:PE X b tb) (hc:PE X c tc)
  (hm:lastMarks [op,op'] [b,c]=false:=by with_unfolding_all rfl):PT X (.Compare a [op,op'] [b,c] pos) (KS (KU r r' ta tb tc)):=by
 intro pins s σ H Q I h
 refine isTrue_chain (thn (ha pins s σ H _ I h) fun v s1 ⟨x,H1,I1,r1,q1⟩=>test_link (thn (hb pins s1 σ H1 _ I1 q1) fun u s2 ⟨y,H2,I2,r2,q2⟩ =>
  thn (ho pins s2 σ H2 x y v u _ I2 r1 r2 q2) fun d s3 ⟨z,H3,I3,r3,k,e,q3⟩ => ?_)) hm
 subst e
 cases r3
 refine wpAny_truthy_bool ?_
 cases k with
 | false =>
  obtain ⟨k',e',q'⟩:=q3
  cases e'
  exact ite_ff ⟨H3,I3,q'⟩
 | true =>
  refine ite_tt (test_last (thn (hc pins s3 σ H3 _ I3 q3) fun w' s4 ⟨z',H4,I4,r4,q4⟩=>thn (ho' pins s4 σ H4 y z' u w' _ I4 r2 r4 q4) fun d' s5 ⟨z2,H5,I5,r5,k2,e2,q5⟩ => ?_))
  subst e2
  cases r5
  exact wpAny_truthy_bool ⟨H5,I5,q5⟩
theorem t5:(sizeLine:Nat)<2^63:=by rw [sizeLine_eq];decide
theorem yJ:OpR X (binaryOp .Add) (fun x y H Q=>∃ i j,x=.str i/\y=.str j/\i.length+j.length<=sizeLine/\Q (.str (i++j)) H):=by
 intro pins s σ H x y v u Q I rx ry h
 obtain ⟨i,j,rfl,rfl,hz,q⟩:=h
 obtain ⟨t,rfl⟩:=rx
 obtain ⟨t',rfl⟩:=ry
 exact add_str (fun t' tk=>⟨.str (i++j),H,I.tok _,⟨_,rfl⟩,q⟩) hz
theorem vals1 {x:V} {us:List Value} (r:Vals [x] us):∃ u,us=[u]/\RelV x u:=by
 cases r with
 | cons r1 r2=>cases r2;exact ⟨_,rfl,r1⟩
theorem vals2 {x y:V} {us:List Value} (r:Vals [x,y] us):∃ u w',us=[u,w']/\RelV x u/\RelV y w':=by
 cases r with
 | cons r1 r2 =>
  cases r2 with
  | cons r3 r4=>cases r4;exact ⟨_,_,rfl,r1,r3⟩
theorem EH:iD X (.builtin "abs") (fun xs H Q=>∃ i,xs=[.int i]/\Q (.int (if i<0 then -i else i)) H):=by
 intro pins s σ H xs us Q I r h
 obtain ⟨i,rfl,q⟩:=h
 obtain ⟨u,rfl,t,rfl⟩:=vals1 r
 exact call_abs_int fun u tk=>⟨.int (if i<0 then -i else i),H,I.tok _,⟨_,rfl⟩,q⟩
theorem BU (hc:X.calm=true):iD X (.builtin "max") (fun xs H Q=>∃ i j,xs=[.int i,.int j]/\Q (.int (if j>i then j else i)) H):=by
 intro pins s σ H xs us Q I r h
 obtain ⟨i,j,rfl,q⟩:=h
 obtain ⟨u,w',rfl,⟨t,rfl⟩,⟨t',rfl⟩⟩:=vals2 r
 refine max_two_ints (I.ok.hd hc) fun h' tk k=>⟨_,H,I.kept k,?_,q⟩
 by_cases hj:j>i
 ·rw [if_pos hj,if_pos hj];exact ⟨_,rfl⟩
 ·rw [if_neg hj,if_neg hj];exact ⟨_,rfl⟩
theorem BS (hc:X.calm=true):iD X (.builtin "min") (fun xs H Q=>∃ i j,xs=[.int i,.int j]/\Q (.int (if j<i then j else i)) H):=by
 intro pins s σ H xs us Q I r h
 obtain ⟨i,j,rfl,q⟩:=h
 obtain ⟨u,w',rfl,⟨t,rfl⟩,⟨t',rfl⟩⟩:=vals2 r
 refine min_two_ints (I.ok.hd hc) fun h' tk k=>⟨_,H,I.kept k,?_,q⟩
 by_cases hj:j<i
 ·rw [if_pos hj,if_pos hj];exact ⟨_,rfl⟩
 ·rw [if_neg hj,if_neg hj];exact ⟨_,rfl⟩
theorem uk:iD X (.type "int") (fun xs H Q=>(∃ i,xs=[.int i]/\Q (.int i) H)\/∃ k,xs=[.bl k]/\Q (.int (if k then 1 else 0)) H):=by
 intro pins s σ H xs us Q I r h
 rcases h with ⟨i,rfl,q⟩ | ⟨k,rfl,q⟩
 ·obtain ⟨u,rfl,t,rfl⟩:=vals1 r
  exact call_int_int ⟨.int i,H,I,⟨_,rfl⟩,q⟩
 ·obtain ⟨u,rfl,r1⟩:=vals1 r
  cases r1
  exact call_int_bool ⟨.int (if k then 1 else 0),H,I.tok _,⟨_,rfl⟩,q⟩
end
end L2
namespace L2
open PySem PySem.Spec PyProof.Rows
structure ObjM (h:Heap) (x dx C:Addr) (mA:Str->Option Value):Prop where
 obj:h.get? x=some (PySem.W.instObj C dx)
 ns:h.Ns1 dx mA
 ne:dx≠x
theorem Bn {h:Heap} {dx:Addr} {mA:Str->Option Value} (n:h.Ns1 dx mA):∃ od,h.get? dx=some od/\∀ name,PySem.W.lookIn name od=some (mA name):=by
 obtain ⟨o,es,ep,ho,hd,hk,_,hm⟩:=n
 refine ⟨o,ho,fun name => ?_⟩
 have e:=hm name
 unfold nsFind findBy at e
 rw [<- Array.find?_toList] at e
 unfold PySem.W.lookIn
 rw [hd]
 dsimp only
 split
 ·rename_i y q
  rw [q] at e
  exact congrArg some e
 ·rename_i q
  rw [q] at e
  have a:es.toList.any (·.refKey)=false:=by
   rw [List.any_eq_false]
   intro y hy
   obtain ⟨z,t,hkey⟩:=hk y (Array.mem_toList_iff.mp hy)
   simp [DictEntry.refKey,hkey]
  have a':¬ es.toList.any (·.refKey)=true:=by rw [a];exact Bool.false_ne_true
  rw [if_neg a']
  exact congrArg some e
theorem ObjM.look {h:Heap} {x dx C:Addr} {mA:Str->Option Value} (I:ObjM h x dx C mA):∃ od,PySem.W.InstAt h x (PySem.W.instObj C dx) C (some od)/\∀ name,PySem.W.lookIn name od=some (mA name) :=
 let ⟨od,ho,hl⟩:=Bn I.ns
 ⟨od,⟨I.obj,rfl,rfl,ho⟩,hl⟩
section
variable {prog:Program} {w:World} {A:Around} {E:Value->Shared->Prop} {s:Shared} {K:PySem.W.Frag} {x dx C f:Addr} {mA:Str->Option Value} {name:Str} {v:Value}
theorem get_map {expr:Bool} {Q:Value->Shared->Prop} (X:K.In s.heap) (I:ObjM s.heap x dx C mA) (hg:PySem.W.plainGet K C name=true) (hh:PySem.W.hasDictIn K C=true)
  (ha:PySem.W.findIn K (.ref C) name=some none) (hv:mA name=some v) (hv':PySem.W.handedIn v=true) (h:Q v { s with toks:=s.toks+1 }) :
  wpAny ↥25 A (getAttr (.ref x) name expr) Q E s:=by
 obtain ⟨od,J,hl⟩:=I.look
 exact PySem.W.get_value X J (PySem.W.plainGet_of hg).1 (PySem.W.findObj_own hh ha rfl (by rw [hl,hv])) hv' h
theorem Ep {pl:Sem Bool} {Q:Value×List Value->Shared->Prop} (X:K.In s.heap) (I:ObjM s.heap x dx C mA) (hg:PySem.W.plainGet K C name=true)
  (hf:PySem.W.findIn K (.ref C) name=some (some (.ref f))) (ht:PySem.W.isFn K (.ref f)=true) (hv:mA name=none) (h:Q (.ref f,[.ref x]) s) :
  wpAny ↥25 A (getMethod (.ref x) name pl) Q E s:=by
 obtain ⟨od,J,hl⟩:=I.look
 exact PySem.W.method_fn X J (PySem.W.plainGet_of hg).1 (PySem.W.plainGet_of hg).2 hf (beq_iff_eq.mp ht) (by show (PySem.W.lookIn name od).map (·.isSome)=some false;rw [hl,hv];rfl) h
theorem Hr {ns:List Str} {Q:Unit->Shared->Prop} (X:K.In s.heap) (I:ObjM s.heap x dx C mA)
  (hs:PySem.W.findIn K (.ref C) "__setattr__"=some (some (.builtin "object.__setattr__"))) (hp:PySem.W.plainOver K C=true) (ht:PySem.W.takerIn K C name=some none) (hh:PySem.W.hasDictIn K C=true)
  (hw:PySem.Within mA ns) (hsz:ns.length<=sizeLine)
  (h:∀ h',ObjM h' x dx C (fun y=>if y=name then some v else mA y)->Heap.SameBut dx s.heap h'->Q () { s with heap:=h',toks:=s.toks+2 }) :
  wpAny ↥25 A (setAttr (.ref x) name v) Q E s:=by
 obtain ⟨od,J,hl⟩:=I.look
 refine PySem.W.set_plain X J hs (PySem.W.osa_open (s:={ s with toks:=s.toks+1 }) (r:=none) X J hp ht fun b => ?_)
 obtain ⟨cd,hc,hd'⟩:=PySem.W.any_some hh
 have hx:s.heap.get? x=some ⟨.ref C,some dx,.plain,#[]⟩:=I.obj
 refine wpAny_bind (wpAny_pure (wpAny_bind (wpAny_bind (wpAny_loadPart hx (wpAny_bind (PySem.W.Looks.here (s:={ s with toks:=s.toks+1 }) (PySem.W.looks_clsIn X hc) ?_))))))
 rw [hd']
 refine wpAny_pure (a:=some dx) (wpAny_bind (wpAny_pure (wpAny_bind ?_)))
 refine wpAny_nsSet1 (s:={ s with toks:=s.toks+1 }) I.ns fun h' hn2 hs2 => ?_
 obtain ⟨oD,esD,epD,hoD,hdD,hcD⟩:=hn2.count (PySem.Within.cons name v hw)
 refine wpAny_bind (wpAny_lookBehind hoD (by rw [hdD];exact pastItsLine_dict (Nat.le_trans hcD (by rw [List.length_cons];omega))) ?_)
 exact wpAny_pure (h _ ⟨(hs2.2 _ (Ne.symm I.ne)).trans I.obj,hn2,I.ne⟩ hs2)
theorem Eh {R:Result->Shared->Prop} {vs:List Value} {kw:List (Str×Value)} (X:K.In s.heap) (hm:PySem.W.makesIn K C=true)
  (hi:PySem.W.findIn K (.ref C) "__init__"=some (some (.ref f))) (hf:PySem.W.typeIn K (.ref f)=some (.type "function"))
  (h:codeAny ↥25 (A.under (.builtin "type.__call__" ⟨.ref C::vs,kw⟩)) (.call (.ref f) ⟨.ref (s.heap.objs.size+1)::vs,kw⟩) (PySem.W.InitBack (s.heap.objs.size+1) R)
   { s with heap:=(s.heap.push PySem.W.emptyDict).push (PySem.W.instObj C s.heap.objs.size) }) :
  codeAny ↥25 A (.call (.ref C) ⟨vs,kw⟩) R s:=by
 obtain ⟨hh,g,d,t,os⟩:=s
 exact PySem.W.make_core (PySem.W.makes_of X hm) (PySem.W.looks_findIn X hi) (fun self=>PySem.W.bind_fn X self hf) (.inl rfl) h
end
def uX (f:Str) (v:V):List (Str×V)->List (Str×V)
 | []=>[(f,v)]
 | (g,x)::r=>if g=f then (g,v)::r else (g,x)::uX f v r
theorem oA (f g:Str) (v:V):∀ fs:List (Str×V),(uX f v fs).lookup g=if g=f then some v else fs.lookup g
 | []=>by
  show List.lookup g [(f,v)]=_
  by_cases h:g=f
  ·have hb:(g == f)=true:=beq_iff_eq.mpr h
   simp only [List.lookup,hb,if_pos h]
  ·have hb:(g == f)=false:=beq_eq_false_iff_ne.mpr h
   simp only [List.lookup,hb,if_neg h]
 | (k,x)::r=>by
  have ih:=oA f g v r
  rw [show uX f v ((k,x)::r)=(if k=f then (k,v)::r else (k,x)::uX f v r) from rfl]
  by_cases hk:k=f
  ·rw [if_pos hk]
   by_cases h:g=k
   ·have hb:(g == k)=true:=beq_iff_eq.mpr h
    simp only [List.lookup,hb,if_pos (h.trans hk)]
   ·have hb:(g == k)=false:=beq_eq_false_iff_ne.mpr h
    simp only [List.lookup,hb,if_neg (fun e:g=f=>h (e.trans hk.symm))]
  ·rw [if_neg hk]
   by_cases h:g=k
   ·have hb:(g == k)=true:=beq_iff_eq.mpr h
    simp only [List.lookup,hb,if_neg (fun e:g=f=>hk (h.symm.trans e))]
   ·have hb:(g == k)=false:=beq_eq_false_iff_ne.mpr h
    simp only [List.lookup,hb]
    exact ih
theorem oF (f:Str) (v:V):∀ fs:List (Str×V),f∈(uX f v fs).map (·.1)/\∀ g,g∈fs.map (·.1)->g∈(uX f v fs).map (·.1)
 | []=>⟨by simp [uX],fun g h=>by simp at h⟩
 | (k,x)::r=>by
  obtain ⟨i1,i2⟩:=oF f v r
  rw [show uX f v ((k,x)::r)=(if k=f then (k,v)::r else (k,x)::uX f v r) from rfl]
  by_cases hk:k=f
  ·rw [if_pos hk]
   subst hk
   exact ⟨by simp,fun g h=>by simpa using h⟩
  ·rw [if_neg hk]
   refine ⟨?_,fun g h => ?_⟩
   ·rw [List.map_cons]
    exact List.mem_cons_of_mem _ i1
   ·rw [List.map_cons] at h ⊢
    rcases List.mem_cons.mp h with e | e
    ·exact List.mem_cons.mpr (.inl e)
    ·exact List.mem_cons_of_mem _ (i2 g e)
theorem oB (f:Str) (v:V):∀ fs:List (Str×V),(uX f v fs).length<=fs.length+1
 | []=>by simp [uX]
 | (k,x)::r=>by
  have ih:=oB f v r
  rw [show uX f v ((k,x)::r)=(if k=f then (k,v)::r else (k,x)::uX f v r) from rfl]
  by_cases hk:k=f
  ·rw [if_pos hk,List.length_cons,List.length_cons];omega
  ·rw [if_neg hk,List.length_cons,List.length_cons];omega
theorem CD.some_of {v:V} {o:Option Value} (r:CD (some v) o):∃ u,o=some u/\RelV v u:=by
 cases o with
 | none=>exact (show False from r).elim
 | some u=>exact ⟨u,rfl,r⟩
theorem CD.none_of {o:Option Value} (r:CD none o):o=none:=by
 cases o with
 | none=>rfl
 | some u=>exact (show False from r).elim
theorem Bx {v:V} {u:Value} (r:RelV v u):PySem.W.handedIn u=true:=by
 cases v with
 | non=>cases (show u=Value.none from r);rfl
 | bl b=>cases (show u=Value.bool b from r);rfl
 | int i=>obtain ⟨t,e⟩:=(show ∃ t,u=Value.int i t from r);cases e;rfl
 | str x=>obtain ⟨t,e⟩:=(show ∃ t,u=Value.str x t from r);cases e;rfl
 | byt b=>obtain ⟨t,e⟩:=(show ∃ t,u=Value.bytes b t from r);cases e;rfl
 | flt b=>obtain ⟨t,e⟩:=(show ∃ t,u=Value.float b t from r);cases e;rfl
 | ref a=>cases (show u=Value.ref a from r);rfl
 | ty n=>cases (show u=Value.type n from r);rfl
section
variable {P:Program} {w:World} {H H':Hp} {h h':Heap} {a C dx:Addr} {fs fs':List (Str×V)}
theorem v5 (hok:HOk P w H h) (e:H a=some (.ins C dx fs)):∃ mA,ObjM h a dx C mA/\(∀ f,CD (fs.lookup f) (mA f))/\PySem.Within mA (fs.map (·.1))/\fs.length<=1000/\H dx=some (.own a):=by
 obtain ⟨d,z,ne,ob,mA,n,r,q⟩:=(show jZ P w H h a (.ins C dx fs) from hok a _ e)
 exact ⟨mA,⟨ob,n,ne⟩,r,q,z,d⟩
end
structure Cls (K:PySem.W.Frag) (C:Addr):Prop where
 pg:PySem.W.plainGet K C Str.empty=true
 hd:PySem.W.hasDictIn K C=true
 po:PySem.W.plainOver K C=true
 sa:PySem.W.findIn K (.ref C) "__setattr__"=some (some (.builtin "object.__setattr__"))
theorem Cls.get {K:PySem.W.Frag} {C:Addr} (c:Cls K C) (f:Str):PySem.W.plainGet K C f=true:=c.pg
def kQ (K:PySem.W.Frag) (C:Addr) (f:Str):Prop:=PySem.W.findIn K (.ref C) f=some none
theorem kQ.taker {K:PySem.W.Frag} {C:Addr} {f:Str} (n:kQ K C f):PySem.W.takerIn K C f=some none:=by
 unfold PySem.W.takerIn
 rw [show PySem.W.findIn K (.ref C) f=some none from n]
 rfl
structure Con (K:PySem.W.Frag) (C:Addr) (f:Str) (v:V) (u:Value):Prop where
 at_:PySem.W.findIn K (.ref C) f=some (some u)
 rel:RelV v u
 get:PySem.W.specialIn K u "__get__"=some none
 cp:PySem.W.copiedNames.contains f=false
structure Meth (K:PySem.W.Frag) (C:Addr) (m:Str) (f:Addr):Prop where
 at_:PySem.W.findIn K (.ref C) m=some (some (.ref f))
 fn:PySem.W.isFn K (.ref f)=true
 kp:PySem.W.keepIn K (.ref f)=true
section
variable {X:Cx} {pins:List ↥14} {σ:St} {H:Hp} {s:Shared} {a C dx:Addr} {fs:List (Str×V)} {f:Str} {v:V} {A:Around} {E:Value->Shared->Prop}
theorem yY {b:Bool} {Q:Value->Shared->Prop} (I:Inv X pins σ H s) (e:H a=some (.ins C dx fs)) (c:Cls X.K C) (n:kQ X.K C f) (l:fs.lookup f=some v)
  (h:∀ u s',Inv X pins σ H s'->RelV v u->Q u s'):wpAny ↥8 A (getAttr (.ref a) f b) Q E s:=by
 obtain ⟨mA,O,r,_,_,_⟩:=v5 I.hok e
 obtain ⟨u,hu,ru⟩:=CD.some_of (v:=v) (o:=mA f) (by rw [<- l];exact r f)
 exact get_map I.kIn O (c.get f) c.hd n hu (Bx ru) (h u _ (I.tok _) ru)
theorem yX {m:Str} {g:Addr} {pl:Sem Bool} {Q:Value×List Value->Shared->Prop} (I:Inv X pins σ H s) (e:H a=some (.ins C dx fs)) (c:Cls X.K C) (k:Meth X.K C m g) (l:fs.lookup m=none)
  (h:Q (.ref g,[.ref a]) s):wpAny ↥8 A (getMethod (.ref a) m pl) Q E s:=by
 obtain ⟨mA,O,r,_,_,_⟩:=v5 I.hok e
 have hn:mA m=none:=CD.none_of (by rw [<- l];exact r m)
 exact Ep I.kIn O (c.get m) k.at_ k.fn hn h
theorem yt {y:V} {u:Value} {Q:Unit->Shared->Prop} (I:Inv X pins σ H s) (e:H a=some (.ins C dx fs)) (c:Cls X.K C) (n:kQ X.K C f) (hl:fs.length<1000) (ry:RelV y u)
  (h:∀ s',Inv X pins σ (upd H a (.ins C dx (uX f y fs))) s'->Q () s'):wpAny ↥8 A (setAttr (.ref a) f u) Q E s:=by
 obtain ⟨mA,O,r,wi,_,ho⟩:=v5 I.hok e
 have hz:(fs.map (·.1)).length<=sizeLine:=by rw [List.length_map,sizeLine_eq];omega
 refine Hr I.kIn O c.sa c.po n.taker c.hd wi hz fun h' O' sb=>h _ ?_
 have hd:∃ o,h'.get? dx=some o:=let ⟨o,_,_,e',_⟩:=O'.ns;⟨o,e'⟩
 refine I.write (x:=a) (e:=dx) (by rw [e];exact True.intro) (.inr ho) (fun b q hb z=>(sb.2 b hb).trans z) hd ?_
 refine ⟨by rw [bN O.ne];exact ho,?_,O.ne,O'.obj,_,O'.ns,fun g => ?_,fun g hg => ?_⟩
 ·have:=oB f y fs;omega
 ·show CD ((uX f y fs).lookup g) (if g=f then some u else mA g)
  rw [oA]
  by_cases q:g=f
  ·rw [if_pos q,if_pos q];exact ry
  ·rw [if_neg q,if_neg q];exact r g
 ·by_cases q:g=f
  ·rw [q];exact (oF f y fs).1
  ·refine (oF f y fs).2 g (wi g fun z=>hg ?_)
   show (if g=f then some u else mA g)=none
   rw [if_neg q];exact z
theorem Inv.made (I:Inv X pins σ H s):Inv X pins σ (upd (upd H s.heap.objs.size (.own (s.heap.objs.size+1))) (s.heap.objs.size+1) (.ins C s.heap.objs.size []))
  { s with heap:=(s.heap.push PySem.W.emptyDict).push (PySem.W.instObj C s.heap.objs.size) }:=by
 have e1:(s.heap.push PySem.W.emptyDict).get? s.heap.objs.size=some PySem.W.emptyDict:=Heap.get?_push_size s.heap rfl
 have e2:((s.heap.push PySem.W.emptyDict).push (PySem.W.instObj C s.heap.objs.size)).get? (s.heap.objs.size+1)=some (PySem.W.instObj C s.heap.objs.size):=by
  have:=Heap.get?_push_size (s.heap.push PySem.W.emptyDict) (o:=PySem.W.instObj C s.heap.objs.size) rfl
  rwa [Heap.size_push] at this
 have e3:(s.heap.push PySem.W.emptyDict).Ns s.heap.objs.size (fun _=>none):=⟨PySem.W.emptyDict,#[],_,e1,rfl,(fun e he=>absurd he (by simp)),fun _=>rfl⟩
 have I1:=I.laid (a:=s.heap.objs.size) (o:=.own (s.heap.objs.size+1)) (h':=s.heap.push PySem.W.emptyDict) (t':=s.toks) (fun b u q=>Heap.get?_push_of_some _ q) ↥38 ⟨_,e1⟩
 refine I1.laid (a:=s.heap.objs.size+1) (o:=.ins C s.heap.objs.size []) (t':=s.toks) (fun b u q=>Heap.get?_push_of_some _ q) (Nat.le_of_eq (Heap.size_push _ _)) ?_
 have ne:s.heap.objs.size≠s.heap.objs.size+1:=Nat.ne_of_lt (Nat.lt_succ_self _)
 refine ⟨by rw [bN ne,bz],Nat.zero_le _,ne,e2,fun _=>none,(Heap.Ns1.of_empty e3).at fun o q=>Heap.get?_push_of_some _ q,fun _=>True.intro,fun y hy=>absurd rfl hy⟩
theorem JR {prog:Program} {w:World} {env:Env} {e:Expr} {f:Str} {pos:Pos} {s:Shared} {Q:Value->Shared->Prop} (hb:attributeBase e f env (eval e env)=eval e env)
  (h:wpAny ↥25 A (eval e env) (fun o s₁=>wpAny ↥25 A (getAttr o f true) Q E s₁) E s):wpAny ↥25 A (eval (.Attribute e f pos) env) Q E s :=
 Attribute_any_ h (by rw [arm_eval_Attribute,hb])
end
def TU (K:PySem.W.Frag) (ta:TE) (f:Str):TE:=fun σ H Q=>ta σ H fun x H1=>∃ a C dx fs v,x=.ref a/\H1 a=some (.ins C dx fs)/\Cls K C/\kQ K C f/\fs.lookup f=some v/\Q v H1
def T1 (K:PySem.W.Frag) (ta tv:TE) (f:Str):TS:=fun D σ H=>tv σ H fun y H1=>ta σ H1 fun x H2=>∃ a C dx fs,x=.ref a/\H2 a=some (.ins C dx fs)/\Cls K C/\kQ K C f/\fs.length<1000 /\
 D.nx σ (upd H2 a (.ins C dx (uX f y fs)))
section
variable {X:Cx} {o e value:Expr} {f:Str} {pos pos' tpos:Pos} {ta tv:TE}
theorem LF (he:PE X e ta) (hb:attributeBase e f X.env (eval e X.env)=eval e X.env):PE X (.Attribute e f pos) (TU X.K ta f):=by
 intro pins s σ H Q I h
 refine JR hb (thn (he pins s σ H _ I h) fun u s1 ⟨x,H1,I1,rx,a,C,dx,fs,v,ex,ea,c,n,l,q⟩ => ?_)
 subst ex
 obtain rfl:u=Value.ref a:=rx
 exact yY I1 ea c n l fun u' s2 I2 ru=>⟨v,H1,I2,ru,q⟩
theorem Lu (ha:PE X o ta) (hv:PE X value tv) (hs:swapsWith value (some (.Attribute o f pos')) pos.line X.env=pure false):PS X (.Assign [.Attribute o f pos'] value pos) (T1 X.K ta tv f):=by
 intro pins s σ H D I h
 refine plainObj_wpAny_Assign_Attribute (thn (hv pins s σ H _ I h) fun u s1 ⟨y,H1,I1,ry,q⟩=>thn (ha pins s1 σ H1 _ I1 q) fun ov s2 ⟨x,H2,I2,rx,a,C,dx,fs,ex,ea,c,n,l,q2⟩ => ?_) hs
 subst ex
 obtain rfl:ov=Value.ref a:=rx
 exact yt I2 ea c n l ry fun s3 I3=>⟨σ,_,I3,q2⟩
end
section
variable {X:Cx} {pins:List ↥14} {σ:St} {H:Hp} {s:Shared} {A:Around} {E:Value->Shared->Prop} {Q:Value->Shared->Prop} {c:Value} {b:Bool}
inductive TyOf (K:PySem.W.Frag) (H:Hp):V->Value->Prop where
 | non:TyOf K H .non (.type "NoneType")
 | bl (x:Bool):TyOf K H (.bl x) (.type "bool")
 | int (i:Int):TyOf K H (.int i) (.type "int")
 | str (x:Str):TyOf K H (.str x) (.type "str")
 | flt (x:UInt64):TyOf K H (.flt x) (.type "float")
 | lst {a:Addr} {xs:List V} (e:H a=some (.lst xs)):TyOf K H (.ref a) (.type "list")
 | frz {a:Addr} {o:Obj} {xs:List V} (e:H a=some (.frz o (.lst xs))):TyOf K H (.ref a) (.type "list")
 | tup {a:Addr} {xs:List V} (e:H a=some (.tup xs)):TyOf K H (.ref a) ↥5
 | dK {a:Addr} {kvs:List (Key×V)} (e:H a=some (.dK kvs)):TyOf K H (.ref a) (.type "dict")
 | dT {a:Addr} {kvs:List (List Key×V)} (e:H a=some (.dT kvs)):TyOf K H (.ref a) (.type "dict")
 | ins {a C dx:Addr} {fs:List (Str×V)} (e:H a=some (.ins C dx fs)) (cl:Cls K C) (ha:PySem.W.findIn K (.ref C) "__class__"=some (some (.builtin "object.__class__")))
   (hn:PySem.W.specialIn K (.builtin "object.__class__") "__get__"=some (some (.builtin "getset_descriptor.__get__"))) (htk:PySem.W.takesIn K (.builtin "object.__class__")=some true)
   (hm:PySem.W.mroIn K C (.type "object")=some true):TyOf K H (.ref a) (.ref C)
end
end L2
namespace L2
open PySem PySem.Spec PyProof.Rows
structure Room (k:Nat) (A:Around):Prop where
 hd:A.handled=none
 dp:A.depth+3*k+5<recursionLimit
 un:A.units+16*k+200<cLine
theorem Room.mono {j k:Nat} {A:Around} (r:Room k A) (h:j<=k):Room j A:=⟨r.hd,by have:=r.dp;omega,by have:=r.un;omega⟩
theorem Room.deeper {k:Nat} {A:Around} (r:Room (k+1) A) (env:Env):Room k (A.deeper env) :=
 ⟨r.hd,by have:=r.dp;show A.depth+1+3*k+5<_;omega,by have:=r.un;show A.units+3+16*k+200<_;omega⟩
theorem yR {A:Around} {C:Addr} {us:List Value} {kw:List (Str×Value)}:(A.under (.builtin "type.__call__" ⟨.ref C::us,kw⟩)).depth=A.depth+1:=by
 first | rfl | simp [Around.under,Code.weight,Code.isCreation,Code.isGuard,Code.isCaller,Code.frames,Code.isFrame,guardIds]
theorem yQ {A:Around} {C:Addr} {us:List Value} {kw:List (Str×Value)}:(A.under (.builtin "type.__call__" ⟨.ref C::us,kw⟩)).units=A.units+1:=by
 first | rfl | simp [Around.under,Code.cUnits,Code.frames,Code.isFrame]
theorem Room.make {k:Nat} {A:Around} (r:Room (k+1) A) (C:Addr) (us:List Value) (kw:List (Str×Value)):Room k (A.under (.builtin "type.__call__" ⟨.ref C::us,kw⟩)) :=
 ⟨r.hd,by have:=r.dp;rw [yR];omega,by have:=r.un;rw [yQ];omega⟩
theorem Room.depth {k:Nat} {A:Around} (r:Room k A):A.depth<recursionLimit:=by have:=r.dp;omega
theorem Room.units {k:Nat} {A:Around} (r:Room k A):A.units+64<cLine:=by have:=r.un;omega
def TM:TA:=fun _ H Q=>Q [] H
def NT (ta:TE) (tr:TA):TA:=fun σ H Q=>ta σ H fun x H1=>tr σ H1 fun xs H2=>Q (x::xs) H2
section
variable {X:Cx} {e:Expr} {es:List Expr} {te:TE} {t:TA} {pos:Pos}
theorem tK:PA X [] TM:=fun _ _ _ _ H Q I h=>Calls.spliced_nil ⟨[],H,I,.nil,h⟩
theorem oj (ha:PE X e te) (hr:PA X es t) (hs:starEach (e::es) X.env=(false,eval e X.env)::starEach es X.env:=by rfl):PA X (e::es) (NT te t):=by
 intro pos pins s σ H Q I h
 rw [hs]
 show wpAny _ _ (spliced ((false,eval e X.env)::backTo pos (starEach es X.env))) _ _ s
 refine Calls.spliced_cons (thn (ha pins s σ H _ I h) fun u s1 ⟨x,H1,I1,r1,q1⟩ => ?_)
 exact thn (hr pos pins s1 σ H1 _ I1 q1) fun us s2 ⟨xs,H2,I2,r2,q2⟩=>⟨x::xs,H2,I2,.cons r1 r2,q2⟩
def TF (t:TA):TE:=fun σ H Q=>t σ H fun xs H1=>xs.length<=sizeLine/\∀ p,H1 p=none->Q (.ref p) (upd H1 p (.tup xs))
def TN (t:TA):TE:=fun σ H Q=>t σ H fun xs H1=>xs.length<=sizeLine/\∀ p,H1 p=none->Q (.ref p) (upd H1 p (.lst xs))
theorem Lz {x1} (h:PA X es t):PE X (.Tuple es x1 pos) (TF t):=by
 intro pins s σ H Q I hq
 refine wpAny_Tuple_spliced (thn (h pos pins s σ H _ I hq) fun us s1 ⟨xs,H1,I1,r,z,q⟩=>⟨by rw [<- r.length];exact z,?_⟩)
 have hf:H1 s1.heap.objs.size=none:=I1.hok.fresh ↥38
 refine ⟨.ref s1.heap.objs.size,upd H1 s1.heap.objs.size (.tup xs),I1.laid (t':=s1.toks) (fun b u e=>Heap.get?_push_of_some _ e) ↥38 ?_,rfl,q _ hf⟩
 exact ⟨z,us,r,⟨_,Heap.get?_push_size _ rfl,rfl,_,rfl⟩⟩
theorem Fw (h:PA X es t):PE X (.List es pos) (TN t):=by
 intro pins s σ H Q I hq
 refine wpAny_List_spliced (thn (h pos pins s σ H _ I hq) fun us s1 ⟨xs,H1,I1,r,z,q⟩=>⟨by rw [<- r.length];exact z,?_⟩)
 have hf:H1 s1.heap.objs.size=none:=I1.hok.fresh ↥38
 refine ⟨.ref s1.heap.objs.size,upd H1 s1.heap.objs.size (.lst xs),I1.laid (t':=s1.toks) (fun b u e=>Heap.get?_push_of_some _ e) ↥38 ?_,rfl,q _ hf⟩
 exact ⟨z,us,0,r,Heap.get?_push_size _ rfl⟩
end
abbrev Sp:=List V->Hp->VK->XK->Prop
abbrev CXT:=List Env->Hp->Shared->XK->Value->Shared->Prop
structure Env0 (P:Program) (w:World) (K:PySem.W.Frag) (mg:Str->Option Value) (base:Heap) (A:Around) (outer:List Env) (s:Shared) (H:Hp):Prop where
 frames:A.frames=some outer
 mod:Mod K mg base
 bs:∀ b o,base.get? b=some o->s.heap.get? b=some o/\H b=none
 bsz:base.objs.size<=s.heap.objs.size
 funs:s.heap.FunFrames base outer
 frf:∀ b∈frs outer,H b=none
 hok:HOk P w H s.heap
 bare:AllBare s.gens
def CE (outer:List Env) (P:Program) (w:World) (H:Hp) (s:Shared) (Q:VK) (u:Value) (s':Shared):Prop :=
 ∃ v H',s'.os=s.os/\AllBare s'.gens/\Un (frs outer) [] H H' s.heap s'.heap/\HOk P w H' s'.heap/\RelV v u/\Q v H'
def CR (CX:CXT) (outer:List Env) (P:Program) (w:World) (H:Hp) (s:Shared) (Q:VK) (E:XK) (r:Result) (s':Shared):Prop :=
 match r with
 | .ok (.ret u)=>CE outer P w H s Q u s'
 | .ok _=>False
 | .error e=>CX outer H s E e s'
structure FnOk (P:Program) (w:World) (K:PySem.W.Frag) (mg:Str->Option Value) (base:Heap) (CX:CXT) (k:Nat) (f:Addr) (fd:FuncData) (ps:List Str) (sp:Sp):Prop where
 len:∀ vs H Q E,sp vs H Q E->vs.length=ps.length
 run:∀ (A:Around) (outer:List Env) (s:Shared) (H:Hp) (args:Args) (us:List Value) (vs:List V) (Q:VK) (E:XK),Room k A->Env0 P w K mg base A outer s H->BindsTo s fd args (ps.zip us)->Vals vs us->sp vs H Q E ->
  codeAny (model P w) A (.call (.ref f) args) (CR CX outer P w H s Q E) s
theorem Env0.make {P:Program} {w:World} {K:PySem.W.Frag} {mg:Str->Option Value} {base:Heap} {A:Around} {outer:List Env} {s:Shared} {H:Hp} (e:Env0 P w K mg base A outer s H) (C:Addr) (us:List Value) (kw:List (Str×Value)) :
  Env0 P w K mg base (A.under (.builtin "type.__call__" ⟨.ref C::us,kw⟩)) outer s H:=⟨by first | exact e.frames | (simpa [Around.under,Code.envs,Code.isFrame,pushEnvs] using e.frames),e.mod,e.bs,e.bsz,e.funs,e.frf,e.hok,e.bare⟩
section
variable {X:Cx} {pins:List ↥14} {σ:St} {H:Hp} {s s':Shared}
theorem Inv.env0 (I:Inv X pins σ H s):Env0 X.prog X.w X.K X.mg X.base X.A X.stack s H :=
 ⟨I.ok.frames,I.ok.mod,I.bs,Nat.le_trans I.ok.bsz I.sz,I.stack,I.stkFree,I.hok,I.bare⟩
theorem Inv.after {Q:VK} {u:Value} (I:Inv X pins σ H s) (h:CE X.stack X.prog X.w H s Q u s'):EP X pins σ Q u s':=by
 obtain ⟨v,H',os,bare,un,hok,r,q⟩:=h
 obtain ⟨hh,g,d,t,os'⟩:=s'
 obtain rfl:os'=s.os:=os
 exact ⟨v,H',I.call (h':=hh) (g':=g) (d':=d) (t':=t) (ch:=[]) un hok bare (fun b z=>absurd z (by simp)),r,q⟩
end
def NQ (C:Addr) (sp:Sp) (dvs:List V) (E:XK) (t:TA):TE:=fun σ H Q=>t σ H fun vs H1=>∀ x dx,H1 x=none->H1 dx=none->dx≠x ->
 sp (.ref x::(vs++dvs)) (upd (upd H1 dx (.own x)) x (.ins C dx [])) (fun v H2=>v=.non/\Q (.ref x) H2) E
def Binds (K:PySem.W.Frag) (fd:FuncData) (ps:List Str) (ds:List Value):Prop :=
 ∀ (s:Shared) (us:List Value),K.In s.heap->(us++ds).length=ps.length->BindsTo s fd ⟨us,[]⟩ (ps.zip (us++ds))
theorem Binds.all {K:PySem.W.Frag} {fd:FuncData} {ps:List Str} (h:∀ us:List Value,us.length=ps.length->bindArgs fd ⟨us,[]⟩=pure (ps.zip us)):Binds K fd ps []:=fun s us _ hl=>by
 rw [List.append_nil] at hl ⊢
 exact .of_eq (h us hl)
def Passes (CX:CXT) (X:Cx) (E:XK):Prop:=∀ (pins:List ↥14) (σ:St) (H:Hp) (s:Shared) (e:Value) (s':Shared),Inv X pins σ H s->CX X.stack H s E e s'->X.xe e s'
section
variable {X:Cx} {CX:CXT} {k:Nat} {f C:Addr} {fd:FuncData} {ps:List Str} {sp:Sp} {dvs:List V} {ds:List Value} {E:XK} {x m:Str} {p pos apos:Pos} {e o:Expr} {es:List Expr} {ta:TE} {t:TA}
structure Mk (K:PySem.W.Frag) (C f:Addr):Prop where
 makes:PySem.W.makesIn K C=true
 init:PySem.W.findIn K (.ref C) "__init__"=some (some (.ref f))
 fn:PySem.W.isFn K (.ref f)=true
 kp:PySem.W.keepIn K (.ref C)=true
theorem Ds {pins:List ↥14} {σ:St} {H:Hp} {s:Shared} {Q:VK} {us:List Value} {vs:List V} (M:Mk X.K C f) (F:FnOk X.prog X.w X.K X.mg X.base CX k f fd ps sp) (hr:Room (k+1) X.A) (hb:Binds X.K fd ps ds) (hd:Vals dvs ds)
  (hx:Passes CX X E) (I:Inv X pins σ H s) (r:Vals vs us)
  (h:∀ x dx,H x=none->H dx=none->dx≠x->sp (.ref x::(vs++dvs)) (upd (upd H dx (.own x)) x (.ins C dx [])) (fun v H2=>v=.non/\Q (.ref x) H2) E) :
  wpAny ↥8 X.A (call (.ref C) us) (EP X pins σ Q) X.xe s:=by
 have hq:=h (s.heap.objs.size+1) s.heap.objs.size (I.hok.fresh (Nat.le_succ _)) (I.hok.fresh ↥38) (Nat.ne_of_lt (Nat.lt_succ_self _))
 have I2:=Inv.made (C:=C) I
 have r2:Vals (V.ref (s.heap.objs.size+1)::(vs++dvs)) (Value.ref (s.heap.objs.size+1)::(us++ds)):=.cons rfl (r.append hd)
 have hl:(Value.ref (s.heap.objs.size+1)::us++ds).length=ps.length:=by
  have e:=r2.length
  rw [F.len _ _ _ _ hq] at e
  exact e.symm
 refine wpAny_call (Eh (f:=f) I.kIn M.makes M.init (beq_iff_eq.mp M.fn) (codeAny_mono (F.run _ X.stack _ _ ⟨Value.ref (s.heap.objs.size+1)::us,[]⟩ (Value.ref (s.heap.objs.size+1)::(us++ds)) _ _ E (hr.make C us [])
  (I2.env0.make C us []) (hb _ (Value.ref (s.heap.objs.size+1)::us) I2.kIn hl) r2 hq) fun r s' hq' => ?_))
 cases r with
 | error e=>exact hx pins σ _ _ e s' I2 hq'
 | ok fl =>
  cases fl with
  | ret u =>
   obtain ⟨v,H',I3,rv,ev,q3⟩:=I2.after hq'
   subst ev
   exact ⟨rv,⟨V.ref (s.heap.objs.size+1),H',I3,rfl,q3⟩⟩
  | next=>exact False.elim hq'
  | brk=>exact False.elim hq'
  | cont=>exact False.elim hq'
theorem HN (M:Mk X.K C f) (F:FnOk X.prog X.w X.K X.mg X.base CX k f fd ps sp) (hr:Room (k+1) X.A) (hg:Gl X x) (hm:X.mg x=some (.ref C)) (hb:Binds X.K fd ps ds) (hd:Vals dvs ds) (hx:Passes CX X E)
  (ha:PA X (e::es) t) (hdb:(x == ("__debug__":Str))=false:=by decide) (he:starEach (e::es) X.env=(false,eval e X.env)::starEach es X.env:=by rfl) (hpl:(backTo pos (starEach es X.env)).any (·.1)=false:=by rfl) :
  PE X (.Call (.Name x p) (e::es) [] pos) (NQ C sp dvs E t):=by
 intro pins s σ H Q I h
 refine wpAny_Call_Name_kw (rH I hg hm ?_ hdb)
 refine PySem.W.callWith_K (h₀:=X.base) I.ok.mod.kin M.kp (thn (ha pos pins s σ H _ I h) fun us s1 ⟨vs,H1,I1,r,q⟩=>⟨I1.kIn,?_⟩) he hpl
 exact Ds M F hr hb hd hx I1 r q
end
section
variable {X:Cx} {CX:CXT} {k:Nat} {f C:Addr} {fd:FuncData} {ps ks:List Str} {sp:Sp} {E:XK} {x m:Str} {p pos apos kpos:Pos} {e o:Expr} {es:List Expr} {kws:List Keyword} {te ta:TE} {t tk:TA} {nm:Option Str}
structure KBinds (K:PySem.W.Frag) (fd:FuncData) (ps ks:List Str) (g:List Value->List Value->List Value) (gV:List V->List V->List V):Prop where
 to:∀ (s:Shared) (us ws:List Value),K.In s.heap->(g us ws).length=ps.length->BindsTo s fd ⟨us,ks.zip ws⟩ (ps.zip (g us ws))
 rel:∀ {vs:List V} {us:List Value} {zs:List V} {ws:List Value},Vals vs us->Vals zs ws->Vals (gV vs zs) (g us ws)
variable {g:List Value->List Value->List Value} {gV:List V->List V->List V}
end
structure FnScope (N P:List Str) (sc:Scope):Prop where
 kind:sc.kind=.function
 co:sc.isCoroutine=false
 gen:sc.isGenerator=false
 nd:N.Nodup
 pre:N.take P.length=P
 par:∀ x∈P,sc.names.lookup x=some .local\/sc.names.lookup x=some .cell
 nofree:∀ y∈sc.names,y.2 ≠ .free
theorem ur {kindOf:Str->Option NameKind} {x:Str}:∀ {binds:List (Str×Value)} {m:Str->Option Value},(∀ v,(x,v)∉binds)->bindL kindOf binds m x=m x
 | [],_,_=>rfl
 | (n,v)::r,m,h=>by
  unfold bindL
  rw [ur fun w hw=>h w (List.mem_cons_of_mem _ hw)]
  split
  ·have:x≠n:=by rintro rfl;exact h v List.mem_cons_self
   simp [this]
  ·rfl
theorem uv {kindOf:Str->Option NameKind} {x:Str}:∀ {binds:List (Str×Value)} {m:Str->Option Value},(∀ v,(x,v)∉binds)->bindC kindOf binds m x=m x
 | [],_,_=>rfl
 | (n,v)::r,m,h=>by
  unfold bindC
  rw [uv fun w hw=>h w (List.mem_cons_of_mem _ hw)]
  split
  ·rfl
  ·have:x≠n:=by rintro rfl;exact h v List.mem_cons_self
   simp [this]
theorem uu {kindOf:Str->Option NameKind} {x:Str} {v:Value}:∀ {P:List Str} {vs:List Value} {i:Nat} {m:Str->Option Value},P.Nodup->P[i]? = some x->vs[i]? = some v->kindOf x=some .local ->
  bindL kindOf (P.zip vs) m x=some v
 | [],_,_,_,_,h,_,_=>by simp at h
 | _::_,[],_,_,_,_,h,_=>by simp at h
 | p::P,w::vs,0,m,nd,h1,h2,hk=>by
  simp at h1 h2;subst h1;subst h2
  show bindL kindOf ((p,w)::P.zip vs) m p=_
  unfold bindL
  rw [ur fun v hv=>(List.nodup_cons.mp nd).1 (List.of_mem_zip hv).1,if_pos hk]
  simp
 | p::P,w::vs,i+1,m,nd,h1,h2,hk=>by
  show bindL kindOf ((p,w)::P.zip vs) m x=_
  unfold bindL
  exact uu (i:=i) (List.nodup_cons.mp nd).2 (by simpa using h1) (by simpa using h2) hk
theorem uw {kindOf:Str->Option NameKind} {x:Str} {v:Value}:∀ {P:List Str} {vs:List Value} {i:Nat} {m:Str->Option Value},P.Nodup->P[i]? = some x->vs[i]? = some v->kindOf x≠some .local ->
  bindC kindOf (P.zip vs) m x=some v
 | [],_,_,_,_,h,_,_=>by simp at h
 | _::_,[],_,_,_,_,h,_=>by simp at h
 | p::P,w::vs,0,m,nd,h1,h2,hk=>by
  simp at h1 h2;subst h1;subst h2
  show bindC kindOf ((p,w)::P.zip vs) m p=_
  unfold bindC
  rw [uv fun v hv=>(List.nodup_cons.mp nd).1 (List.of_mem_zip hv).1,if_neg hk]
  simp
 | p::P,w::vs,i+1,m,nd,h1,h2,hk=>by
  show bindC kindOf ((p,w)::P.zip vs) m x=_
  unfold bindC
  exact uw (i:=i) (List.nodup_cons.mp nd).2 (by simpa using h1) (by simpa using h2) hk
def start (N:List Str) (vs:List V):St:=vs.map some++List.replicate (N.length - vs.length) none
def BN (CX:CXT) (P:Program) (w:World) (K:PySem.W.Frag) (mg:Str->Option Value) (base:Heap) (N:List Str) (qual:Str) (scope:Scope) (f:Addr) (cd:Value) (A:Around) (outer:List Env) (s:Shared) (H:Hp) (E:XK):Cx where
 prog:=P
 w:=w
 K:=K
 mg:=mg
 base:=base
 A:=A.deeper (envOfC qual scope s.heap.objs.size f cd)
 N:=N
 s₀:=s
 H₀:=H
 env:=envOfC qual scope s.heap.objs.size f cd
 outer:=outer
 stack:=envOfC qual scope s.heap.objs.size f cd::outer
 ex:=[]
 calm:=true
 fn:=fun _=>true
 pn:=[]
 xe:=fun e s'=>wpAny (model P w) (A.deeper (envOfC qual scope s.heap.objs.size f cd)) (leaving (envOfC qual scope s.heap.objs.size f cd) e) (fun _ s''=>CX outer H s E e s'') (fun e' s''=>CX outer H s E e' s'') s'
theorem xJ {sc:Scope} {n:Nat} {x:Str} (h:sc.names.lookup x=some .cell):∃ c,(cellsFrom n sc.names []).lookup x=some c:=by
 have q:=PySem.W.cellsFrom_some sc.names n [] (.inl h)
 exact Option.isSome_iff_exists.mp q
theorem Bs {CX:CXT} {P:Program} {w:World} {K:PySem.W.Frag} {mg:Str->Option Value} {base:Heap} {N ps:List Str} {qual:Str} {scope:Scope} {f:Addr} {cd:Value} {A:Around} {outer:List Env} {s s1:Shared} {H:Hp} {E:XK} {us:List Value} {vs:List V}
  (S:FnScope N ps scope) (hd:A.handled=none) (e0:Env0 P w K mg base A outer s H) (hl:vs.length=ps.length) (r:Vals vs us)
  (x:InCallC s s.heap.objs.size (bindL (envOfC qual scope s.heap.objs.size f cd).kindOf (ps.zip us) fun _=>none) (cellsFrom (s.heap.objs.size+1) scope.names []) (bindC (envOfC qual scope s.heap.objs.size f cd).kindOf (ps.zip us) fun _=>none) s1) :
  Inv (BN CX P w K mg base N qual scope f cd A outer s H E) [] (start N vs) H s1:=by
 have hpl:ps.length<=N.length:=by have:=congrArg List.length S.pre;rw [List.length_take] at this;omega
 obtain ⟨h1,tk,rfl,hk⟩:=x.done
 have noA:∀ b:Addr,b∉(BN CX P w K mg base N qual scope f cd A outer s H E).ex:=fun b z=>absurd (show b∈([]:List Addr) from z) (by simp)
 refine ⟨⟨e0.mod,S.kind,rfl,rfl,Nat.le_refl _,fun y z c h1 h2 => ?_,fun y hy => ?_,fun y c _ h => ?_,fun _=>hd,Around.frames_deeper e0.frames,.inr ⟨rfl,rfl⟩,fun b z=>absurd z (noA b),e0.bs,e0.bsz,fun b _ _=>noA b,fun b z=>absurd z (noA b),e0.funs,e0.frf⟩,
  rfl,e0.bare,Un.kept hk,⟨_,x.toInCall.ns,fun i y v h1 h2 h3 => ?_⟩,fun y c h=>⟨_,x.cell y c h⟩,e0.hok.fresh ↥38,fun y c h => ?_,fun p hp=>absurd (show p∈([]:List ↥14) from hp) (by simp),e0.hok.kept hk,?_⟩
 ·exact name_of_addr x.apart (PySem.mem_of_lookup h1) (PySem.mem_of_lookup h2)
 ·have hy:scope.names.lookup y=some .cell\/scope.names.lookup y=some .free:=hy
  rcases hy with hy | hy
  ·exact xJ hy
  ·exact absurd rfl (S.nofree _ (PySem.mem_of_lookup hy))
 ·exact Nat.le_of_lt (x.above y c (PySem.mem_of_lookup h))
 ·have hi:i<vs.length:=by
   unfold start at h2
   by_cases hi:i<vs.length
   ·exact hi
   ·rw [List.getElem?_append_right (by simpa using hi)] at h2
    rw [List.getElem?_replicate] at h2
    split at h2<;>cases h2
  have ha:vs[i]? = some v:=by
   unfold start at h2
   rw [List.getElem?_append_left (by simpa using hi),List.getElem?_map] at h2
   cases e:vs[i]? with
   | none=>rw [e] at h2;cases h2
   | some a=>rw [e] at h2;cases h2;rfl
  obtain ⟨u,hu,rv⟩:=r.get ha
  have hp:ps[i]? = some y:=by
   rw [<- S.pre,List.getElem?_take_of_lt ⋯];exact h1
  have ndP:ps.Nodup:=by rw [<- S.pre];exact S.nd.sublist (List.take_sublist _ _)
  refine ⟨u,rv,?_⟩
  rcases S.par y (List.mem_of_getElem? hp) with k | k
  ·exact .inl ⟨k,uu ndP hp hu k⟩
  ·obtain ⟨c,e⟩:=xJ (n:=s.heap.objs.size+1) k
   refine .inr ⟨.inl k,c,e,?_⟩
   have q:=x.cell y c e
   rw [uw ndP hp hu (by show scope.names.lookup y≠_;rw [k];decide)] at q
   exact q
 ·exact e0.hok.fresh (Nat.le_of_lt (x.above y c (PySem.mem_of_lookup h)))
 ·unfold start
  show _=N.length
  rw [List.length_append,List.length_map,List.length_replicate]
  omega
theorem MF {CX:CXT} {P:Program} {w:World} {K:PySem.W.Frag} {mg:Str->Option Value} {base:Heap} {k:Nat} {f:Addr} {name qual:Str} {params:Arguments} {body:List Stmt} {scope:Scope} {dV kV doc pm cdv ct oc:Value} {an od:Option Addr}
  {osl:Array (Option Value)} {N ps:List Str} {sp:Sp} (lk:K.lookup f=some ⟨oc,od,.func (PySem.W.fnOf name qual params body scope dV kV doc pm an cdv ct),osl⟩) (hcd:PySem.W.codeIn K cdv qual=true) (S:FnScope N ps scope)
  (len:∀ vs H Q E,sp vs H Q E->vs.length=ps.length)
  (hbody:∀ (A:Around) (outer:List Env) (s:Shared) (H:Hp) (vs:List V) (Q:VK) (E:XK),Room k (A.deeper (envOfC qual scope s.heap.objs.size f cdv))->sp vs H Q E ->
   ∃ t,PSs (BN CX P w K mg base N qual scope f cdv A outer s H E) body t/\t { nx:=fun _ H'=>Q .non H',rt:=Q } (start N vs) H) :
  FnOk P w K mg base CX (k+1) f (PySem.W.fnOf name qual params body scope dV kV doc pm an cdv ct) ps sp:=by
 refine ⟨len,fun A outer s H args us vs Q E hr e0 hb r hsp => ?_⟩
 have hl:=len _ _ _ _ hsp
 have KX:K.In s.heap:=e0.mod.kin.keeps fun b o e=>(e0.bs b o e).1
 have lim:s.heap.NoLimit:=e0.mod.nolimit.keeps fun b o e=>(e0.bs b o e).1
 have hkind:∀ y∈ps.zip us,scope.names.lookup y.1=some .local\/(scope.names.lookup y.1=some .cell/\((cellsFrom (s.heap.objs.size+1) scope.names []).lookup y.1).isSome=true):=fun ⟨n,v⟩ hy=>by
  rcases S.par n (List.of_mem_zip hy).1 with q | q
  ·exact .inl q
  ·exact .inr ⟨q,PySem.W.cellsFrom_some _ _ _ (.inl q)⟩
 refine codeAny_call_function hr.depth (KX _ _ lk) rfl S.co S.gen rfl (PySem.W.codeRec_of KX hcd) (hb _ _ _ _ ?_)
 refine wpAny_newFunctionEnv_cells S.kind hkind fun env he s1 x => ?_
 subst he
 refine ⟨lim.keeps x.toInCall.keep,codeAny_func ?_⟩
 obtain ⟨t,ht,hq⟩:=hbody A outer s H vs Q E (hr.deeper _) hsp
 have I:Inv (BN CX P w K mg base N qual scope f cdv A outer s H E) [] (start N vs) H s1:=Bs S hr.hd e0 hl r x
 refine wpAny_mono (ht [] s1 (start N vs) H _ I hq) (fun fl s' hs => ?_) fun e s' hs=>hs
 have fin:∀ {σ':St} {H':Hp} {v:V} {u:Value},Inv (BN CX P w K mg base N qual scope f cdv A outer s H E) [] σ' H' s'->RelV v u->Q v H'->CE outer P w H s Q u s' :=
  fun {σ' H' v u} J rv q=>⟨v,H',J.os,J.bare,J.base,J.hok,rv,q⟩
 cases fl with
 | ret u =>
  obtain ⟨v,σ',H',J,rv,q⟩:=hs
  exact fin J rv q
 | next =>
  obtain ⟨σ',H',J,q⟩:=hs
  exact fin (v:=V.non) (u:=Value.none) J rfl q
 | brk =>
  obtain ⟨_,_,_,q⟩:=hs
  exact False.elim q
 | cont =>
  obtain ⟨_,_,_,q⟩:=hs
  exact False.elim q
end L2
namespace L2
open PySem PySem.Spec PyProof.Rows
section
variable {X:Cx} {x:Str} {p pos:Pos} {e:Expr} {es:List Expr} {t:TA} {id T:String} {r:List V->Hp->VK->Prop}
def tCB (r:List V->Hp->VK->Prop) (t:TA):TE:=fun σ H Q=>t σ H fun vs H1=>r vs H1 Q
theorem xg (hc:iD X (.builtin id) r) (hg:Gl X x) (hm:X.mg x=none) (hv:bootBuiltins x=some (.builtin id)) (ha:PA X (e::es) t) (hn:x≠"__name__":=by decide) (hdb:(x == ("__debug__":Str))=false:=by decide)
  (he:starEach (e::es) X.env=(false,eval e X.env)::starEach es X.env:=by rfl) (hpl:(backTo pos (starEach es X.env)).any (·.1)=false:=by rfl):PE X (.Call (.Name x p) (e::es) [] pos) (tCB r t):=by
 intro pins s σ H Q I h
 refine wpAny_Call_Name_kw (xv I hg hm hv ?_ hn hdb)
 exact PyProof.Rows.callWith_builtin1 (thn (ha pos pins s σ H _ I h) fun us s1 ⟨vs,H1,I1,r1,q1⟩=>hc pins s1 σ H1 vs us Q I1 r1 q1) he hpl
theorem tH (hc:iD X (.type T) r) (hg:Gl X x) (hm:X.mg x=none) (hv:bootBuiltins x=some (.type T)) (ha:PA X (e::es) t) (hn:x≠"__name__":=by decide) (hdb:(x == ("__debug__":Str))=false:=by decide)
  (he:starEach (e::es) X.env=(false,eval e X.env)::starEach es X.env:=by rfl) (hpl:(backTo pos (starEach es X.env)).any (·.1)=false:=by rfl):PE X (.Call (.Name x p) (e::es) [] pos) (tCB r t):=by
 intro pins s σ H Q I h
 refine wpAny_Call_Name_kw (xv I hg hm hv ?_ hn hdb)
 exact PyProof.Rows.callWith_type1 (thn (ha pos pins s σ H _ I h) fun us s1 ⟨vs,H1,I1,r1,q1⟩=>hc pins s1 σ H1 vs us Q I1 r1 q1) he hpl
end
end L2
namespace HT
open PySem PyProof.Rows
section
open PySem.SeqAt
open PySem.AutoSeq1 (wpAny_loadPart')
open PySem.MeetsSeq PySem.MeetsSeq2 PySem.MeetsSeq3
end
section
variable {prog:Program} {w:World} {A:Around} {E:Value->Shared->Prop} {s:Shared}
theorem JA {t b:Addr} {vs ws:List Value} {Q:Value->Shared->Prop} (ht:IsTup s.heap t vs.toArray) (hb:IsTup s.heap b ws.toArray) (hv:vs≠[])
  (h1:ws=[]->Q (.ref t) s) (h2:ws≠[]->Q (.ref s.heap.objs.size) { s with heap:=s.heap.push { cls:=.type "tuple",data:=.seq (vs++ws).toArray } })
  (hsz:vs.length+ws.length<=sizeLine):wpAny ↥25 A (binaryOp .Add (.ref t) (.ref b)) Q E s:=by
 obtain ⟨⟨cls,dd,data,sl⟩,ho,hc,n,hd⟩:=id ht
 obtain ⟨⟨cls2,dd2,data2,sl2⟩,ho2,hc2,n2,hd2⟩:=id hb
 simp only at hc hd hc2 hd2
 subst hc hd hc2 hd2
 have e:vs.toArray++ws.toArray=(vs++ws).toArray:=by simp
 by_cases hw:ws=[]
 ·exact concat_meets ⟨_,ho,rfl⟩ ⟨_,ho2,rfl⟩ noFill_tuple_add seq_tuple_add PySem.F.slot_tuple_add PySem.F.entry_tuple_add (PySem.F.args_tuple_add_2 _ _)
   (tuple_addW1 t b vs.toArray ws.toArray n n2 dd dd2 sl sl2 (by simpa using hv) (by simp [hw])) ⟨ho,ho2,h1 hw⟩
 ·refine concat_meets ⟨_,ho,rfl⟩ ⟨_,ho2,rfl⟩ noFill_tuple_add seq_tuple_add PySem.F.slot_tuple_add PySem.F.entry_tuple_add (PySem.F.args_tuple_add_2 _ _)
   (tuple_addW2 t b vs.toArray ws.toArray n n2 dd dd2 sl sl2 (by simpa using hv) (by simpa using hw) (by rw [List.size_toArray,List.size_toArray];exact hsz)) ⟨ho,ho2,?_⟩
  rw [e]
  exact h2 hw
def sIx (n d:Nat):Option Int->Nat
 | none=>d
 | some v=>if v<0 then (v+(n:Int)).toNat else min v.toNat n
theorem Lb (n d:Nat) (hd:d<=n) (o:Option Int):sIx n d o<=n:=by
 cases o with
 | none=>exact hd
 | some v =>
  show (if v<0 then (v+(n:Int)).toNat else min v.toNat n)<=n
  by_cases hv:v<0
  ·rw [if_pos hv];omega
  ·rw [if_neg hv];exact Nat.min_le_right _ _
theorem BP (v:Int) (n d:Nat):(if v<0 then max (v+(n:Int)) 0 else min v (n:Int))=((sIx n d (some v):Nat):Int):=by
 show (if v<0 then max (v+(n:Int)) 0 else min v (n:Int))=(((if v<0 then (v+(n:Int)).toNat else min v.toNat n):Nat):Int)
 by_cases hv:v<0
 ·simp only [if_pos hv];omega
 ·simp only [if_neg hv];omega
theorem zw (lo hi:Option Int) (n:Nat):Builtin.Slice.sliceAdjust lo hi 1 (n:Int)=(((sIx n 0 lo:Nat):Int),((sIx n n hi:Nat):Int)):=by
 have h1:¬ ((1:Int)<0):=⋯
 unfold Builtin.Slice.sliceAdjust
 simp only [h1,if_false]
 refine Prod.ext ?_ ?_
 ·cases lo with
  | none=>rfl
  | some v=>exact BP v n 0
 ·cases hi with
  | none=>rfl
  | some v=>exact BP v n n
theorem yG (i j:Nat):Builtin.Slice.slicePlaces (i:Int) (j:Int) 1=j - i:=by
 unfold Builtin.Slice.slicePlaces
 have h1:(1:Int)>0:=⋯
 simp only [h1,if_true,Int.ediv_one]
 split<;>omega
theorem pU {v:Value} {o:Option Int} {Q:Option Int->Shared->Prop} (p:IsPart v o) (h:Q o s):wpAny ↥25 A (Builtin.Slice.slicePartIndex v) Q E s:=by
 cases p with
 | none=>exact slicePart_none h
 | int i t=>exact slicePart_int h
theorem mv {sl:Addr} {vl vu:Value} {lo hi:Option Int} {n:Nat} {Q:Int×Int×Nat->Shared->Prop} (hs:s.heap.IsSliceOf sl vl vu .none) (pl:IsPart vl lo) (pu:IsPart vu hi)
  (h:Q (((sIx n 0 lo:Nat):Int),1,sIx n n hi - sIx n 0 lo) s):wpAny ↥25 A (Builtin.Slice.sliceApplied (.ref sl) (pure (n:Int))) Q E s:=by
 obtain ⟨os,hos,hcs,hds⟩:=id hs
 unfold Builtin.Slice.sliceApplied Builtin.Slice.sliceFields
 refine wpAny_bind (wpAny_bind (wpAny_field hos hds (x:=vl) rfl (wpAny_bind (wpAny_field hos hds (x:=vu) rfl (wpAny_bind (wpAny_field hos hds (x:=.none) rfl (wpAny_pure ?_)))))))
 refine wpAny_bind (slicePart_none ?_)
 show wpAny _ _ (if ((1:Int) == 0)=true then _ else _) _ _ s
 rw [if_neg ↥1]
 refine wpAny_bind (pU pl (wpAny_bind (pU pu (wpAny_bind (wpAny_pure ?_)))))
 show wpAny _ _ (match Builtin.Slice.sliceAdjust lo hi 1 (n:Int) with | (lo,hi)=>pure (lo,(1:Int),Builtin.Slice.slicePlaces lo hi 1)) _ _ s
 rw [zw lo hi n]
 show wpAny _ _ (pure (((sIx n 0 lo:Nat):Int),(1:Int),Builtin.Slice.slicePlaces ((sIx n 0 lo:Nat):Int) ((sIx n n hi:Nat):Int) 1)) _ _ s
 rw [yG]
 exact wpAny_pure h
theorem DB (xs:Array Value) (i k:Nat):((List.range k).filterMap fun (m:Nat)=>xs[((i:Int)+(m:Int)*1).toNat]?).toArray=((xs.toList.drop i).take k).toArray:=by
 have e:(fun (m:Nat)=>xs[((i:Int)+(m:Int)*1).toNat]?)=fun m=>xs[i+m]? := by
  funext m
  have:((i:Int)+(m:Int)*1).toNat=i+m:=⋯
  rw [this]
 rw [e]
 have:=pick_run xs i k
 rw [List.filterMap_map] at this
 have e2:((fun x=>xs[x]?) ∘ fun x=>i+x)=fun m=>xs[i+m]? := rfl
 rw [e2] at this
 rw [this]
theorem lO {t sl:Addr} {items:Array Value} {vl vu:Value} {lo hi:Option Int} {Q:Value->Shared->Prop} (ht:IsTup s.heap t items) (hs:s.heap.IsSliceOf sl vl vu .none) (pl:IsPart vl lo) (pu:IsPart vu hi)
  (hw:¬ (sIx items.size 0 lo=0/\sIx items.size items.size hi=items.size))
  (h:Q (.ref s.heap.objs.size) { s with heap:=s.heap.push { cls:=.type "tuple",data:=.seq ((items.toList.drop (sIx items.size 0 lo)).take (sIx items.size items.size hi - sIx items.size 0 lo)).toArray } })
  (hsz:items.size<=sizeLine):wpAny ↥25 A (getItem (.ref t) (.ref sl)) Q E s:=by
 have htake:sizeOk (.seq ((items.toList.drop (sIx items.size 0 lo)).take (sIx items.size items.size hi - sIx items.size 0 lo)).toArray):=by
  show ((items.toList.drop (sIx items.size 0 lo)).take (sIx items.size items.size hi - sIx items.size 0 lo)).toArray.size<=sizeLine
  rw [List.size_toArray,List.length_take,List.length_drop,Array.length_toList]
  omega
 have hj:sIx items.size items.size hi<=items.size:=Lb _ _ ↥38 hi
 obtain ⟨os,hos,hcs,hds⟩:=id hs
 have hTs:s.TypeIs (.ref sl) "slice":=⟨os,hos,hcs⟩
 unfold getItem
 try with_reducible refine wpAny_holding ?_
 first | refine wpAny_bind (wpAny_pure ?_) | skip
 refine wpAny_bind (wpAny_sequenceKey ht.typeIs ↥1 ?_)
 refine wpAny_bind (wpAny_callSpecial?_slot (name:=Str.ofString "__getitem__") ht.typeIs PyProof.Rows.slot_tuple_getitem
  (wpAny_call_entry PyProof.Rows.slot_tuple_getitem ht.typeIs entry_tuple_getitem ?_ (args_tuple_getitem _ _)))
 show wpAny _ _ (Builtin.Tuple.tupleItemsOf (.ref t) >>= _) _ _ s
 refine wpAny_bind (tupleItemsOf_ ht ?_)
 refine wpAny_bind (wpAny_typeOf hTs ?_)
 rw [if_pos ↥1]
 refine wpAny_bind (mv hs pl pu ?_)
 have hno:¬ ((((sIx items.size 0 lo:Nat):Int) == 0&&(1:Int) == 1&&(sIx items.size items.size hi - sIx items.size 0 lo) == items.size)=true):=by
  intro q
  rw [Bool.and_eq_true,Bool.and_eq_true] at q
  have q1:((sIx items.size 0 lo:Nat):Int)=0:=eq_of_beq q.1.1
  have q2:sIx items.size items.size hi - sIx items.size 0 lo=items.size:=eq_of_beq q.2
  exact hw ⟨⋯,⋯⟩
 show wpAny _ _ (if (((sIx items.size 0 lo:Nat):Int) == 0&&(1:Int) == 1&&(sIx items.size items.size hi - sIx items.size 0 lo) == items.size)=true then _ else _) _ _ s
 rw [if_neg hno,DB]
 first
  | exact wpAny_bind (m:=Builtin.Tuple.tupleExact _) (wpAny_newObj_type (wpAny_pure ⟨_,rfl,wpAny_pure h⟩) htake)
  | exact wpAny_bind (m:=Builtin.Tuple.tupleExact _) (wpAny_newObj_type (wpAny_bind (wpAny_pure (wpAny_pure ⟨_,rfl,wpAny_pure h⟩))) htake)
  | exact wpAny_bind (wpAny_bind (m:=Builtin.Tuple.tupleExact _) (wpAny_newObj_type (wpAny_pure (wpAny_pure ⟨_,rfl,wpAny_pure h⟩)) htake))
  | exact wpAny_bind (wpAny_bind (m:=Builtin.Tuple.tupleExact _) (wpAny_newObj_type (wpAny_pure ⟨_,rfl,wpAny_pure h⟩) htake))
end
end HT
namespace L2
open PySem PySem.Spec PyProof.Rows
abbrev TO:=St->Hp->(Option Int->Hp->Prop)->Prop
def PO (X:Cx) (e:Option Expr) (t:TO):Prop :=
 ∀ (pins:List ↥14) (s:Shared) (σ:St) (H:Hp) (Q:Option Int->Hp->Prop),Inv X pins σ H s->t σ H Q ->
  wpAny ↥8 X.A (evalPart e X.env) (fun u s'=>∃ o H',Inv X pins σ H' s'/\IsPart u o/\Q o H') X.xe s
def Hd:TO:=fun _ H Q=>Q none H
def NN (t:TE):TO:=fun σ H Q=>t σ H fun x H1=>∃ i,x=.int i/\Q (some i) H1
section
variable {X:Cx} {e:Expr} {te:TE} {lo hi:Option Expr} {tl th:TO} {pos p2:Pos}
theorem HJ:PO X none Hd:=by
 intro pins s σ H Q I h
 rw [evalPart_none]
 exact wpAny_pure ⟨none,H,I,.none,h⟩
theorem HI (h:PE X e te):PO X (some e) (NN te):=by
 intro pins s σ H Q I hw
 rw [evalPart_some]
 refine thn (h pins s σ H _ I hw) fun u s1 ⟨x,H1,I1,r1,q1⟩ => ?_
 obtain ⟨i,rfl,q⟩:=q1
 obtain ⟨t,rfl⟩:=r1
 exact ⟨some i,H1,I1,.int i t,q⟩
def SlR (X:Cx) (r:V->Option Int->Option Int->Hp->VK->Prop):Prop :=
 ∀ (pins:List ↥14) (s:Shared) (σ:St) (H:Hp) (x:V) (v vl vu:Value) (lo hi:Option Int) (sl:Addr) (Q:VK),Inv X pins σ H s->RelV x v->s.heap.IsSliceOf sl vl vu .none->IsPart vl lo->IsPart vu hi->r x lo hi H Q ->
  ∃ T id,typeLookup (.type T) "__getitem__"=pure (some (.builtin id))/\s.TypeIs v T/\wpAny ↥8 X.A (getItem v (.ref sl)) (EP X pins σ Q) X.xe s
def tSl (r:V->Option Int->Option Int->Hp->VK->Prop) (te:TE) (tl th:TO):TE:=fun σ H Q=>te σ H fun x H1=>tl σ H1 fun l H2=>th σ H2 fun u H3=>r x l u H3 Q
theorem DC {r:V->Option Int->Option Int->Hp->VK->Prop} (hr:SlR X r) (he:PE X e te) (hl:PO X lo tl) (hu:PO X hi th):PE X (.Subscript e (.Slice lo hi none p2) pos) (tSl r te tl th):=by
 intro pins s σ H Q I h
 refine Subscript_ (thn (he pins s σ H _ I h) fun v s1 ⟨x,H1,I1,r1,q1⟩ => ?_)
 refine wpAny_Slice (thn (hl pins s1 σ H1 _ I1 q1) fun vl s2 ⟨l,H2,I2,pl,q2⟩=>thn (hu pins s2 σ H2 _ I2 q2) fun vu s3 ⟨u,H3,I3,pu,q3⟩ => ?_)
 rw [evalPart_none]
 refine wpAny_pure ?_
 have I4:Inv X pins σ H3 { s3 with heap:=s3.heap.push { cls:=.type "slice",data:=.fields #[vl,vu,.none] } }:=I3.kept (t':=s3.toks) fun b ob q=>Heap.get?_push_of_some _ q
 obtain ⟨T,id,hT,ht,hg⟩:=hr pins { s3 with heap:=s3.heap.push { cls:=.type "slice",data:=.fields #[vl,vu,.none] } } σ H3 x v vl vu l u s3.heap.objs.size Q I4 r1 (Heap.IsSliceOf.new ..) pl pu q3
 show wpAny ↥8 X.A (subscriptTail e (.Slice lo hi none p2) v (.ref s3.heap.objs.size)) (EP X pins σ Q) X.xe { s3 with heap:=s3.heap.push { cls:=.type "slice",data:=.fields #[vl,vu,.none] } }
 exact tail_any (ops:=[.ref s3.heap.objs.size,v]) ht hT hg (by with_unfolding_all rfl)
def FN (xs:List V) (lo hi:Option Int):List V:=(xs.drop (HT.sIx xs.length 0 lo)).take (HT.sIx xs.length xs.length hi - HT.sIx xs.length 0 lo)
theorem oN (xs:List V) (lo hi:Option Int):(FN xs lo hi).length<=xs.length:=by
 unfold FN
 rw [List.length_take,List.length_drop]
 omega
def T5 (K:PySem.W.Frag):V->Option Int->Option Int->Hp->VK->Prop:=fun x lo hi H Q=>∃ a xs,x=.ref a/\SqT K H a xs /\
 ¬ (HT.sIx xs.length 0 lo=0/\HT.sIx xs.length xs.length hi=xs.length)/\∀ p,H p=none->Q (.ref p) (upd H p (.tup (FN xs lo hi)))
theorem K4:SlR X (T5 X.K):=by
 intro pins s σ H x v vl vu lo hi sl Q I rx hs pl pu h
 obtain ⟨a,xs,rfl,hx,hw,q⟩:=h
 cases rx
 obtain ⟨its,r,ht,hz⟩:=I.tuple hx
 have hlen:its.toArray.size=xs.length:=by rw [List.size_toArray];exact r.length.symm
 refine ⟨"tuple",_,PyProof.Rows.slot_tuple_getitem.lookup,ht.typeIs,?_⟩
 refine HT.lO ht hs pl pu (by rw [hlen];exact hw) ?_ (by rw [hlen];exact hz)
 rw [hlen]
 refine ⟨.ref s.heap.objs.size,_,I.laid (t':=s.toks) (o:=.tup (FN xs lo hi)) (fun b ob q=>Heap.get?_push_of_some _ q) ↥38 ?_,rfl,q _ (I.hok.fresh ↥38)⟩
 exact ⟨Nat.le_trans (oN xs lo hi) hz,_,(r.drop (HT.sIx xs.length 0 lo)).take (HT.sIx xs.length xs.length hi - HT.sIx xs.length 0 lo),IsTup.new _ _⟩
def N3 (K:PySem.W.Frag):R2:=fun x y H Q=>∃ a b xs ys,x=.ref a/\y=.ref b/\SqT K H a xs/\SqT K H b ys/\xs≠[]/\xs.length+ys.length<=sizeLine /\
 (ys=[]->Q (.ref a) H)/\(ys≠[]->∀ p,H p=none->Q (.ref p) (upd H p (.tup (xs++ys))))
theorem Vals.nil_iff {xs:List V} {us:List Value} (r:Vals xs us):us=[]↔xs=[]:=by
 cases r with
 | nil=>simp
 | cons _ _=>simp
theorem H0:OpR X (binaryOp .Add) (N3 X.K):=by
 intro pins s σ H x y v u Q I rx ry h
 obtain ⟨a,b,xs,ys,rfl,rfl,ha,hb,hx,hz,q1,q2⟩:=h
 cases rx
 cases ry
 obtain ⟨its,r1,p1,_⟩:=I.tuple ha
 obtain ⟨its2,r2,p2,_⟩:=I.tuple hb
 refine HT.JA p1 p2 (fun z=>hx (r1.nil_iff.mp z)) (fun z=>⟨.ref a,H,I,rfl,q1 (r2.nil_iff.mp z)⟩) (fun z => ?_) (by rw [<- r1.length,<-r2.length];exact hz)
 refine ⟨.ref s.heap.objs.size,_,I.laid (t':=s.toks) (o:=.tup (xs++ys)) (fun b ob q=>Heap.get?_push_of_some _ q) ↥38 ?_,rfl,q2 (fun w=>z (r2.nil_iff.mpr w)) _ (I.hok.fresh ↥38)⟩
 exact ⟨by rw [List.length_append];exact hz,_,r1.append r2,IsTup.new _ _⟩
end
end L2
namespace L2
open PySem PySem.Spec PyProof.Rows
def ixN (n:Nat) (i:Int):Option Nat:=if 0<=i then (if i<n then some i.toNat else none) else if -(n:Int)<=i then some (i+n).toNat else none
def atI {α:Type} (xs:List α) (i:Int):Option α:=(ixN xs.length i).bind fun j=>xs[j]?
theorem IS {n:Nat} {i:Int} {j:Nat} (h:ixN n i=some j):seqIndex? i n=some j/\j<n /\ -(n:Int)<=i/\i<n:=by
 unfold ixN at h
 by_cases h0:0<=i
 ·rw [if_pos h0] at h
  by_cases h1:i<n
  ·rw [if_pos h1] at h
   have e:i.toNat=j:=Option.some.inj h
   exact ⟨by rw [seqIndex_of h0 h1,e],⋯,⋯,h1⟩
  ·rw [if_neg h1] at h;cases h
 ·rw [if_neg h0] at h
  by_cases h1 : -(n:Int)<=i
  ·rw [if_pos h1] at h
   have e:(i+n).toNat=j:=Option.some.inj h
   exact ⟨by rw [seqIndex_neg ⋯ h1,e],⋯,h1,⋯⟩
  ·rw [if_neg h1] at h;cases h
theorem wC {α:Type} {xs:List α} {i:Int} {v:α} (h:atI xs i=some v):∃ j,seqIndex? i xs.length=some j/\xs[j]? = some v/\j<xs.length /\ -(xs.length:Int)<=i/\i<xs.length:=by
 unfold atI at h
 cases e:ixN xs.length i with
 | none=>rw [e] at h;cases h
 | some j =>
  rw [e] at h
  obtain ⟨h1,h2,h3,h4⟩:=IS e
  exact ⟨j,h1,h,h2,h3,h4⟩
def Cg (b:Expr):Prop:=∀ o i,subscripted b false o i=operate [o,i] (getItem o i)
def IxR (X:Cx) (r:R2):Prop :=
 ∀ (value slice:Expr) (pins:List ↥14) (s:Shared) (σ:St) (H:Hp) (x y:V) (v u:Value) (Q:VK),Inv X pins σ H s->RelV x v->RelV y u->r x y H Q ->
  subscripted slice false v u=operate [v,u] (getItem v u)->wpAny ↥8 X.A (subscriptTail value slice v u) (EP X pins σ Q) X.xe s
def MtR (X:Cx) (id:String) (r:V->List V->Hp->VK->Prop):Prop :=
 ∀ (pins:List ↥14) (s:Shared) (σ:St) (H:Hp) (x:V) (xs:List V) (v:Value) (us:List Value) (Q:VK),Inv X pins σ H s->RelV x v->Vals xs us->r x xs H Q ->
  wpAny ↥8 X.A (call (.builtin id) (v::us)) (EP X pins σ Q) X.xe s
section
variable {X:Cx} {a b:Expr} {ta tb:TE} {pos:Pos}
theorem Od {r:R2} (hr:IxR X r) (ha:PE X a ta) (hb:PE X b tb) (hs:Cg b):PE X (.Subscript a b pos) (tOp r ta tb):=by
 intro pins s σ H Q I h
 exact Subscript_ (OX ha hb I h fun v u s2 x y H2 I2 rx ry q=>hr a b pins s2 σ H2 x y v u Q I2 rx ry q (hs _ _))
def T9 (K:PySem.W.Frag):R2:=fun x y H Q=>∃ p xs i v,x=.ref p/\y=.int i/\SqL K H p xs/\atI xs i=some v/\Q v H
def T7 (K:PySem.W.Frag):R2:=fun x y H Q=>∃ p xs i v,x=.ref p/\y=.int i/\SqT K H p xs/\atI xs i=some v/\Q v H
def T8:R2:=fun x y H Q=>∃ z i c,x=.str z/\y=.int i/\z.length<=sizeLine/\atI z.cps.toList i=some c/\Q (.str ⟨#[c]⟩) H
theorem IP:IxR X (T9 X.K):=by
 intro value slice pins s σ H x y v u Q I rx ry h hs
 obtain ⟨p,xs,i,z,rfl,rfl,hq,he,q⟩:=h
 cases rx
 obtain ⟨t,rfl⟩:=ry
 obtain ⟨its,r,pl,hz⟩:=I.list hq
 obtain ⟨j,h1,h2,h3,h4,h5⟩:=wC he
 obtain ⟨w,ew,rw'⟩:=r.get h2
 have hl:=r.length
 have hn:=t5
 have fin:EP X pins σ Q w s:=⟨z,H,I,rw',q⟩
 by_cases h0:0<=i
 ·have hj:i.toNat=j:=by
   rw [seqIndex_of h0 h5] at h1
   exact Option.some.inj h1
  exact item_listR pl.isList h0 ⋯ (by rw [hj];simpa using ew) fin hs
 ·have hj:(i+(its.toArray.size:Int)).toNat=j:=by
   rw [seqIndex_neg ⋯ h4] at h1
   rw [List.size_toArray,<-hl]
   exact Option.some.inj h1
  exact subscriptTail_builtinR (x:=w) pl.isList.typeIs slot_list_getitem.lookup
   (wpAny_getItem_list_neg (Q:=fun r s'=>r=w/\EP X pins σ Q r s') pl.isList ⋯ (by rw [List.size_toArray]<;>omega) ⋯ (by rw [hj];simpa using ew) ⟨rfl,fin⟩) hs
theorem p5:IxR X (T7 X.K):=by
 intro value slice pins s σ H x y v u Q I rx ry h hs
 obtain ⟨p,xs,i,z,rfl,rfl,hq,he,q⟩:=h
 cases rx
 obtain ⟨t,rfl⟩:=ry
 obtain ⟨its,r,pl,hz⟩:=I.tuple hq
 obtain ⟨j,h1,h2,h3,h4,h5⟩:=wC he
 obtain ⟨w,ew,rw'⟩:=r.get h2
 have hl:=r.length
 have hn:=t5
 have fin:EP X pins σ Q w s:=⟨z,H,I,rw',q⟩
 exact subscriptTail_builtinR (x:=w) pl.typeIs slot_tuple_getitem.lookup
  (getItem_tuple (j:=j) (Q:=fun r s'=>r=w/\EP X pins σ Q r s') pl ⋯ ⋯ (by rw [List.size_toArray,<-hl];exact h1) (by simpa using ew) ⟨rfl,fin⟩) hs
theorem Mo:IxR X T8:=by
 intro value slice pins s σ H x y v u Q I rx ry h hs
 obtain ⟨z,i,c,rfl,rfl,hz,he,q⟩:=h
 obtain ⟨t,rfl⟩:=rx
 obtain ⟨t',rfl⟩:=ry
 obtain ⟨j,h1,h2,h3,h4,h5⟩:=wC he
 have hl:z.cps.toList.length=z.length:=by simp [Str.length]
 rw [hl] at h1 h4 h5
 have hn:=t5
 exact tail_any (typeIs_str s z t) slot_str_getitem.lookup (getItem_str (c:=c) (by
  have e1:decide (i < -(2^63:Int))=false:=decide_eq_false ⋯
  have e2:decide (i>=2^63)=false:=decide_eq_false ⋯
  rw [e1,e2,Bool.or_false]) (by rw [h1];simpa using h2) ⟨.str ⟨#[c]⟩,H,I.tok _,⟨_,rfl⟩,q⟩) hs
theorem sS (lo hi:Option Int) (n:Nat):(sliceBounds lo hi none n).1=((HT.sIx n 0 lo:Nat):Int)/\(sliceBounds lo hi none n).2.1=((HT.sIx n n hi:Nat):Int)/\(sliceBounds lo hi none n).2.2=1:=by
 refine ⟨?_,?_,rfl⟩
 ·cases lo with
  | none=>simp [sliceBounds,HT.sIx]
  | some i =>
   simp only [sliceBounds,HT.sIx,Option.getD_none,show (1:Int)>0 by decide,if_true]
   by_cases h:i<0
   ·simp only [h,if_true]<;>omega
   ·simp only [h,if_false]<;>omega
 ·cases hi with
  | none=>simp [sliceBounds,HT.sIx]
  | some i =>
   simp only [sliceBounds,HT.sIx,Option.getD_none,show (1:Int)>0 by decide,if_true]
   by_cases h:i<0
   ·simp only [h,if_true]<;>omega
   ·simp only [h,if_false]<;>omega
theorem qK (its:List Value) (lo hi:Option Int):slicePick its.toArray lo hi none=((its.drop (HT.sIx its.length 0 lo)).take (HT.sIx its.length its.length hi - HT.sIx its.length 0 lo)).toArray:=by
 obtain ⟨h1,h2,h3⟩:=sS lo hi its.toArray.size
 unfold slicePick
 rw [h1,h2,h3]
 simp only [sliceRange_one,pick_run,List.size_toArray]<;>rfl
def T6 (K:PySem.W.Frag):V->Option Int->Option Int->Hp->VK->Prop:=fun x lo hi H Q=>∃ a xs,x=.ref a/\SqL K H a xs/\∀ p,H p=none->Q (.ref p) (upd H p (.lst (FN xs lo hi)))
theorem Hm:SlR X (T6 X.K):=by
 intro pins s σ H x v vl vu lo hi sl Q I rx hs pl pu h
 obtain ⟨a,xs,rfl,hx,q⟩:=h
 cases rx
 obtain ⟨its,r,ht,hz⟩:=I.list hx
 have hlen:=r.length
 refine ⟨"list",_,slot_list_getitem.lookup,ht.isList.typeIs,?_⟩
 refine wpAny_getItem_list_slice ht.isList hs pl pu .none (by simp) ?_ (by rw [List.size_toArray]<;>omega)
 rw [qK,<-hlen]
 refine ⟨.ref s.heap.objs.size,_,I.laid (t':=s.toks) (o:=.lst (FN xs lo hi)) (fun b ob q=>Heap.get?_push_of_some _ q) ↥38 ?_,rfl,q _ (I.hok.fresh ↥38)⟩
 exact ⟨Nat.le_trans (oN xs lo hi) hz,_,0,(r.drop (HT.sIx xs.length 0 lo)).take (HT.sIx xs.length xs.length hi - HT.sIx xs.length 0 lo),Heap.get?_push_size _ rfl⟩
def pN:V->Bool
 | .non=>true
 | .bl _=>true
 | .int _=>true
 | .str _=>true
 | _=>false
def eqV:V->V->Bool
 | .non,.non=>true
 | .bl a,.bl b=>a == b
 | .bl a,.int b=>(if a then 1 else 0) == b
 | .int a,.bl b=>a == (if b then 1 else 0)
 | .int a,.int b=>a == b
 | .str a,.str b=>a == b
 | _,_=>false
theorem MJ {A:Around} {s:Shared} {y x:V} {u v:Value} (ry:RelV y u) (rx:RelV x v) (fy:pN y=true) (fx:pN x=true):SeqAt.EqAt A s u v (eqV y x):=by
 cases y with
 | non =>
  cases ry
  cases x with
  | non=>cases rx;exact SeqAt.EqAt.same _
  | bl b=>cases rx;exact SeqAt.EqAt.none_bool b
  | int b=>obtain ⟨t,rfl⟩:=rx;exact SeqAt.EqAt.none_int b t
  | str b=>obtain ⟨t,rfl⟩:=rx;exact SeqAt.EqAt.none_str b t
  | _=>exact absurd (show false=true from fx) Bool.false_ne_true
 | bl a =>
  cases ry
  cases x with
  | non=>cases rx;exact SeqAt.EqAt.bool_none a
  | bl b=>cases rx;exact SeqAt.EqAt.bool_bool a b
  | int b=>obtain ⟨t,rfl⟩:=rx;exact SeqAt.EqAt.bool_int a b t
  | str b=>obtain ⟨t,rfl⟩:=rx;exact SeqAt.EqAt.bool_str a b t
  | _=>exact absurd (show false=true from fx) Bool.false_ne_true
 | int a =>
  obtain ⟨t',rfl⟩:=ry
  cases x with
  | non=>cases rx;exact SeqAt.EqAt.int_none a t'
  | bl b=>cases rx;exact SeqAt.EqAt.int_bool a t' b
  | int b=>obtain ⟨t,rfl⟩:=rx;exact SeqAt.EqAt.int_int a t' b t
  | str b=>obtain ⟨t,rfl⟩:=rx;exact SeqAt.EqAt.int_str a t' b t
  | _=>exact absurd (show false=true from fx) Bool.false_ne_true
 | str a =>
  obtain ⟨t',rfl⟩:=ry
  cases x with
  | non=>cases rx;exact SeqAt.EqAt.str_none a t'
  | bl b=>cases rx;exact SeqAt.EqAt.str_bool a t' b
  | int b=>obtain ⟨t,rfl⟩:=rx;exact SeqAt.EqAt.str_int a t' b t
  | str b=>obtain ⟨t,rfl⟩:=rx;exact SeqAt.EqAt.str_str a t' b t
  | _=>exact absurd (show false=true from fx) Bool.false_ne_true
 | _=>exact absurd (show false=true from fy) Bool.false_ne_true
def eqU (x:V) (u:Value):Bool:=match u with
 | .none=>eqV .non x
 | .bool b=>eqV (.bl b) x
 | .int i _=>eqV (.int i) x
 | .str z _=>eqV (.str z) x
 | _=>false
theorem FJ {x y:V} {u:Value} (r:RelV y u) (f:pN y=true):eqU x u=eqV y x:=by
 cases y with
 | non=>cases r;rfl
 | bl b=>cases r;rfl
 | int i=>obtain ⟨t,rfl⟩:=r;rfl
 | str z=>obtain ⟨t,rfl⟩:=r;rfl
 | _=>exact absurd (show false=true from f) Bool.false_ne_true
theorem oW {x:V}:∀ {xs:List V} {us:List Value},Vals xs us->xs.all pN=true->us.any (eqU x)=xs.any fun y=>eqV y x
 | _,_,.nil,_=>rfl
 | y::xs,u::us,.cons r t,f=>by
  rw [List.all_cons,Bool.and_eq_true] at f
  rw [List.any_cons,List.any_cons,FJ r f.1,oW t f.2]
theorem kv {A:Around} {s:Shared} {x:V} {v:Value} (rx:RelV x v) (fx:pN x=true):∀ {xs:List V} {us:List Value},Vals xs us->xs.all pN=true->∀ u∈us,SeqAt.EqAt A s u v (eqU x u)
 | _,_,.nil,_=>fun u hu=>by cases hu
 | y::xs,u::us,.cons r t,f=>fun u' hu=>by
  rw [List.all_cons,Bool.and_eq_true] at f
  rcases List.mem_cons.mp hu with rfl | hu
  ·rw [FJ r f.1];exact MJ r rx f.1 fx
  ·exact kv rx fx t f.2 u' hu
def inV (x:V) (xs:List V):Bool:=xs.any fun y=>eqV y x
def rIn (K:PySem.W.Frag) (neg:Bool):R2:=fun x y H Q=>∃ p xs,y=.ref p/\(SqL K H p xs\/SqT K H p xs)/\pN x=true/\xs.all pN=true/\Q (.bl (if neg then !inV x xs else inV x xs)) H
theorem AM:OpR X (compareOp .In) (rIn X.K false):=by
 intro pins s σ H x y v u Q I rx ry h
 obtain ⟨p,xs,rfl,hq,fx,fs,q⟩:=h
 cases ry
 rcases hq with hq | hq
 ·obtain ⟨its,r,pl,hz⟩:=I.list hq
  refine SeqAt.in_listAt (eqU x) pl.isList (fun w hw=>kv rx fx r fs w (by simpa using hw)) ⟨.bl _,H,I,rfl,?_⟩
  rw [show its.toArray.any (eqU x)=its.any (eqU x) by simp,oW r fs]
  exact q
 ·obtain ⟨its,r,pl,hz⟩:=I.tuple hq
  refine SeqAt.in_tupleAt (eqU x) pl (fun w hw=>kv rx fx r fs w (by simpa using hw)) ⟨.bl _,H,I,rfl,?_⟩
  rw [show its.toArray.any (eqU x)=its.any (eqU x) by simp,oW r fs]
  exact q
theorem tP:OpR X (compareOp .NotIn) (rIn X.K true):=by
 intro pins s σ H x y v u Q I rx ry h
 obtain ⟨p,xs,rfl,hq,fx,fs,q⟩:=h
 cases ry
 rcases hq with hq | hq
 ·obtain ⟨its,r,pl,hz⟩:=I.list hq
  refine SeqAt.notIn_listAt (eqU x) pl.isList (fun w hw=>kv rx fx r fs w (by simpa using hw)) ⟨.bl _,H,I,rfl,?_⟩
  rw [show its.toArray.any (eqU x)=its.any (eqU x) by simp,oW r fs]
  exact q
 ·obtain ⟨its,r,pl,hz⟩:=I.tuple hq
  refine SeqAt.notIn_tupleAt (eqU x) pl (fun w hw=>kv rx fx r fs w (by simpa using hw)) ⟨.bl _,H,I,rfl,?_⟩
  rw [show its.toArray.any (eqU x)=its.any (eqU x) by simp,oW r fs]
  exact q
theorem tO:OpR X (compareOp .NotIn) (fun x y H Q=>∃ i j,x=.str i/\y=.str j/\Q (.bl (!(!(Builtin.Str.occurrences j i 0 j.length 1).isEmpty))) H):=by
 intro pins s σ H x y v u Q I rx ry h
 obtain ⟨i,j,rfl,rfl,q⟩:=h
 obtain ⟨t,rfl⟩:=rx
 obtain ⟨t',rfl⟩:=ry
 exact notIn_str ⟨.bl _,H,I,rfl,q⟩
theorem lZ:iD X (.builtin "len") (fun xs H Q=>∃ p ys,xs=[.ref p]/\(SqL X.K H p ys\/SqT X.K H p ys)/\Q (.int ys.length) H):=by
 intro pins s σ H xs us Q I r h
 obtain ⟨p,ys,rfl,hq,q⟩:=h
 obtain ⟨u,rfl,rx⟩:=vals1 r
 cases rx
 have hn:=t5
 rcases hq with hq | hq
 ·obtain ⟨its,r',pl,hz⟩:=I.list hq
  have hlen:=r'.length
  exact Calls.call_len_list pl.isList (by simp only [List.size_toArray]<;>omega) ⟨.int ys.length,H,I.tok _,⟨s.toks+1,by rw [List.size_toArray,hlen]⟩,q⟩
 ·obtain ⟨its,r',pl,hz⟩:=I.tuple hq
  have hlen:=r'.length
  exact len_tuple pl (by simp only [List.size_toArray]<;>omega) ⟨.int ys.length,H,I.tok _,⟨s.toks+1,by rw [List.size_toArray,hlen]⟩,q⟩
theorem uj:iD X (.builtin "len") (fun xs H Q=>∃ z,xs=[.str z]/\z.length<=sizeLine/\Q (.int z.length) H):=by
 intro pins s σ H xs us Q I r h
 obtain ⟨z,rfl,hz,q⟩:=h
 obtain ⟨u,rfl,t,rfl⟩:=vals1 r
 have hn:=t5
 exact len_str ⋯ ⟨.int z.length,H,I.tok _,⟨_,rfl⟩,q⟩
theorem ui:iD X (.type "list") (fun xs H Q=>∃ p ys,xs=[.ref p]/\(SqL X.K H p ys\/SqT X.K H p ys)/\∀ l,H l=none->Q (.ref l) (upd H l (.lst ys))):=by
 intro pins s σ H xs us Q I r h
 obtain ⟨p,ys,rfl,hq,q⟩:=h
 obtain ⟨u,rfl,rx⟩:=vals1 r
 cases rx
 have fin:∀ (its:List Value),Vals ys its->ys.length<=sizeLine->∀ (h':Heap) (c':Nat),(∀ b o',s.heap.get? b=some o'->h'.get? b=some o') ->
   h'.get? s.heap.objs.size=some { cls:=.type "list",dict:=none,data:=.seq its.toArray c',slots := #[] }->EP X pins σ Q (.ref s.heap.objs.size) { s with heap:=h' }:=fun its r' hz h' c' kp e =>
  ⟨.ref s.heap.objs.size,_,I.laid (t':=s.toks) kp ↥38 (show jZ X.prog X.w _ h' _ (.lst ys) from ⟨hz,its,c',r',e⟩),rfl,q _ (I.hok.fresh ↥38)⟩
 rcases hq with hq | hq
 ·obtain ⟨its,r',pl,hz⟩:=I.list hq
  have hlen:=r'.length
  obtain ⟨o,ho,hc,n,hd⟩:=pl.isList
  exact call_list_seq p (.inl rfl) ho hc hd (fun h' c' kp e=>fin its r' hz h' c' kp e) (by simp only [List.size_toArray]<;>omega)
 ·obtain ⟨its,r',pl,hz⟩:=I.tuple hq
  have hlen:=r'.length
  obtain ⟨o,ho,hc,n,hd⟩:=pl
  exact call_list_seq p (.inr rfl) ho hc hd (fun h' c' kp e=>fin its r' hz h' c' kp e) (by simp only [List.size_toArray]<;>omega)
def tyV (K:PySem.W.Frag) (T:String) (x:V) (H:Hp):Prop:=match x with
 | .str _=>T="str"
 | .int _=>T="int"
 | .ref p=>(T="list"/\∃ xs,SqL K H p xs)\/(T="tuple"/\∃ o,K.lookup p=some o/\o.cls=.type "tuple"/\o.dict=none) \/
   (T="dict"/\((∃ kvs,H p=some (.dK kvs))\/∃ kvs,H p=some (.dT kvs)))\/(T="set"/\∃ S n,H p=some (.set S n))
 | _=>False
theorem Fl {pins:List ↥14} {σ:St} {H:Hp} {s:Shared} {T:String} {x:V} {v:Value} (I:Inv X pins σ H s) (r:RelV x v) (ty:tyV X.K T x H) :
  s.TypeIs v T/\∀ a,v=.ref a->∃ ob,s.heap.get? a=some ob/\ob.dict=none:=by
 cases x with
 | str z =>
  obtain ⟨t,rfl⟩:=r
  cases (show T="str" from ty)
  exact ⟨typeIs_str s z t,fun _ e=>nomatch e⟩
 | int i =>
  obtain ⟨t,rfl⟩:=r
  cases (show T="int" from ty)
  exact ⟨typeIs_int s i t,fun _ e=>nomatch e⟩
 | ref p =>
  cases r
  rcases ty with ⟨rfl,xs,hq⟩ | ⟨rfl,o,hk,hc,hd⟩ | ⟨rfl,hk⟩ | ⟨rfl,S,n,hk⟩
  ·obtain ⟨its,_,pl,_⟩:=I.list hq
   refine ⟨pl.isList.typeIs,fun a e => ?_⟩
   cases e
   obtain ⟨o,n,e,c,hd,_⟩:=pl
   exact ⟨o,e,hd⟩
  ·refine ⟨⟨o,I.kIn p o hk,hc⟩,fun a e => ?_⟩
   cases e
   exact ⟨o,I.kIn _ o hk,hd⟩
  ·have z:∃ o,s.heap.get? p=some o/\o.ExactDict:=by
    rcases hk with ⟨kvs,hk⟩ | ⟨kvs,hk⟩
    ·obtain ⟨_,_,_,_,o,_,_,e,ex,_⟩:=I.hok p _ hk
     exact ⟨o,e,ex⟩
    ·obtain ⟨_,_,_,_,o,_,_,e,ex,_⟩:=I.hok p _ hk
     exact ⟨o,e,ex⟩
   obtain ⟨o,e,ex⟩:=z
   refine ⟨⟨o,e,ex.1⟩,fun a e2 => ?_⟩
   cases e2
   exact ⟨o,e,ex.2.1⟩
  ·obtain ⟨o,_,_,_,e,ex,_⟩:=I.hok p _ hk
   refine ⟨⟨o,e,ex.1⟩,fun a e2 => ?_⟩
   cases e2
   exact ⟨o,e,ex.2.1⟩
 | _=>exact False.elim ty
def TV (K:PySem.W.Frag) (T:String) (r:V->List V->Hp->VK->Prop) (to:TE):TE:=fun σ H Q=>to σ H fun x H1=>tyV K T x H1/\r x [] H1 Q
def tBM (K:PySem.W.Frag) (T:String) (r:V->List V->Hp->VK->Prop) (to:TE) (t:TA):TE:=fun σ H Q=>to σ H fun x H1=>tyV K T x H1/\t σ H1 fun xs H2=>r x xs H2 Q
variable {o e:Expr} {es:List Expr} {to:TE} {t:TA} {name:Str} {apos cpos:Pos} {T id:String} {r:V->List V->Hp->VK->Prop}
theorem LG (pa:PlainAttrs T) (slot:Slot T name id) (hty:typeOf (.builtin id)=pure (.type "method_descriptor")) (hm:MtR X id r) (ho:PE X o to)
  (hbase:attributeBase o name X.env (eval o X.env)=eval o X.env:=by rfl) (hline:(apos.endLine == cpos.line)=true:=by rfl):PE X (.Call (.Attribute o name apos) [] [] cpos) (TV X.K T r to):=by
 intro pins s σ H Q I h
 refine wpAny_Call_method0_late hbase hline (thn (ho pins s σ H _ I h) fun v s1 ⟨x,H1,I1,r1,ty,q1⟩ => ?_)
 obtain ⟨h1,h2⟩:=Fl I1 r1 ty
 exact ⟨T,id,pa,slot,hty,h1,h2,Calls.callWith_builtin rfl (PySem.evalArgs_none (hm pins s1 σ H1 x [] v [] Q I1 r1 .nil q1))⟩
theorem LH (pa:PlainAttrs T) (slot:Slot T name id) (hty:typeOf (.builtin id)=pure (.type "method_descriptor")) (hm:MtR X id r) (ho:PE X o to) (ha:PA X (e::es) t)
  (hbase:attributeBase o name X.env (eval o X.env)=eval o X.env:=by rfl)
  (hfew:((backTo cpos (starEach (e::es) X.env)).all (fun x => !x.1)&&(backToKw cpos (keywordEach [] X.env)).all (fun x=>x.1.isSome)
   && decide ((e::es).length+([]:List Keyword).length+(if ([]:List Keyword).isEmpty then 0 else 1)<30))=true:=by rfl)
  (hline:(apos.endLine == cpos.line)=true:=by rfl) (hs:starEach (e::es) X.env=(false,eval e X.env)::starEach es X.env:=by rfl) (hplain:(backTo cpos (starEach es X.env)).any (·.1)=false:=by rfl) :
  PE X (.Call (.Attribute o name apos) (e::es) [] cpos) (tBM X.K T r to t):=by
 intro pins s σ H Q I h
 refine wpAny_Call_method_late hbase hfew hline rfl (thn (ho pins s σ H _ I h) fun v s1 ⟨x,H1,I1,r1,ty,q1⟩ => ?_)
 obtain ⟨h1,h2⟩:=Fl I1 r1 ty
 refine ⟨T,id,pa,slot,hty,h1,h2,?_⟩
 have hA:=ha cpos pins s1 σ H1 _ I1 q1
 rw [hs] at hA ⊢
 refine Calls.callWith_builtin (by show (false||(backTo cpos (starEach es X.env)).any (·.1))=false;rw [hplain]<;>rfl) (Calls.evalArgs_plain ?_)
 exact thn hA fun us s2 ⟨vs,H2,I2,r2,q2⟩=>hm pins s2 σ H2 x vs v us Q I2 r1 r2 q2
/- xs.append(e),list.index on a module's tuple .. are MtR facts of 06m -/
end
end L2
namespace L2
open PySem PySem.Spec PyProof.Rows
def MtM (X:Cx) (id:String) (r:V->List V->Hp->VK->Prop):Prop :=
 ∀ (pins:List ↥14) (s:Shared) (σ:St) (H:Hp) (x:V) (xs:List V) (v:Value) (us:List Value) (Q:VK),Inv X pins σ H s->RelV x v->Vals xs us->r x xs H Q ->
  wpAny ↥8 X.A (call (.builtin id) (v::us)) (EP X pins σ Q) X.xe s
theorem Vals.one:∀ {x:V} {us:List Value},Vals [x] us->∃ u,us=[u]/\RelV x u
 | _,_,.cons r .nil=>⟨_,rfl,r⟩
section
variable {X:Cx} {pins:List ↥14} {σ:St} {H:Hp} {s:Shared} {l b:Addr} {xs ys zs:List V}
theorem Inv.lset {its its':List Value} {n:Nat} {f:Array Value->Array Value} {t':Nat} (I:Inv X pins σ H s) (hH:H l=some (.lst xs))
  (e:s.heap.get? l=some { cls:=.type "list",data:=.seq its.toArray n }) (hf:f its.toArray=its'.toArray) (hv:Vals ys its') (hz:ys.length<=sizeLine) :
  Inv X pins σ (upd H l (.lst ys)) { s with heap:=s.heap.update l (Obj.mapSeq f),toks:=t' }:=by
 have q:=PySem.IsL.update e f
 rw [hf] at q
 refine I.write (x:=l) (e:=l) (by rw [hH];exact trivial) (.inl rfl) (fun b' u hb hu=>(Heap.get?_update_other s.heap (Obj.mapSeq f) (Ne.symm hb)).trans hu) ⟨_,q⟩ ?_
 exact ⟨hz,its',_,hv,q⟩
theorem Inv.lnew {its:List Value} {t':Nat} (I:Inv X pins σ H s) (hv:Vals ys its) (hz:ys.length<=sizeLine) :
  Inv X pins σ (upd H s.heap.objs.size (.lst ys)) { s with heap:=s.heap.push { cls:=.type "list",data:=.seq its.toArray },toks:=t' } :=
 I.laid (fun _ _ q=>Heap.get?_push_of_some _ q) ↥38 ⟨hz,its,0,hv,Heap.get?_push_size _ rfl⟩
theorem Inv.fresh (I:Inv X pins σ H s):H s.heap.objs.size=none:=I.hok.fresh ↥38
theorem Inv.lstM (I:Inv X pins σ H s) (hH:H l=some (.lst xs)):xs.length<=sizeLine/\∃ (its:List Value) (n:Nat),Vals xs its/\xs.length=its.length/\s.heap.get? l=some { cls:=.type "list",data:=.seq its.toArray n }:=by
 obtain ⟨z,its,n,r,e⟩:=I.hok l _ hH
 exact ⟨z,its,n,r,r.length,e⟩
theorem Ec {n:Nat} (h:n<=sizeLine):Builtin.List.listTooLong n=false:=by
 unfold Builtin.List.listTooLong
 exact decide_eq_false ⋯
end
section
variable {X:Cx}
def HE:V->List V->Hp->VK->Prop:=fun x vs H Q=>∃ l xs y,x=.ref l/\vs=[y]/\H l=some (.lst xs)/\xs.length<sizeLine/\Q .non (upd H l (.lst (xs++[y])))
theorem t4:MtM X "list.append" HE:=by
 intro pins s σ H x vs v us Q I rx rv h
 obtain ⟨l,xs,y,rfl,rfl,hH,hz,q⟩:=h
 cases rx
 obtain ⟨u,rfl,ru⟩:=rv.one
 obtain ⟨z,its,n,r,hl,e⟩:=I.lstM hH
 refine call_meets F.slot_list_append ⟨_,e,rfl⟩ F.entry_list_append (F.args_list_append_2 _ _) (PySem.list_append l its.toArray n u (by rw [List.size_toArray];omega)) ⟨e,?_⟩
 refine ⟨.non,_,I.lset (its':=its++[u]) hH e (by simp) (r.append (.cons ru .nil)) ?_,rfl,q⟩
 rw [List.length_append,List.length_singleton]
 omega
end
section
variable {prog:Program} {w:World} {A:Around} {E:Value->Shared->Prop} {s:Shared}
end
section
variable {X:Cx}
end
end L2
namespace Att
open PySem PySem.W PySem.Calls PyProof.Rows
theorem oI {P:Params} {h:Heap}:∀ (ns:List Int) (vs:List Value),WellAll P h vs (ns.map WData.int)->IntsAre vs ns:=by
 intro ns
 induction ns with
 | nil =>
  intro vs w
  rw [List.map_nil] at w
  cases w
  exact .nil
 | cons n ns ih =>
  intro vs w
  rw [List.map_cons] at w
  cases w with
  | cons a b =>
   cases a
   exact .cons _ _ (ih _ b)
theorem Ai {l:OpenLaw} {n:Nat} (hn:l.most=some n) {P:Params} {h:Heap} {args:List WData} {vals:List Value}
  (hpre:l.row.toRowW.claim.pre args=true) (hwl:WellAll P h vals args) :
  ∃ a vs ns,vals=[Value.ref a]/\args=[WData.list (ns.map WData.int)]/\h.get? a=some { cls:=.type "list",data:=.seq vs.toArray }/\IntsAre vs ns/\ns.length<=n:=by
 have hsh:WShape.hasAll [] args [.list .int]=true:=(pre_splitW hpre).1
 have hc:l.pre.holds [] { args:=args }=true:=(pre_splitW hpre).2
 obtain ⟨d,r,rfl,h1,h2⟩:=hasAllW_cons hsh
 obtain rfl:=hasAllW_nil h2
 obtain ⟨xs,rfl,h3⟩:=hasW_list h1
 obtain ⟨ns,rfl⟩:=items_int h3
 have hlen:ns.length<=n:=by
  unfold OpenLaw.pre at hc
  have h4:(WTm.not (.lt (.lit (.int (n:Int))) (.len (.arg 0)))).holds [] { args:=[.list (ns.map .int)] }=true:=by
   have h4:=(holds_andW hc).1
   rw [hn] at h4
   exact h4
  have h5:=condW_of h4 (w_not (w_lt w_lit (w_len_list (w_arg rfl))))
  rw [List.length_map] at h5
  refine Nat.le_of_not_lt fun q => ?_
  have q':(n:Int)<((ns.length:Nat):Int):=⋯
  first
   | (rw [decide_eq_true q'] at h5;exact absurd h5 ↥1)
   | (simp at h5;omega)
 cases hwl with
 | cons w1 w2 =>
  cases w2
  cases w1 with
  | list ho hall=>exact ⟨_,_,ns,rfl,rfl,ho,oI ns _ hall,hlen⟩
theorem AH (l:OpenLaw) (args:List WData):l.row.toRowW.claim.post args (.bool true) args=true :=
 postW_of (r:=l.row.toRowW) (X:=(true == true))
  (show WShape.has [] (.bool true) .bool=true by first | rfl | decide | simp [WShape.has,WShape.arms,WShape.armsAll])
  (show (WTm.eq .res (.lit (.bool true))).value [] { args:=args,res:=some (.bool true),after:=args }=some (.bool (true == true)) from w_eq_bool (w_res rfl) w_lit) rfl
section
variable {prog:Program} {w:World} {A:Around} {E:Value->Shared->Prop} {s:Shared} {K:Frag}
def ledger (h:Heap) (L d:Addr):List ↥14:=(List.range h.objs.size).filterMap fun a=>if a=L\/a=d then none else (h.get? a).map fun o=>(a,o)
end
end Att
namespace L2
open PySem PySem.Spec PyProof.Rows
theorem sO:∀ {vs:List Value} {ns:List Int},IntsAre vs ns->Vals (ns.map V.int) vs
 | _,_,.nil=>.nil
 | _,_,.cons n t h=>.cons ⟨t,rfl⟩ (sO h)
def Tj (H:Hp):Prop:=∀ b,H b=none\/∃ o xs,H b=some (.frz o (.lst xs))
theorem Ek {P:Program} {w:World} {K:PySem.W.Frag} {mg mb:Str->Option Value} {CX:CXT} {k:Nat} {fa a:Addr} {fd:FuncData} {x:Str} {sp:Sp} {s₁:Shared} {vs:List Value} {ns:List Int}
  (KX:K.In s₁.heap) (hns:s₁.heap.Ns mainGlobals mg) (hb:s₁.heap.Ns builtinsNs mb) (hbb:∀ x:Str,x≠"__name__"->mb x=bootBuiltins x) (hlim:s₁.heap.NoLimit) (hg:s₁.gens = #[])
  (ha:s₁.heap.get? a=some { cls:=.type "list",data:=.seq vs.toArray }) (hi:IntsAre vs ns) (hl:ns.length<=sizeLine) (hr:Room k callerA)
  (F:∀ base:Heap,K.In base->base.Ns mainGlobals mg->FnOk P w K mg base CX k fa fd [x] sp) (hbind:∀ (s:Shared) (u:Value),BindsTo s fd ⟨[u],[]⟩ [(x,u)])
  (hsp:∀ H:Hp,Tj H->SqL K H a (ns.map V.int)->sp [.ref a] H (fun v _=>v=.bl true) fun _ _ _=>False)
  (hCX:∀ H e s',CX [] H s₁ (fun _ _ _=>False) e s'->False) :
  codeAny (model P w) callerA (.call (.ref fa) ⟨[.ref a],[]⟩) (fun r s'=>r=.ok (.ret (.bool true))/\OldK s₁.heap s'.heap/\s'.os=s₁.os/\AllBare s'.gens) s₁:=by
 have rv:=sO hi
 have lenV:=hi.length
 have core:∀ H:Hp,Tj H->SqL K H a (ns.map V.int)->HOk P w H s₁.heap->(∀ b,H b≠none->b=a)->(H a≠none->K.lookup a=none) ->
   codeAny (model P w) callerA (.call (.ref fa) ⟨[.ref a],[]⟩) (fun r s'=>r=.ok (.ret (.bool true))/\OldK s₁.heap s'.heap/\s'.os=s₁.os/\AllBare s'.gens) s₁:=by
  intro H hO hS hok hA hK
  have base_of:∀ {b:Addr} {o:Obj},s₁.heap.get? b=some o->H b=none->(Eo s₁.heap H).get? b=some o:=fun e n=>En e n
  have noA:∀ {b:Addr} {o:Obj} {es:Array DictEntry} {ep:Nat},s₁.heap.get? b=some o->o.data=.dict es ep->H b=none:=fun {b o es ep} e d=>by
   cases q:H b with
   | none=>rfl
   | some u =>
    have e':b=a:=hA b (by rw [q];simp)
    subst e'
    rw [ha] at e;cases e
    have d':Data.seq vs.toArray _=Data.dict es ep:=d
    cases d'
  have nsK:∀ {b:Addr} {m:Str->Option Value},s₁.heap.Ns b m->(Eo s₁.heap H).Ns b m:=fun {b m} ⟨o,es,ep,e,d,r⟩=>⟨o,es,ep,base_of e (noA e d),d,r⟩
  have hKb:K.In (Eo s₁.heap H):=fun b o e=>base_of (KX b o e) (by
   cases q:H b with
   | none=>rfl
   | some u =>
    have e':b=a:=hA b (by rw [q];simp)
    subst e'
    rw [hK (by rw [q];simp)] at e;cases e)
  have hM:Mod K mg (Eo s₁.heap H):=⟨hKb,nsK hns,⟨mb,nsK hb,hbb⟩,let ⟨mc,h1,h2⟩:=hlim;⟨mc,nsK h1,h2⟩⟩
  have e0:Env0 P w K mg (Eo s₁.heap H) callerA [] s₁ H:=⟨rfl,hM,fun b o e=>Ii e,Nat.le_of_eq (Bv _ _),trivial,fun b hb=>absurd (show b∈([]:List Addr) from hb) (by simp),hok,.of_eq hg⟩
  refine codeAny_mono ((F _ hKb (nsK hns)).run callerA [] s₁ H ⟨[.ref a],[]⟩ [.ref a] [.ref a] _ _ hr e0 (hbind s₁ (.ref a)) (.cons rfl .nil) (hsp H hO hS)) fun r s' h => ?_
  cases r with
  | error e=>exact (hCX H e s' h).elim
  | ok fl =>
   cases fl with
   | next=>exact False.elim h
   | brk=>exact False.elim h
   | cont=>exact False.elim h
   | ret u =>
    obtain ⟨v,H',os,bare,un,hok',r',q⟩:=h
    have q':v=.bl true:=q
    subst q'
    obtain rfl:u=Value.bool true:=r'
    refine ⟨rfl,OldK.of_keep fun b o e => ?_,os,bare⟩
    cases q:H b with
    | none=>exact un.keep b o e q (by intro z;exact absurd (show b∈([]:List Addr) from z) (by simp)) (by simp)
    | some u =>
     rcases hO b with z | ⟨ob,xs,z⟩
     ·rw [q] at z;cases z
     ·have z2:=un.frzs b ob _ z
      obtain ⟨e1,_⟩:=hok b _ z
      obtain ⟨e2,_⟩:=hok' b _ z2
      rw [e] at e1;cases e1
      exact e2
 cases hk:K.lookup a with
 | some o =>
  have e:=KX a o hk
  rw [ha] at e
  cases e
  refine core (fun _=>none) (fun _=>.inl rfl) (.inr ⟨_,vs.toArray,_,hk,rfl,rfl,rfl,by rw [List.size_toArray,lenV];exact hl,by simpa using rv⟩) (fun b u z=>by have z':(none:Option HO)=some u:=z;cases z') (fun b z=>absurd rfl z) fun z=>absurd rfl z
 | none =>
  refine core (fun b=>if b=a then some (.frz { cls:=.type "list",data:=.seq vs.toArray } (.lst (ns.map V.int))) else none) (fun b => ?_) (.inl (.inr ⟨{ cls:=.type "list",data:=.seq vs.toArray },if_pos rfl⟩)) (fun b u z => ?_) (fun b z => ?_) fun _=>hk
  ·by_cases hb:b=a
   ·exact .inr ⟨_,_,if_pos hb⟩
   ·exact .inl (if_neg hb)
  ·by_cases hb:b=a
   ·have z':=(if_pos hb).symm.trans z
    cases z'
    subst hb
    exact ⟨ha,by rw [List.length_map];exact hl,vs,_,rv,ha⟩
   ·have z':=(if_neg hb).symm.trans z
    cases z'
  ·by_cases hb:b=a
   ·exact hb
   ·exact absurd (if_neg hb) z
end L2
namespace L2
open PySem PySem.Spec PyProof.Rows
abbrev KOf {K:PySem.W.Frag} {h:Heap} (_:K.In h):PySem.W.Frag:=K
end L2
/- THE LAST THEOREM (shape;LID,My.* are yours):
   My.Adr: a structure of the addresses that your layer names (classes,functions);My.Txt K t: a structure (Prop) of the equations over K;
   My.txt_mk:{K} {implicit addresses ..} (e1:nsIn K mainGlobals "law"=some (some (.ref f))) (e2:K.lookup f=some ⟨oc,od,.func (fnOf "law" "law" params body scope dV kV doc pm an cdv ct),sl⟩) (e3:codeIn K cdv "law"=true) .. : ∃ t,My.Txt K t
set_option maxHeartbeats 0 in
theorem PySem.Challenge.cw_LID_holds : PySem.Challenge.rw_LID.Holds := by
 w_on;o_law;k_head;(case hw=>w_witness2)
 k_fill
 refine L2.walk_of (l:=PySem.Challenge.rw_LID) (n:=63) (k:=40) (x:="script") (CX:=fun w=>..) (sp:=fun _=>My.sp_law) rfl ↥1 rfl ⟨rfl,by decide,by decide⟩ (fun w h Y=>PySem.W.kIn_of Y) ?F ?S ?C
 case F =>
  intro w mg fa h KX G hmg
  have T:∃ t,My.Txt (L2.KOf KX) t:=by
   dsimp only [L2.KOf]                          -- K must Hk as «<heap const> w.params» for k_is
   refine' My.txt_mk ?e1 ?e2 ?e3 ..
   (case e1=>PySem.W.k_is)                    -- in the order: a name->its address->its object->its parts
   (case e2=>PySem.W.k_is)
   ..
  obtain ⟨t,T⟩:=T
  have e0:=hmg.symm.trans (PySem.W.mg_of KX G T.law)
  cases e0                                       -- fa is the law's own address
  exact ⟨_,fun s u=>.of_eq rfl,fun base kb nb=>My.law_fn T kb nb⟩     -- if «.of_eq rfl» comes too early: refine' ⟨_,?b,fun base kb nb=>My.law_fn T kb nb⟩;exact fun s u=>.of_eq rfl
 case S=>exact fun w H a ns hl hO hS=>..
 case C=>exact ..
(the tactic k_is has no namespace: write k_is) -/
namespace L2
open PySem PySem.Spec PyProof.Rows
def gB (s:Stmt):Arguments:=match s with
 | .FunctionDef _ a _ _ _ _ _ _ _ _=>a
 | _=>{ posonlyargs:=[],args:=[],vararg:=none,kwonlyargs:=[],kw_defaults:=[],kwarg:=none,defaults:=[] }
def aj (s:Stmt):List Stmt:=match s with
 | .FunctionDef _ _ b _ _ _ _ _ _ _=>b
 | _=>[]
def aa (s:Stmt):Scope:=match s with
 | .FunctionDef _ _ _ _ _ _ sc _ _ _=>sc
 | _=>{ kind:=.function,names:=[],isGenerator:=false,isCoroutine:=false }
abbrev CX0:CXT:=fun _ _ _ _ _ _=>False
abbrev E0:XK:=fun _ _ _=>False
theorem Of {X:Cx}:Passes CX0 X E0:=fun _ _ _ _ _ _ _ h=>h.elim
structure Fun (K:PySem.W.Frag) (x qual:Str) (st:Stmt) (f:Addr) (fd:FuncData):Prop where
 ex:∃ (oc:Value) (od:Option Addr) (kV doc pm:Value) (an:Option Addr) (cdv ct:Value) (osl:Array (Option Value)),
  fd=PySem.W.fnOf x qual (gB st) (aj st) (aa st) .none kV doc pm an cdv ct/\K.lookup f=some ⟨oc,od,.func fd,osl⟩/\PySem.W.codeIn K cdv qual=true
 kp:PySem.W.keepIn K (.ref f)=true
section
variable {P:Program} {w:World} {K:PySem.W.Frag} {mg:Str->Option Value} {base:Heap}
theorem Fun.ok {x qual:Str} {st:Stmt} {f:Addr} {fd:FuncData} {N ps:List Str} {k:Nat} {sp:Sp} (F:Fun K x qual st f fd) (S:FnScope N ps (aa st)) (len:∀ vs H Q E,sp vs H Q E->vs.length=ps.length)
  (hbody:∀ (cdv:Value) (A:Around) (outer:List Env) (s:Shared) (H:Hp) (vs:List V) (Q:VK) (E:XK),Room k (A.deeper (envOfC qual (aa st) s.heap.objs.size f cdv))->sp vs H Q E ->
   ∃ t,PSs (BN CX0 P w K mg base N qual (aa st) f cdv A outer s H E).nox (aj st) t/\t { nx:=fun _ H'=>Q .non H',rt:=Q } (start N vs) H):FnOk P w K mg base CX0 (k+1) f fd ps sp:=by
 obtain ⟨oc,od,kV,doc,pm,an,cdv,ct,osl,rfl,lk,hcd⟩:=F.ex
 refine MF lk hcd S len fun A outer s H vs Q E hr hsp => ?_
 obtain ⟨t,h,q⟩:=hbody cdv A outer s H vs Q E hr hsp
 exact ⟨t,h.nox,q⟩
theorem Fun.binds {x qual:Str} {st:Stmt} {f:Addr} {fd:FuncData} {ps:List Str} (F:Fun K x qual st f fd)
  (h:∀ (kV doc pm:Value) (an:Option Addr) (cdv ct:Value) (us:List Value),us.length=ps.length->bindArgs ↥4 ⟨us,[]⟩=pure (ps.zip us)):Binds K fd ps []:=by
 obtain ⟨oc,od,kV,doc,pm,an,cdv,ct,osl,rfl,lk,hcd⟩:=F.ex
 exact .all (h kV doc pm an cdv ct)
theorem p8 {x qual:Str} {st:Stmt} {f:Addr} {oc:Value} {od an:Option Addr} {osl:Array (Option Value)} {kV doc pm cdv ct:Value} (l:K.lookup f=some ⟨oc,od,.func ↥4,osl⟩)
  (c:PySem.W.codeIn K cdv qual=true) (k:PySem.W.keepIn K (.ref f)=true):Fun K x qual st f ↥4:=⟨⟨oc,od,kV,doc,pm,an,cdv,ct,osl,rfl,l,c⟩,k⟩
end
theorem j3 {n:Nat} (h:n<=1000):n<sizeLine:=Nat.lt_of_le_of_lt h ↥1
section
variable {X:Cx}
end
theorem IV {A B:Prop} (h:B):if false=true then A else B:=by
 rw [if_neg Bool.false_ne_true]
 exact h
theorem IU {A B:Prop} (h:A):if true=true then A else B:=by
 rw [if_pos rfl]
 exact h
def aD (H H':Hp):Prop:=∀ b o,H b=some o->H' b=some o
theorem aD.refl (H:Hp):aD H H:=fun _ _ h=>h
theorem aD.trans {H H1 H2:Hp} (a:aD H H1) (b:aD H1 H2):aD H H2:=fun c o h=>b c o (a c o h)
theorem aD.seq {K:PySem.W.Frag} {H H':Hp} {a:Addr} {xs:List V} (e:aD H H') (h:SqL K H a xs):SqL K H' a xs:=by
 rcases h with (h | ⟨o,h⟩) | h
 ·exact .inl (.inl (e _ _ h))
 ·exact .inl (.inr ⟨o,e _ _ h⟩)
 ·exact .inr h
end L2
namespace EV
open PySem (Str)
inductive D where
 | non | bl (b:Bool) | int (i:Int) | str (x:Str) | tup (ds:List D) | lst (ds:List D) | own (ds:List D)
 | ty (n:String) | cls (n:String) | exc (n:String) | ins (n:String) (fs:List (String×D))
noncomputable instance:Inhabited D:=⟨.non⟩
inductive R (α:Type) where
 | ok (a:α) | ex (C:String) | bad
namespace R
def bind {α β:Type}:R α->(α->R β)->R β
 | .ok a,f=>f a
 | .ex C,_=>.ex C
 | .bad,_=>.bad
end R
abbrev Dt:=List (Option D)
abbrev E:=Dt->R D
inductive O where
 | nx (δ:Dt) | rt (d:D) | bk (δ:Dt) | ct (δ:Dt) | ex (C:String) (δ:Dt) | mk (C:String) (δ:Dt) | hx (C:String) (δ:Dt) | bad
abbrev S:=Dt->O
def pw (k:Int):Int:=2^k.toNat
def nb (i:Int):Nat:=if i=0 then 0 else i.natAbs.log2+1
def MulOk (i j:Int):Prop:=nb i+nb j<=134217728
def fP (i j:Int):Prop:=0<j/\(nb j<=9000\/nb i<=nb j+4000)
noncomputable instance {i j:Int}:Decidable (MulOk i j):=inferInstanceAs (Decidable (_<=_))
noncomputable instance {i j:Int}:Decidable (fP i j):=inferInstanceAs (Decidable (_/\_))
def bx:D->D->R D
 | .int i,.int j=>.ok (.int (i+j))
 | .str x,.str y=>if x.cps.size+y.cps.size<=1000000 then .ok (.str ⟨x.cps++y.cps⟩) else .bad
 | .lst xs,.lst ys=>if xs.length+ys.length<=100000 then .ok (.lst (xs++ys)) else .bad
 | .tup xs,.tup ys=>if xs≠[]/\xs.length+ys.length<=100000 then .ok (.tup (xs++ys)) else .bad
 | _,_=>.bad
def bT:D->D->R D
 | .int i,.int j=>.ok (.int (i - j))
 | _,_=>.bad
def cW:D->D->R D
 | .int i,.int j=>if MulOk i j then .ok (.int (i*j)) else .bad
 | _,_=>.bad
def oDiv:D->D->R D
 | .int i,.int j=>if fP i j then .ok (.int (i / j)) else .bad
 | _,_=>.bad
def oMod:D->D->R D
 | .int i,.int j=>if 0<j then .ok (.int (i%j)) else .bad
 | _,_=>.bad
def bH:D->D->R D
 | .int i,.int j=>if 0<=j/\(nb i:Int)+j<=134217728 then .ok (.int (i*pw j)) else .bad
 | _,_=>.bad
def tY:D->D->R D
 | .int i,.int j=>if 0<=j then .ok (.int (i / pw j)) else .bad
 | _,_=>.bad
def AN:D->D->R D
 | .int i,.int j=>if 0<=j/\(nb i:Int)*j<=134217728 then .ok (.int (i^j.toNat)) else .bad
 | _,_=>.bad
def rq:D->D->R D
 | .int i,.int j=>if 0<=i/\0<=j then .ok (.int ((i.toNat &&& j.toNat:Nat):Int)) else .bad
 | _,_=>.bad
def Cz:D->D->R D
 | .int i,.int j=>if 0<=i/\0<=j then .ok (.int ((i.toNat ||| j.toNat:Nat):Int)) else .bad
 | _,_=>.bad
def eZ:D->D->R D
 | .int i,.int j=>if 0<=i/\0<=j then .ok (.int ((i.toNat ^^^ j.toNat:Nat):Int)) else .bad
 | _,_=>.bad
def Im:D->R D
 | .int i=>.ok (.int (-i))
 | _=>.bad
def oLt:D->D->R D
 | .int i,.int j=>.ok (.bl (decide (i<j)))
 | _,_=>.bad
def oLe:D->D->R D
 | .int i,.int j=>.ok (.bl (decide (i<=j)))
 | _,_=>.bad
def oGt:D->D->R D
 | .int i,.int j=>.ok (.bl (decide (j<i)))
 | _,_=>.bad
def oGe:D->D->R D
 | .int i,.int j=>.ok (.bl (decide (j<=i)))
 | _,_=>.bad
mutual
def D.beq:D->D->Bool
 | .non,.non=>true
 | .bl a,.bl b=>a == b
 | .bl a,.int b=>(if a then 1 else 0) == b
 | .int a,.bl b=>a == (if b then 1 else 0)
 | .int a,.int b=>a == b
 | .str a,.str b=>a == b
 | .tup a,.tup b=>D.beqs a b
 | .lst a,.lst b=>D.beqs a b
 | _,_=>false
def D.beqs:List D->List D->Bool
 | [],[]=>true
 | a::as,b::bs=>D.beq a b&&D.beqs as bs
 | _,_=>false
end
def D.sc:D->Bool
 | .non=>true | .bl _=>true | .int _=>true | .str _=>true
 | _=>false
def D.pl:Nat->D->Bool
 | _,.non=>true
 | _,.bl _=>true
 | _,.int _=>true
 | _,.str x=>x.cps.all (· < 0x110000)
 | n+1,.tup ds=>ds.all (D.pl n)
 | n+1,.lst ds=>ds.all (D.pl n)
 | _,_=>false
def D.cmp (a b:D):Bool:=(a.sc&&b.sc)||(D.pl 8 a&&D.pl 8 b)
def oEq (a b:D):R D:=if D.cmp a b then .ok (.bl (D.beq a b)) else .bad
def oNe (a b:D):R D:=if D.cmp a b then .ok (.bl (!D.beq a b)) else .bad
def vE:D->R D
 | .non=>.ok ↥26
 | _=>.ok ↥35
def vC:D->R D
 | .non=>.ok ↥35
 | _=>.ok ↥26
def isIn (x:D) (ys:List D):Option Bool:=if x.sc&&ys.all D.sc then some (ys.any fun y=>D.beq y x) else none
def oIn (a b:D):R D:=match a,b with
 | .str x,.str y=>match x.cps.toList with | [c]=>.ok (.bl (decide (c∈y.cps.toList))) | _=>.bad
 | a,.tup ds=>match isIn a ds with | some k=>.ok (.bl k) | none=>.bad
 | a,.lst ds=>match isIn a ds with | some k=>.ok (.bl k) | none=>.bad
 | _,_=>.bad
def eC (a b:D):R D:=(oIn a b).bind fun d=>match d with | .bl k=>.ok (.bl (!k)) | _=>.bad
def ixN (n:Nat) (i:Int):Option Nat:=if 0<=i then (if i<n then some i.toNat else none) else if -(n:Int)<=i then some (i+n).toNat else none
def oIx:D->D->R D
 | .tup ds,.int i=>match (ixN ds.length i).bind fun j=>ds[j]? with | some d=>.ok d | none=>.bad
 | .lst ds,.int i=>match (ixN ds.length i).bind fun j=>ds[j]? with | some d=>.ok d | none=>.bad
 | .str x,.int i=>if x.cps.size<=1000000 then (match (ixN x.cps.toList.length i).bind fun j=>x.cps.toList[j]? with | some c=>.ok (.str ⟨#[c]⟩) | none=>.bad) else .bad
 | _,_=>.bad
def sIx (n d:Nat):Option Int->Nat
 | none=>d
 | some i=>if i<0 then (i+n).toNat else min i.toNat n
def cut {α:Type} (xs:List α) (lo hi:Option Int):List α:=(xs.drop (sIx xs.length 0 lo)).take (sIx xs.length xs.length hi - sIx xs.length 0 lo)
def oSl:D->Option Int->Option Int->R D
 | .tup ds,lo,hi=>if sIx ds.length 0 lo=0/\sIx ds.length ds.length hi=ds.length then .bad else .ok (.tup (cut ds lo hi))
 | .lst ds,lo,hi=>.ok (.lst (cut ds lo hi))
 | _,_,_=>.bad
def var (i:Nat):E:=fun δ=>match δ[i]? with
 | some (some (.own _))=>.bad
 | some (some d)=>.ok d
 | _=>.bad
def con (d:D):E:=fun _=>.ok d
def un (f:D->R D) (a:E):E:=fun δ=>(a δ).bind f
def bin (f:D->D->R D) (a b:E):E:=fun δ=>(a δ).bind fun x=>(b δ).bind fun y=>f x y
def truth {β:Type} (d:D) (t f:R β):R β:=match d with
 | .bl true=>t
 | .bl false=>f
 | _=>.bad
def eB (a b:E):E:=fun δ=>(a δ).bind fun d=>truth d (b δ) (.ok ↥35)
def or_ (a b:E):E:=fun δ=>(a δ).bind fun d=>truth d (.ok ↥26) (b δ)
def uY (a:E):E:=fun δ=>(a δ).bind fun d=>truth d (.ok ↥35) (.ok ↥26)
def ife (c a b:E):E:=fun δ=>(c δ).bind fun d=>truth d (a δ) (b δ)
def chain (f g:D->D->R D) (a b c:E):E:=fun δ=>(a δ).bind fun x=>(b δ).bind fun y=>(f x y).bind fun d=>truth d ((c δ).bind fun z=>g y z) (.ok ↥35)
def evs:List E->Dt->R (List D)
 | [],_=>.ok []
 | e::es,δ=>(e δ).bind fun d=>(evs es δ).bind fun ds=>.ok (d::ds)
def cF (es:List E):E:=fun δ=>(evs es δ).bind fun ds=>.ok (.tup ds)
def rG (es:List E):E:=fun δ=>(evs es δ).bind fun ds=>.ok (.lst ds)
def call (f:List D->R D) (es:List E):E:=fun δ=>(evs es δ).bind f
def part:Option E->Dt->R (Option Int)
 | none,_=>.ok none
 | some e,δ=>(e δ).bind fun d=>match d with | .int i=>.ok (some i) | _=>.bad
def slc (a:E) (lo hi:Option E):E:=fun δ=>(a δ).bind fun d=>(part lo δ).bind fun l=>(part hi δ).bind fun h=>oSl d l h
/- data without a list -/
mutual
def D.flat:D->Bool
 | .lst _=>false
 | .own _=>false
 | .tup ds=>D.flats ds
 | .ins _ fs=>D.flatf fs
 | _=>true
def D.flats:List D->Bool
 | []=>true
 | d::r=>D.flat d&&D.flats r
def D.flatf:List (String×D)->Bool
 | []=>true
 | (_,d)::r=>D.flat d&&D.flatf r
end
abbrev IT:=Dt->R (List D)
def Lf (lo hi:Int):List D:=(List.range (hi - lo).toNat).map fun (k:Nat)=>D.int (lo+k)
def asL:D->R (List D)
 | .lst ds=>.ok ds
 | _=>.bad
def asT:D->R (List D)
 | .tup ds=>.ok ds
 | _=>.bad
def asA:D->R (List D)
 | .lst ds=>.ok ds
 | .tup ds=>.ok ds
 | _=>.bad
def Nh:D->R (List D)
 | .int hi=>if -(2^62)<=hi/\hi<2^62 then .ok (Lf 0 hi) else .bad
 | _=>.bad
def Ng:List D->R (List D)
 | [.int lo,.int hi]=>if -(2^62)<=lo/\lo<2^62 /\ -(2^62)<=hi/\hi<2^62 then .ok (Lf lo hi) else .bad
 | _=>.bad
def O7 (lo hi c:Int):List D:=(List.range (if lo<hi then (hi - lo - 1) / c+1 else 0).toNat).map fun (k:Nat)=>D.int (lo+k*c)
def Nf:List D->R (List D)
 | [.int lo,.int hi,.int c]=>if (-(2^40)<=lo/\lo<2^40 /\ -(2^40)<=hi/\hi<2^40)/\0<c/\c<2^20 then .ok (O7 lo hi c) else .bad
 | _=>.bad
def itL (g:E):IT:=fun δ=>(g δ).bind asL
def itT (g:E):IT:=fun δ=>(g δ).bind asT
def itA (g:E):IT:=fun δ=>(g δ).bind asA
def VM (g:E):IT:=fun δ=>(g δ).bind Nh
def VJ (a b:E):IT:=fun δ=>(evs [a,b] δ).bind Ng
def VI (a b c:E):IT:=fun δ=>(evs [a,b,c] δ).bind Nf
def lM {α:Type} (r:R α):R α:=match r with
 | .ex _=>.bad
 | r=>r
def inC (ks:List Nat) (δ:Dt) (x:D):Dt:=some x::ks.map fun k=>δ.getD k none
def dC (rs:List D):R D:=if D.flats rs then .ok (.lst rs) else .bad
def runC (st:D->R (Option D)):List D->R (List D)
 | []=>.ok []
 | d::ds=>(st d).bind fun o=>(runC st ds).bind fun rs=>.ok (match o with | some r=>r::rs | none=>rs)
def stC (c elt:E) (ks:List Nat) (δ:Dt) (x:D):R (Option D):=(lM (c (inC ks δ x))).bind fun d=>truth d ((lM (elt (inC ks δ x))).bind fun r=>.ok (some r)) (.ok none)
def gw (it:IT) (ks:List Nat) (c elt:E):E:=fun δ=>(it δ).bind fun ds=>if ds.length<=100000 then (runC (stC c elt ks δ) ds).bind dC else .bad
def comp (it:IT) (ks:List Nat) (elt:E):E:=gw it ks (con ↥26) elt
def zy (cn f:String):D->R D
 | .ins n fs=>if n == cn then (match fs.lookup f with | some d=>.ok d | none=>.bad) else .bad
 | _=>.bad
def f9 (cn m:String):D->Bool
 | .ins n fs=>n == cn&&(fs.lookup m).isNone
 | _=>false
def IK (cn m:String) (F:List D->R D) (o:E) (es:List E):E:=fun δ=>(o δ).bind fun d=>if f9 cn m d then (evs es δ).bind fun ds=>F (d::ds) else .bad
def mk1 (cn f:String):List D->R D
 | [d]=>.ok (.ins cn [(f,d)])
 | _=>.bad
def zu:List D->R D
 | [.lst ds]=>.ok (.int ds.length)
 | [.tup ds]=>.ok (.int ds.length)
 | [.str x]=>if x.cps.size<=1000000 then .ok (.int x.cps.size) else .bad
 | _=>.bad
def FW:List D->R D
 | [.int i]=>.ok (.int (if i<0 then -i else i))
 | _=>.bad
def B8:List D->R D
 | [.int i,.int j]=>.ok (.int (if j>i then j else i))
 | _=>.bad
def E1:List D->R D
 | [.int i,.int j]=>.ok (.int (if j<i then j else i))
 | _=>.bad
def CC:List D->R D
 | [.int i]=>.ok (.int i)
 | [.bl k]=>.ok (.int (if k then 1 else 0))
 | _=>.bad
def MU:List D->R D
 | [.lst ds]=>.ok (.lst ds)
 | [.tup ds]=>.ok (.lst ds)
 | _=>.bad
def intsOf:List D->Option (List Int)
 | []=>some []
 | .int i::r=>(intsOf r).map (i::·)
 | _=>none
def JO:List D->R D
 | [.lst ds]=>match intsOf ds with | some ns=>.ok (.int (ns.foldl (· + ·) 0)) | none=>.bad
 | _=>.bad
def iW:List D->R D
 | [.int i]=>.ok (.int (nb i))
 | _=>.bad
def ax:List String:=["MillError","NoSize","NoBits","NoParts","NoRank","NotFinite","NoWay","NoFlags","NoFraction","Unlike","Empty","NoLeft","NoText","NoRow","NoName","Stopped"]
def EA (C B:String):Bool:=ax.contains C&&(C == B||B == "MillError")
def tyR (n:String) (b:Bool):R D:=if ["int","bool","str","tuple","list","ValueError"].contains n then .ok (.bl b) else .bad
def VO (B:String):D->R D
 | .exc C=>if ax.contains C&&ax.contains B then .ok (.bl (C == B||B == "MillError")) else .bad
 | .non=>if ax.contains B then .ok ↥35 else .bad
 | _=>.bad
def VN (n:String):D->R D
 | .exc C=>if ax.contains C&&n == "ValueError" then .ok ↥26 else .bad
 | .non=>tyR n false
 | .bl _=>tyR n (n == "int"||n == "bool")
 | .int _=>tyR n (n == "int")
 | .str _=>tyR n (n == "str")
 | .tup _=>tyR n (n == "tuple")
 | .lst _=>tyR n (n == "list")
 | _=>.bad
def pR:List D->R D
 | [d,.cls B]=>VO B d
 | [d,.ty n]=>VN n d
 | _=>.bad
theorem ir (h:(if c=true then R.ok (D.bl x) else .bad)=.ok (.bl k)):c=true/\x=k:=by
 cases c with
 | true=>cases h;exact ⟨rfl,rfl⟩
 | false=>cases h
theorem Mt (e:r=if b=true then R.ok (D.bl x) else .bad):(∃ d' c' k,[d,c]=[d',c']/\r=.ok (.bl k))\/r=.bad:=by
 subst e
 cases b with
 | true=>exact .inl ⟨_,_,_,rfl,rfl⟩
 | false=>exact .inr rfl
def p7 (d:D):List D->R D
 | []=>.ok ↥35
 | c::r=>(pR [d,c]).bind fun x=>truth x (.ok ↥26) (p7 d r)
def O2:List D->R D
 | [d,.tup cs]=>p7 d cs
 | _=>.bad
def noOwn (δ:Dt):Dt:=δ.map fun c=>match c with | some (.own _)=>none | c=>c
def view (δ:Dt):Dt:=δ.map fun c=>match c with | some (.own ds)=>some (.lst ds) | c=>c
def aq:S:=.nx
def asg (i:Nat) (δ:Dt) (r:R D):O:=match r with
 | .ok d=>.nx (δ.set i (some d))
 | .ex C=>.ex C (noOwn δ)
 | .bad=>.bad
def xpr (δ:Dt) (r:R D):O:=match r with
 | .ok _=>.nx δ
 | .ex C=>.ex C (noOwn δ)
 | .bad=>.bad
def rtn (δ:Dt) (r:R D):O:=match r with
 | .ok d=>.rt d
 | .ex C=>.ex C (noOwn δ)
 | .bad=>.bad
def ifO (δ:Dt) (r:R D) (a b:O):O:=match r with
 | .ok ↥26=>a
 | .ok ↥35=>b
 | .ex C=>.ex C (noOwn δ)
 | _=>.bad
def assign (i:Nat) (g:E):S:=fun δ=>asg i δ (g δ)
def expr (g:E):S:=fun δ=>xpr δ (g δ)
def ret (g:E):S:=fun δ=>rtn δ (g δ)
def T3:S:=fun _=>.rt .non
def T2 (g:E):S:=fun δ=>rtn δ (g (view δ))
def LL (i:Nat):S:=fun δ=>.nx (δ.set i (some (.own [])))
def lL (i:Nat) (δ:Dt) (f:List D->O):O:=match δ[i]? with
 | some (some (.own ds))=>f ds
 | _=>.bad
def JZ (i:Nat) (δ:Dt) (ds:List D) (r:R D):O:=match r with
 | .ok d=>if D.flat d=true/\ds.length<100000 then .nx (δ.set i (some (.own (ds++[d])))) else .bad
 | .ex C=>.ex C (noOwn δ)
 | .bad=>.bad
def tM (i:Nat) (g:E):S:=fun δ=>lL i δ fun ds=>JZ i δ ds (g (view δ))
def LK (i:Nat):S:=fun δ=>lL i δ fun ds=>.nx (δ.set i (some (.own ds.reverse)))
def MX (i:Nat) (δ:Dt) (r:R D):O:=match r with
 | .ok d=>if D.flat d=true then .nx (δ.set i (some d)) else .bad
 | .ex C=>.ex C (noOwn δ)
 | .bad=>.bad
def jY (i:Nat) (g:E):S:=fun δ=>MX i δ (g (view δ))
def OG (c:E) (a b:S):S:=fun δ=>ifO δ (c (view δ)) (a δ) (b δ)
def Cy (i:Nat) (δ:Dt) (r:R D):O:=match r with
 | .ok (.lst rs)=>.nx (δ.set i (some (.own rs)))
 | .ex C=>.ex C (noOwn δ)
 | _=>.bad
def dI (i:Nat) (g:E):S:=fun δ=>Cy i δ (g (view δ))
def ot (i:Nat) (g:E):S:=fun δ=>Cy i δ (g δ)
def M6 (i:Nat) (δ:Dt) (ds:List D) (v k:R D):O:=match v,k with
 | .ok d,.ok (.int k)=>if D.flat d=true/\0<=k/\k<ds.length then .nx (δ.set i (some (.own (ds.set k.toNat d)))) else .bad
 | _,_=>.bad
def LJ (i:Nat) (gk gv:E):S:=fun δ=>lL i δ fun ds=>M6 i δ ds (gv (view δ)) (gk (view δ))
def pub (i:Nat) (δ:Dt):Dt:=match δ[i]? with
 | some (some (.own ds))=>δ.set i (some (.lst ds))
 | _=>δ
def AE (i:Nat) (s:S):S:=fun δ=>s (pub i δ)
def ifs (c:E) (a b:S):S:=fun δ=>ifO δ (c δ) (a δ) (b δ)
def O.then (o:O) (s:S):O:=match o with
 | .nx δ=>s δ
 | o=>o
def seq (a b:S):S:=fun δ=>(a δ).then b
def brk:S:=.bk
def cont:S:=.ct
def raise (C:String):S:=.mk C
def trn (o:O) (k:S):O:=match o with
 | .nx δ1=>k δ1
 | .ct δ1=>k δ1
 | .bk δ1=>.nx δ1
 | o=>o
def forL (i:Nat) (body:S):List D->S
 | [],δ=>.nx δ
 | d::ds,δ=>trn (body (δ.set i (some d))) (forL i body ds)
def ovL (δ:Dt) (r:R D) (k:List D->O):O:=match r with
 | .ok (.lst ds)=>k ds
 | .ex C=>.ex C (noOwn δ)
 | _=>.bad
def ovT (δ:Dt) (r:R D) (k:List D->O):O:=match r with
 | .ok (.tup ds)=>k ds
 | .ex C=>.ex C (noOwn δ)
 | _=>.bad
def OK (i:Nat) (g:E) (body:S):S:=fun δ=>ovL δ (g δ) fun ds=>forL i body ds δ
def OJ (i:Nat) (g:E) (body:S):S:=fun δ=>ovT δ (g δ) fun ds=>forL i body ds δ
def ovI (δ:Dt) (r:R (List D)) (k:List D->O):O:=match r with
 | .ok ds=>k ds
 | .ex C=>.ex C (noOwn δ)
 | .bad=>.bad
def J2 (i:Nat) (it:IT) (body:S):S:=fun δ=>ovI δ (it δ) fun ds=>forL i body ds δ
def ovR (δ:Dt) (r:R D) (k:List D->O):O:=match r with
 | .ok (.int hi)=>if -(2^62)<=hi/\hi<2^62 then k (Lf 0 hi) else .bad
 | .ex C=>.ex C (noOwn δ)
 | _=>.bad
def OL (i:Nat) (b:E) (body:S):S:=fun δ=>ovR δ (b δ) fun ds=>forL i body ds δ
def forget (i:Nat) (o:O):O:=match o with
 | .nx δ=>.nx (δ.set i none)
 | _=>.bad
def GV (o:O) (B:String) (i:Nat) (suite:S):O:=match o with
 | .nx δ1=>.nx δ1
 | .ex C δ1=>if EA C B then forget i (suite ((noOwn δ1).set i (some (.exc C)))) else .bad
 | _=>.bad
def Tu (body:S) (B:String) (i:Nat) (suite:S):S:=fun δ=>GV (body δ) B i suite
def bU (c:E) (body:S):Nat->S
 | 0,_=>.bad
 | n+1,δ=>match c δ with
  | .ok ↥26=>trn (body δ) (bU c body n)
  | .ok ↥35=>.nx δ
  | _=>.bad
open Classical in
def lU (c:E) (body:S):S:=fun δ=>if h:∃ n,bU c body n δ ≠ .bad then bU c body h.choose δ else .bad
def O.res:O->R D
 | .rt d=>.ok d
 | .nx _=>.ok .non
 | .ex C _=>.ex C
 | .mk C _=>.ex C
 | .hx C _=>.ex C
 | _=>.bad
def start (n m:Nat) (ds:List D):Dt:=ds.map some++List.replicate (m - n) none
def Good (f:List D->R D):Prop:=∀ ns:List Int,ns.length<=63->(∀ m∈ns,nb m<=2^20)->f [.lst (ns.map .int)]=.ok ↥26
def fn (n m:Nat) (body:S):List D->R D:=fun ds=>if ds.length=n then (body (start n m ds)).res else .bad
end EV
namespace ES
open PySem PySem.Spec PyProof.Rows L2 EV
def V1 (a C:Addr):HO:=.ext fun h=>∃ o vs,h.get? a=some o/\o.cls=.ref C/\o.data=.fields vs
mutual
inductive Rep (K:PySem.W.Frag) (mg:Str->Option Value) (H:Hp):V->D->Prop
 | non:Rep K mg H .non .non
 | bl (b:Bool):Rep K mg H (.bl b) (.bl b)
 | int (i:Int):Rep K mg H (.int i) (.int i)
 | str (x:Str):Rep K mg H (.str x) (.str x)
 | tup {a:Addr} {xs:List V} {ds:List D}:SqT K H a xs->Reps K mg H xs ds->Rep K mg H (.ref a) (.tup ds)
 | lst {a:Addr} {xs:List V} {ds:List D}:SqL K H a xs->Reps K mg H xs ds->Rep K mg H (.ref a) (.lst ds)
 | ty (n:String):Rep K mg H (.ty n) (.ty n)
 | cls {a:Addr} {n:String}:mg n=some (.ref a)->Rep K mg H (.ref a) (.cls n)
 | exc {a C:Addr} {n:String}:mg n=some (.ref C)->H a=some (V1 a C)->Rep K mg H (.ref a) (.exc n)
 | ins {a C dx:Addr} {n:String} {fs:List (Str×V)} {ds:List (String×D)}:mg n=some (.ref C)->H a=some (.ins C dx fs)->Repf K mg H fs ds->Rep K mg H (.ref a) (.ins n ds)
inductive Reps (K:PySem.W.Frag) (mg:Str->Option Value) (H:Hp):List V->List D->Prop
 | nil:Reps K mg H [] []
 | cons {v:V} {d:D} {vs:List V} {ds:List D}:Rep K mg H v d->Reps K mg H vs ds->Reps K mg H (v::vs) (d::ds)
inductive Repf (K:PySem.W.Frag) (mg:Str->Option Value) (H:Hp):List (Str×V)->List (String×D)->Prop
 | nil:Repf K mg H [] []
 | cons {x:String} {v:V} {d:D} {vs:List (Str×V)} {ds:List (String×D)}:Rep K mg H v d->Repf K mg H vs ds->Repf K mg H (((x:Str),v)::vs) ((x,d)::ds)
end
theorem gF {K:PySem.W.Frag} {H H':Hp} {a:Addr} {xs:List V} (e:aD H H') (h:SqT K H a xs):SqT K H' a xs:=by
 rcases h with (h | ⟨o,h⟩) | h
 ·exact .inl (.inl (e _ _ h))
 ·exact .inl (.inr ⟨o,e _ _ h⟩)
 ·exact .inr h
section
variable {K:PySem.W.Frag} {mg:Str->Option Value} {H H':Hp}
mutual
theorem Rep.mono (s:aD H H'):∀ {v:V} {d:D},Rep K mg H v d->Rep K mg H' v d
 | _,_,.non=>.non
 | _,_,.bl b=>.bl b
 | _,_,.int i=>.int i
 | _,_,.str x=>.str x
 | _,_,.tup h r=>.tup (gF s h) (Reps.mono s r)
 | _,_,.lst h r=>.lst (s.seq h) (Reps.mono s r)
 | _,_,.ty n=>.ty n
 | _,_,.cls h=>.cls h
 | _,_,.exc h e=>.exc h (s _ _ e)
 | _,_,.ins h e r=>.ins h (s _ _ e) (Repf.mono s r)
theorem Reps.mono (s:aD H H'):∀ {vs:List V} {ds:List D},Reps K mg H vs ds->Reps K mg H' vs ds
 | _,_,.nil=>.nil
 | _,_,.cons r t=>.cons (Rep.mono s r) (Reps.mono s t)
theorem Repf.mono (s:aD H H'):∀ {vs:List (Str×V)} {ds:List (String×D)},Repf K mg H vs ds->Repf K mg H' vs ds
 | _,_,.nil=>.nil
 | _,_,.cons r t=>.cons (Rep.mono s r) (Repf.mono s t)
end
theorem Reps.length:∀ {vs:List V} {ds:List D},Reps K mg H vs ds->vs.length=ds.length
 | _,_,.nil=>rfl
 | _,_,.cons _ t=>congrArg (· + 1) (Reps.length t)
theorem Reps.get:∀ {vs:List V} {ds:List D} {i:Nat} {d:D},Reps K mg H vs ds->ds[i]? = some d->∃ v,vs[i]? = some v/\Rep K mg H v d
 | _,_,_,_,.nil,e=>by simp at e
 | _,_,0,_,.cons r _,e=>by simp at e;subst e;exact ⟨_,rfl,r⟩
 | _,_,i+1,d,.cons _ t,e=>by
  obtain ⟨v,h1,h2⟩:=Reps.get (i:=i) (d:=d) t (by simpa using e)
  exact ⟨v,by simpa using h1,h2⟩
theorem Reps.append:∀ {vs ws:List V} {ds es:List D},Reps K mg H vs ds->Reps K mg H ws es->Reps K mg H (vs++ws) (ds++es)
 | _,_,_,_,.nil,s=>s
 | _,_,_,_,.cons r t,s=>.cons r (Reps.append t s)
theorem Reps.take:∀ {vs:List V} {ds:List D} (n:Nat),Reps K mg H vs ds->Reps K mg H (vs.take n) (ds.take n)
 | _,_,0,_=>.nil
 | _,_,_+1,.nil=>.nil
 | _,_,n+1,.cons r t=>.cons r (Reps.take n t)
theorem Reps.drop:∀ {vs:List V} {ds:List D} (n:Nat),Reps K mg H vs ds->Reps K mg H (vs.drop n) (ds.drop n)
 | _,_,0,r=>r
 | _,_,_+1,.nil=>.nil
 | _,_,n+1,.cons _ t=>Reps.drop n t
theorem Reps.ints (ns:List Int):Reps K mg H (ns.map V.int) (ns.map D.int):=by
 induction ns with
 | nil=>exact .nil
 | cons n r ih=>exact .cons (.int n) ih
theorem ou {x y:String} (h:(Str.ofString x)=Str.ofString y):x=y:=by
 rw [Str.ofString_eq_toList,Str.ofString_eq_toList] at h
 have h1:(x.toList.map Char.toNat).toArray=(y.toList.map Char.toNat).toArray:=congrArg Str.cps h
 have h2:x.toList.map Char.toNat=y.toList.map Char.toNat:=by simpa using h1
 have h3:∀ (l m:List Char),l.map Char.toNat=m.map Char.toNat->l=m:=by
  intro l
  induction l with
  | nil=>intro m e;cases m with | nil=>rfl | cons _ _=>cases e
  | cons c r ih =>
   intro m e
   cases m with
   | nil=>cases e
   | cons c' r' =>
    rw [List.map_cons,List.map_cons,List.cons.injEq] at e
    rw [Char.ext (UInt32.toNat_inj.mp e.1),ih r' e.2]
 exact String.toList_inj.mp (h3 _ _ h2)
theorem tV (x y:String):((Str.ofString x) == Str.ofString y)=(x == y):=by
 rw [Bool.eq_iff_iff,beq_iff_eq,beq_iff_eq]
 exact ⟨ou,fun e=>by rw [e]⟩
theorem Repf.lookup:∀ {fs:List (Str×V)} {ds:List (String×D)} {x:String} {d:D},Repf K mg H fs ds->ds.lookup x=some d->∃ v,fs.lookup (x:Str)=some v/\Rep K mg H v d
 | _,_,_,_,.nil,e=>by cases e
 | (_,v)::fs,(y,d')::ds,x,d,.cons r t,e=>by
  rw [List.lookup_cons] at e ⊢
  rw [tV]
  cases q:(x == y) with
  | true =>
   rw [q] at e
   have e':d'=d:=by simpa using e
   subst e'
   exact ⟨v,rfl,r⟩
  | false=>rw [q] at e;exact Repf.lookup t e
theorem Repf.lookupN:∀ {fs:List (Str×V)} {ds:List (String×D)} {x:String},Repf K mg H fs ds->ds.lookup x=none->fs.lookup (x:Str)=none
 | _,_,_,.nil,e=>rfl
 | (_,v)::fs,(y,d')::ds,x,.cons r t,e=>by
  rw [List.lookup_cons] at e ⊢
  rw [tV]
  cases q:(x == y) with
  | true=>rw [q] at e;cases e
  | false=>rw [q] at e;exact Repf.lookupN t e
end
def Stt (K:PySem.W.Frag) (mg:Str->Option Value) (H:Hp) (σ:L2.St) (δ:Dt):Prop :=
 σ.length=δ.length/\∀ (i:Nat) (d:D),δ[i]? = some (some d)->(∀ ds,d ≠ .own ds)->∃ v,σ[i]? = some (some v)/\Rep K mg H v d
theorem Stt.mono {K:PySem.W.Frag} {mg:Str->Option Value} {H H':Hp} {σ:L2.St} {δ:Dt} (h:Stt K mg H σ δ) (s:aD H H'):Stt K mg H' σ δ :=
 ⟨h.1,fun i d e n=>let ⟨v,a,b⟩:=h.2 i d e n;⟨v,a,b.mono s⟩⟩
theorem Stt.set {K:PySem.W.Frag} {mg:Str->Option Value} {H:Hp} {σ:L2.St} {δ:Dt} {i:Nat} {v:V} {d:D} (h:Stt K mg H σ δ) (r:Rep K mg H v d):Stt K mg H (σ.set i (some v)) (δ.set i (some d)):=by
 refine ⟨by rw [List.length_set,List.length_set];exact h.1,fun j d' e n => ?_⟩
 by_cases hj:j=i
 ·subst hj
  by_cases hl:j<δ.length
  ·rw [List.getElem?_set_self hl] at e
   cases e
   exact ⟨v,by rw [List.getElem?_set_self (by rw [h.1];exact hl)],r⟩
  ·rw [List.getElem?_eq_none (by simp;omega)] at e
   cases e
 ·rw [List.getElem?_set_ne (Ne.symm hj)] at e
  obtain ⟨u,a,b⟩:=h.2 j d' e n
  exact ⟨u,by rw [List.getElem?_set_ne (Ne.symm hj)];exact a,b⟩
structure FlyX (P:Program) (w:World) (outer:List Env) (H:Hp) (s:Shared) (C:Addr) (H':Hp) (ea:Addr) (s':Shared):Prop where
 os:s'.os=s.os
 bare:AllBare s'.gens
 un:Un (frs outer) [] H H' s.heap s'.heap
 hok:HOk P w H' s'.heap
 same:aD H H'
 new:s.heap.get? ea=none
 fly:∃ a0 B,Heap.FlyingW B outer ea (.ref C) a0 s'.heap/\(∀ b o,s.heap.get? b=some o->H b=none->b∉frs outer->B.get? b=some o)/\(∀ b u o,H' b=some u->s'.heap.get? b=some o->B.get? b=some o)
def ew (X:Cx) (C:Addr) (σ:L2.St) (H':Hp):Prop:=∀ pins H s ea s',Inv X pins σ H s->FlyX X.prog X.w X.stack H s C H' ea s'->X.xe (.ref ea) s'
def em (X:Cx) (C:Addr) (σ:L2.St) (H':Hp):Prop:=∀ pins s h' ea vs,Inv X pins σ H' s->Heap.MadeExcOf s.heap h' ea (.ref C) vs->X.xe (.ref ea) { s with heap:=h' }
structure HeldX (X:Cx) (pins:List ↥14) (σ:L2.St) (C:Addr) (H':Hp) (ea:Addr) (s':Shared):Prop where
 inv:Inv X pins σ H' s'
 new:X.s₀.heap.get? ea=none
 fly:∃ a0 B,Heap.HeldW B X.stack ea (.ref C) a0 X.env.locals s'.heap/\(∀ b o,X.s₀.heap.get? b=some o->X.H₀ b=none->b∉X.fs->B.get? b=some o)/\(∀ b u o,H' b=some u->s'.heap.get? b=some o->B.get? b=some o)
def ehx (X:Cx) (C:Addr) (σ:L2.St) (H':Hp):Prop:=∀ pins ea s',HeldX X pins σ C H' ea s'->X.xe (.ref ea) s'
def RQ (X:Cx) (σ:L2.St) (H:Hp) (r:R D) (Q:VK):Prop:=match r with
 | .ok d=>∀ v H',aD H H'->Rep X.K X.mg H' v d->Q v H'
 | .ex C=>∀ Ca,X.mg C=some (.ref Ca)->∀ H',aD H H'->ew X Ca σ H'
 | .bad=>False
def tE (X:Cx) (g:E):TE:=fun σ H Q=>∃ δ,Stt X.K X.mg H σ δ/\RQ X σ H (g δ) Q
@[irreducible] def SE (X:Cx) (e:Expr) (g:E):Prop:=PE X e (tE X g)
def RT (X:Cx) (σ:L2.St) (H:Hp) (r:R D) (Q:Bool->Hp->Prop):Prop:=match r with
 | .ok (.bl b)=>∀ H',aD H H'->Q b H'
 | .ex C=>∀ Ca,X.mg C=some (.ref Ca)->∀ H',aD H H'->ew X Ca σ H'
 | _=>False
def tT (X:Cx) (g:E):TT:=fun σ H Q=>∃ δ,Stt X.K X.mg H σ δ/\RT X σ H (g δ) Q
@[irreducible] def ST (X:Cx) (e:Expr) (g:E):Prop:=PT X e (tT X g)
@[irreducible] def SW (X:Cx) (e:Expr) (g:E):Prop:=PW X e (tT X g)
def RA (X:Cx) (σ:L2.St) (H:Hp) (r:R (List D)) (Q:List V->Hp->Prop):Prop:=match r with
 | .ok ds=>∀ vs H',aD H H'->Reps X.K X.mg H' vs ds->Q vs H'
 | .ex C=>∀ Ca,X.mg C=some (.ref Ca)->∀ H',aD H H'->ew X Ca σ H'
 | .bad=>False
def tAs (X:Cx) (gs:List E):TA:=fun σ H Q=>∃ δ,Stt X.K X.mg H σ δ/\RA X σ H (evs gs δ) Q
@[irreducible] def SA (X:Cx) (es:List Expr) (gs:List E):Prop:=PA X es (tAs X gs)
unseal SE ST SW SA
section
variable {X:Cx} {σ:L2.St} {H H1:Hp}
theorem PE.weak (h:PE X e t) (w:∀ σ H Q,t' σ H Q->t σ H Q):PE X e t':=fun pins s σ H Q I q=>h pins s σ H Q I (w σ H Q q)
theorem PT.weak (h:PT X e t) (w:∀ σ H Q,t' σ H Q->t σ H Q):PT X e t':=fun pins s σ H Q I q=>h pins s σ H Q I (w σ H Q q)
theorem PW.weak (h:PW X e t) (w:∀ σ H Q,t' σ H Q->t σ H Q):PW X e t':=fun wh pins s σ H Q I q=>h wh pins s σ H Q I (w σ H Q q)
theorem PA.weak (h:PA X es t) (w:∀ σ H Q,t' σ H Q->t σ H Q):PA X es t':=fun pos pins s σ H Q I q=>h pos pins s σ H Q I (w σ H Q q)
theorem PS.weak {st:Stmt} {t t':TS} (h:PS X st t) (w:∀ D σ H,t' D σ H->t D σ H):PS X st t':=fun pins s σ H D I q=>h pins s σ H D I (w D σ H q)
theorem PSs.weak {st:List Stmt} {t t':TS} (h:PSs X st t) (w:∀ D σ H,t' D σ H->t D σ H):PSs X st t':=fun pins s σ H D I q=>h pins s σ H D I (w D σ H q)
theorem RQ.to (h:RQ X σ H r Q) (g:∀ v H',aD H H'->Q v H'->Q' v H'):RQ X σ H r Q':=by
 cases r with
 | ok d=>exact fun v H' s r=>g v H' s (h v H' s r)
 | ex C=>exact h
 | bad=>exact h
theorem RQ.mono (s:aD H H1) (h:RQ X σ H r Q):RQ X σ H1 r Q:=by
 cases r with
 | ok d=>exact fun v H' s' r=>h v H' (s.trans s') r
 | ex C=>exact fun Ca hc H' s'=>h Ca hc H' (s.trans s')
 | bad=>exact h
theorem RT.mono (s:aD H H1) (h:RT X σ H r Q):RT X σ H1 r Q:=by
 cases r with
 | ok d =>
  cases d with
  | bl b=>exact fun H' s'=>h H' (s.trans s')
  | _=>exact False.elim h
 | ex C=>exact fun Ca hc H' s'=>h Ca hc H' (s.trans s')
 | bad=>exact h
theorem RQ.bind (h:RQ X σ H (r.bind f) Q):RQ X σ H r (fun v H'=>aD H H'/\∃ d,Rep X.K X.mg H' v d/\RQ X σ H' (f d) Q):=by
 cases r with
 | ok d=>exact fun v H' s r=>⟨s,d,r,h.mono s⟩
 | ex C=>exact h
 | bad=>exact h
theorem RA.bind (h:RQ X σ H (r.bind f) Q):RA X σ H r (fun vs H'=>aD H H'/\∃ ds,Reps X.K X.mg H' vs ds/\RQ X σ H' (f ds) Q):=by
 cases r with
 | ok d=>exact fun v H' s r=>⟨s,d,r,h.mono s⟩
 | ex C=>exact h
 | bad=>exact h
theorem RT.bind (h:RT X σ H (r.bind f) Q):RQ X σ H r (fun v H'=>aD H H'/\∃ d,Rep X.K X.mg H' v d/\RT X σ H' (f d) Q):=by
 cases r with
 | ok d=>exact fun v H' s r=>⟨s,d,r,h.mono s⟩
 | ex C=>exact h
 | bad=>exact False.elim h
end
structure Sc (X:Cx) (N:List Str):Prop where
 n:X.N=N
 nd:N.Nodup
 vis:∀ x∈N,Vis X.env.scope x
 dbg:∀ x∈N,(x == ("__debug__":Str))=false/\(x == ("__classdict__":Str))=false
def Sto (X:Cx) (x:Str):Prop:=Loc X.env.scope x/\(X.fn x=true\/X.env.scope.names.lookup x=some .local)
structure Gb (X:Cx) (x:Str):Prop where
 g:X.env.scope.names.lookup x=some .globalImplicit
 d:(x == ("__debug__":Str))=false
 n:x≠"__name__"
section
variable {X:Cx} {N:List Str} {pos:Pos} {a b c e:Expr} {ga gb gc g:E}
theorem rW (S:Sc X N) (i:Nat) (hN:N[i]? = some x):SE X (.Name x pos) (var i):=by
 have hm:x∈N:=List.mem_of_getElem? hN
 refine PE.weak (tG (i:=i) (by rw [S.n];exact hN) (S.vis x hm) (S.dbg x hm).1 (S.dbg x hm).2) fun σ H Q ⟨δ,hσ,h⟩ => ?_
 unfold var at h
 split at h
 ·exact False.elim h
 ·rename_i d _ hd
  obtain ⟨v,e,r⟩:=hσ.2 i d hd (by intro ds z;subst z;rename_i q;exact q ds rfl)
  exact ⟨v,e,h v H (aD.refl H) r⟩
 ·exact False.elim h
theorem wa (h:PE X e (tC v)) (r:∀ H,Rep X.K X.mg H v d):SE X e (con d):=PE.weak h fun σ H Q ⟨δ,hσ,q⟩=>q _ H (aD.refl H) (r H)
theorem af {i j}:SE X (.Constant (.int i) j pos) (con (.int i)):=wa LD fun _=>.int i
theorem wc {b j}:SE X (.Constant (.bool b) j pos) (con (.bl b)):=wa Oe fun _=>.bl b
theorem Jq {j}:SE X (.Constant .none j pos) (con .non):=wa LC fun _=>.non
theorem aL {x j}:SE X (.Constant (.str x) j pos) (con (.str x)):=wa Fv fun _=>.str x
theorem gQ (G:Gb X x) (h:∃ t,X.mg x=some (.int i t)):SE X (.Name x pos) (con (.int i)):=by
 obtain ⟨t,h⟩:=h
 exact wa (AJ (v:=.int i) G.g h ⟨t,rfl⟩ G.d) fun _=>.int i
theorem OP (G:Gb X x) (h:X.mg x=none) (hv:bootBuiltins x=some (.type n)):SE X (.Name x pos) (con (.ty n)) :=
 wa (HQ (v:=.ty n) G.g h hv rfl G.n G.d) fun _=>.ty n
def rD (X:Cx) (f:D->D->R D):R2:=fun x y H Q=>∃ dx dy d,Rep X.K X.mg H x dx/\Rep X.K X.mg H y dy/\f dx dy=.ok d/\∀ v H',aD H H'->Rep X.K X.mg H' v d->Q v H'
def lT (f:D->D->R D):Prop:=∀ x y C,f x y ≠ .ex C
theorem RQ.op (nx:lT f) (r1:Rep X.K X.mg H x dx) (r2:Rep X.K X.mg H y dy) (h:RQ X σ H (f dx dy) Q):rD X f x y H Q:=by
 cases e:f dx dy with
 | ok d=>rw [e] at h;exact ⟨dx,dy,d,r1,r2,e,h⟩
 | ex C=>exact absurd e (nx dx dy C)
 | bad=>rw [e] at h;exact False.elim h
theorem BX (h:tE X (EV.bin f ga gb) σ H Q):tE X ga σ H fun x H1=>tE X gb σ H1 fun y H2=>∃ dx dy,Rep X.K X.mg H2 x dx/\Rep X.K X.mg H2 y dy/\RQ X σ H2 (f dx dy) Q:=by
 obtain ⟨δ,hσ,h⟩:=h
 refine ⟨δ,hσ,(RQ.bind h).to fun x H1 s1 ⟨_,dx,r1,h1⟩ => ?_⟩
 refine ⟨δ,hσ.mono s1,(RQ.bind h1).to fun y H2 s2 ⟨_,dy,r2,h2⟩ => ?_⟩
 exact ⟨dx,dy,r1.mono s2,r2,h2⟩
theorem oM (nx:lT f) (ho:OpR X (binaryOp op) (rD X f)) (ha:SE X a ga) (hb:SE X b gb):SE X (.BinOp a op b pos) (EV.bin f ga gb) :=
 PE.weak (Oc ho ha hb) fun σ H Q h=>by
  obtain ⟨δ,hσ,q⟩:=BX h
  refine ⟨δ,hσ,q.to fun x H1 s1 ⟨δ1,hσ1,q1⟩=>⟨δ1,hσ1,q1.to fun y H2 s2 ⟨dx,dy,r1,r2,q2⟩=>RQ.op nx r1 r2 q2⟩⟩
theorem wb (nx:lT f) (ho:OpR X (compareOp op) (rD X f)) (ha:SE X a ga) (hb:SE X b gb) (hm:behindInMarks op b=false):SE X (.Compare a [op] [b] pos) (EV.bin f ga gb) :=
 PE.weak (HP ho ha hb hm) fun σ H Q h=>by
  obtain ⟨δ,hσ,q⟩:=BX h
  refine ⟨δ,hσ,q.to fun x H1 s1 ⟨δ1,hσ1,q1⟩=>⟨δ1,hσ1,q1.to fun y H2 s2 ⟨dx,dy,r1,r2,q2⟩=>RQ.op nx r1 r2 q2⟩⟩
theorem JG (h:tT X (EV.bin f ga gb) σ H Q):tE X ga σ H fun x H1=>tE X gb σ H1 fun y H2=>∃ dx dy,Rep X.K X.mg H2 x dx/\Rep X.K X.mg H2 y dy/\RT X σ H2 (f dx dy) Q:=by
 obtain ⟨δ,hσ,h⟩:=h
 refine ⟨δ,hσ,(RT.bind h).to fun x H1 s1 ⟨_,dx,r1,h1⟩ => ?_⟩
 refine ⟨δ,hσ.mono s1,(RT.bind h1).to fun y H2 s2 ⟨_,dy,r2,h2⟩ => ?_⟩
 exact ⟨dx,dy,r1.mono s2,r2,h2⟩
theorem RT.op (nx:lT f) (r1:Rep X.K X.mg H x dx) (r2:Rep X.K X.mg H y dy) (h:RT X σ H (f dx dy) Q):rD X f x y H fun v H'=>∃ k,v=.bl k/\Q k H':=by
 cases e:f dx dy with
 | ok d =>
  rw [e] at h
  cases d with
  | bl k=>exact ⟨dx,dy,_,r1,r2,e,fun v H' s r=>by cases r;exact ⟨k,rfl,h H' s⟩⟩
  | _=>exact False.elim h
 | ex C=>exact absurd e (nx dx dy C)
 | bad=>rw [e] at h;exact False.elim h
theorem sQ (nx:lT f) (ho:OpR X (compareOp op) (rD X f)) (ha:SE X a ga) (hb:SE X b gb) (hm:behindInMarks op b=false):ST X (.Compare a [op] [b] pos) (EV.bin f ga gb) :=
 PT.weak (AF ho ha hb hm) fun σ H Q h=>by
  obtain ⟨δ,hσ,q⟩:=JG h
  refine ⟨δ,hσ,q.to fun x H1 s1 ⟨δ1,hσ1,q1⟩=>⟨δ1,hσ1,q1.to fun y H2 s2 ⟨dx,dy,r1,r2,q2⟩=>RT.op nx r1 r2 q2⟩⟩
theorem pY {F:Value->Value->Sem Value} {f:D->D->R D} {C:Int->Int->Prop} {g:Int->Int->Int} (ho:OpR X F (rI C fun i j=>.int (g i j)))
  (hf:∀ dx dy d,f dx dy=.ok d->∃ i j,dx=.int i/\dy=.int j/\C i j/\d=.int (g i j)):OpR X F (rD X f):=by
 intro pins s σ H x y v u Q I rx ry ⟨dx,dy,d,r1,r2,e,q⟩
 obtain ⟨i,j,rfl,rfl,hc,rfl⟩:=hf dx dy d e
 cases r1
 cases r2
 exact ho pins s σ H _ _ v u Q I rx ry ⟨i,j,rfl,rfl,hc,q _ _ ↥30 (.int _)⟩
theorem rn {F:Value->Value->Sem Value} {f:D->D->R D} {g:Int->Int->Int} (ho:OpR X F (rI0 fun i j=>.int (g i j)))
  (hf:∀ dx dy d,f dx dy=.ok d->∃ i j,dx=.int i/\dy=.int j/\d=.int (g i j)):OpR X F (rD X f):=by
 intro pins s σ H x y v u Q I rx ry ⟨dx,dy,d,r1,r2,e,q⟩
 obtain ⟨i,j,rfl,rfl,rfl⟩:=hf dx dy d e
 cases r1
 cases r2
 exact ho pins s σ H _ _ v u Q I rx ry ⟨i,j,rfl,rfl,q _ _ ↥30 (.int _)⟩
theorem xh {F:Value->Value->Sem Value} {f:D->D->R D} {g:Int->Int->Bool} (ho:OpR X F (rI0 fun i j=>.bl (g i j)))
  (hf:∀ dx dy d,f dx dy=.ok d->∃ i j,dx=.int i/\dy=.int j/\d=.bl (g i j)):OpR X F (rD X f):=by
 intro pins s σ H x y v u Q I rx ry ⟨dx,dy,d,r1,r2,e,q⟩
 obtain ⟨i,j,rfl,rfl,rfl⟩:=hf dx dy d e
 cases r1
 cases r2
 exact ho pins s σ H _ _ v u Q I rx ry ⟨i,j,rfl,rfl,q _ _ ↥30 (.bl _)⟩
end
theorem yM (i:Int):nb i=Builtin.Int.intBits i:=by
 unfold nb Builtin.Int.intBits
 by_cases h:i=0
 ·rw [if_pos h,if_pos (by rw [h];rfl)]
 ·rw [if_neg h,if_neg (by simpa using h)]
theorem Eg {i j:Int} (h:MulOk i j):IntMulOk i j:=IntMulOk.of_le (m:=nb i) (n:=nb j) (Nat.le_of_eq (yM i).symm) (Nat.le_of_eq (yM j).symm) h
def N4 (K:PySem.W.Frag):R2:=fun x y H Q=>∃ a b xs ys,x=.ref a/\y=.ref b/\SqL K H a xs/\SqL K H b ys/\xs.length+ys.length<=sizeLine/\∀ p,H p=none->Q (.ref p) (upd H p (.lst (xs++ys)))
section
variable {X:Cx}
theorem bb (h:H p=none) (o:HO):aD H (upd H p o):=fun b u q=>by rw [bN (dJ q h)];exact q
theorem Bo (l b:Addr) (xs ys:Array Value) (n m:Nat) (d1 d2:Option Addr) (s1 s2:Array (Option Value)) (hz:xs.size+ys.size<=sizeLine) :
  Meets (Builtin.«list.__add__» ⟨[.ref l,.ref b],[]⟩) (fun _ R s=>s.heap.get? l=some { cls:=.type "list",dict:=d1,data:=.seq xs n,slots:=s1 }/\s.heap.get? b=some { cls:=.type "list",dict:=d2,data:=.seq ys m,slots:=s2 } /\
   R (.ok (.ret (Value.ref s.heap.objs.size))) { s with heap:=s.heap.push { cls:=.type "list",data:=.seq (xs++ys) } }) :=
 .of_wp fun prog w A R s h=>by
  obtain ⟨hp,g,dd,tk,os⟩:=s
  obtain ⟨ha,hb,h⟩:=h
  have f3:=AutoSeq1.sub_list_list
  wp_walk using AutoSeq1.wpAny_loadPart' ha,AutoSeq1.wpAny_loadPart' hb
  exact ⟨_,rfl,h⟩
theorem Ia:OpR X (binaryOp .Add) (N4 X.K):=by
 intro pins s σ H x y v u Q I rx ry h
 obtain ⟨l,b,xs,zs,rfl,rfl,hH,hB,hz,q⟩:=h
 cases rx
 cases ry
 obtain ⟨its,r,⟨⟨c1,d1,t1,s1⟩,n,e,g1,g2,g3⟩,_⟩:=I.list hH
 obtain ⟨its2,r2,⟨⟨c2,d2,t2,s2⟩,n2,e2,k1,k2,k3⟩,_⟩:=I.list hB
 simp only at g1 g2 g3 k1 k2 k3
 subst g1 g2 g3 k1 k2 k3
 have hl:=r.length
 have hl2:=r2.length
 refine concat_meets ⟨_,e,rfl⟩ ⟨_,e2,rfl⟩ noFill_list_add seq_list_add F.slot_list_add F.entry_list_add (F.args_list_add_2 _ _) (Bo l b its.toArray its2.toArray n n2 _ _ _ _ (by rw [List.size_toArray,List.size_toArray];omega)) ⟨e,e2,?_⟩
 have ea:its.toArray++its2.toArray=(its++its2).toArray:=by simp
 rw [ea]
 exact ⟨.ref _,_,I.lnew (t':=s.toks) (r.append r2) (by rw [List.length_append];omega),rfl,q _ I.fresh⟩
theorem gM [Decidable c]:(if c then R.ok d else R.bad)≠R.ex C:=by split<;>exact fun z=>nomatch z
theorem OC:lT bx:=fun x y C z=>by unfold bx at z;split at z<;>first | cases z | exact gM z
theorem Ie:OpR X (binaryOp .Add) (rD X bx):=by
 intro pins s σ H x y v u Q I rx ry ⟨dx,dy,d,r1,r2,e,q⟩
 unfold bx at e
 split at e
 ·cases e;cases r1;cases r2
  exact LX pins s σ H _ _ v u Q I rx ry ⟨_,_,rfl,rfl,q _ _ ↥30 (.int _)⟩
 ·split at e
  ·rename_i hz
   cases e;cases r1;cases r2
   exact yJ pins s σ H _ _ v u Q I rx ry ⟨_,_,rfl,rfl,Nat.le_trans hz (by rw [sizeLine_eq];decide),q _ _ ↥30 (.str _)⟩
  ·cases e
 ·split at e
  ·rename_i hz
   cases e;cases r1;cases r2
   rename_i a xs h1 r1 b ys h2 r2
   exact Ia pins s σ H _ _ v u Q I rx ry ⟨a,b,xs,ys,rfl,rfl,h1,h2,by rw [r1.length,r2.length];exact Nat.le_trans hz (by rw [sizeLine_eq];decide),fun p hp=>q _ _ (bb hp _) (.lst (SqL.of bz) ((r1.append r2).mono (bb hp _)))⟩
  ·cases e
 ·split at e
  ·rename_i hz
   cases e;cases r1;cases r2
   rename_i a xs h1 r1 b ys h2 r2
   refine H0 pins s σ H _ _ v u Q I rx ry ⟨a,b,xs,ys,rfl,rfl,h1,h2,fun z=>hz.1 ?_,by rw [r1.length,r2.length];exact Nat.le_trans hz.2 (by rw [sizeLine_eq];decide),fun z=>q _ _ ↥30 ?_,fun _ p hp=>q _ _ (bb hp _) (.tup (SqT.of bz) ((r1.append r2).mono (bb hp _)))⟩
   ·subst z
    cases r1;rfl
   ·subst z
    cases r2
    rw [List.append_nil]
    exact .tup h1 r1
  ·cases e
 ·cases e
theorem Ot:lT bT:=fun x y C z=>by unfold bT at z;split at z<;>cases z
theorem HS:OpR X (binaryOp .Sub) (rD X bT):=rn LR fun dx dy d e=>by
 unfold bT at e;split at e
 ·cases e;exact ⟨_,_,rfl,rfl,rfl⟩
 ·cases e
theorem Ox:lT cW:=fun x y C z=>by unfold cW at z;split at z<;>first | cases z | exact gM z
theorem HX:OpR X (binaryOp .Mult) (rD X cW):=pY (C:=IntMulOk) (opI fun _ _ _ _ _ _ _ hc q=>mul_int q hc) fun dx dy d e=>by
 unfold cW at e;split at e
 ·split at e
  ·rename_i h;cases e;exact ⟨_,_,rfl,rfl,Eg h,rfl⟩
  ·cases e
 ·cases e
theorem Oz:lT oDiv:=fun x y C z=>by unfold oDiv at z;split at z<;>first | cases z | exact gM z
theorem Vs (h:fP i j):Builtin.divisionGoesByPylong i j=false:=by
 obtain ⟨h0,h⟩:=h
 show (decide ((if j == 0 then 0 else j.natAbs.log2 / 30+1)>300)&&decide ((if i == 0 then 0 else i.natAbs.log2 / 30+1)>(if j == 0 then 0 else j.natAbs.log2 / 30+1)+150))=false
 have ej:(j == 0)=false:=by simp;omega
 unfold nb at h
 rw [if_neg (by omega:¬ j=0)] at h
 rw [ej]
 simp only [Bool.false_eq_true,if_false]
 rw [Bool.and_eq_false_iff,decide_eq_false_iff_not,decide_eq_false_iff_not]
 by_cases hi:i=0
 ·rw [if_pos (by simp [hi])];omega
 ·rw [if_neg (by simp [hi])]
  rw [if_neg hi] at h
  omega
theorem HZ:OpR X (binaryOp .FloorDiv) (rD X oDiv):=pY (C:=fP) (g:=fun i j=>i / j) (opI fun i j _ _ _ _ _ hc q=>by
  have h1:(0:Int)<j:=hc.1
  exact floordiv_int ⋯ (by rw [Int.fdiv_eq_ediv_of_nonneg i ⋯];exact q) (.inl (Vs hc))) fun dx dy d e=>by
 unfold oDiv at e;split at e
 ·split at e
  ·rename_i h;cases e;exact ⟨_,_,rfl,rfl,h,rfl⟩
  ·cases e
 ·cases e
theorem Oy:lT oMod:=fun x y C z=>by unfold oMod at z;split at z<;>first | cases z | exact gM z
theorem HY:OpR X (binaryOp .Mod) (rD X oMod):=pY (C:=fun _ j=>0<j) (g:=fun i j=>i%j) LU fun dx dy d e=>by
 unfold oMod at e;split at e
 ·split at e
  ·rename_i h;cases e;exact ⟨_,_,rfl,rfl,h,rfl⟩
  ·cases e
 ·cases e
theorem Ov:lT bH:=fun x y C z=>by unfold bH at z;split at z<;>first | cases z | exact gM z
theorem HV:OpR X (binaryOp .LShift) (rD X bH):=pY (C:=fun i j=>0<=j/\(nb i:Int)+j<=134217728) (g:=fun i j=>i*pw j) (opI fun _ _ _ _ _ _ _ hc q=>lshift_int hc.1 (by rw [<- yM];exact hc.2) q) fun dx dy d e=>by
 unfold bH at e;split at e
 ·split at e
  ·rename_i h;cases e;exact ⟨_,_,rfl,rfl,h,rfl⟩
  ·cases e
 ·cases e
theorem Ou:lT tY:=fun x y C z=>by unfold tY at z;split at z<;>first | cases z | exact gM z
theorem HU:OpR X (binaryOp .RShift) (rD X tY):=pY (C:=fun _ j=>0<=j) (g:=fun i j=>i / 2^j.toNat) LS fun dx dy d e=>by
 unfold tY at e;split at e
 ·split at e
  ·rename_i h;cases e;exact ⟨_,_,rfl,rfl,h,rfl⟩
  ·cases e
 ·cases e
theorem Ow:lT AN:=fun x y C z=>by unfold AN at z;split at z<;>first | cases z | exact gM z
theorem HW:OpR X (binaryOp .Pow) (rD X AN):=pY (C:=fun i j=>0<=j/\(nb i:Int)*j<=134217728) (g:=fun i j=>i^j.toNat) (opI fun _ _ _ _ _ _ _ hc q=>pow_int hc.1 (by rw [<- yM];exact hc.2) q) fun dx dy d e=>by
 unfold AN at e;split at e
 ·split at e
  ·rename_i h;cases e;exact ⟨_,_,rfl,rfl,h,rfl⟩
  ·cases e
 ·cases e
theorem Ma:lT rq:=fun x y C z=>by unfold rq at z;split at z<;>first | cases z | exact gM z
theorem OA:lT Cz:=fun x y C z=>by unfold Cz at z;split at z<;>first | cases z | exact gM z
theorem L9:lT eZ:=fun x y C z=>by unfold eZ at z;split at z<;>first | cases z | exact gM z
theorem BZ (hi:0<=i) (hj:0<=j):Builtin.bitAnd i j=((i.toNat &&& j.toNat:Nat):Int):=by
 unfold Builtin.bitAnd
 rw [decide_eq_true hi,decide_eq_true hj]
theorem FV (hi:0<=i) (hj:0<=j):Builtin.bitOr i j=((i.toNat ||| j.toNat:Nat):Int):=by
 unfold Builtin.bitOr Builtin.bitAnd Builtin.bitNot
 have h1:decide (0 <= -i - 1)=false:=decide_eq_false ⋯
 have h2:decide (0 <= -j - 1)=false:=decide_eq_false ⋯
 rw [h1,h2]
 dsimp only
 rw [show -(-i - 1) - 1=i by omega,show -(-j - 1) - 1=j by omega]
 omega
theorem yI (x:Nat):∀ y:Nat,x ||| y=(x ^^^ y)+(x &&& y):=by
 induction x using Nat.strongRecOn with
 | ind x ih =>
  intro y
  by_cases h0:x=0
  ·subst h0;simp
  ·have z:=ih (x / 2) ⋯ (y / 2)
   rw [<- Nat.or_div_two,<-Nat.xor_div_two,<-Nat.and_div_two] at z
   have m1 := @Nat.or_mod_two_eq_one x y
   have m2 := @Nat.xor_mod_two_eq_one x y
   have m3 := @Nat.and_mod_two_eq_one x y
   omega
theorem JC (hi:0<=i) (hj:0<=j):Builtin.bitXor i j=((i.toNat ^^^ j.toNat:Nat):Int):=by
 unfold Builtin.bitXor
 rw [FV hi hj,BZ hi hj]
 have h:i.toNat ||| j.toNat=(i.toNat ^^^ j.toNat)+(i.toNat &&& j.toNat):=yI _ _
 omega
theorem DI:OpR X (binaryOp .BitAnd) (rD X rq):=rn LW fun dx dy d e=>by
 unfold rq at e;split at e
 ·split at e
  ·rename_i h;cases e;exact ⟨_,_,rfl,rfl,by rw [BZ h.1 h.2]⟩
  ·cases e
 ·cases e
theorem Ib:OpR X (binaryOp .BitOr) (rD X Cz):=rn Og fun dx dy d e=>by
 unfold Cz at e;split at e
 ·split at e
  ·rename_i h;cases e;exact ⟨_,_,rfl,rfl,by rw [FV h.1 h.2]⟩
  ·cases e
 ·cases e
theorem DH:OpR X (binaryOp .BitXor) (rD X eZ):=rn LQ fun dx dy d e=>by
 unfold eZ at e;split at e
 ·split at e
  ·rename_i h;cases e;exact ⟨_,_,rfl,rfl,by rw [JC h.1 h.2]⟩
  ·cases e
 ·cases e
theorem M9:lT oLt:=fun x y C z=>by unfold oLt at z;split at z<;>cases z
theorem L8:lT oLe:=fun x y C z=>by unfold oLe at z;split at z<;>cases z
theorem Ta:lT oGt:=fun x y C z=>by unfold oGt at z;split at z<;>cases z
theorem Tb:lT oGe:=fun x y C z=>by unfold oGe at z;split at z<;>cases z
theorem xj:OpR X (compareOp .Lt) (rD X oLt):=xh Oi fun dx dy d e=>by
 unfold oLt at e;split at e
 ·cases e;exact ⟨_,_,rfl,rfl,rfl⟩
 ·cases e
theorem tR:OpR X (compareOp .LtE) (rD X oLe):=xh Oj fun dx dy d e=>by
 unfold oLe at e;split at e
 ·cases e;exact ⟨_,_,rfl,rfl,rfl⟩
 ·cases e
theorem Fz:OpR X (compareOp .Gt) (rD X oGt):=xh Ol fun dx dy d e=>by
 unfold oGt at e;split at e
 ·cases e;exact ⟨_,_,rfl,rfl,rfl⟩
 ·cases e
theorem FA:OpR X (compareOp .GtE) (rD X oGe):=xh Om fun dx dy d e=>by
 unfold oGe at e;split at e
 ·cases e;exact ⟨_,_,rfl,rfl,rfl⟩
 ·cases e
end
section
variable {X:Cx} {pos:Pos} {a b c e:Expr} {ga gb gc g:E}
theorem aC (ha:SE X a ga) (hb:SE X b gb):SE X (.BinOp a .Add b pos) (EV.bin bx ga gb):=oM OC Ie ha hb
theorem aU (ha:SE X a ga) (hb:SE X b gb):SE X (.BinOp a .Sub b pos) (EV.bin bT ga gb):=oM Ot HS ha hb
theorem bh (ha:SE X a ga) (hb:SE X b gb):SE X (.BinOp a .Mult b pos) (EV.bin cW ga gb):=oM Ox HX ha hb
theorem cj (ha:SE X a ga) (hb:SE X b gb):SE X (.BinOp a .FloorDiv b pos) (EV.bin oDiv ga gb):=oM Oz HZ ha hb
theorem aO (ha:SE X a ga) (hb:SE X b gb):SE X (.BinOp a .Mod b pos) (EV.bin oMod ga gb):=oM Oy HY ha hb
theorem a9 (ha:SE X a ga) (hb:SE X b gb):SE X (.BinOp a .LShift b pos) (EV.bin bH ga gb):=oM Ov HV ha hb
theorem uc (ha:SE X a ga) (hb:SE X b gb):SE X (.BinOp a .RShift b pos) (EV.bin tY ga gb):=oM Ou HU ha hb
theorem MM (ha:SE X a ga) (hb:SE X b gb):SE X (.BinOp a .Pow b pos) (EV.bin AN ga gb):=oM Ow HW ha hb
theorem FL (ha:SE X a ga) (hb:SE X b gb):SE X (.BinOp a .BitAnd b pos) (EV.bin rq ga gb):=oM Ma DI ha hb
theorem OT (ha:SE X a ga) (hb:SE X b gb):SE X (.BinOp a .BitOr b pos) (EV.bin Cz ga gb):=oM OA Ib ha hb
theorem jI (ha:SE X a ga) (hb:SE X b gb):SE X (.BinOp a .BitXor b pos) (EV.bin eZ ga gb):=oM L9 DH ha hb
theorem Js (ha:SE X a ga) (hb:SE X b gb):SE X (.Compare a [.Lt] [b] pos) (EV.bin oLt ga gb):=wb M9 xj ha hb (iF _)
theorem Tf (ha:SE X a ga) (hb:SE X b gb):SE X (.Compare a [.Gt] [b] pos) (EV.bin oGt ga gb):=wb Ta Fz ha hb (iF _)
theorem Tg (ha:SE X a ga) (hb:SE X b gb):SE X (.Compare a [.GtE] [b] pos) (EV.bin oGe ga gb):=wb Tb FA ha hb (iF _)
theorem pT (ha:SE X a ga) (hb:SE X b gb):ST X (.Compare a [.Lt] [b] pos) (EV.bin oLt ga gb):=sQ M9 xj ha hb (iF _)
theorem TB (ha:SE X a ga) (hb:SE X b gb):ST X (.Compare a [.LtE] [b] pos) (EV.bin oLe ga gb):=sQ L8 tR ha hb (iF _)
theorem wQ (ha:SE X a ga) (hb:SE X b gb):ST X (.Compare a [.Gt] [b] pos) (EV.bin oGt ga gb):=sQ Ta Fz ha hb (iF _)
theorem Fm (ha:SE X a ga) (hb:SE X b gb):ST X (.Compare a [.GtE] [b] pos) (EV.bin oGe ga gb):=sQ Tb FA ha hb (iF _)
theorem EC (ha:SE X a ga):SE X (.UnaryOp .USub a pos) (un Im ga) :=
 PE.weak (Oa Kn ha) fun σ H Q ⟨δ,hσ,h⟩=>⟨δ,hσ,(RQ.bind h).to fun v H1 s1 ⟨_,d,r,q⟩=>by
  unfold Im at q
  split at q
  ·cases r;exact ⟨_,rfl,q _ _ ↥30 (.int _)⟩
  ·exact False.elim q⟩
end
end ES
namespace ES
open PySem PySem.Spec PyProof.Rows L2 EV
unseal SE ST SW SA
mutual
def py:D->PyData
 | .non=>.none
 | .bl b=>.bool b
 | .int i=>.int i
 | .str x=>.str x
 | .tup ds=>.tuple (pys ds)
 | .lst ds=>.list (pys ds)
 | _=>.dict []
def pys:List D->List PyData
 | []=>[]
 | d::r=>py d::pys r
end
section
variable {X:Cx} {pins:List ↥14} {σ:L2.St} {H:Hp} {s:Shared}
mutual
theorem rh (I:Inv X pins σ H s):∀ {v:V} {d:D} {u:Value},(py d).canLay0=true->Rep X.K X.mg H v d->RelV v u->∃ as,Reads s.heap u (py d) as
 | _,_,u,_,.non,r=>by cases r;exact ⟨_,.none⟩
 | _,_,u,_,.bl b,r=>by cases r;exact ⟨_,.bool b⟩
 | _,_,u,_,.int i,r=>by obtain ⟨t,rfl⟩:=r;exact ⟨_,.int i t⟩
 | _,_,u,_,.str x,r=>by obtain ⟨t,rfl⟩:=r;exact ⟨_,.str x t⟩
 | _,.tup ds,u,hc,.tup hq rs,r=>by
  cases r
  obtain ⟨its,rv,⟨o,h1,h2,n,h3⟩,_⟩:=I.tuple hq
  obtain ⟨as,ra⟩:=jT I (by simpa [py,PyData.canLay0] using hc) rs rv
  exact ⟨_,.tuple h1 h2 h3 (by simpa using ra)⟩
 | _,.lst ds,u,hc,.lst hq rs,r=>by
  cases r
  obtain ⟨its,rv,⟨o,n,h1,h2,_,h3⟩,_⟩:=I.list hq
  obtain ⟨as,ra⟩:=jT I (by simpa [py,PyData.canLay0] using hc) rs rv
  exact ⟨_,.list h1 h2 h3 (by simpa using ra)⟩
 | _,.ty n,u,hc,_,_=>by simp [py,PyData.canLay0] at hc
 | _,.cls a,u,hc,_,_=>by simp [py,PyData.canLay0] at hc
 | _,.exc a,u,hc,_,_=>by simp [py,PyData.canLay0] at hc
 | _,.ins a b,u,hc,_,_=>by simp [py,PyData.canLay0] at hc
theorem jT (I:Inv X pins σ H s):∀ {vs:List V} {ds:List D} {us:List Value},PyData.canLayAll0 (pys ds)=true->Reps X.K X.mg H vs ds->Vals vs us->∃ as,ReadsAll s.heap us (pys ds) as
 | _,_,_,_,.nil,r=>by cases r;exact ⟨_,.nil⟩
 | _,dd::dr,_,hc,.cons r t,q=>by
  cases q with
  | cons q1 q2 =>
   have hc':PyData.canLay0 (py dd)=true/\PyData.canLayAll0 (pys dr)=true:=by simpa [pys,PyData.canLayAll0] using hc
   obtain ⟨a1,r1⟩:=rh I hc'.1 r q1
   obtain ⟨a2,r2⟩:=jT I hc'.2 t q2
   exact ⟨_,.cons r1 r2⟩
end
end
mutual
theorem AI:∀ (n:Nat) (d:D),D.pl n d=true->(py d).canLay0=true/\(py d).depth<=n
 | _,.non,_=>⟨rfl,Nat.zero_le _⟩
 | _,.bl _,_=>⟨rfl,Nat.zero_le _⟩
 | _,.int _,_=>⟨rfl,Nat.zero_le _⟩
 | _,.str x,h=>⟨by simpa [py,PyData.canLay0,PyData.strOk,D.pl] using h,Nat.zero_le _⟩
 | 0,.tup _,h=>by simp [D.pl] at h
 | 0,.lst _,h=>by simp [D.pl] at h
 | n+1,.tup ds,h=>by
  have z:=vA n ds (by simpa [D.pl] using h)
  exact ⟨by simpa [py,PyData.canLay0] using z.1,by simp only [py,PyData.depth];omega⟩
 | n+1,.lst ds,h=>by
  have z:=vA n ds (by simpa [D.pl] using h)
  exact ⟨by simpa [py,PyData.canLay0] using z.1,by simp only [py,PyData.depth];omega⟩
 | n,.own _,h=>by cases n<;>simp [D.pl] at h
 | n,.ty _,h=>by cases n<;>simp [D.pl] at h
 | n,.cls _,h=>by cases n<;>simp [D.pl] at h
 | n,.exc _,h=>by cases n<;>simp [D.pl] at h
 | n,.ins _ _,h=>by cases n<;>simp [D.pl] at h
theorem vA:∀ (n:Nat) (ds:List D),(∀ d∈ds,D.pl n d=true)->PyData.canLayAll0 (pys ds)=true/\PyData.depthAll (pys ds)<=n
 | _,[],_=>⟨rfl,Nat.zero_le _⟩
 | n,d::r,h=>by
  have z1:=AI n d (h d (.head _))
  have z2:=vA n r (fun x hx=>h x (.tail _ hx))
  exact ⟨by simp [pys,PyData.canLayAll0,z1.1,z2.1],by simp only [pys,PyData.depthAll];omega⟩
end
mutual
theorem BY:∀ (n:Nat) (a b:D),D.pl n a=true->D.pl n b=true->D.beq a b=PyData.eqv (py a) (py b)
 | n,a,b,ha,hb=>by
  cases a<;>cases b<;>first
   | rfl
   | (cases n<;>simp [D.pl] at ha;done)
   | (cases n<;>simp [D.pl] at hb;done)
   | skip
  all_goals cases n with
   | zero=>simp [D.pl] at ha
   | succ n =>
    simp only [D.beq,py,PyData.eqv]
    exact xM n _ _ (by simpa [D.pl] using ha) (by simpa [D.pl] using hb)
theorem xM:∀ (n:Nat) (as bs:List D),(∀ d∈as,D.pl n d=true)->(∀ d∈bs,D.pl n d=true)->D.beqs as bs=PyData.eqvAll (pys as) (pys bs)
 | _,[],[],_,_=>rfl
 | _,[],_::_,_,_=>rfl
 | _,_::_,[],_,_=>rfl
 | n,a::as,b::bs,ha,hb=>by
  simp only [D.beqs,pys,PyData.eqvAll]
  rw [BY n a b (ha a (.head _)) (hb b (.head _)),xM n as bs (fun x hx=>ha x (.tail _ hx)) (fun x hx=>hb x (.tail _ hx))]
end
section
variable {X:Cx}
theorem Tc:lT oEq:=fun x y C z=>by unfold oEq at z;exact gM z
theorem S8:lT oNe:=fun x y C z=>by unfold oNe at z;exact gM z
theorem OY (r1:Rep X.K X.mg H x dx) (r2:Rep X.K X.mg H y dy) (sx:dx.sc=true) (sy:dy.sc=true) (n:M7 x y=true):decide (x=y)=D.beq dx dy:=by
 cases r1<;>cases sx<;>cases r2<;>cases sy<;>first
  | exact absurd (show false=true from n) Bool.false_ne_true
  | exact we
  | exact BM
  | exact wd
  | (simp [D.beq];done)
theorem BJ (n:Bool) (hu:X.A.units+64<cLine) (I:Inv X pins σ H s) (rx:RelV x v) (ry:RelV y u) (r1:Rep X.K X.mg H x dx) (r2:Rep X.K X.mg H y dy)
  (hc:D.cmp dx dy=true) (q:Q (.bl (xor n (D.beq dx dy))) H):wpAny ↥8 X.A (compareOp (if n then .NotEq else .Eq) v u) (EP X pins σ Q) X.xe s:=by
 unfold D.cmp at hc
 by_cases hp:(D.pl 8 dx&&D.pl 8 dy)=true
 ·rw [Bool.and_eq_true] at hp
  obtain ⟨l1,d1⟩:=AI 8 dx hp.1
  obtain ⟨l2,d2⟩:=AI 8 dy hp.2
  obtain ⟨as,ra⟩:=rh I l1 r1 rx
  obtain ⟨bs,rb⟩:=rh I l2 r2 ry
  have e:=BY 8 dx dy hp.1 hp.2
  cases n with
  | false =>
   refine (SeqAt.rcAt_reads ra rb l1 l2 ⋯ X.prog X.w X.xe _ ?_:wpAny ↥8 X.A (compareOp .Eq v u) _ _ _)
   exact gP I q (by rw [Bool.false_xor,e])
  | true =>
   refine (SeqAt.rcNeAt_reads ra rb l1 l2 ⋯ X.prog X.w X.xe _ ?_:wpAny ↥8 X.A (compareOp .NotEq v u) _ _ _)
   exact gP I q (by rw [Bool.true_xor,e])
 ·have hs:(dx.sc&&dy.sc)=true:=by
   rw [Bool.or_eq_true] at hc
   exact hc.resolve_right hp
  rw [Bool.and_eq_true] at hs
  have hsc:M7 x y=true:=by
   cases r1<;>cases (hs.1)<;>cases r2<;>cases (hs.2)<;>first | rfl | exact absurd rfl hp
  have e:=OY r1 r2 hs.1 hs.2 hsc
  cases n with
  | false=>exact Oo pins s σ H x y v u Q I rx ry ⟨hsc,by rw [e];rw [Bool.false_xor] at q;exact q⟩
  | true=>exact Oh pins s σ H x y v u Q I rx ry ⟨hsc,by rw [e];rw [Bool.true_xor] at q;exact q⟩
theorem FC (hu:X.A.units+64<cLine):OpR X (compareOp .Eq) (rD X oEq):=by
 intro pins s σ H x y v u Q I rx ry ⟨dx,dy,d,r1,r2,e,q⟩
 unfold oEq at e
 split at e
 ·rename_i hc
  cases e
  exact BJ false hu I rx ry r1 r2 hc (by rw [Bool.false_xor];exact q _ _ ↥30 (.bl _))
 ·cases e
theorem Fx (hu:X.A.units+64<cLine):OpR X (compareOp .NotEq) (rD X oNe):=by
 intro pins s σ H x y v u Q I rx ry ⟨dx,dy,d,r1,r2,e,q⟩
 unfold oNe at e
 split at e
 ·rename_i hc
  cases e
  exact BJ true hu I rx ry r1 r2 hc (by rw [Bool.true_xor];exact q _ _ ↥30 (.bl _))
 ·cases e
theorem qR (r:Rep X.K X.mg H x d) (h:d.sc=true):pN x=true:=by cases r<;>first | rfl | cases h
theorem nN:∀ {xs:List V} {ds:List D},Reps X.K X.mg H xs ds->ds.all D.sc=true->xs.all pN=true
 | _,_,.nil,_=>rfl
 | _,_,.cons r t,h=>by
  rw [List.all_cons,Bool.and_eq_true] at h
  rw [List.all_cons,qR r h.1,nN t h.2];rfl
theorem Jm (r1:Rep X.K X.mg H x dx) (r2:Rep X.K X.mg H y dy) (sx:dx.sc=true) (sy:dy.sc=true):eqV x y=D.beq dx dy:=by
 cases r1<;>cases sx<;>cases r2<;>cases sy<;>rfl
theorem Bu (r:Rep X.K X.mg H x dx) (sx:dx.sc=true):∀ {xs:List V} {ds:List D},Reps X.K X.mg H xs ds->ds.all D.sc=true->inV x xs=ds.any fun y=>D.beq y dx
 | _,_,.nil,_=>rfl
 | _,_,.cons r' t,h=>by
  rw [List.all_cons,Bool.and_eq_true] at h
  unfold inV
  rw [List.any_cons,List.any_cons,Jm r' r h.1 sx]
  exact congrArg _ (Bu r sx t h.2)
theorem Bt (neg:Bool) (I:Inv X pins σ H s) (rx:RelV x v) (ry:RelV y u) (r1:Rep X.K X.mg H x dx) (r2:Rep X.K X.mg H y dy)
  (hc:oIn dx dy=.ok (.bl k)) (q:Q (.bl (xor neg k)) H):wpAny ↥8 X.A (compareOp (if neg then .NotIn else .In) v u) (EP X pins σ Q) X.xe s:=by
 have seq:∀ {p:Addr} {xs:List V} {ds:List D},y=.ref p->(SqL X.K H p xs\/SqT X.K H p xs)->Reps X.K X.mg H xs ds->isIn dx ds=some k->wpAny ↥8 X.A (compareOp (if neg then .NotIn else .In) v u) (EP X pins σ Q) X.xe s:=fun {p xs ds} ey hq rs hi=>by
  subst ey
  unfold isIn at hi
  split at hi
  ·rename_i hs
   rw [Bool.and_eq_true] at hs
   cases hi
   have e:=Bu r1 hs.1 rs hs.2
   cases neg with
   | false=>exact AM pins s σ H _ _ v u Q I rx ry ⟨p,xs,rfl,hq,qR r1 hs.1,nN rs hs.2,by rw [if_neg ↥1,e];rw [Bool.false_xor] at q;exact q⟩
   | true=>exact tP pins s σ H _ _ v u Q I rx ry ⟨p,xs,rfl,hq,qR r1 hs.1,nN rs hs.2,by rw [if_pos rfl,e];rw [Bool.true_xor] at q;exact q⟩
  ·cases hi
 have hseq:∀ {ds:List D},(match isIn dx ds with | some k=>R.ok (D.bl k) | none=>R.bad)=.ok (.bl k)->isIn dx ds=some k:=fun {ds} h=>by
  cases e:isIn dx ds with
  | none=>rw [e] at h;cases h
  | some k'=>rw [e] at h;cases h;rfl
 cases r2 with
 | tup hq rs=>exact seq rfl (.inr hq) rs (hseq (by cases dx<;>exact hc))
 | lst hq rs=>exact seq rfl (.inl hq) rs (hseq (by cases dx<;>exact hc))
 | str b =>
  cases r1 with
  | str a =>
   obtain ⟨⟨l⟩⟩:=a
   cases l with
   | nil=>cases hc
   | cons c t =>
    cases t with
    | cons _ _=>cases hc
    | nil =>
     cases hc
     have e:=empty_one b c
     cases neg with
     | false=>exact AL pins s σ H _ _ v u Q I rx ry ⟨_,_,rfl,rfl,by rw [e,Bool.not_not];rw [Bool.false_xor] at q;exact q⟩
     | true=>exact tO pins s σ H _ _ v u Q I rx ry ⟨_,_,rfl,rfl,by rw [e,Bool.not_not];rw [Bool.true_xor] at q;exact q⟩
  | _=>cases hc
 | _=>cases dx<;>cases hc
theorem xl:(∃ k,oIn a b=.ok (.bl k))\/oIn a b=.bad:=by
 unfold oIn
 split<;>first
  | exact .inr rfl
  | (split<;>first | exact .inl ⟨_,rfl⟩ | exact .inr rfl)
theorem S9:lT oIn:=fun x y C z=>by rcases xl (a:=x) (b:=y) with ⟨k,e⟩ | e<;>rw [e] at z<;>cases z
theorem AW:lT eC:=fun x y C z=>by unfold eC at z;rcases xl (a:=x) (b:=y) with ⟨k,e⟩ | e<;>rw [e] at z<;>cases z
theorem Fy:OpR X (compareOp .In) (rD X oIn):=by
 intro pins s σ H x y v u Q I rx ry ⟨dx,dy,d,r1,r2,e,q⟩
 rcases xl (a:=dx) (b:=dy) with ⟨k,e'⟩ | e'<;>rw [e'] at e<;>cases e
 exact Bt false I rx ry r1 r2 e' (by rw [Bool.false_xor];exact q _ _ ↥30 (.bl _))
theorem tQ:OpR X (compareOp .NotIn) (rD X eC):=by
 intro pins s σ H x y v u Q I rx ry ⟨dx,dy,d,r1,r2,e,q⟩
 unfold eC at e
 rcases xl (a:=dx) (b:=dy) with ⟨k,e'⟩ | e'<;>rw [e'] at e<;>cases e
 exact Bt true I rx ry r1 r2 e' (by rw [Bool.true_xor];exact q _ _ ↥30 (.bl _))
end
section
variable {X:Cx} {pos:Pos} {a b c e:Expr} {ga gb gc g:E} {k:Nat}
theorem gC (hu:Room k X.A) (ha:SE X a ga) (hb:SE X b gb):SE X (.Compare a [.Eq] [b] pos) (EV.bin oEq ga gb):=wb Tc (FC hu.units) ha hb (iF _)
theorem OS (hu:Room k X.A) (ha:SE X a ga) (hb:SE X b gb):SE X (.Compare a [.NotEq] [b] pos) (EV.bin oNe ga gb):=wb S8 (Fx hu.units) ha hb (iF _)
theorem bA (hu:Room k X.A) (ha:SE X a ga) (hb:SE X b gb):ST X (.Compare a [.Eq] [b] pos) (EV.bin oEq ga gb):=sQ Tc (FC hu.units) ha hb (iF _)
theorem NL (hu:Room k X.A) (ha:SE X a ga) (hb:SE X b gb):ST X (.Compare a [.NotEq] [b] pos) (EV.bin oNe ga gb):=sQ S8 (Fx hu.units) ha hb (iF _)
theorem Nd (ha:SE X a ga) (hb:SE X b gb) (hm:behindInMarks .In b=false:=by rfl):SE X (.Compare a [.In] [b] pos) (EV.bin oIn ga gb):=wb S9 Fy ha hb hm
theorem Jo (ha:SE X a ga) (hb:SE X b gb) (hm:behindInMarks .NotIn b=false:=by rfl):SE X (.Compare a [.NotIn] [b] pos) (EV.bin eC ga gb):=wb AW tQ ha hb hm
theorem zx (ha:SE X a ga) (hb:SE X b gb) (hm:behindInMarks .In b=false:=by rfl):ST X (.Compare a [.In] [b] pos) (EV.bin oIn ga gb):=sQ S9 Fy ha hb hm
theorem G9 (ha:SE X a ga) (hb:SE X b gb) (hm:behindInMarks .NotIn b=false:=by rfl):ST X (.Compare a [.NotIn] [b] pos) (EV.bin eC ga gb):=sQ AW tQ ha hb hm
theorem Mv (r:Rep X.K X.mg H v d):vE d=.ok (.bl (decide (v=.non)))/\vC d=.ok (.bl (!decide (v=.non))):=by
 cases r<;>exact ⟨rfl,rfl⟩
theorem Mu (h:tE X (un vE ga) σ H Q):tE X ga σ H fun x H1=>tE X (con .non) σ H1 fun y H2=>y=.non/\Q (.bl (decide (x=.non))) H2:=by
 obtain ⟨δ,hσ,h⟩:=h
 refine ⟨δ,hσ,(RQ.bind h).to fun x H1 s1 ⟨_,d,r,q⟩=>⟨δ,hσ.mono s1,fun v H2 s2 r2 => ?_⟩⟩
 cases r2
 rw [(Mv r).1] at q
 exact ⟨rfl,q _ _ s2 (.bl _)⟩
theorem qH (h:tT X g σ H Q):tE X g σ H fun v H'=>∃ k,v=.bl k/\Q k H':=by
 obtain ⟨δ,hσ,h⟩:=h
 refine ⟨δ,hσ,?_⟩
 cases q:g δ with
 | ok d =>
  rw [q] at h
  cases d with
  | bl k=>exact fun v H' s r=>by cases r;exact ⟨k,rfl,h H' s⟩
  | _=>exact False.elim h
 | ex C=>rw [q] at h;exact h
 | bad=>rw [q] at h;exact False.elim h
theorem Ha (ha:SE X a ga):ST X (.Compare a [.Is] [.Constant .none j p2] pos) (un vE ga):=PT.weak (AF LV ha Jq (iF _)) fun σ H Q h=>Mu (qH h)
theorem jF (h:SE X e g) (he:∀ whole,isTrue e X.env whole=(do let v<-whole;standAt e.pos;holding [v] (truthy v)):=by intro _;rfl):ST X e g:=PT.weak (Ln h he) fun σ H Q q=>qH q
theorem RT.truth (h:RT X σ H (r.bind fun d=>truth d t f) Q):RT X σ H r fun k H'=>aD H H'/\if k=true then RT X σ H' t Q else RT X σ H' f Q:=by
 cases r with
 | ok d =>
  cases d with
  | bl k =>
   cases k with
   | true=>exact fun H' s=>⟨s,IU (RT.mono s h)⟩
   | false=>exact fun H' s=>⟨s,IV (RT.mono s h)⟩
  | _=>exact False.elim h
 | ex C=>exact h
 | bad=>exact False.elim h
theorem RT.to (h:RT X σ H r Q) (g:∀ k H',aD H H'->Q k H'->Q' k H'):RT X σ H r Q':=by
 cases r with
 | ok d =>
  cases d with
  | bl k=>exact fun H' s=>g k H' s (h H' s)
  | _=>exact False.elim h
 | ex C=>exact h
 | bad=>exact False.elim h
theorem RQ.truthT (h:RQ X σ H (r.bind fun d=>truth d t f) Q):RT X σ H r fun k H'=>aD H H'/\if k=true then RQ X σ H' t Q else RQ X σ H' f Q:=by
 cases r with
 | ok d =>
  cases d with
  | bl k =>
   cases k with
   | true=>exact fun H' s=>⟨s,IU (RQ.mono s h)⟩
   | false=>exact fun H' s=>⟨s,IV (RQ.mono s h)⟩
  | _=>exact False.elim h
 | ex C=>exact h
 | bad=>exact False.elim h
theorem RQ.truth (h:RQ X σ H (r.bind fun d=>truth d t f) Q):RQ X σ H r fun v H'=>∃ k,v=.bl k/\if k=true then RQ X σ H' t Q else RQ X σ H' f Q:=by
 cases r with
 | ok d =>
  cases d with
  | bl k =>
   cases k with
   | true=>exact fun v H' s r=>by cases r;exact ⟨true,rfl,IU (RQ.mono s h)⟩
   | false=>exact fun v H' s r=>by cases r;exact ⟨false,rfl,IV (RQ.mono s h)⟩
  | _=>exact False.elim h
 | ex C=>exact h
 | bad=>exact False.elim h
theorem p6 {k:Bool} {A B A' B':Prop} (h:if k=true then A else B) (f:A->A') (g:B->B'):if k=true then A' else B':=by
 cases k with
 | true=>exact IU (f (by simpa using h))
 | false=>exact IV (g (by simpa using h))
theorem pA (h:ST X a ga):ST X (.UnaryOp .Not a pos) (uY ga):=PT.weak (Lo h) fun σ H Q ⟨δ,hσ,q⟩=>⟨δ,hσ,(RT.truth q).to fun k H' s ⟨_,z⟩=>by
 cases k with
 | true=>exact (show RT X σ H' (.ok ↥35) Q by simpa using z) H' ↥30
 | false=>exact (show RT X σ H' (.ok ↥26) Q by simpa using z) H' ↥30⟩
theorem t_w (h:SW X e g):ST X e g:=PW.pt h
theorem j1 (h:ST X a ga):SW X (.BoolOp .And [a] pos) ga:=HG h
theorem gX (h:ST X a ga):SW X (.BoolOp .Or [a] pos) ga:=Ll h
theorem w_and {rest:List Expr} (h:ST X a ga) (hb:SW X (.BoolOp .And (b::rest) pos) gb):SW X (.BoolOp .And (a::b::rest) pos) (eB ga gb) :=
 PW.weak (Lm h hb) fun σ H Q ⟨δ,hσ,q⟩=>⟨δ,hσ,(RT.truth q).to fun k H' s ⟨_,z⟩=>p6 z (fun z=>⟨δ,hσ.mono s,z⟩) (fun z=>z H' ↥30)⟩
theorem w_or {rest:List Expr} (h:ST X a ga) (hb:SW X (.BoolOp .Or (b::rest) pos) gb):SW X (.BoolOp .Or (a::b::rest) pos) (or_ ga gb) :=
 PW.weak (N5 h hb) fun σ H Q ⟨δ,hσ,q⟩=>⟨δ,hσ,(RT.truth q).to fun k H' s ⟨_,z⟩=>p6 z (fun z=>z H' ↥30) (fun z=>⟨δ,hσ.mono s,z⟩)⟩
theorem dF {op} (h:SE X a g):SE X (.BoolOp op [a] pos) g:=LA h
theorem dP {rest:List Expr} (h:SE X a ga) (hb:SE X (.BoolOp .And (b::rest) pos) gb):SE X (.BoolOp .And (a::b::rest) pos) (eB ga gb) :=
 PE.weak (LI h hb) fun σ H Q ⟨δ,hσ,q⟩=>⟨δ,hσ,(RQ.truth q).to fun v H' s ⟨k,e,z⟩=>⟨k,e,p6 z (fun z=>⟨δ,hσ.mono s,z⟩) (fun z=>z _ H' ↥30 (.bl _))⟩⟩
theorem FK {rest:List Expr} (h:SE X a ga) (hb:SE X (.BoolOp .Or (b::rest) pos) gb):SE X (.BoolOp .Or (a::b::rest) pos) (or_ ga gb) :=
 PE.weak (Ob h hb) fun σ H Q ⟨δ,hσ,q⟩=>⟨δ,hσ,(RQ.truth q).to fun v H' s ⟨k,e,z⟩=>⟨k,e,p6 z (fun z=>z _ H' ↥30 (.bl _)) (fun z=>⟨δ,hσ.mono s,z⟩)⟩⟩
theorem Jp (h:SE X a ga):SE X (.UnaryOp .Not a pos) (uY ga):=PE.weak (LB h) fun σ H Q ⟨δ,hσ,q⟩=>⟨δ,hσ,(RQ.truth q).to fun v H' s ⟨k,e,z⟩=>⟨k,e,by
 cases k with
 | true=>exact (show RQ X σ H' (.ok ↥35) Q by simpa using z) _ H' ↥30 (.bl _)
 | false=>exact (show RQ X σ H' (.ok ↥26) Q by simpa using z) _ H' ↥30 (.bl _)⟩⟩
theorem zg (h:ST X c gc) (ha:SE X a ga) (hb:SE X b gb):SE X (.IfExp c a b pos) (ife gc ga gb) :=
 PE.weak (DD h ha hb) fun σ H Q ⟨δ,hσ,q⟩=>⟨δ,hσ,(RQ.truthT q).to fun k H' s ⟨_,z⟩=>p6 z (fun z=>⟨δ,hσ.mono s,z⟩) (fun z=>⟨δ,hσ.mono s,z⟩)⟩
theorem u2 {op op':CmpOp} {f f':D->D->R D} (nx:lT f) (nx':lT f') (ho:OpR X (compareOp op) (rD X f)) (ho':OpR X (compareOp op') (rD X f')) (ha:SE X a ga) (hb:SE X b gb) (hc:SE X c gc)
  (hm:lastMarks [op,op'] [b,c]=false:=by with_unfolding_all rfl):ST X (.Compare a [op,op'] [b,c] pos) (chain f f' ga gb gc):=by
 refine PT.weak (Dv ho ho' ha hb hc hm) fun σ H Q h => ?_
 obtain ⟨δ,hσ,q⟩:=qH h
 refine ⟨δ,hσ,(RQ.bind q).to fun x H1 s1 ⟨_,dx,r1,q1⟩=>⟨δ,hσ.mono s1,(RQ.bind q1).to fun y H2 s2 ⟨_,dy,r2,q2⟩ => ?_⟩⟩
 have q3:=RQ.truth q2
 refine RQ.op nx (r1.mono s2) r2 (q3.to fun v H3 s3 ⟨k,e,z⟩=>⟨k,e,p6 z (fun z=>⟨δ,((hσ.mono s1).mono s2).mono s3,(RQ.bind z).to fun w H4 s4 ⟨_,dw,r4,q4⟩ => ?_⟩) (fun z=>z _ H3 ↥30 (.bl _))⟩)
 exact RQ.op nx' ((r2.mono s3).mono s4) r4 q4
theorem bj:SA X [] []:=PA.weak tK fun σ H Q ⟨δ,hσ,h⟩=>h [] H (aD.refl H) .nil
theorem RA.cons (h:RA X σ H (evs (g::gs) δ) Q):RQ X σ H (g δ) fun v H1=>RA X σ H1 (evs gs δ) fun vs H2=>aD H1 H2->∀ d,Rep X.K X.mg H1 v d->Q (v::vs) H2:=by
 unfold evs at h
 cases q:g δ with
 | ok d =>
  rw [q] at h
  refine fun v H1 s1 r1 => ?_
  simp only [R.bind] at h
  cases q2:evs gs δ with
  | ok ds =>
   rw [q2] at h
   exact fun vs H2 s2 rs s2' d' r'=>h (v::vs) H2 (s1.trans s2) (.cons (r1.mono s2) rs)
  | ex C=>rw [q2] at h;exact fun Ca hc H' s'=>h Ca hc H' (s1.trans s')
  | bad=>rw [q2] at h;exact h
 | ex C=>rw [q] at h;exact h
 | bad=>rw [q] at h;exact h
theorem RA.to (h:RA X σ H r Q) (g:∀ v H',aD H H'->Q v H'->Q' v H'):RA X σ H r Q':=by
 cases r with
 | ok d=>exact fun v H' s r=>g v H' s (h v H' s r)
 | ex C=>exact h
 | bad=>exact h
theorem ag (ha:SE X e g) (hr:SA X es gs) (hs:starEach (e::es) X.env=(false,eval e X.env)::starEach es X.env:=by rfl):SA X (e::es) (g::gs) :=
 PA.weak (oj ha hr hs) fun σ H Q ⟨δ,hσ,h⟩=>by
  refine ⟨δ,hσ,?_⟩
  cases q:g δ with
  | ok d =>
   have h':=RA.cons h
   rw [q] at h'
   exact fun v H1 s1 r1=>⟨δ,hσ.mono s1,(h' v H1 s1 r1).to fun vs H2 s2 z=>z s2 d r1⟩
  | ex C =>
   have h':=RA.cons h
   rw [q] at h'
   exact h'
  | bad =>
   have h':=RA.cons h
   rw [q] at h'
   exact h'
theorem aK {x1} (h:SA X es gs) (hl:es.length<=1000) (hg:gs.length=es.length:=by rfl):SE X (.Tuple es x1 pos) (cF gs) :=
 PE.weak (Lz h) fun σ H Q ⟨δ,hσ,q⟩=>⟨δ,hσ,by
  have q':=RA.bind q
  cases e:evs gs δ with
  | ok ds =>
   have hd:ds.length=gs.length:=evs_len e
   rw [e] at q'
   refine fun vs H1 s1 rs => ?_
   obtain ⟨_,ds',rs',q2⟩:=q' vs H1 s1 rs
   refine ⟨by rw [rs.length,hd,hg];exact Nat.le_of_lt (j3 hl),fun p hp=>q2 _ _ (bb hp _) (.tup (SqT.of bz) (rs'.mono (bb hp _)))⟩
  | ex C=>rw [e] at q';exact q'
  | bad=>rw [e] at q';exact q'⟩
where
 evs_len {δ:Dt}:∀ {gs:List E} {ds:List D},evs gs δ=.ok ds->ds.length=gs.length
  | [],ds,e=>by cases e;rfl
  | g::gs,ds,e=>by
   unfold evs at e
   cases q:g δ with
   | ok d =>
    rw [q] at e
    simp only [R.bind] at e
    cases q2:evs gs δ with
    | ok ds'=>rw [q2] at e;cases e;simp [evs_len q2]
    | ex C=>rw [q2] at e;cases e
    | bad=>rw [q2] at e;cases e
   | ex C=>rw [q] at e;cases e
   | bad=>rw [q] at e;cases e
theorem iV (h:SA X es gs) (hl:es.length<=1000) (hg:gs.length=es.length:=by rfl):SE X (.List es pos) (rG gs) :=
 PE.weak (Fw h) fun σ H Q ⟨δ,hσ,q⟩=>⟨δ,hσ,by
  have q':=RA.bind q
  cases e:evs gs δ with
  | ok ds =>
   have hd:ds.length=gs.length:=aK.evs_len e
   rw [e] at q'
   refine fun vs H1 s1 rs => ?_
   obtain ⟨_,ds',rs',q2⟩:=q' vs H1 s1 rs
   refine ⟨by rw [rs.length,hd,hg];exact Nat.le_of_lt (j3 hl),fun p hp=>q2 _ _ (bb hp _) (.lst (SqL.of bz) (rs'.mono (bb hp _)))⟩
  | ex C=>rw [e] at q';exact q'
  | bad=>rw [e] at q';exact q'⟩
theorem Vr:lT oIx:=fun x y C z=>by
 unfold oIx at z
 split at z
 ·split at z<;>cases z
 ·split at z<;>cases z
 ·split at z
  ·split at z<;>cases z
  ·cases z
 ·cases z
theorem xN (rs:Reps X.K X.mg H xs ds) (h:((EV.ixN ds.length i).bind fun j=>ds[j]?)=some d):∃ v,atI xs i=some v/\Rep X.K X.mg H v d:=by
 have el:=rs.length
 cases q:EV.ixN ds.length i with
 | none=>rw [q] at h;cases h
 | some j =>
  rw [q] at h
  obtain ⟨v,h1,h2⟩:=rs.get h
  refine ⟨v,?_,h2⟩
  unfold atI
  rw [el,show L2.ixN ds.length i=some j from q]
  exact h1
theorem VH:IxR X (rD X oIx):=by
 intro value slice pins s σ H x y v u Q I rx ry ⟨dx,dy,d,r1,r2,e,q⟩ hs
 unfold oIx at e
 split at e
 ·split at e
  ·rename_i h
   cases e;cases r1;cases r2
   rename_i a xs hq rs
   obtain ⟨w,h1,h2⟩:=xN rs h
   exact p5 value slice pins s σ H _ _ v u Q I rx ry ⟨a,xs,_,w,rfl,rfl,hq,h1,q _ _ ↥30 h2⟩ hs
  ·cases e
 ·split at e
  ·rename_i h
   cases e;cases r1;cases r2
   rename_i a xs hq rs
   obtain ⟨w,h1,h2⟩:=xN rs h
   exact IP value slice pins s σ H _ _ v u Q I rx ry ⟨a,xs,_,w,rfl,rfl,hq,h1,q _ _ ↥30 h2⟩ hs
  ·cases e
 ·split at e
  ·rename_i hz
   split at e
   ·rename_i c h
    cases e;cases r1;cases r2
    refine Mo value slice pins s σ H _ _ v u Q I rx ry ⟨_,_,c,rfl,rfl,Nat.le_trans hz (by rw [sizeLine_eq];decide),?_,q _ _ ↥30 (.str _)⟩ hs
    exact h
   ·cases e
  ·cases e
 ·cases e
theorem ze (ha:SE X a ga) (hb:SE X b gb) (hs:Cg b:=by intro _ _;rfl):SE X (.Subscript a b pos) (EV.bin oIx ga gb) :=
 PE.weak (Od VH ha hb hs) fun σ H Q h=>by
  obtain ⟨δ,hσ,q⟩:=BX h
  refine ⟨δ,hσ,q.to fun x H1 s1 ⟨δ1,hσ1,q1⟩=>⟨δ1,hσ1,q1.to fun y H2 s2 ⟨dx,dy,r1,r2,q2⟩=>RQ.op Vr r1 r2 q2⟩⟩
end
end ES
namespace ES
open PySem PySem.Spec PyProof.Rows L2 EV
unseal SE ST SW SA
abbrev Os:=List (Nat×Addr)
def l4 (os:Os):List Addr:=os.map (·.2)
def hide (H:Hp) (os:Os):Hp:=fun a=>if a∈l4 os then none else H a
theorem xx (H:Hp):hide H []=H:=by
 funext a
 unfold hide l4
 simp
theorem rM {H:Hp} {os:Os} {a:Addr} (h:a∈l4 os):hide H os a=none:=if_pos h
theorem dt {H:Hp} {os:Os} {a:Addr} (h:a∉l4 os):hide H os a=H a:=if_neg h
theorem bq (H:Hp) (os:Os):aD ↥36 H:=fun b o e=>by
 unfold hide at e
 split at e
 ·cases e
 ·exact e
theorem iT (os:Os) (s:aD H H'):aD ↥36 (hide H' os):=fun b o e=>by
 unfold hide at e ⊢
 split at e
 ·cases e
 ·rename_i h
  rw [if_neg h]
  exact s b o e
structure StO (X:Cx) (H:Hp) (σ:L2.St) (δ:Dt) (os:Os):Prop where
 st:Stt X.K X.mg ↥36 σ δ
 lst:∀ p∈os,∃ xs ds,H p.2=some (.lst xs)/\σ[p.1]? = some (some (.ref p.2))/\δ[p.1]? = some (some (.own ds))/\Reps X.K X.mg ↥36 xs ds
 own:∀ i ds,δ[i]? = some (some (.own ds))->∃ a,(i,a)∈os
 inj:∀ i j a,(i,a)∈os->(j,a)∈os->i=j
theorem ky {os:Os} {a:Addr} (h:a∈l4 os):∃ p∈os,p.2=a:=by
 obtain ⟨p,hp,e⟩:=List.mem_map.mp h
 exact ⟨p,hp,e⟩
theorem jE {os:Os} {p:Nat×Addr} (h:p∈os):p.2∈l4 os:=List.mem_map.mpr ⟨p,h,rfl⟩
def Fu (h:Heap) (os:Os):List ↥14:=pX (l4 os) h
section
variable {X:Cx} {pins:List ↥14} {σ:L2.St} {H H':Hp} {s s':Shared} {os:Os}
def M1 (H:Hp) (os:Os):Prop:=∀ a∈l4 os,∃ xs,H a=some (.lst xs)
theorem m8 (I:Inv X pins σ H s) (hl:M1 H os):Inv X (pins++Fu s.heap os) σ ↥36 s:=by
 have ne:∀ {b:Addr} {o:HO},H b=some o->(∀ xs,o ≠ .lst xs)->hide H os b=some o:=fun {b o} e n=>by
  rw [dt fun z => ?_];exact e
  obtain ⟨xs,q⟩:=hl b z
  rw [e] at q
  exact n xs (Option.some.inj q)
 refine ⟨I.ok,I.os,I.bare,⟨I.base.keep,I.base.slot,fun b o e n hx => ?_,I.base.there,fun b xs e => ?_,fun b o u e => ?_,fun b ps e => ?_⟩,I.loc,I.cell,?_,fun x c e => ?_,fun p hp => ?_,fun a o e => ?_,I.len⟩
 ·unfold hide;split
  ·rfl
  ·exact I.base.free b o e n hx
 ·exact ne (I.base.tups b xs e) fun _ z=>nomatch z
 ·exact ne (I.base.frzs b o u e) fun _ z=>nomatch z
 ·obtain ⟨more,q⟩:=I.base.tbls b ps e
  exact ⟨more,ne q fun _ z=>nomatch z⟩
 ·unfold hide;split
  ·rfl
  ·exact I.free
 ·unfold hide;split
  ·rfl
  ·exact I.freeC x c e
 ·rw [<- List.append_assoc] at hp
  rcases List.mem_append.mp hp with z | z
  ·obtain ⟨e,n,r⟩:=I.pin p z
   refine ⟨e,?_,r⟩
   unfold hide;split
   ·rfl
   ·exact n
  ·obtain ⟨hb,e⟩:=tU z
   obtain ⟨xs,q⟩:=hl p.1 hb
   obtain ⟨_,its,n,_,e'⟩:=I.hok p.1 _ q
   rw [e] at e'
   have e2:p.2={ cls:=.type "list",data:=.seq its.toArray n }:=Option.some.inj e'
   refine ⟨e,rM hb,fun z => ?_,fun z => ?_,fun v z => ?_⟩
   ·rw [z,I.free] at q;cases q
   ·have hx:p.1∉X.ex:=fun w=>I.ok.exfs p.1 w z
    obtain ⟨_,o0,ho0,_⟩:=I.ok.funs.mem z
    rw [I.base.free p.1 o0 ho0 (I.ok.frf p.1 z) hx] at q;cases q
   ·rw [e2] at z;cases z
 ·have hna:a∉l4 os:=fun z=>by rw [rM z] at e;cases e
  rw [dt hna] at e
  exact (I.hok a o e).stay (fun _ _ _ q=>q) (fun b q=>ne q fun _ z=>nomatch z) fun b xs q=>ne q fun _ z=>nomatch z
def hW (H H':Hp) (os:Os):Hp:=fun a=>if a∈l4 os then H a else H' a
theorem kD (h:∀ a∈l4 os,H' a=none):hide (hW H H' os) os=H':=by
 funext a
 unfold hide hW
 by_cases z:a∈l4 os
 ·rw [if_pos z,h a z]
 ·rw [if_neg z,if_neg z]
theorem m7 (hx:X.ex=[]) (I0:Inv X pins σ H s) (hl:M1 H os) (I:Inv X (pins++Fu s.heap os) σ H' s'):Inv X pins σ (hW H H' os) s'/\∀ a∈l4 os,H' a=none:=by
 have pin:∀ a∈l4 os,∃ o,s.heap.get? a=some o/\s'.heap.get? a=some o/\H' a=none/\a≠X.env.locals/\a∉X.fs:=fun a ha=>by
  obtain ⟨xs,q⟩:=hl a ha
  obtain ⟨o,e⟩:∃ o,s.heap.get? a=some o:=by
   obtain ⟨_,its,n,_,e⟩:=I0.hok a _ q
   exact ⟨_,e⟩
  obtain ⟨e1,e2,e3,e4,_⟩:=I.pin (a,o) (List.mem_append_right _ (List.mem_append_right _ (fA ha e)))
  exact ⟨o,e,e1,e2,e3,e4⟩
 have hn:∀ a∈l4 os,H' a=none:=fun a ha=>(pin a ha).choose_spec.2.2.1
 have vis:∀ {b:Addr} {o:HO},H' b=some o->hW H H' os b=some o:=fun {b o} e=>by
  unfold hW;rw [if_neg fun z => ?_];exact e
  rw [hn b z] at e;cases e
 refine ⟨⟨I.ok,I.os,I.bare,⟨I.base.keep,I.base.slot,fun b o e n hx' => ?_,I.base.there,fun b xs e=>vis (I.base.tups b xs e),fun b o u e=>vis (I.base.frzs b o u e),fun b ps e => ?_⟩,I.loc,I.cell,?_,fun x c e => ?_,fun p hp => ?_,fun a o e => ?_,I.len⟩,hn⟩
 ·unfold hW;split
  ·exact I0.base.free b o e n hx'
  ·exact I.base.free b o e n hx'
 ·obtain ⟨more,q⟩:=I.base.tbls b ps e
  exact ⟨more,vis q⟩
 ·unfold hW;split
  ·exact I0.free
  ·exact I.free
 ·unfold hW;split
  ·exact I0.freeC x c e
  ·exact I.freeC x c e
 ·obtain ⟨e,n,r⟩:=I.pin p (by rw [<- List.append_assoc];exact List.mem_append_left _ hp)
  refine ⟨e,?_,r⟩
  unfold hW;split
  ·exact (I0.pin p hp).2.1
  ·exact n
 ·by_cases z:a∈l4 os
  ·obtain ⟨ob,e0,e1,_⟩:=pin a z
   unfold hW at e
   rw [if_pos z] at e
   obtain ⟨xs,q⟩:=hl a z
   rw [e] at q
   have q':o=.lst xs:=Option.some.inj q
   subst q'
   obtain ⟨hz,its,n,r,e2⟩:=I0.hok a _ e
   rw [e0] at e2
   have e3:ob=_:=Option.some.inj e2
   subst e3
   exact ⟨hz,its,n,r,e1⟩
  ·unfold hW at e
   rw [if_neg z] at e
   exact (I.hok a o e).stay (fun _ _ _ q=>q) (fun b q=>vis q) fun b xs q=>vis q
end
section
variable {K:PySem.W.Frag} {mg:Str->Option Value} {H H':Hp}
def NoL (H H':Hp):Prop:=∀ b o,H b=some o->(∀ xs,o ≠ .lst xs)->(∀ ob xs,o ≠ .frz ob (.lst xs))->H' b=some o
theorem Dh (k:NoL H H') (h:SqT K H a xs):SqT K H' a xs:=by
 rcases h with (h | ⟨o,h⟩) | h
 ·exact .inl (.inl (k _ _ h (fun _ z=>nomatch z) fun _ _ z=>nomatch z))
 ·exact .inl (.inr ⟨o,k _ _ h (fun _ z=>nomatch z) fun _ _ z=>by cases z⟩)
 ·exact .inr h
mutual
theorem rg (k:NoL H H'):∀ {v:V} {d:D},d.flat=true->Rep K mg H v d->Rep K mg H' v d
 | _,_,_,.non=>.non
 | _,_,_,.bl b=>.bl b
 | _,_,_,.int i=>.int i
 | _,_,_,.str x=>.str x
 | _,.tup ds,f,.tup h r=>.tup (Dh k h) (mX k (by simpa [D.flat] using f) r)
 | _,.lst ds,f,_=>by simp [D.flat] at f
 | _,_,_,.ty n=>.ty n
 | _,_,_,.cls h=>.cls h
 | _,_,_,.exc h e=>.exc h (k _ _ e (fun _ z=>nomatch z) fun _ _ z=>nomatch z)
 | _,.ins n ds,f,.ins h e r=>.ins h (k _ _ e (fun _ z=>nomatch z) fun _ _ z=>nomatch z) (xc k (by simpa [D.flat] using f) r)
theorem mX (k:NoL H H'):∀ {vs:List V} {ds:List D},D.flats ds=true->Reps K mg H vs ds->Reps K mg H' vs ds
 | _,_,_,.nil=>.nil
 | _,d::r,f,.cons h t=>by
  have f':d.flat=true/\D.flats r=true:=by simpa [D.flats] using f
  exact .cons (rg k f'.1 h) (mX k f'.2 t)
theorem xc (k:NoL H H'):∀ {vs:List (Str×V)} {ds:List (String×D)},D.flatf ds=true->Repf K mg H vs ds->Repf K mg H' vs ds
 | _,_,_,.nil=>.nil
 | _,(_,d)::r,f,.cons h t=>by
  have f':d.flat=true/\D.flatf r=true:=by simpa [D.flatf] using f
  exact .cons (rg k f'.1 h) (xc k f'.2 t)
end
theorem xm {os:Os} (hl:M1 H os):NoL H ↥36:=fun b o e n _=>by
 rw [dt fun z => ?_];exact e
 obtain ⟨xs,q⟩:=hl b z
 rw [e] at q
 exact n xs (Option.some.inj q)
end
section
variable {X:Cx} {σ:L2.St} {δ:Dt} {H H':Hp} {os:Os}
theorem StO.lsts (S:StO X H σ δ os):M1 H os:=fun a ha=>by
 obtain ⟨p,hp,rfl⟩:=ky ha
 obtain ⟨xs,_,h,_⟩:=S.lst p hp
 exact ⟨xs,h⟩
theorem StO.nil (h:Stt X.K X.mg H σ δ) (hn:∀ (i:Nat) (ds:List D),δ[i]? ≠ some (some (.own ds))):StO X H σ δ []:=⟨by rw [xx];exact h,fun p hp=>(nomatch hp),fun i ds e=>absurd e (hn i ds),fun _ _ _ z=>(nomatch z)⟩
theorem StO.mono (S:StO X H σ δ os) (s:aD H H'):StO X H' σ δ os :=
 ⟨S.st.mono (iT os s),fun p hp=>let ⟨xs,ds,a,b,c,d⟩:=S.lst p hp;⟨xs,ds,s _ _ a,b,c,d.mono (iT os s)⟩,S.own,S.inj⟩
theorem StO.shown (S:StO X H σ δ os) (s:aD ↥36 H') (hn:∀ a∈l4 os,H' a=none):StO X (hW H H' os) σ δ os:=by
 have e:=kD (H:=H) hn
 refine ⟨by rw [e];exact S.st.mono s,fun p hp => ?_,S.own,S.inj⟩
 obtain ⟨xs,ds,a,b,c,d⟩:=S.lst p hp
 exact ⟨xs,ds,by unfold hW;rw [if_pos (jE hp)];exact a,b,c,by rw [e];exact d.mono s⟩
theorem StO.view (S:StO X H σ δ os):Stt X.K X.mg H σ (view δ):=by
 refine ⟨by unfold EV.view;rw [List.length_map];exact S.st.1,fun i d e n => ?_⟩
 unfold EV.view at e
 rw [List.getElem?_map] at e
 cases q:δ[i]? with
 | none=>rw [q] at e;cases e
 | some c =>
  rw [q] at e
  cases c with
  | none=>cases e
  | some d0 =>
   by_cases ho:∃ ds,d0=.own ds
   ·obtain ⟨ds,rfl⟩:=ho
    have e':D.lst ds=d:=Option.some.inj (Option.some.inj e)
    subst e'
    obtain ⟨a,ha⟩:=S.own i ds q
    obtain ⟨xs,ds',h1,h2,h3,h4⟩:=S.lst _ ha
    rw [q] at h3
    cases h3
    exact ⟨.ref a,h2,.lst (SqL.of h1) (h4.mono (bq H os))⟩
   ·have e':d0=d:=by
     cases d0<;>first | exact absurd ⟨_,rfl⟩ ho | exact Option.some.inj (Option.some.inj e)
    subst e'
    obtain ⟨v,h1,h2⟩:=S.st.2 i d0 q n
    exact ⟨v,h1,h2.mono (bq H os)⟩
theorem StO.noOwn (S:StO X H σ δ os) (s:aD ↥36 H'):Stt X.K X.mg H' σ (noOwn δ):=by
 refine ⟨by unfold EV.noOwn;rw [List.length_map];exact S.st.1,fun i d e n => ?_⟩
 unfold EV.noOwn at e
 rw [List.getElem?_map] at e
 cases q:δ[i]? with
 | none=>rw [q] at e;cases e
 | some c =>
  rw [q] at e
  cases c with
  | none=>cases e
  | some d0 =>
   by_cases ho:∃ ds,d0=.own ds
   ·obtain ⟨ds,rfl⟩:=ho
    cases e
   ·have e':d0=d:=by
     cases d0<;>first | exact absurd ⟨_,rfl⟩ ho | exact Option.some.inj (Option.some.inj e)
    subst e'
    obtain ⟨v,h1,h2⟩:=S.st.2 i d0 q n
    exact ⟨v,h1,h2.mono s⟩
end
def FQ (X:Cx) (σ:L2.St) (H:Hp) (os:Os) (δ:Dt) (r:R D) (Q:VK):Prop:=match r with
 | .ok d=>∀ v H',StO X H' σ δ os->aD ↥36 (hide H' os)->Rep X.K X.mg (hide H' os) v d->Q v H'
 | .ex C=>∀ Ca,X.mg C=some (.ref Ca)->∀ H',aD ↥36 H'->Stt X.K X.mg H' σ (noOwn δ)->ew X Ca σ H'
 | .bad=>False
def tF (X:Cx) (g:E):TE:=fun σ H Q=>∃ δ os,StO X H σ δ os/\FQ X σ H os δ (g δ) Q
def FT (X:Cx) (σ:L2.St) (H:Hp) (os:Os) (δ:Dt) (r:R D) (Q:Bool->Hp->Prop):Prop:=match r with
 | .ok (.bl b)=>∀ H',StO X H' σ δ os->aD ↥36 (hide H' os)->Q b H'
 | .ex C=>∀ Ca,X.mg C=some (.ref Ca)->∀ H',aD ↥36 H'->Stt X.K X.mg H' σ (noOwn δ)->ew X Ca σ H'
 | _=>False
def tFT (X:Cx) (g:E):TT:=fun σ H Q=>∃ δ os,StO X H σ δ os/\FT X σ H os δ (g δ) Q
section
variable {X:Cx} {e:Expr} {g:E}
theorem xC (hx:X.ex=[]) (h:SE X e g):PE X e (tF X g):=by
 intro pins s σ H Q I ⟨δ,os,S,q⟩
 have hl:=S.lsts
 have hw:RQ X σ ↥36 (g δ) (fun v H1=>aD ↥36 H1/\∃ d,g δ=.ok d/\Rep X.K X.mg H1 v d):=by
  cases r:g δ with
  | ok d=>exact fun v H' s r=>⟨s,d,rfl,r⟩
  | ex C =>
   rw [r] at q
   exact fun Ca hc H' s'=>q Ca hc H' s' (S.noOwn s')
  | bad=>rw [r] at q;exact q
 refine thn (h _ s σ _ _ (m8 I hl) ⟨δ,S.st,hw⟩) fun u s' ⟨v,H1,I1,rv,sm,d,e,rd⟩ => ?_
 obtain ⟨I2,hn⟩:=m7 hx I hl I1
 rw [e] at q
 have eh:=kD (H:=H) hn
 exact ⟨v,_,I2,rv,q v _ (S.shown sm hn) (by rw [eh];exact sm) (by rw [eh];exact rd)⟩
theorem FG (hx:X.ex=[]) (h:ST X e g):PT X e (tFT X g):=by
 intro pins s σ H Q I ⟨δ,os,S,q⟩
 have hl:=S.lsts
 have hw:RT X σ ↥36 (g δ) (fun b H1=>aD ↥36 H1/\g δ=.ok (.bl b)):=by
  cases r:g δ with
  | ok d =>
   rw [r] at q
   cases d with
   | bl b=>exact fun H' s=>⟨s,rfl⟩
   | _=>exact False.elim q
  | ex C =>
   rw [r] at q
   exact fun Ca hc H' s'=>q Ca hc H' s' (S.noOwn s')
  | bad=>rw [r] at q;exact False.elim q
 refine thn (h _ s σ _ _ (m8 I hl) ⟨δ,S.st,hw⟩) fun b s' ⟨H1,I1,sm,e⟩ => ?_
 obtain ⟨I2,hn⟩:=m7 hx I hl I1
 rw [e] at q
 have eh:=kD (H:=H) hn
 exact ⟨_,I2,q _ (S.shown sm hn) (by rw [eh];exact sm)⟩
def tB (X:Cx) (g:E):TE:=fun σ H Q=>∃ δ os,StO X H σ δ os/\(∀ d,g (view δ)=.ok d->d.flat=true)/\FQ X σ H os δ (g (view δ)) Q
def tBT (X:Cx) (g:E):TT:=fun σ H Q=>∃ δ os,StO X H σ δ os/\FT X σ H os δ (g (view δ)) Q
theorem wj (h:SE X e g):PE X e (tB X g):=by
 intro pins s σ H Q I ⟨δ,os,S,hf,q⟩
 refine h pins s σ H Q I ⟨_,S.view,?_⟩
 cases r:g (view δ) with
 | ok d =>
  rw [r] at q
  refine fun v H' s r'=>q v H' (S.mono s) (iT os s) (rg (xm ((S.mono s).lsts)) (hf d r) r')
 | ex C =>
  rw [r] at q
  exact fun Ca hc H' s'=>q Ca hc H' ((bq H os).trans s') (S.noOwn ((bq H os).trans s'))
 | bad=>rw [r] at q;exact q
theorem JD (h:ST X e g):PT X e (tBT X g):=by
 intro pins s σ H Q I ⟨δ,os,S,q⟩
 refine h pins s σ H Q I ⟨_,S.view,?_⟩
 cases r:g (view δ) with
 | ok d =>
  rw [r] at q
  cases d with
  | bl b=>exact fun H' s=>q H' (S.mono s) (iT os s)
  | _=>exact False.elim q
 | ex C =>
  rw [r] at q
  exact fun Ca hc H' s'=>q Ca hc H' ((bq H os).trans s') (S.noOwn ((bq H os).trans s'))
 | bad=>rw [r] at q;exact False.elim q
end
def OQ (X:Cx) (D:Ends) (F:Hp):O->Prop
 | .nx δ=>∀ σ H os,StO X H σ δ os->aD F ↥36->D.nx σ H
 | .bk δ=>∀ σ H os,StO X H σ δ os->aD F ↥36->D.bk σ H
 | .ct δ=>∀ σ H os,StO X H σ δ os->aD F ↥36->D.ct σ H
 | .rt d=>∀ v H,aD F H->Rep X.K X.mg H v d->D.rt v H
 | .ex C δ=>∀ σ H,aD F H->Stt X.K X.mg H σ δ->∀ Ca,X.mg C=some (.ref Ca)->ew X Ca σ H
 | .mk C δ=>∀ σ H,aD F H->∀ Ca,X.mg C=some (.ref Ca)->em X Ca σ H
 | .hx C δ=>∀ σ H,aD F H->Stt X.K X.mg H σ δ->∀ Ca,X.mg C=some (.ref Ca)->ehx X Ca σ H
 | .bad=>False
def tS (X:Cx) (g:S):TS:=fun D σ H=>∃ δ os,StO X H σ δ os/\OQ X D ↥36 (g δ)
@[irreducible] def SS (X:Cx) (st:Stmt) (g:S):Prop:=PS X st (tS X g)
@[irreducible] def SSs (X:Cx) (st:List Stmt) (g:S):Prop:=PSs X st (tS X g)
unseal SS SSs
theorem OQ.mono {X:Cx} {D:Ends} {F F':Hp} {o:O} (s:aD F F') (h:OQ X D F o):OQ X D F' o:=by
 cases o with
 | nx δ=>exact fun σ H os S s'=>h σ H os S (s.trans s')
 | bk δ=>exact fun σ H os S s'=>h σ H os S (s.trans s')
 | ct δ=>exact fun σ H os S s'=>h σ H os S (s.trans s')
 | rt d=>exact fun v H s' r=>h v H (s.trans s') r
 | ex C δ=>exact fun σ H s' S=>h σ H (s.trans s') S
 | mk C δ=>exact fun σ H s'=>h σ H (s.trans s')
 | hx C δ=>exact fun σ H s' S=>h σ H (s.trans s') S
 | bad=>exact h
theorem OQ.lv {X:Cx} {D:Ends} {F:Hp} {o:O} {n:L2.St->Hp->Prop} (hn:∀ δ,o ≠ .nx δ) (h:OQ X D F o):OQ X { D with nx:=n } F o:=by
 cases o with
 | nx δ=>exact absurd rfl (hn δ)
 | _=>exact h
section
variable {X:Cx} {N:List Str} {H:Hp} {σ:L2.St} {δ:Dt} {os:Os}
theorem cE (os:Os) (i:Nat):∀ p∈os.filter (fun p=>p.1 != i),p∈os/\p.1≠i:=fun p hp=>by
 have:=List.mem_filter.mp hp
 exact ⟨this.1,by simpa using this.2⟩
theorem t7 (h:∀ p∈os',p∈os):aD ↥36 (hide H os'):=fun b o e=>by
 have hb:b∉l4 os:=fun z=>by rw [rM z] at e;cases e
 rw [dt hb] at e
 rw [dt fun z => ?_];exact e
 obtain ⟨p,hp,rfl⟩:=ky z
 exact hb (jE (h p hp))
theorem StO.set (S:StO X H σ δ os) (r:Rep X.K X.mg ↥36 v d):StO X H (σ.set i (some v)) (δ.set i (some d)) (os.filter fun p=>p.1 != i)/\aD ↥36 (hide H (os.filter fun p=>p.1 != i)):=by
 have sm:aD ↥36 (hide H (os.filter fun p=>p.1 != i)):=t7 fun p hp=>(cE os i p hp).1
 refine ⟨⟨(S.st.mono sm).set (r.mono sm),fun p hp => ?_,fun j ds e => ?_,fun a b c h1 h2=>S.inj a b c (cE os i _ h1).1 (cE os i _ h2).1⟩,sm⟩
 ·obtain ⟨hp',ne⟩:=cE os i p hp
  obtain ⟨xs,ds,h1,h2,h3,h4⟩:=S.lst p hp'
  exact ⟨xs,ds,h1,by rw [List.getElem?_set_ne (Ne.symm ne)];exact h2,by rw [List.getElem?_set_ne (Ne.symm ne)];exact h3,h4.mono sm⟩
 ·by_cases hj:j=i
  ·subst hj
   by_cases hl:j<δ.length
   ·rw [List.getElem?_set_self hl] at e
    have e':d=.own ds:=Option.some.inj (Option.some.inj e)
    subst e'
    cases r
   ·rw [List.getElem?_eq_none (by simp;omega)] at e
    cases e
  ·rw [List.getElem?_set_ne (Ne.symm hj)] at e
   obtain ⟨a,ha⟩:=S.own j ds e
   exact ⟨a,List.mem_filter.mpr ⟨ha,by simpa using hj⟩⟩
structure Sx (X:Cx) (N:List Str):Prop where
 sc:Sc X N
 ex:X.ex=[]
variable {e c:Expr} {g gc:E} {pos:Pos} {st:Stmt} {rest body els:List Stmt} {gs gr gb ge:S}
theorem FQ.then {r:R EV.D} {Q:VK} {D:Ends} {f:EV.D->O} (h:OQ X D ↥36 (match r with | .ok d=>f d | .ex C=>.ex C (noOwn δ) | .bad=>.bad))
  (hq:∀ d v H',r=.ok d->StO X H' σ δ os->aD ↥36 (hide H' os)->Rep X.K X.mg (hide H' os) v d->OQ X D (hide H' os) (f d)->Q v H'):FQ X σ H os δ r Q:=by
 cases r with
 | ok d=>exact fun v H' S s r=>hq d v H' rfl S s r (OQ.mono s h)
 | ex C=>exact fun Ca hc H' s' st=>h σ H' s' st Ca hc
 | bad=>exact h
theorem ar:SSs X [] aq:=PSs.weak HH fun D σ H ⟨δ,os,S,h⟩=>h σ H os S ↥30
theorem ai (h:SS X st gs):SSs X [st] gs:=AG h
theorem ae (h:SS X st gs) (hr:SSs X rest gr):SSs X (st::rest) (seq gs gr):=PSs.weak (Dw h hr) fun D σ H ⟨δ,os,S,h⟩=>⟨δ,os,S,by
 unfold seq at h
 cases q:gs δ with
 | nx δ' =>
  rw [q] at h
  exact fun σ' H' os' S' s'=>⟨δ',os',S',OQ.mono s' h⟩
 | _=>rw [q] at h;exact OQ.lv (fun _ z=>nomatch z) h⟩
theorem La:SS X (.Continue pos) cont:=PS.weak vy fun D σ H ⟨δ,os,S,h⟩=>h σ H os S ↥30
theorem NW (C:Sx X N) (i:Nat) (hN:N[i]? = some x) (hx:Sto X x) (h:SE X e g) (hsw:swapsWith e (some (.Name x pos')) pos.line X.env=pure false:=by rfl):SS X (.Assign [.Name x pos'] e pos) (assign i g) :=
 PS.weak (Ft (i:=i) (by rw [C.sc.n];exact C.sc.nd) (by rw [C.sc.n];exact hN) hx.1 (xC C.ex h) hsw hx.2) fun D σ H ⟨δ,os,S,q⟩=>⟨δ,os,S,FQ.then q fun d v H' e S' s r q'=>by
  obtain ⟨S2,s2⟩:=S'.set (i:=i) r
  exact q' _ _ _ S2 s2⟩
theorem K9 (C:Sx X N) (h:SE X e g) (hs:swapsWith e none pos.line X.env=pure false:=by rfl):SS X (.Expr e pos) (expr g) :=
 PS.weak (vx (xC C.ex h) hs) fun D σ H ⟨δ,os,S,q⟩=>⟨δ,os,S,FQ.then q fun d v H' e S' s r q'=>q' _ _ _ S' ↥30⟩
theorem NX (C:Sx X N) (h:SE X e g):SS X (.Return (some e) pos) (ret g) :=
 PS.weak (Lq (xC C.ex h)) fun D σ H ⟨δ,os,S,q⟩=>⟨δ,os,S,FQ.then q fun d v H' e S' s r q'=>q' v H' (bq _ _) (r.mono (bq _ _))⟩
theorem FT.then {r:R EV.D} {Q:Bool->Hp->Prop} {D:Ends} {ta fa:O} (h:OQ X D ↥36 (match r with | .ok ↥26=>ta | .ok ↥35=>fa | .ex C=>.ex C (noOwn δ) | _=>.bad))
  (hq:∀ b H',StO X H' σ δ os->aD ↥36 (hide H' os)->OQ X D (hide H' os) (if b=true then ta else fa)->Q b H'):FT X σ H os δ r Q:=by
 cases r with
 | ok d =>
  cases d with
  | bl b =>
   cases b with
   | true=>exact fun H' S s=>hq true H' S s (by rw [if_pos rfl];exact OQ.mono s h)
   | false=>exact fun H' S s=>hq false H' S s (by rw [if_neg ↥1];exact OQ.mono s h)
  | _=>exact h
 | ex C=>exact fun Ca hc H' s' st=>h σ H' s' st Ca hc
 | bad=>exact h
theorem TZ (C:Sx X N) (hc:ST X c gc) (ha:SSs X body gb) (hb:SSs X els ge):SS X (.If c body els pos) (ifs gc gb ge) :=
 PS.weak (Lr (FG C.ex hc) ha hb) fun D σ H ⟨δ,os,S,q⟩=>⟨δ,os,S,FT.then q fun b H' S' s q'=>by
  cases b with
  | true=>exact IU ⟨δ,os,S',by simpa using q'⟩
  | false=>exact IV ⟨δ,os,S',by simpa using q'⟩⟩
theorem lY {α:Type} {xs:List α} {n:Nat} {x:α} (h:xs[n]? = some x):xs.drop n=x::xs.drop (n+1):=by
 obtain ⟨h1,h2⟩:=List.getElem?_eq_some_iff.mp h
 rw [List.drop_eq_getElem_cons h1,h2]
def Pv (X:Cx) (D:Ends) (F F1:Hp) (i:Nat) (gb:S) (ds:List EV.D) (n:Nat) (σ:L2.St) (H:Hp):Prop:=∃ δ os,StO X H σ δ os/\aD F1 ↥36/\aD F F1/\OQ X D F (forL i gb (ds.drop n) δ)
theorem C7 {D:Ends} {F F1:Hp} {i n:Nat} {ds:List EV.D} {d:EV.D} {v:V} {δ:Dt} {os:Os} (hd:ds[n]? = some d) (S:StO X H σ δ os) (s1:aD F1 ↥36) (s0:aD F F1) (q:OQ X D F (forL i gb (ds.drop n) δ)) (r:Rep X.K X.mg ↥36 v d) :
  yZ i v σ H fun σ2 H2=>tS X gb { D with nx:=Pv X D F F1 i gb ds (n+1),ct:=Pv X D F F1 i gb ds (n+1),bk:=D.nx } σ2 H2:=by
 rw [lY hd] at q
 obtain ⟨S2,s2⟩:=S.set (i:=i) r
 refine ⟨_,_,S2,?_⟩
 unfold forL trn at q
 have s3:=(s0.trans s1).trans s2
 cases e:gb (δ.set i (some d)) with
 | nx δ1=>rw [e] at q;exact fun σ' H' os' S' s'=>⟨δ1,os',S',(s1.trans s2).trans s',s0,q⟩
 | ct δ1=>rw [e] at q;exact fun σ' H' os' S' s'=>⟨δ1,os',S',(s1.trans s2).trans s',s0,q⟩
 | bk δ1=>rw [e] at q;exact fun σ' H' os' S' s'=>q σ' H' os' S' (s3.trans s')
 | rt d'=>rw [e] at q;exact fun v' H' s' r'=>q v' H' (s3.trans s') r'
 | ex C δ1=>rw [e] at q;exact fun σ' H' s' r'=>q σ' H' (s3.trans s') r'
 | mk C δ1=>rw [e] at q;exact fun σ' H' s'=>q σ' H' (s3.trans s')
 | hx C δ1=>rw [e] at q;exact fun σ' H' s' r'=>q σ' H' (s3.trans s') r'
 | bad=>rw [e] at q;exact q
theorem MK {D:Ends} {F F1:Hp} {i n:Nat} {ds:List EV.D} (hn:ds.length<=n) (p:Pv X D F F1 i gb ds n σ H):D.nx σ H:=by
 obtain ⟨δ,os,S,s1,s0,q⟩:=p
 rw [List.drop_eq_nil_of_le hn] at q
 exact q σ H os S (s0.trans s1)
structure Lp (X:Cx):Prop where
 own:PassesOwn ↥8 X.A X.env X.xe
 calm:X.calm=true
theorem bI {c:E} {b:S}:∀ {n:Nat} {δ:Dt},bU c b n δ ≠ .bad->∀ k,bU c b (n+k) δ=bU c b n δ
 | 0,δ,h,_=>absurd rfl h
 | n+1,δ,h,k=>by
  rw [show n+1+k=(n+k)+1 by omega]
  unfold bU at h ⊢
  split
  ·rename_i q
   rw [q] at h
   simp only at h
   unfold trn at h ⊢
   split
   ·rename_i q2;rw [q2] at h;exact bI h k
   ·rename_i q2;rw [q2] at h;exact bI h k
   ·rfl
   ·rfl
  ·rfl
  ·rfl
theorem wJ {c:E} {b:S} {n:Nat} {δ:Dt} {o:O} (h:bU c b n δ=o) (ho:o ≠ .bad):lU c b δ=o:=by
 have hx:∃ n,bU c b n δ ≠ .bad:=⟨n,by rw [h];exact ho⟩
 unfold lU
 rw [dif_pos hx]
 have h1:=bI hx.choose_spec n
 have h2:=bI (show bU c b n δ ≠ .bad by rw [h];exact ho) hx.choose
 rw [Nat.add_comm] at h1
 rw [<- h1,h2,h]
theorem Hv (C:Sx X N) (L:PassesOwn ↥8 X.A X.env X.xe) (hc:ST X c gc) (hb:SSs X body gb):SS X (.While c body [] pos) (lU gc gb):=by
 refine PS.weak (Dx L (FG C.ex hc) hb) fun D σ H ⟨δ,os,S,q⟩ => ?_
 unfold lU at q
 split at q
 ·rename_i hx
  refine ⟨fun m σ H'=>∃ δ os',StO X H' σ δ os'/\aD ↥36 (hide H' os')/\OQ X D ↥36 (bU gc gb m δ),⟨_,δ,os,S,aD.refl _,q⟩,?_⟩
  rintro m σ1 H1 ⟨δ1,os1,S1,s1,q1⟩
  refine ⟨δ1,os1,S1,?_⟩
  cases m with
  | zero=>exact False.elim q1
  | succ m =>
   unfold bU at q1
   cases r:gc δ1 with
   | ok d =>
    rw [r] at q1
    cases d with
    | bl b =>
     cases b with
     | true =>
      intro H2 S2 s2
      refine IU ⟨fun σ' H'=>∃ δ os',StO X H' σ' δ os'/\aD ↥36 (hide H' os')/\OQ X D ↥36 (bU gc gb m δ),fun σ' H' w=>⟨m,Nat.lt_succ_self _,w⟩,δ1,os1,S2,?_⟩
      simp only [trn] at q1
      have s12:=s1.trans s2
      cases e:gb δ1 with
      | nx δ2=>rw [e] at q1;exact fun σ' H' os' S' s'=>⟨δ2,os',S',s12.trans s',q1⟩
      | ct δ2=>rw [e] at q1;exact fun σ' H' os' S' s'=>⟨δ2,os',S',s12.trans s',q1⟩
      | bk δ2=>rw [e] at q1;exact fun σ' H' os' S' s'=>q1 σ' H' os' S' (s12.trans s')
      | rt d'=>rw [e] at q1;exact fun v' H' s' r'=>q1 v' H' (s12.trans s') r'
      | ex C δ1=>rw [e] at q1;exact fun σ' H' s' r'=>q1 σ' H' (s12.trans s') r'
      | mk C δ1=>rw [e] at q1;exact fun σ' H' s'=>q1 σ' H' (s12.trans s')
      | hx C δ1=>rw [e] at q1;exact fun σ' H' s' r'=>q1 σ' H' (s12.trans s') r'
      | bad=>rw [e] at q1;exact q1
     | false=>exact fun H2 S2 s2=>IV (q1 σ1 H2 os1 S2 (s1.trans s2))
    | _=>exact False.elim q1
   | ex C=>rw [r] at q1;exact False.elim q1
   | bad=>rw [r] at q1;exact False.elim q1
 ·exact False.elim q
end
end ES
namespace ES
open PySem PySem.Spec PyProof.Rows L2 EV
unseal SE ST SW SA SS SSs
theorem tX {P:Program} {w:World} {H:Hp} {h:Heap} {a:Addr} {o:HO} (x:jZ P w H h a o):∃ ob,h.get? a=some ob:=by
 cases o with
 | lst xs=>obtain ⟨_,_,_,_,e⟩:=x;exact ⟨_,e⟩
 | tup xs=>obtain ⟨_,_,_,ob,e,_⟩:=x;exact ⟨_,e⟩
 | dK kvs=>obtain ⟨_,_,_,_,ob,_,_,e,_⟩:=x;exact ⟨_,e⟩
 | dT kvs=>obtain ⟨_,_,_,_,ob,_,_,e,_⟩:=x;exact ⟨_,e⟩
 | set S n=>obtain ⟨ob,_,_,_,e,_⟩:=x;exact ⟨_,e⟩
 | ins C dx fs=>obtain ⟨_,_,_,e,_⟩:=x;exact ⟨_,e⟩
 | own y=>exact x
 | xd fs=>obtain ⟨_,⟨_,_,_,e,_⟩,_⟩:=x;exact ⟨_,e⟩
 | rng lo hi=>obtain ⟨_,_,_,e⟩:=x;exact ⟨_,e⟩
 | frz ob u=>obtain ⟨e,_⟩:=x;exact ⟨_,e⟩
 | tbl ps=>exact ⟨_,(show h.get? a=some _ from x)⟩
 | met f y=>exact ⟨_,(show h.get? a=some _ from x)⟩
 | ext φ=>obtain ⟨_,e,_⟩:=x;exact e
theorem zX {fs:List Addr} {H H':Hp} {h h1 h2 B:Heap} (u:Un fs [] H H' h h1) (same:aD H H') (i1:∀ b o,h.get? b=some o->H b=none->b∉fs->B.get? b=some o)
  (i2:∀ b u o,H' b=some u->h1.get? b=some o->B.get? b=some o) (st:B.StaysIn h2) (up:h1.UpToSlots h2) (ff:∀ b∈fs,∀ o,h1.get? b=some o->∀ vs,o.data ≠ .fields vs):Un fs [] H H' h h2:=by
 have slot:∀ b o,h.get? b=some o->H b=none->b∈fs->b∉([]:List Addr)->∃ sl,h2.get? b=some { o with slots:=sl }:=fun b o e n hb hx=>by
  obtain ⟨sl,e1⟩:=u.slot b o e n hb hx
  obtain ⟨sl2,e2⟩:=up b _ e1 (ff b hb _ e1)
  exact ⟨sl2,e2⟩
 refine ⟨fun b o e n hb _=>st b o (i1 b o e n hb),slot,u.free,fun b o e hx => ?_,u.tups,u.frzs,u.tbls⟩
 cases n:H b with
 | none =>
  by_cases hb:b∈fs
  ·obtain ⟨sl,e2⟩:=slot b o e n hb hx
   exact ⟨_,e2⟩
  ·exact ⟨o,st b o (i1 b o e n hb)⟩
 | some x =>
  obtain ⟨o',e1⟩:=u.there b o e hx
  exact ⟨o',st b o' (i2 b x o' (same b x n) e1)⟩
theorem rK {P:Program} {w:World} {H':Hp} {h1 h2 B:Heap} (hok:HOk P w H' h1) (i2:∀ b u o,H' b=some u->h1.get? b=some o->B.get? b=some o) (st:B.StaysIn h2):HOk P w H' h2:=fun a o e =>
 (hok a o e).stay (fun b u hb q=>by
  rcases hb with rfl | hb
  ·exact st b u (i2 b o u e q)
  ·exact st b u (i2 b _ u hb q)) (fun _ q=>q) fun _ _ q=>q
theorem xw {P:Program} {w:World} {H':Hp} {h1 h2 B:Heap} (hok:HOk P w H' h1) (i2:∀ b u o,H' b=some u->h1.get? b=some o->B.get? b=some o) (st:B.StaysIn h2):∀ b u o,H' b=some u->h2.get? b=some o->B.get? b=some o:=fun b u o e q=>by
 obtain ⟨ob,e1⟩:=tX (hok b u e)
 have e2:=i2 b u ob e e1
 have e3:=st b ob e2
 rw [q] at e3
 cases e3
 exact e2
theorem za {base h:Heap} {l:List Env} (x:h.FunFrames base l):∀ b∈frs l,∀ o,h.get? b=some o->∀ vs,o.data ≠ .fields vs:=fun b hb o e=>by
 obtain ⟨_,o',e',d⟩:=x.mem hb
 rw [e] at e'
 cases e'
 exact d
section
variable {X:Cx} {pins:List ↥14} {σ:L2.St} {H H':Hp} {s s':Shared} {C ea:Addr}
structure Own (X:Cx):Prop where
 stk:X.stack=X.env::X.outer
 frm:X.env.frame=some X.env.locals
 ex:X.ex=[]
theorem Own.frs (h:Own X):L2.frs X.stack=X.env.locals::X.fs:=by
 rw [h.stk]
 unfold L2.frs
 rw [List.filterMap_cons,h.frm]
 rfl
theorem kN (I:Inv X pins σ H s) (O:Own X) {B:Heap} (i1:∀ b o,s.heap.get? b=some o->H b=none->b∉L2.frs X.stack->B.get? b=some o):∀ b o,X.s₀.heap.get? b=some o->X.H₀ b=none->b∉X.fs->B.get? b=some o:=fun b o e n hb=>by
 have hx:b∉X.ex:=by rw [O.ex];simp
 refine i1 b o (I.base.keep b o e n hb hx) (I.base.free b o e n hx) fun z => ?_
 rw [O.frs] at z
 rcases List.mem_cons.mp z with q | q
 ·exact absurd (Nat.lt_of_lt_of_le (Heap.lt_size e) I.ok.above) (by rw [q];exact Nat.lt_irrefl _)
 ·exact hb q
theorem Bc (I:Inv X pins σ H s) (O:Own X) (h:s.heap.get? ea=none):X.s₀.heap.get? ea=none:=by
 cases q:X.s₀.heap.get? ea with
 | none=>rfl
 | some o =>
  obtain ⟨o',e⟩:=I.base.there ea o q (by rw [O.ex];simp)
  rw [h] at e
  cases e
theorem si (I:Inv X pins σ H s) (O:Own X):Un X.fs [] X.H₀ H X.s₀.heap s.heap:=by
 have z:=I.base
 rw [O.ex] at z
 exact z
theorem BE (I:Inv X pins σ H s) (F:FlyX X.prog X.w X.stack H s C H' ea s'):Inv X pins σ H' s':=I.call' (ch:=[]) F.os F.un F.hok F.bare fun b z=>absurd z (by simp)
theorem Bp {M:Model} {E:Value->Shared->Prop} {Q:Unit->Shared->Prop} (I:Inv X pins σ H s) (O:Own X) (F:FlyX X.prog X.w X.stack H s C H' ea s') (same:aD X.H₀ H')
  (hQ:∀ s'',FlyX X.prog X.w X.outer X.H₀ X.s₀ C H' ea s''->Q () s''):wpAny M X.A (leaving X.env (.ref ea)) Q E s':=by
 obtain ⟨a0,B,hfl,i1,i2⟩:=F.fly
 have I':=BE I F
 have ff:=za hfl.2.2.1
 rw [O.stk] at hfl
 refine wpAny_leaves_onW (by rw [I.ok.frames,O.stk]) O.frm hfl fun h' f1 up=>hQ _ ⟨F.os.trans I.os,F.bare,?_,rK F.hok i2 f1.1,same,Bc I O F.new,a0,B,f1,kN I O i1,xw F.hok i2 f1.1⟩
 exact zX (si I' O) same (kN I O i1) i2 f1.1 up fun b hb=>ff b (by rw [O.frs];exact List.mem_cons_of_mem _ hb)
theorem vR {M:Model} {E:Value->Shared->Prop} {Q:Unit->Shared->Prop} (O:Own X) (F:HeldX X pins σ C H' ea s') (same:aD X.H₀ H')
  (hQ:∀ s'',FlyX X.prog X.w X.outer X.H₀ X.s₀ C H' ea s''->Q () s''):wpAny M X.A (leaving X.env (.ref ea)) Q E s':=by
 obtain ⟨a0,B,hh,i1,i2⟩:=F.fly
 have I:=F.inv
 have ff:=za hh.2.2.1
 rw [O.stk] at hh
 unfold leaving
 refine wpAny_bind (wpAny_noteFrame_againW O.frm hh.2.2.2 ?_)
 refine wpAny_landsW hh fun h' f1 up => ?_
 obtain ⟨k1,k2,⟨_,_,k3⟩,k4⟩:=f1
 refine hQ _ ⟨I.os,I.bare,?_,rK I.hok i2 k1,same,F.new,a0,B,⟨k1,k2,k3,k4⟩,i1,xw I.hok i2 k1⟩
 exact zX (si I O) same i1 i2 k1 up fun b hb=>ff b (by rw [O.frs];exact List.mem_cons_of_mem _ hb)
theorem vP {M:Model} {E:Value->Shared->Prop} {Q:Unit->Shared->Prop} {h1:Heap} {vs:List Value} (I:Inv X pins σ H s) (O:Own X) (made:Heap.MadeExcOf s.heap h1 ea (.ref C) vs) (same:aD X.H₀ H)
  (hQ:∀ s'',FlyX X.prog X.w X.outer X.H₀ X.s₀ C H ea s''->Q () s''):wpAny M X.A (leaving X.env (.ref ea)) Q E { s with heap:=h1 }:=by
 have hst:=I.stack
 have ff:=za hst
 have i1:∀ b o,s.heap.get? b=some o->H b=none->b∉L2.frs X.stack->(PySem.W.hideAll s.heap (L2.frs X.stack)).get? b=some o:=fun b o e _ hb=>PySem.W.hideAll_get _ e hb
 have i2:∀ b u o,H b=some u->s.heap.get? b=some o->(PySem.W.hideAll s.heap (L2.frs X.stack)).get? b=some o:=fun b u o e q=>PySem.W.hideAll_get _ q fun z=>by
  rw [I.stkFree b z] at e
  cases e
 have hl:=PySem.W.funFrames_hide (as:=L2.frs X.stack) hst fun env he b hb=>List.mem_filterMap.mpr ⟨env,he,hb⟩
 rw [O.stk] at hl
 refine wpAny_leaves_madeW (s:={ s with heap:=h1 }) (base:=PySem.W.hideAll s.heap (L2.frs X.stack)) (by rw [I.ok.frames,O.stk]) O.frm (fun b o e=>PySem.W.of_hideAll _ e) (by rw [O.stk] at *;exact hl) made fun h' t f1 _ _ up=>hQ _ ⟨I.os,I.bare,?_,rK I.hok i2 f1.1,same,Bc I O made.new,_,_,f1,kN I O i1,xw I.hok i2 f1.1⟩
 exact zX (si I O) same (kN I O i1) i2 f1.1 ((Heap.UpToSlots.of_keeps made.keeps).trans up) fun b hb=>ff b (by rw [O.frs];exact List.mem_cons_of_mem _ hb)
end
def CXF (P:Program) (w:World):CXT:=fun outer H s E e s'=>∃ C H' ea,e=.ref ea/\FlyX P w outer H s C H' ea s'/\E (.ref C) none H'
def spP (K:PySem.W.Frag) (mg:Str->Option Value) (f:List D->R D):Sp:=fun vs H Q E=>∃ ds,Reps K mg H vs ds/\match f ds with
 | .ok d=>∀ v H',aD H H'->Rep K mg H' v d->Q v H'
 | .ex C=>∀ Ca,mg C=some (.ref Ca)->∀ H',aD H H'->E (.ref Ca) none H'
 | .bad=>False
theorem rm {CX:CXT} {P:Program} {w:World} {K:PySem.W.Frag} {mg:Str->Option Value} {base:Heap} {N:List Str} {qual:Str} {sc:Scope} {f:Addr} {cdv:Value} {A:Around} {outer:List Env} {s:Shared} {H:Hp} {E:XK} :
  Own (BN CX P w K mg base N qual sc f cdv A outer s H E):=⟨rfl,rfl,rfl⟩
section
variable {P:Program} {w:World} {K:PySem.W.Frag} {mg:Str->Option Value} {base:Heap} {N:List Str} {qual:Str} {sc:Scope} {f:Addr} {cdv:Value} {A:Around} {outer:List Env} {s:Shared} {H H':Hp} {E:XK} {C:Addr} {σ:L2.St}
theorem MI (same:aD H H') (hE:E (.ref C) none H'):ew (BN (CXF P w) P w K mg base N qual sc f cdv A outer s H E) C σ H' :=
 fun pins H1 s1 ea s' I F=>Bp I rm F same fun s'' F'=>⟨C,H',ea,rfl,F',hE⟩
theorem Jn (same:aD H H') (hE:E (.ref C) none H'):ehx (BN (CXF P w) P w K mg base N qual sc f cdv A outer s H E) C σ H' :=
 fun pins ea s' F=>vR rm F same fun s'' F'=>⟨C,H',ea,rfl,F',hE⟩
theorem ML (same:aD H H') (hE:E (.ref C) none H'):em (BN (CXF P w) P w K mg base N qual sc f cdv A outer s H E) C σ H' :=
 fun pins s1 h' ea vs I made=>vP I rm made same fun s'' F'=>⟨C,H',ea,rfl,F',hE⟩
end
structure ScF (N G ps:List Str) (sc:Scope):Prop where
 fs:FnScope N ps sc
 loc:∀ x∈N,Loc sc x
 glb:∀ x∈G,sc.names.lookup x=some .globalImplicit
 dbg:∀ x∈N,(x == ("__debug__":Str))=false/\(x == ("__classdict__":Str))=false
 dbgG:∀ x∈G,(x == ("__debug__":Str))=false/\x≠"__name__"
structure Pl (X:Cx) (N G:List Str):Prop extends Sx X N where
 sto:∀ x∈N,Sto X x
 gb:∀ x∈G,Gb X x
noncomputable instance locDec {sc:Scope} {x:Str}:Decidable (Loc sc x):=inferInstanceAs (Decidable (_\/_))
theorem Mh {sc:Scope} {x:Str} (h:Loc sc x):Vis sc x:=h.elim .inl fun z=>.inr (.inl z)
theorem Ad {K:PySem.W.Frag} {mg:Str->Option Value} {H:Hp} {N:List Str} {n m:Nat}:∀ {vs:List V} {ds:List D},Reps K mg H vs ds->ds.length=n->N.length=m->Stt K mg H (L2.start N vs) (EV.start n m ds):=by
 intro vs ds r hn hm
 have hl:=r.length
 refine ⟨by simp [L2.start,EV.start,hl,hn,hm],fun i d e _ => ?_⟩
 unfold EV.start at e
 by_cases hi:i<ds.length
 ·rw [List.getElem?_append_left (by simpa using hi),List.getElem?_map] at e
  cases q:ds[i]? with
  | none=>rw [q] at e;cases e
  | some d' =>
   rw [q] at e
   have e':d'=d:=Option.some.inj (Option.some.inj e)
   subst e'
   obtain ⟨v,h1,h2⟩:=r.get q
   exact ⟨v,by unfold L2.start;rw [List.getElem?_append_left (by simp;omega),List.getElem?_map,h1];rfl,h2⟩
 ·rw [List.getElem?_append_right (by simpa using hi),List.getElem?_replicate] at e
  split at e<;>cases e
theorem u5 {K:PySem.W.Frag} {mg:Str->Option Value} {H:Hp} {n m:Nat} {vs:List V} {ds:List D} (r:Reps K mg H vs ds) (i:Nat) (es:List D):(EV.start n m ds)[i]? ≠ some (some (.own es)):=fun e=>by
 unfold EV.start at e
 by_cases hi:i<ds.length
 ·rw [List.getElem?_append_left (by simpa using hi),List.getElem?_map] at e
  cases q:ds[i]? with
  | none=>rw [q] at e;cases e
  | some d' =>
   rw [q] at e
   have e':d'=.own es:=Option.some.inj (Option.some.inj e)
   subst e'
   obtain ⟨v,h1,h2⟩:=r.get q
   cases h2
 ·rw [List.getElem?_append_right (by simpa using hi),List.getElem?_replicate] at e
  split at e<;>cases e
theorem OM {P:Program} {w:World} {K:PySem.W.Frag} {mg:Str->Option Value} {base:Heap} {x qual:Str} {st:Stmt} {f:Addr} {fd:FuncData} {N G ps:List Str} {k n m:Nat} {g:S}
  (F:Fun K x qual st f fd) (S:ScF N G ps (aa st)) (hn:ps.length=n) (hm:N.length=m)
  (hbody:∀ X:Cx,X.prog=P->X.w=w->X.K=K->X.mg=mg->X.base=base->Room k X.A->Lp X->Own X->Pl X N G->X.env.scope=aa st->SSs X (aj st) g) :
  FnOk P w K mg base (CXF P w) (k+1) f fd ps (spP K mg (fn n m g)):=by
 obtain ⟨oc,od,kV,doc,pm,an,cdv,ct,osl,rfl,lk,hcd⟩:=F.ex
 have len:∀ {ds:List D},fn n m g ds ≠ .bad->ds.length=n:=fun {ds} h=>by
  unfold fn at h
  split at h
  ·assumption
  ·exact absurd rfl h
 refine MF lk hcd S.fs (fun vs H Q E h => ?_) fun A outer s H vs Q E hr h => ?_
 ·obtain ⟨ds,rs,h⟩:=h
  rw [rs.length,hn]
  refine len fun z => ?_
  rw [z] at h
  exact h
 ·obtain ⟨ds,rs,h⟩:=h
  have hl:ds.length=n:=len fun z=>by rw [z] at h;exact h
  refine ⟨_,hbody (BN (CXF P w) P w K mg base N qual (aa st) f cdv A outer s H E) rfl rfl rfl rfl rfl hr ⟨PassesOwn.leaving,rfl⟩ rm ⟨⟨⟨rfl,S.fs.nd,fun y hy=>Mh (S.loc y hy),S.dbg⟩,rfl⟩,fun y hy=>⟨S.loc y hy,.inl rfl⟩,fun y hy=>⟨S.glb y hy,(S.dbgG y hy).1,(S.dbgG y hy).2⟩⟩ rfl,_,[],StO.nil (Ad rs hl hm) (u5 rs),?_⟩
  rw [xx]
  unfold fn at h
  rw [if_pos hl] at h
  cases e:g (EV.start n m ds) with
  | nx δ=>rw [e] at h;exact fun σ H' os _ s'=>h .non H' (s'.trans (bq _ _)) .non
  | rt d=>rw [e] at h;exact fun v H' s' r=>h v H' s' r
  | ex C δ=>rw [e] at h;exact fun σ H' s' _ Ca hc=>MI s' (h Ca hc H' s')
  | mk C δ=>rw [e] at h;exact fun σ H' s' Ca hc=>ML s' (h Ca hc H' s')
  | hx C δ=>rw [e] at h;exact fun σ H' s' _ Ca hc=>Jn s' (h Ca hc H' s')
  | bk δ=>rw [e] at h;exact False.elim h
  | ct δ=>rw [e] at h;exact False.elim h
  | bad=>rw [e] at h;exact False.elim h
abbrev at5 (X:Cx) (P:Program) (w:World) (K:PySem.W.Frag) (mg:Str->Option Value) (base:Heap):Cx:={ X with prog:=P,w:=w,K:=K,mg:=mg,base:=base }
theorem ua {P:Program} {w:World} {K:PySem.W.Frag} {mg:Str->Option Value} {base:Heap} {x qual:Str} {st:Stmt} {f:Addr} {fd:FuncData} {N G ps:List Str} {k n m:Nat} {g:S}
  (F:Fun K x qual st f fd) (S:ScF N G ps (aa st)) (hn:ps.length=n) (hm:N.length=m)
  (hbody:∀ X:Cx,Room k (at5 X P w K mg base).A->Lp (at5 X P w K mg base)->Own (at5 X P w K mg base)->Pl (at5 X P w K mg base) N G->(at5 X P w K mg base).env.scope=aa st->SSs (at5 X P w K mg base) (aj st) g) :
  FnOk P w K mg base (CXF P w) (k+1) f fd ps (spP K mg (fn n m g)):=OM F S hn hm fun X hP hw hK hM hB hr L O Pl hS=>by
 subst hP hw hK hM hB
 exact hbody X hr L O Pl hS
theorem us1 {C:List Value->Prop} (h:∀ a,C [a]) (us:List Value) (hl:us.length=1):C us:=by
 match us,hl with
 | [_],_=>exact h _
theorem us2 {C:List Value->Prop} (h:∀ a b,C [a,b]) (us:List Value) (hl:us.length=2):C us:=by
 match us,hl with
 | a::us,hl=>exact us1 (C:=fun us=>C (a::us)) (h a) us (Nat.succ.inj hl)
theorem us3 {C:List Value->Prop} (h:∀ a b c,C [a,b,c]) (us:List Value) (hl:us.length=3):C us:=by
 match us,hl with
 | a::us,hl=>exact us2 (C:=fun us=>C (a::us)) (h a) us (Nat.succ.inj hl)
theorem us4 {C:List Value->Prop} (h:∀ a b c d,C [a,b,c,d]) (us:List Value) (hl:us.length=4):C us:=by
 match us,hl with
 | a::us,hl=>exact us3 (C:=fun us=>C (a::us)) (h a) us (Nat.succ.inj hl)
theorem us5 {C:List Value->Prop} (h:∀ a b c d e,C [a,b,c,d,e]) (us:List Value) (hl:us.length=5):C us:=by
 match us,hl with
 | a::us,hl=>exact us4 (C:=fun us=>C (a::us)) (h a) us (Nat.succ.inj hl)
theorem us6 {C:List Value->Prop} (h:∀ a b c d e f,C [a,b,c,d,e,f]) (us:List Value) (hl:us.length=6):C us:=by
 match us,hl with
 | a::us,hl=>exact us5 (C:=fun us=>C (a::us)) (h a) us (Nat.succ.inj hl)
theorem fM {K:PySem.W.Frag} {x qual:Str} {st:Stmt} {f:Addr} {fd:FuncData} {ps:List Str} (F:Fun K x qual st f fd) (hp:ps.length=1)
  (h:∀ (kV doc pm:Value) (an:Option Addr) (cdv ct:Value) (a:Value),bindArgs ↥4 ⟨[a],[]⟩=pure (ps.zip [a])):Binds K fd ps [] :=
 F.binds fun kV doc pm an cdv ct us hl=>us1 (C:=fun us=>bindArgs ↥4 ⟨us,[]⟩=pure (ps.zip us)) (h kV doc pm an cdv ct) us (hl.trans hp)
theorem cH {K:PySem.W.Frag} {x qual:Str} {st:Stmt} {f:Addr} {fd:FuncData} {ps:List Str} (F:Fun K x qual st f fd) (hp:ps.length=2)
  (h:∀ (kV doc pm:Value) (an:Option Addr) (cdv ct:Value) (a b:Value),bindArgs ↥4 ⟨[a,b],[]⟩=pure (ps.zip [a,b])):Binds K fd ps [] :=
 F.binds fun kV doc pm an cdv ct us hl=>us2 (C:=fun us=>bindArgs ↥4 ⟨us,[]⟩=pure (ps.zip us)) (h kV doc pm an cdv ct) us (hl.trans hp)
theorem fL {K:PySem.W.Frag} {x qual:Str} {st:Stmt} {f:Addr} {fd:FuncData} {ps:List Str} (F:Fun K x qual st f fd) (hp:ps.length=3)
  (h:∀ (kV doc pm:Value) (an:Option Addr) (cdv ct:Value) (a b c:Value),bindArgs ↥4 ⟨[a,b,c],[]⟩=pure (ps.zip [a,b,c])):Binds K fd ps [] :=
 F.binds fun kV doc pm an cdv ct us hl=>us3 (C:=fun us=>bindArgs ↥4 ⟨us,[]⟩=pure (ps.zip us)) (h kV doc pm an cdv ct) us (hl.trans hp)
theorem d9 {K:PySem.W.Frag} {x qual:Str} {st:Stmt} {f:Addr} {fd:FuncData} {ps:List Str} (F:Fun K x qual st f fd) (hp:ps.length=4)
  (h:∀ (kV doc pm:Value) (an:Option Addr) (cdv ct:Value) (a b c d:Value),bindArgs ↥4 ⟨[a,b,c,d],[]⟩=pure (ps.zip [a,b,c,d])):Binds K fd ps [] :=
 F.binds fun kV doc pm an cdv ct us hl=>us4 (C:=fun us=>bindArgs ↥4 ⟨us,[]⟩=pure (ps.zip us)) (h kV doc pm an cdv ct) us (hl.trans hp)
theorem uq {K:PySem.W.Frag} {x qual:Str} {st:Stmt} {f:Addr} {fd:FuncData} {ps:List Str} (F:Fun K x qual st f fd) (hp:ps.length=5)
  (h:∀ (kV doc pm:Value) (an:Option Addr) (cdv ct:Value) (a b c d e:Value),bindArgs ↥4 ⟨[a,b,c,d,e],[]⟩=pure (ps.zip [a,b,c,d,e])):Binds K fd ps [] :=
 F.binds fun kV doc pm an cdv ct us hl=>us5 (C:=fun us=>bindArgs ↥4 ⟨us,[]⟩=pure (ps.zip us)) (h kV doc pm an cdv ct) us (hl.trans hp)
theorem BW {K:PySem.W.Frag} {x qual:Str} {st:Stmt} {f:Addr} {fd:FuncData} {ps:List Str} (F:Fun K x qual st f fd) (hp:ps.length=6)
  (h:∀ (kV doc pm:Value) (an:Option Addr) (cdv ct:Value) (a b c d e f:Value),bindArgs ↥4 ⟨[a,b,c,d,e,f],[]⟩=pure (ps.zip [a,b,c,d,e,f])):Binds K fd ps [] :=
 F.binds fun kV doc pm an cdv ct us hl=>us6 (C:=fun us=>bindArgs ↥4 ⟨us,[]⟩=pure (ps.zip us)) (h kV doc pm an cdv ct) us (hl.trans hp)
structure FnP (P:Program) (w:World) (K:PySem.W.Frag) (mg:Str->Option Value) (base:Heap) (x:Str) (k:Nat) (f:List D->R D):Prop where
 ex:∃ fa fd ps,FnOk P w K mg base (CXF P w) k fa fd ps (spP K mg f)/\mg x=some (.ref fa)/\PySem.W.keepIn K (.ref fa)=true/\Binds K fd ps []
theorem MG {P:Program} {w:World} {K:PySem.W.Frag} {mg:Str->Option Value} {base:Heap} {x:Str} {fa:Addr} {fd:FuncData} {ps:List Str} {k:Nat} {f:List D->R D}
  (F:FnOk P w K mg base (CXF P w) k fa fd ps (spP K mg f)) (kp:PySem.W.keepIn K (.ref fa)=true) (hm:mg x=some (.ref fa)) (hb:Binds K fd ps []):FnP P w K mg base x k f:=⟨fa,fd,ps,F,hm,kp,hb⟩
structure Callee (X:Cx) (x:Str) (f:List D->R D):Prop where
 ex:∃ k fa fd ps,FnOk X.prog X.w X.K X.mg X.base (CXF X.prog X.w) k fa fd ps (spP X.K X.mg f)/\Room k X.A/\X.mg x=some (.ref fa)/\PySem.W.keepIn X.K (.ref fa)=true/\Binds X.K fd ps []
theorem FnP.callee {X:Cx} {x:Str} {k j:Nat} {f:List D->R D} (F:FnP X.prog X.w X.K X.mg X.base x k f) (hr:Room j X.A) (h:k<=j):Callee X x f:=by
 obtain ⟨fa,fd,ps,a,b,c,d⟩:=F.ex
 exact ⟨k,fa,fd,ps,a,hr.mono h,b,c,d⟩
section
variable {X:Cx} {x:Str} {f:List D->R D} {e:Expr} {es:List Expr} {gs:List E} {p pos:Pos}
theorem Lc {k:Nat} {fa:Addr} {fd:FuncData} {ps:List Str} {pins:List ↥14} {σ:L2.St} {H:Hp} {s:Shared} {Q:VK} {us:List Value} {vs:List V} {ds:List D}
  (F:FnOk X.prog X.w X.K X.mg X.base (CXF X.prog X.w) k fa fd ps (spP X.K X.mg f)) (hr:Room k X.A) (hb:Binds X.K fd ps []) (I:Inv X pins σ H s) (r:Vals vs us) (rs:Reps X.K X.mg H vs ds) (q:RQ X σ H (f ds) Q) :
  wpAny ↥8 X.A (PySem.call (.ref fa) us) (EP X pins σ Q) X.xe s:=by
 have hsp:spP X.K X.mg f vs H Q (fun c _ H'=>∃ C Ca,f ds=.ex C/\X.mg C=some (.ref Ca)/\c=.ref Ca/\aD H H'):=⟨ds,rs,by
  cases e:f ds with
  | ok d=>rw [e] at q;exact q
  | ex C=>exact fun Ca hc H' s'=>⟨C,Ca,rfl,hc,rfl,s'⟩
  | bad=>rw [e] at q;exact q⟩
 have hl:us.length=ps.length:=by rw [<- r.length];exact F.len _ _ _ _ hsp
 have hb':=hb s us I.kIn (by rw [List.append_nil];exact hl)
 rw [List.append_nil] at hb'
 refine wpAny_call (codeAny_mono (F.run X.A X.stack s H ⟨us,[]⟩ us vs _ _ hr I.env0 hb' r hsp) fun r s' hq => ?_)
 cases r with
 | error er =>
  obtain ⟨C',H',ea,rfl,FX,C,Ca,e1,hc,e2,s2⟩:=hq
  cases e2
  rw [e1] at q
  exact q C' hc H' s2 pins H s ea s' I FX
 | ok fl =>
  cases fl with
  | ret u=>exact I.after hq
  | next=>exact False.elim hq
  | brk=>exact False.elim hq
  | cont=>exact False.elim hq
theorem uf (c:Callee X x f) (G:Gb X x) (ha:SA X (e::es) gs) (he:starEach (e::es) X.env=(false,eval e X.env)::starEach es X.env:=by rfl) (hpl:(backTo pos (starEach es X.env)).any (·.1)=false:=by rfl) :
  SE X (.Call (.Name x p) (e::es) [] pos) (EV.call f gs):=by
 obtain ⟨k,fa,fd,ps,F,hr,hm,hk,hb⟩:=c.ex
 intro pins s σ H Q I ⟨δ,hσ,h⟩
 refine wpAny_Call_Name_kw (rH I G.g hm ?_ G.d)
 refine PySem.W.callWith_K (h₀:=X.base) I.ok.mod.kin hk (thn (ha pos pins s σ H _ I ⟨δ,hσ,RA.bind h⟩) fun us s1 ⟨vs,H1,I1,r,sm,ds,rs,q⟩=>⟨I1.kIn,Lc F hr hb I1 r rs q⟩) he hpl
end
theorem HR {K:PySem.W.Frag} {h:Heap} {C:Addr} {bmB:List Value} {newId:String} (KX:K.In h) (q:PySem.W.excIn K C bmB newId=true) :
  ∃ bm M nm qn bs hd sn sub ab col dd k0 k1 k2 k3 k5 mN,h.get? C=some (excClassObj nm qn C M bs bm hd sn sub ab col dd k0 k1 k2 k3 k5 newId)/\h.Ns M mN/\mN "__init__"=none/\OwnTail h bmB bm:=by
 unfold PySem.W.excIn at q
 split at q
 ·rename_i d1 cd sl hlk
  split at q
  ·rename_i C' bm k0 k1 k2 k3 n k5 e1 e2
   simp only [Bool.and_eq_true,beq_iff_eq,Bool.not_eq_true'] at q
   obtain ⟨⟨⟨⟨⟨r1,r2⟩,r3⟩,r4⟩,r5⟩,r6⟩:=q
   subst r1 r2
   obtain ⟨nm,bs,mro,ns,qn,hd,sn,sub,ab,col,del⟩:=cd
   dsimp only at e1 r3 r5 r6
   subst e1 r3
   have e3:sl = #[k0,k1,k2,k3,some (.builtin n),k5]:=by
    obtain ⟨l⟩:=sl
    simp only at e2
    rw [e2]
   subst e3
   exact ⟨bm,ns,nm,qn,bs,hd,sn,sub,ab,col,d1,k0,k1,k2,k3,k5,_,KX _ _ hlk,.of_isNs (PySem.W.isNs_of_in KX r5),PySem.W.nsMap_none_of_in KX r5 r6,PySem.W.tail_of_in KX r4⟩
  ·cases q
 ·cases q
def bmV:List Value:=[.type "ValueError",.type "Exception",.type "BaseException",.type "object"]
section
variable {X:Cx} {pos:Pos} {x:String} {C:Addr}
theorem iO (hc:X.calm=true) {np cp p3:Pos} {m:Str} {j:Nat} (G:Gb X x) (hm:X.mg x=some (.ref C)) (hq:PySem.W.excIn X.K C bmV "ValueError.__new__"=true) :
  SS X (.Raise (some (.Call (.Name x np) [.Constant (.str m) j p3] [] cp)) none pos) (raise x):=by
 intro pins s σ H D I ⟨δ,os,S,h⟩
 obtain ⟨bm,M,nm,qn,bs,hd,sn,sub,ab,col,dd,k0,k1,k2,k3,k5,mN,hC,hN,hni,T⟩:=HR I.mod.kin hq
 have FB:ExcBaseFacts "ValueError" "ValueError.__new__" "ValueError.__init__" bmV:=PySem.F.excBase_ValueError
 refine wpAny_Raise_call_subT (C:=C) (nm:=nm) (q:=qn) (N:=M) (bs:=bs) (bm:=bm) (hdct:=hd) (sn:=sn) (sub:=sub) (ab:=ab) (col:=col) (dd:=dd) (k0:=k0) (k1:=k1) (k2:=k2) (k3:=k3) (k5:=k5)
  FB (mN:=mN) (T.hasType FB.hasBase) (I.ok.hd hc) rfl hni (rH I G.g hm ⟨rfl,?_⟩ G.d)
 have hsp:=(oj (X:=X) (Fv (x:=m) (j:=j) (pos:=p3)) tK) cp pins s σ H (fun vs H1=>vs.length=1/\H1=H) I (show (1=1/\H=H) from ⟨rfl,rfl⟩)
 refine Calls.evalArgs_plain (thn hsp fun us s2 ⟨vs,H1,I1,r,q1,q2⟩ => ?_)
 subst q2
 have hl:us.length=1:=by rw [<- r.length];exact q1
 exact ⟨rfl,by show us.length<=_;rw [hl,sizeLine_eq];decide,I1.bk _ _ hC,hN.keeps I1.bk,T.keeps I1.bk,fun h' e1 made=>h σ H1 (bq _ _) C hm pins s2 h' e1 us I1 made⟩
end
section
variable {K:PySem.W.Frag} {M:Model} {h:Heap} {C C' e:Addr}
end
section
variable {X:Cx} {pins:List ↥14} {σ:L2.St} {H H':Hp} {s s':Shared} {C ea:Addr} {W:Value->Shared->Prop}
end
structure Catch (K:PySem.W.Frag) (C C':Addr):Prop where
 c1:(PySem.W.clsIn K C').isSome=true
 c2:PySem.W.typeIn K (.ref C')=some (.type "type")
 c3:PySem.W.subIn K (.type "type") ↥5=some false
 c4:PySem.W.mroIn K C' (.type "BaseException")=some true
 c5:PySem.W.mroIn K C (.ref C')=some true
section
variable {X:Cx} {N G:List Str} {pos np hpos:Pos} {n:Str} {cls:String} {C':Addr} {body suite:List Stmt} {b₀:Stmt} {gb gs:S}
end
end ES
namespace ES
open PySem PySem.Spec PyProof.Rows L2 EV
unseal SE ST SW SA SS SSs
def rC (X:Cx) (f:List D->R D):List V->Hp->VK->Prop:=fun vs H Q=>∃ ds d,Reps X.K X.mg H vs ds/\f ds=.ok d/\∀ v H',aD H H'->Rep X.K X.mg H' v d->Q v H'
def NoX (f:List D->R D):Prop:=∀ ds C,f ds ≠ .ex C
theorem RQ.cl (nx:NoX f) (r:Reps X.K X.mg H vs ds) (h:RQ X σ H (f ds) Q):rC X f vs H Q:=by
 cases e:f ds with
 | ok d=>rw [e] at h;exact ⟨ds,d,r,e,h⟩
 | ex C=>exact absurd e (nx ds C)
 | bad=>rw [e] at h;exact False.elim h
section
variable {X:Cx} {x:Str} {id T:String} {f:List D->R D} {e o:Expr} {es:List Expr} {gs:List E} {g:E} {p pos apos:Pos}
theorem dD (hc:iD X (.builtin id) (rC X f)) (nx:NoX f) (G:Gb X x) (hm:X.mg x=none) (hv:bootBuiltins x=some (.builtin id)) (ha:SA X (e::es) gs)
  (he:starEach (e::es) X.env=(false,eval e X.env)::starEach es X.env:=by rfl) (hpl:(backTo pos (starEach es X.env)).any (·.1)=false:=by rfl):SE X (.Call (.Name x p) (e::es) [] pos) (EV.call f gs) :=
 PE.weak (xg hc G.g hm hv ha G.n G.d he hpl) fun σ H Q ⟨δ,hσ,h⟩=>⟨δ,hσ,(RA.bind h).to fun vs H' s ⟨_,ds,rs,q⟩=>RQ.cl nx rs q⟩
theorem xI (hc:iD X (.type T) (rC X f)) (nx:NoX f) (G:Gb X x) (hm:X.mg x=none) (hv:bootBuiltins x=some (.type T)) (ha:SA X (e::es) gs)
  (he:starEach (e::es) X.env=(false,eval e X.env)::starEach es X.env:=by rfl) (hpl:(backTo pos (starEach es X.env)).any (·.1)=false:=by rfl):SE X (.Call (.Name x p) (e::es) [] pos) (EV.call f gs) :=
 PE.weak (tH hc G.g hm hv ha G.n G.d he hpl) fun σ H Q ⟨δ,hσ,h⟩=>⟨δ,hσ,(RA.bind h).to fun vs H' s ⟨_,ds,rs,q⟩=>RQ.cl nx rs q⟩
theorem pM (r:Reps X.K X.mg H vs [d]):∃ v,vs=[v]/\Rep X.K X.mg H v d:=by
 cases r with
 | cons r rr=>cases rr;exact ⟨_,rfl,r⟩
theorem HD (r:Reps X.K X.mg H vs [d,d']):∃ v v',vs=[v,v']/\Rep X.K X.mg H v d/\Rep X.K X.mg H v' d':=by
 cases r with
 | cons r rr =>
  cases rr with
  | cons r' rr=>cases rr;exact ⟨_,_,rfl,r,r'⟩
theorem vF:NoX zu:=fun ds C z=>by unfold zu at z;split at z<;>first | cases z | exact gM z
theorem wg:iD X (.builtin "len") (rC X zu):=by
 intro pins s σ H xs us Q I rs ⟨ds,d,r,e,q⟩
 unfold zu at e
 split at e
 ·cases e
  obtain ⟨v,rfl,r1⟩:=pM r
  cases r1 with
  | @lst a ys _ hq rr=>exact lZ pins s σ H _ us Q I rs ⟨a,ys,rfl,.inl hq,by rw [rr.length];exact q _ _ ↥30 (.int _)⟩
 ·cases e
  obtain ⟨v,rfl,r1⟩:=pM r
  cases r1 with
  | @tup a ys _ hq rr=>exact lZ pins s σ H _ us Q I rs ⟨a,ys,rfl,.inr hq,by rw [rr.length];exact q _ _ ↥30 (.int _)⟩
 ·split at e
  ·rename_i hz
   cases e
   obtain ⟨v,rfl,r1⟩:=pM r
   cases r1
   exact uj pins s σ H _ us Q I rs ⟨_,rfl,Nat.le_trans hz (by rw [sizeLine_eq];decide),q _ _ ↥30 (.int _)⟩
  ·cases e
 ·cases e
theorem Mb:NoX FW:=fun ds C z=>by unfold FW at z;split at z<;>cases z
theorem MR:iD X (.builtin "abs") (rC X FW):=by
 intro pins s σ H xs us Q I rs ⟨ds,d,r,e,q⟩
 unfold FW at e
 split at e
 ·cases e
  obtain ⟨v,rfl,r1⟩:=pM r
  cases r1
  exact EH pins s σ H _ us Q I rs ⟨_,rfl,q _ _ ↥30 (.int _)⟩
 ·cases e
theorem AX:NoX B8:=fun ds C z=>by unfold B8 at z;split at z<;>cases z
theorem BV (hc:X.calm=true):iD X (.builtin "max") (rC X B8):=by
 intro pins s σ H xs us Q I rs ⟨ds,d,r,e,q⟩
 unfold B8 at e
 split at e
 ·cases e
  obtain ⟨v,v',rfl,r,r'⟩:=HD r
  cases r;cases r'
  exact BU hc pins s σ H _ us Q I rs ⟨_,_,rfl,q _ _ ↥30 (.int _)⟩
 ·cases e
theorem IC:NoX E1:=fun ds C z=>by unfold E1 at z;split at z<;>cases z
theorem JB (hc:X.calm=true):iD X (.builtin "min") (rC X E1):=by
 intro pins s σ H xs us Q I rs ⟨ds,d,r,e,q⟩
 unfold E1 at e
 split at e
 ·cases e
  obtain ⟨v,v',rfl,r,r'⟩:=HD r
  cases r;cases r'
  exact BS hc pins s σ H _ us Q I rs ⟨_,_,rfl,q _ _ ↥30 (.int _)⟩
 ·cases e
theorem Eb:NoX CC:=fun ds C z=>by unfold CC at z;split at z<;>cases z
theorem EI:iD X (.type "int") (rC X CC):=by
 intro pins s σ H xs us Q I rs ⟨ds,d,r,e,q⟩
 unfold CC at e
 split at e
 ·cases e
  obtain ⟨v,rfl,r1⟩:=pM r
  cases r1
  exact uk pins s σ H _ us Q I rs (.inl ⟨_,rfl,q _ _ ↥30 (.int _)⟩)
 ·cases e
  obtain ⟨v,rfl,r1⟩:=pM r
  cases r1
  exact uk pins s σ H _ us Q I rs (.inr ⟨_,rfl,q _ _ ↥30 (.int _)⟩)
 ·cases e
theorem Oq:NoX JO:=fun ds C z=>by
 unfold JO at z
 split at z
 ·split at z<;>cases z
 ·cases z
theorem oH:∀ {xs:List V} {ds:List D} {ns:List Int} {us:List Value},intsOf ds=some ns->Reps X.K X.mg H xs ds->Vals xs us->∃ ts:List (Int×Tok),us=ts.map (fun p=>Value.int p.1 p.2)/\ts.map (·.1)=ns
 | _,[],_,_,e,.nil,.nil=>by cases e;exact ⟨[],rfl,rfl⟩
 | _,.int i::r,ns,_,e,.cons h t,.cons h' t'=>by
  cases h
  unfold intsOf at e
  cases q:intsOf r with
  | none=>rw [q] at e;cases e
  | some ms =>
   rw [q] at e
   have e':i::ms=ns:=Option.some.inj e
   subst e'
   obtain ⟨tk,rfl⟩:=h'
   obtain ⟨ts,e1,e2⟩:=oH q t t'
   exact ⟨(i,tk)::ts,by rw [e1];rfl,by rw [List.map_cons,e2]⟩
 | _,.non::_,_,_,e,_,_=>by cases e
 | _,.bl _::_,_,_,e,_,_=>by cases e
 | _,.str _::_,_,_,e,_,_=>by cases e
 | _,.tup _::_,_,_,e,_,_=>by cases e
 | _,.lst _::_,_,_,e,_,_=>by cases e
 | _,.own _::_,_,_,e,_,_=>by cases e
 | _,.ty _::_,_,_,e,_,_=>by cases e
 | _,.cls _::_,_,_,e,_,_=>by cases e
 | _,.exc _::_,_,_,e,_,_=>by cases e
 | _,.ins _ _::_,_,_,e,_,_=>by cases e
theorem BD (ns:List Int):ns.foldl (· + ·) 0=ns.sum:=by
 have h:∀ (l:List Int) (a:Int),l.foldl (· + ·) a=a+l.sum:=by
  intro l
  induction l with
  | nil=>intro a;simp
  | cons b r ih=>intro a;rw [List.foldl_cons,ih,List.sum_cons];omega
 rw [h];omega
theorem OU (hc:X.calm=true):iD X (.builtin "sum") (rC X JO):=by
 intro pins s σ H xs us Q I rs ⟨ds,d,r,e,q⟩
 unfold JO at e
 split at e
 ·rename_i ds'
  split at e
  ·rename_i ns hns
   cases e
   obtain ⟨v,rfl,r1⟩:=pM r
   cases r1 with
   | @lst a ys _ hq rr =>
    obtain ⟨its,rv,pl,_⟩:=I.list hq
    obtain ⟨ts,e1,e2⟩:=oH hns rr rv
    cases rs with
    | cons h1 h2 =>
     cases h2
     cases h1
     have hl:s.heap.IsList a (intItems ts.toArray):=by
      have:=pl.isList
      rw [e1] at this
      have e3:(ts.map fun p=>Value.int p.1 p.2).toArray=intItems ts.toArray:=by simp [intItems]
      rw [<- e3]
      exact this
     refine sum_intListG (I.ok.hd hc) hl fun h' tk t' hk => ?_
     have hs:preSum (numAt ts.toArray) ts.toArray.size=ns.foldl (· + ·) 0:=by
      rw [preSum_eq,List.take_of_length_le (by simp),BD,<-e2]
     rw [hs]
     exact ⟨.int _,H,I.kept (t':=tk) hk,⟨_,rfl⟩,q _ _ ↥30 (.int _)⟩
  ·cases e
 ·cases e
theorem Be:MtR X "int.bit_length" (fun x xs H Q=>∃ i,x=.int i/\xs=[]/\Q (.int (nb i)) H):=by
 intro pins s σ H x xs v us Q I rx rs ⟨i,ex,exs,q⟩
 subst ex exs
 obtain ⟨t,rfl⟩:=rx
 cases rs
 refine call_int_bit_length ⟨.int (nb i),H,I.tok _,⟨_,by rw [yM]⟩,q⟩
theorem nG (ho:SE X o g) (hbase:attributeBase o "bit_length" X.env (eval o X.env)=eval o X.env:=by rfl) (hline:(apos.endLine == pos.line)=true:=by rfl):SE X (.Call (.Attribute o "bit_length" apos) [] [] pos) (EV.call iW [g]) :=
 PE.weak (LG PySem.F.plainAttrs_int PySem.F.slot_int_bit_length PySem.F.type_int_bit_length Be ho hbase hline) fun σ H Q ⟨δ,hσ,h⟩=>⟨δ,hσ,by
  have h':RQ X σ H ((g δ).bind fun d=>iW [d]) Q:=by
   unfold EV.call evs at h
   cases r:g δ with
   | ok d=>rw [r] at h;exact h
   | ex C=>rw [r] at h;exact h
   | bad=>rw [r] at h;exact h
  refine (RQ.bind h').to fun v H' s ⟨_,d,r,q⟩ => ?_
  unfold iW at q
  split at q
  ·rename_i e
   cases e
   cases r
   exact ⟨rfl,_,rfl,rfl,q _ _ ↥30 (.int _)⟩
  ·exact False.elim q⟩
def tyV (mg:Str->Option Value):D->Option Value
 | .non=>some (.type "NoneType")
 | .bl _=>some (.type "bool")
 | .int _=>some (.type "int")
 | .str _=>some (.type "str")
 | .tup _=>some ↥5
 | .lst _=>some (.type "list")
 | .exc n=>mg n
 | _=>none
def Ti (mg:Str->Option Value):D->Option Value
 | .ty n=>some (.type n)
 | .cls n=>mg n
 | _=>none
def Isi (X:Cx) (c:D):Prop:=∀ d k t u,pR [d,c]=.ok (.bl k)->tyV X.mg d=some t->Ti X.mg c=some u->PySem.W.kitOne X.K t u=some k
def uV (X:Cx):Prop:=∀ (e C:Addr) (n:String),ax.contains n=true->X.mg n=some (.ref C)->PySem.W.KitX X.K (.ref e) (.ref C) (fun h=>∃ o vs,h.get? e=some o/\o.cls=.ref C/\o.data=.fields vs)
theorem Cc:(∃ d c k,ds=[d,c]/\pR ds=.ok (.bl k))\/pR ds=.bad:=by
 rcases ds with _ | ⟨d,_ | ⟨c,_ | ⟨x,y⟩⟩⟩
 ·exact .inr rfl
 ·exact .inr rfl
 ·cases c<;>first
   | exact .inr rfl
   | (cases d<;>first
     | exact .inr rfl
     | exact Mt rfl)
 ·first
   | exact .inr rfl
   | (cases c<;>exact .inr rfl)
theorem BI (h:pR [.exc n,c]=.ok (.bl k)):ax.contains n=true:=by
 cases c with
 | cls B =>
  have z:=(ir h).1
  rw [Bool.and_eq_true] at z
  exact z.1
 | ty B =>
  have z:=(ir h).1
  rw [Bool.and_eq_true] at z
  exact z.1
 | _=>cases h
theorem OV (hI:Isi X c) (hE:uV X):iD X (.builtin "isinstance") (fun vs H Q=>∃ dx d,Reps X.K X.mg H vs [dx,c]/\pR [dx,c]=.ok d/\∀ v H',aD H H'->Rep X.K X.mg H' v d->Q v H'):=by
 intro pins s σ H xs us Q I rs ⟨dx0,d,r,e,q⟩
 rcases Cc (ds:=[dx0,c]) with ⟨dx,dc,k,ez,e'⟩ | e'<;>rw [e'] at e<;>cases e
 cases ez
 obtain ⟨v,v',rfl,r1,r2⟩:=HD r
 cases rs with
 | cons h1 h2 =>
  cases h2 with
  | cons h2 h3 =>
   cases h3
   rename_i u w
   have fin:∀ tk,EP X pins σ Q (.bool k) { s with toks:=tk }:=fun tk=>⟨.bl k,H,I.tok tk,rfl,q _ _ ↥30 (.bl k)⟩
   have hw:Ti X.mg c=some w:=by
    cases r2 with
    | ty n=>cases h2;rfl
    | cls hc=>cases h2;exact hc
    | _=>cases dx0<;>cases e'
   cases r1 with
   | non=>cases (show u=Value.none from h1);exact PySem.W.kia_one PySem.W.kitx_none I.kIn True.intro (hI _ k _ _ e' rfl hw) (fun z=>nomatch z) fin
   | bl y=>cases (show u=Value.bool y from h1);exact PySem.W.kia_one PySem.W.kitx_bool I.kIn True.intro (hI _ k _ _ e' rfl hw) (fun z=>nomatch z) fin
   | int i=>obtain ⟨t,z⟩:=(show ∃ t,u=Value.int i t from h1);cases z;exact PySem.W.kia_one PySem.W.kitx_int I.kIn True.intro (hI _ k _ _ e' rfl hw) (fun z=>nomatch z) fin
   | str y=>obtain ⟨t,z⟩:=(show ∃ t,u=Value.str y t from h1);cases z;exact PySem.W.kia_one PySem.W.kitx_str I.kIn True.intro (hI _ k _ _ e' rfl hw) (fun z=>nomatch z) fin
   | @tup a ys ds hq rr =>
    cases (show u=Value.ref a from h1)
    obtain ⟨its,_,⟨o,g1,g2,_⟩,_⟩:=I.tuple hq
    exact PySem.W.kia_one PySem.W.kitx_tuple I.kIn ⟨o,g1,g2⟩ (hI _ k _ _ e' rfl hw) (fun z=>nomatch z) fin
   | @lst a ys ds hq rr =>
    cases (show u=Value.ref a from h1)
    obtain ⟨its,_,⟨o,n,g1,g2,_⟩,_⟩:=I.list hq
    exact PySem.W.kia_one PySem.W.kitx_list I.kIn ⟨o,g1,g2⟩ (hI _ k _ _ e' rfl hw) (fun z=>nomatch z) fin
   | @exc a C n hn hq =>
    cases (show u=Value.ref a from h1)
    exact PySem.W.kia_one (hE a C n (BI e') hn) I.kIn (I.hok a _ hq).1 (hI _ k _ _ e' hn hw) (fun z=>nomatch z) fin
   | ty n=>cases c<;>cases e'
   | cls _=>cases c<;>cases e'
   | ins _ _ _=>cases c<;>cases e'
theorem Jt (hI:Isi X c) (hE:uV X) (G:Gb X "isinstance") (hm:X.mg "isinstance"=none) (ha:SE X e g) (hb:SE X e2 (con c))
  (hs:starEach [e,e2] X.env=(false,eval e X.env)::starEach [e2] X.env:=by rfl) (hs2:starEach [e2] X.env=[(false,eval e2 X.env)]:=by rfl) (hpl:(backTo pos (starEach [e2] X.env)).any (·.1)=false:=by rfl) :
  SE X (.Call (.Name "isinstance" p) [e,e2] [] pos) (EV.call pR [g,con c]) :=
 PE.weak (xg (OV hI hE) G.g hm PyProof.Rows.boot_isinstance (ag ha (ag hb bj hs2) hs) G.n G.d hs hpl) fun σ H Q ⟨δ,hσ,h⟩=>⟨δ,hσ,by
  cases r:g δ with
  | ok d =>
   have e1:evs [g,con c] δ=.ok [d,c]:=by simp [evs,r,con,R.bind]
   unfold EV.call at h
   rw [e1] at h ⊢
   refine fun vs H' s rs => ?_
   have h':RQ X σ H' (pR [d,c]) Q:=RQ.mono s h
   rcases Cc (ds:=[d,c]) with ⟨_,_,k,_,e'⟩ | e'
   ·rw [e'] at h';exact ⟨d,_,rs,e',h'⟩
   ·rw [e'] at h';exact False.elim h'
  | ex C =>
   have e1:evs [g,con c] δ=.ex C:=by simp [evs,r,R.bind]
   unfold EV.call at h
   rw [e1] at h ⊢
   exact h
  | bad =>
   have e1:evs [g,con c] δ=.bad:=by simp [evs,r,R.bind]
   unfold EV.call at h
   rw [e1] at h
   exact False.elim h⟩
end
end ES
namespace ES
open PySem PySem.Spec PyProof.Rows L2 EV
unseal SE ST SW SA SS SSs
section
variable {prog:Program} {w:World} {A:Around} {s:Shared} {K:PySem.W.Frag} {e C:Addr}
open PySem.W PySem.Builtin PySem.Builtin.Getset_descriptor in
theorem Ki {R:Result->Shared->Prop} {tp:Value} (L1:Looks ↥25 s.heap (isSubtype (.ref C) (.type "object")) true) (L0:Looks ↥25 s.heap (typeOf (.ref e)) (.ref C)) (done:R (.ok (.ret (.ref C))) s) :
  codeAny ↥25 A (.call (.builtin "getset_descriptor.__get__") ⟨[.builtin "object.__class__",.ref e,tp],[]⟩) R s:=by
 obtain ⟨hh,g,dr,t,os⟩:=s
 refine codeAny_call_builtin KF.slot_gs.plain KF.entry_gs (KF.slot_gs.check _ _ _ _ _ _ _ _ KF.type_class (KF.args_gs _ _ tp) ?_)
 unfold Builtin.«getset_descriptor.__get__»;unfold descrGet;rw [dga_obj]
 refine wpAny_bind (wpAny_pure ?_)
 simp only [descrGetter,descrCheckInstance,descrNameAndClass,isInstance,KF.owner_class]
 repeat lk
 refine ⟨Code.quiet_builtin _ (by decide +kernel),?_⟩
 refine codeAny_builtin KF.entry_class ?_
 unfold Builtin.«object.__class__»;unfold shownTypeOf
 repeat lk
 exact done
open PySem.W PySem.Builtin PySem.Builtin.Getset_descriptor in
theorem CJ {E:Value->Shared->Prop} {Q:Fin->Shared->Prop} {tk:Tok} (L1:Looks ↥25 s.heap (isSubtype (.ref C) (.type "object")) true) (L0:Looks ↥25 s.heap (typeOf (.ref e)) (.ref C))
  (L2:Looks ↥25 s.heap (typeLookup (.ref C) "__class__") (some (.builtin "object.__class__"))) (done:Q (.done (.ret (.ref C))) s) :
  wpAny ↥25 A (Builtin.«object.__getattribute__» ⟨[.ref e,.str "__class__" tk],[]⟩) Q E s:=by
 obtain ⟨hh,g,dr,t,os⟩:=s
 have f5:=F.typeOf_object_class
 have f6:=F.slot_gs_get.lookup
 have f7:=F.slot_gs_set.lookup
 have hT5:(⟨hh,g,dr,t,os⟩:Shared).TypeIs (.builtin "object.__class__") "getset_descriptor":=F.typeOf_object_class
 repeat (any_goals (first | assumption | with_reducible refine L0.at ?_ | with_reducible refine L2.at ?_ | wp_step))
 refine Ki L1 L0 ?_
 repeat (any_goals (first | assumption | wp_step))
open PySem.W PySem.Builtin PySem.Builtin.Getset_descriptor in
theorem CK {M:Model} {E:Value->Shared->Prop} {nameV:Value} {Q:Unit->Shared->Prop} (L3:Looks M s.heap (isSubtype (.ref C) (.type "BaseException")) true) (L0:Looks M s.heap (typeOf (.ref e)) (.ref C)) (done:Q () s) :
  wpAny M A (checkBuiltinCall "BaseException.__getattribute__" ⟨[.ref e,nameV],[]⟩) Q E s:=by
 obtain ⟨hh,g,dr,t,os⟩:=s
 have k1:builtinKind "BaseException.__getattribute__"=some .slot:=by decide +kernel
 have k2:splitId "BaseException.__getattribute__"=some ("BaseException","__getattribute__"):=by decide +kernel
 have ha:=F.args_bexc_ga (.ref e) nameV
 simp only [checkBuiltinCall,k1,k2]
 refine wpAny_bind ?_
 unfold isInstance
 repeat (first | with_reducible refine L0.at ?_ | with_reducible refine L3.at ?_ | wp_step)
 exact done
structure XCls (K:PySem.W.Frag) (C:Addr):Prop where
 c0:PySem.W.mroIn K C (.type "object")=some true
 c1:PySem.W.mroIn K C (.type "BaseException")=some true
 c2:PySem.W.findIn K (.ref C) "__class__"=some (some (.builtin "object.__class__"))
 c3:PySem.W.findIn K (.ref C) "__getattribute__"=some (some (.builtin "BaseException.__getattribute__"))
 c4:PySem.W.findIn K (.ref C) "__getattr__"=some none
 c5:∃ cd,PySem.W.clsIn K C=some cd
open PySem.W PySem.Builtin PySem.Builtin.Getset_descriptor in
theorem Nm {E:Value->Shared->Prop} {Q:Value->Shared->Prop} {tk:Tok} (FB:ExcAttrFacts "ValueError") (L0:Looks ↥25 s.heap (typeOf (.ref e)) (.ref C)) (c:XCls K C) (KX:K.In s.heap) (done:Q (.ref C) s) :
  wpAny ↥25 A (getAttrBy (.ref e) (.str "__class__" tk) false) Q E s:=by
 have L1:Looks ↥25 s.heap (isSubtype (.ref C) (.type "object")) true:=looks_mroIn KX c.c0
 have L3:Looks ↥25 s.heap (isSubtype (.ref C) (.type "BaseException")) true:=looks_mroIn KX c.c1
 have L2:Looks ↥25 s.heap (typeLookup (.ref C) "__class__") (some (.builtin "object.__class__")):=looks_findIn KX c.c2
 have L4:Looks ↥25 s.heap (typeLookup (.ref C) "__getattribute__") (some (.builtin "BaseException.__getattribute__")):=looks_findIn KX c.c3
 have L5:Looks ↥25 s.heap (typeLookup (.ref C) "__getattr__") none:=looks_findIn KX c.c4
 obtain ⟨hh,g,dr,t,os⟩:=s
 have f3:=FB.ga.bind (.ref e)
 have q2:(Value.builtin "BaseException.__getattribute__" == Value.builtin "object.__getattribute__")=false:=by decide +kernel
 have q0:(false&&onTheHeap (Value.builtin "BaseException.__getattribute__"))=false:=rfl
 have q1:(onTheHeap (Value.ref C)&&Value.builtin "BaseException.__getattribute__" == Value.builtin "object.__getattribute__")=false:=by rw [q2];rfl
 repeat (any_goals (first | assumption | with_reducible refine L0.at ?_ | with_reducible refine L4.at ?_ | with_reducible refine L5.at ?_ | wp_step))
 refine codeAny_call_builtin FB.ga.plain F.entry_bexc_ga (CK L3 L0 (CJ L1 L0 L2 ?_))
 repeat (any_goals (first | assumption | wp_step))
open PySem.W in
theorem Jj (c:XCls K C):KitX K (.ref e) (.ref C) (fun h=>∃ o vs,h.get? e=some o/\o.cls=.ref C/\o.data=.fields vs) where
 ty:=fun M h KX ⟨o,vs,h1,h2,h3⟩=>h2▸(Looks.ld h1).andThen .now
 it:=fun M h KX _=>by
  obtain ⟨cd,hc⟩:=c.c5
  unfold clsIn at hc
  split at hc
  ·rename_i hlk
   intro A' Q' E' s' k q
   unfold isType loadHead
   exact wpAny_bind (wpAny_loadPart (k _ _ (KX _ _ hlk)) (wpAny_pure q))
  ·cases hc
 ne:=fun h tp dd its n sl KX htp=>by
  obtain ⟨cd,hc⟩:=c.c5
  unfold clsIn at hc
  split at hc
  ·rename_i hlk
   have h1:=KX _ _ hlk
   by_cases z:C=tp
   ·subst z
    rw [htp] at h1
    cases h1
   ·simpa using z
  ·cases hc
 ca:=fun {prog w A E Q s} KX ⟨o,vs,h1,h2,h3⟩ q=>by
  obtain ⟨hh,g,dr,t,os⟩:=s
  have L0:Looks ↥25 hh (typeOf (.ref e)) (.ref C):=h2▸(Looks.ld h1).andThen .now
  have by_:∀ {tk:Tok} {t':Nat} {E':Value->Shared->Prop} {Q':Value->Shared->Prop},Q' (.ref C) ⟨hh,g,dr,t',os⟩->wpAny ↥25 A (getAttrBy (.ref e) (.str "__class__" tk) false) Q' E' ⟨hh,g,dr,t',os⟩:=fun {tk t' E' Q'} done=>Nm (s:=⟨hh,g,dr,t',os⟩) PySem.F.excAttr_ValueError L0 c KX done
  clear h1
  unfold getAttr? getAttrBy?
  repeat (any_goals (first | assumption | with_reducible apply by_ | wp_step))
end
theorem ub (h:∀ (n:String) (C:Addr),ax.contains n=true->X.mg n=some (.ref C)->XCls X.K C):uV X:=fun e C n hx hn=>Jj (h n C hx hn)
end ES
namespace ES
open PySem PySem.Spec PyProof.Rows L2 EV
unseal SE ST SW SA SS SSs
theorem mG {G:List Str} (i:Nat) {x:Str} (h:G[i]? = some x:=by rfl):x∈G:=List.mem_of_getElem? h
structure XF (K:PySem.W.Frag) (mg:Str->Option Value) (n:String):Prop where
 ex:mg n=none\/∃ C,mg n=some (.ref C)/\XCls K C
theorem zM {K:PySem.W.Frag} {mg:Str->Option Value} (h:∀ n∈ax,XF K mg n) (n:String) (C:Addr) (hn:ax.contains n=true) (hm:mg n=some (.ref C)):XCls K C:=by
 rcases (h n (by simpa using hn)).ex with z | ⟨C',z,x⟩
 ·rw [hm] at z;cases z
 ·rw [hm] at z;cases z;exact x
structure CF (K:PySem.W.Frag) (mg:Str->Option Value) (B:Addr) (n:String):Prop where
 ex:mg n=none\/∃ C,mg n=some (.ref C)/\PySem.W.mroIn K C (.ref B)=some true
structure CB (K:PySem.W.Frag) (B:Addr):Prop where
 c1:∃ cd,PySem.W.clsIn K B=some cd
 c2:PySem.W.typeIn K (.ref B)=some (.type "type")
 c3:PySem.W.subIn K (.type "type") ↥5=some false
 c4:PySem.W.mroIn K B (.type "BaseException")=some true
theorem Br (hn:n≠"ValueError") (i0:PySem.W.kitOne X.K (.type "NoneType") (.type n)=some false) (i1:PySem.W.kitOne X.K (.type "bool") (.type n)=some (n == "int"||n == "bool")) (i2:PySem.W.kitOne X.K (.type "int") (.type n)=some (n == "int"))
  (i3:PySem.W.kitOne X.K (.type "str") (.type n)=some (n == "str")) (i4:PySem.W.kitOne X.K ↥5 (.type n)=some (n == "tuple")) (i5:PySem.W.kitOne X.K (.type "list") (.type n)=some (n == "list")):Isi X (.ty n):=by
 intro d k t u e ht hu
 cases hu
 cases d with
 | exc C =>
  have z:=(ir e).1
  rw [Bool.and_eq_true,beq_iff_eq] at z
  exact absurd z.2 hn
 | non=>cases ht;obtain ⟨_,rfl⟩:=ir e;exact i0
 | bl b=>cases ht;obtain ⟨_,rfl⟩:=ir e;exact i1
 | int b=>cases ht;obtain ⟨_,rfl⟩:=ir e;exact i2
 | str b=>cases ht;obtain ⟨_,rfl⟩:=ir e;exact i3
 | tup b=>cases ht;obtain ⟨_,rfl⟩:=ir e;exact i4
 | lst b=>cases ht;obtain ⟨_,rfl⟩:=ir e;exact i5
 | _=>cases e
structure IF (K:PySem.W.Frag) (mg:Str->Option Value) (c:Value) (k:Bool) (n:String):Prop where
 ex:mg n=none\/∃ C,mg n=some (.ref C)/\PySem.W.kitOne K (.ref C) c=some k
theorem jJ:∀ {ns:List Int},PySem.W.WData.weightAll (ns.map PySem.W.WData.int)<=2^20->∀ n∈ns,nb n<=2^20
 | [],_,_,h=>nomatch h
 | m::r,hw,n,h=>by
  rw [List.map_cons,PySem.W.WData.weightAll] at hw
  rcases List.mem_cons.mp h with rfl | h
  ·have:PySem.W.WData.weight (.int n)=Builtin.Int.intBits n:=by simp only [PySem.W.WData.weight,Builtin.Int.intBits]
   rw [yM]
   omega
  ·exact jJ (ns:=r) ⋯ n h
open PySem.W PySem.Calls Att in
theorem wB {l:OpenLaw} {n:Nat} {q:Program} {loose:List Str} {XP:(Str->Option Value)->Heap->Prop} {YP:World->Heap->Prop} {d:DefRec}
  (hn:l.most=some n) (hdf:d.params.defaults=[])
  (call:∀ (w:World) (s₀ s₁:Shared) (mg mb:Str->Option Value) (fa:Addr) (a:Addr) (vs:List Value) (ns:List Int),
   Ground q loose [] XP w s₀ mg mb s₁.heap->YP w s₁.heap->mg d.name=some (.ref fa) ->
   s₁.heap.get? a=some { cls:=.type "list",data:=.seq vs.toArray }->IntsAre vs ns->ns.length<=n->(∀ m∈ns,nb m<=2^20)->s₁.gens = #[] ->
   codeAny (model l.prog w) callerA (.call (.ref fa) ⟨[.ref a],[]⟩) (fun r s'=>r=.ok (.ret (.bool true))/\OldK s₁.heap s'.heap/\s'.os=s₁.os/\AllBare s'.gens) s₁) :
  WalkO q loose XP YP l.row.toRowW d [] (fun f vs=>PySem.call f vs):=by
 intro w s₀ s₁ mg mb G Y fa o pm cd doc dV kV ho hd hcd hD hmg hg args vals as hpre hlay hrd hwl hlo
 obtain rfl:dV=.none:=Dflts.none hD hdf
 obtain rfl:kV=.none:=Dflts.noKw hD
 obtain ⟨a,vs,ns,rfl,rfl,hobj,hints,hlen⟩:=Ai hn hpre hwl
 have hb:∀ m∈ns,nb m<=2^20:=by
  have h1:=(layableW_iff.mp (layW_cons hlay).1).2.2
  rw [WData.weight] at h1
  exact jJ h1
 refine enter_call (codeAny_mono (call w s₀ s₁ mg mb fa a vs ns G Y hmg hobj hints hlen hb hg) fun r s' hq => ?_)
 obtain ⟨rfl,h2,h3,h4⟩:=hq
 exact ⟨.inl ⟨.bool true,.bool true,[],rfl,fun _=>rfl,.bool true,AH l _,fun _=>⟨List.Pairwise.nil,fun _ hm=>(nomatch hm)⟩⟩,h2,h3,h4⟩
theorem CN {l:PySem.W.OpenLaw} {k:Nat} {q:Program} {loose:List Str} {XP:(Str->Option Value)->Heap->Prop} {YP:World->Heap->Prop} {d:DefRec} {K:Params->PySem.W.Frag} {x:Str} {f:List D->R D}
  (hf:Good f) (hn:l.most=some 63) (hdf:d.params.defaults=[]) (hr:Room k callerA)
  (hY:∀ (w:World) (h:Heap),YP w h->(K w.params).In h)
  (F:∀ (w:World) (mg:Str->Option Value) (fa:Addr) (h:Heap),(K w.params).In h->h.Ns mainGlobals mg->mg d.name=some (.ref fa) ->
   ∃ fd:FuncData,(∀ (s:Shared) (u:Value),BindsTo s fd ⟨[u],[]⟩ [(x,u)]) /\
    ∀ base:Heap,(K w.params).In base->base.Ns mainGlobals mg->FnOk l.prog w (K w.params) mg base (CXF l.prog w) k fa fd [x] (spP (K w.params) mg f)) :
  PySem.W.WalkO q loose XP YP l.row.toRowW d [] (fun f vs=>PySem.call f vs):=by
 refine wB hn hdf fun w s₀ s₁ mg mb fa a vs ns G Y hmg hobj hints hlen hbits hg => ?_
 have KX:=hY w _ Y
 obtain ⟨fd,hb,hF⟩:=F w mg fa _ KX G.T.g hmg
 refine Ek KX G.T.g G.T.b G.T.builtins G.T.nolimit hg hobj hints (Nat.le_trans hlen ↥1) hr hF hb (fun H hO hS=>⟨[.lst (ns.map .int)],.cons (.lst hS (Reps.ints ns)) .nil,?_⟩) fun H e s' ⟨_,_,_,_,_,z⟩=>z
 rw [hf ns hlen hbits]
 exact fun v H' _ r=>by cases r;rfl
end ES
namespace ES
open PySem PySem.Spec PyProof.Rows L2 EV
unseal SE ST SW SA SS SSs
structure FldOk (X:Cx) (cn f:String):Prop where
 ex:∃ C,X.mg cn=some (.ref C)/\Cls X.K C/\kQ X.K C f
structure MethOk (X:Cx) (cn m:String) (F:List D->R D):Prop where
 ex:∃ C fa k fd ps,X.mg cn=some (.ref C)/\Cls X.K C/\Meth X.K C m fa/\FnOk X.prog X.w X.K X.mg X.base (CXF X.prog X.w) k fa fd ps (spP X.K X.mg F)/\Room k X.A/\Binds X.K fd ps []
section
variable {X:Cx} {o e:Expr} {es:List Expr} {go:E} {gs:List E} {pos apos p:Pos} {cn f m:String} {F:List D->R D}
theorem BK (h:FldOk X cn f) (ho:SE X o go) (hb:attributeBase o f X.env (eval o X.env)=eval o X.env:=by rfl):SE X (.Attribute o f pos) (un (zy cn f) go):=by
 obtain ⟨C,hC,cl,na⟩:=h.ex
 refine PE.weak (LF ho hb) fun σ H Q ⟨δ,hσ,h⟩=>⟨δ,hσ,(RQ.bind h).to fun v H' s ⟨_,d,r,q⟩ => ?_⟩
 cases r with
 | @ins a C' dx n fs ds hn ha rf =>
  unfold zy at q
  simp only at q
  split at q
  ·rename_i hcn
   rw [beq_iff_eq] at hcn
   subst hcn
   split at q
   ·rename_i d hd
    obtain ⟨v,e1,e2⟩:=rf.lookup hd
    rw [hC] at hn
    cases hn
    exact ⟨a,C,dx,fs,v,rfl,ha,cl,na,e1,q _ _ ↥30 e2⟩
   ·exact False.elim q
  ·exact False.elim q
 | _=>exact False.elim q
theorem IJ {σ:L2.St} {H:Hp} {δ:Dt} {d:D} {es:List E} {Q:VK} (h:RQ X σ H (if f9 cn m d then (evs es δ).bind fun ds=>F (d::ds) else .bad) Q):f9 cn m d=true/\RA X σ H (evs es δ) fun vs H'=>aD H H'/\∃ ds,Reps X.K X.mg H' vs ds/\RQ X σ H' (F (d::ds)) Q:=by
 by_cases hm:f9 cn m d=true
 ·rw [if_pos hm] at h
  refine ⟨hm,?_⟩
  have h2:RQ X σ H ((evs es δ).bind fun ds=>F (d::ds)) Q:=h
  cases r:evs es δ with
  | ok ds=>rw [r] at h2;exact fun vs H' s rs=>⟨s,ds,rs,RQ.mono s h2⟩
  | ex C=>rw [r] at h2;exact h2
  | bad=>rw [r] at h2;exact h2
 ·rw [if_neg hm] at h;exact False.elim h
theorem ud (h:MethOk X cn m F) (ho:SE X o go) (ha:SA X (e::es) gs)
  (hst:starEach (e::es) X.env=(false,eval e X.env)::starEach es X.env:=by rfl) (hpl:(backTo pos (starEach es X.env)).any (·.1)=false:=by rfl)
  (ht:eval (.Call (.Attribute o m apos) (e::es) [] pos) X.env=(do
   let ov<-eval o X.env
   standAt apos.atName
   let (f,first)<-holding [ov] (getMethod ov m pl)
   callWith pos f first (backTo pos (starEach (e::es) X.env)) (backToKw pos (keywordEach [] X.env))):=by rfl) :
  SE X (.Call (.Attribute o m apos) (e::es) [] pos) (IK cn m F go gs):=by
 obtain ⟨C,fa,k,fd,ps,hC,cl,hm,FO,hr,hb⟩:=h.ex
 intro pins s σ H Q I ⟨δ,hσ,h⟩
 refine PySem.W.methodCall_KW (pl:=pl) (thn (ho pins s σ H _ I ⟨δ,hσ,RQ.bind h⟩) fun u s1 ⟨x,H1,I1,rx,sm,d,rd,q⟩ => ?_) ht
 obtain ⟨im,qa⟩:=IJ q
 cases rd with
 | @ins a C' dx n fs ds hn hA rf =>
  unfold f9 at im
  rw [Bool.and_eq_true,beq_iff_eq] at im
  obtain ⟨e1,e2⟩:=im
  subst e1
  rw [hC] at hn
  cases hn
  have l:fs.lookup (m:Str)=none:=rf.lookupN (by simpa using e2)
  obtain rfl:u=Value.ref a:=rx
  refine yX I1 hA cl hm l ?_
  refine PySem.W.callWith_K (first:=[.ref a]) (h₀:=X.base) I.ok.mod.kin hm.kp (thn (ha pos pins s1 σ H1 _ I1 ⟨δ,hσ.mono sm,qa⟩) fun us s2 ⟨vs,H2,I2,r,sm2,ds',rs,q2⟩=>⟨I2.kIn,?_⟩) hst hpl
  exact Lc (us:=.ref a::us) (vs:=.ref a::vs) FO hr hb I2 (.cons rfl r) (.cons (.ins hC (sm2 _ _ hA) (rf.mono sm2)) rs) q2
 | _=>cases im
def spI (K:PySem.W.Frag) (f:Str):Sp:=fun vs H Q _=>∃ x v C dx,vs=[.ref x,v]/\H x=some (.ins C dx [])/\Cls K C/\kQ K C f/\Q .non (upd H x (.ins C dx [(f,v)]))
theorem IW {P:Program} {w:World} {K:PySem.W.Frag} {mg:Str->Option Value} {base:Heap} {x qual ps pa f:Str} {st:Stmt} {fa:Addr} {fd:FuncData} {p1 p2 p3 p4:Pos} {k:Nat} (F:Fun K x qual st fa fd)
  (S:FnScope [ps,pa] [ps,pa] (aa st)) (h0:(aa st).names.lookup ps=some .local) (h1:(aa st).names.lookup pa=some .local) (d0:(ps == ("__debug__":Str))=false/\(ps == ("__classdict__":Str))=false) (d1:(pa == ("__debug__":Str))=false/\(pa == ("__classdict__":Str))=false)
  (hb:aj st=[.Assign [.Attribute (.Name ps p1) f p2] (.Name pa p3) p4]) (hsw:∀ env,swapsWith (.Name pa p3) (some (.Attribute (.Name ps p1) f p2)) p4.line env=pure false):FnOk P w K mg base CX0 (k+1) fa fd [ps,pa] (spI K f):=by
 refine F.ok S (fun vs H Q E h => ?_) fun cdv A outer s H vs Q E hr h => ?_
 ·obtain ⟨_,_,_,_,rfl,_⟩:=h
  rfl
 ·obtain ⟨a,v,C,dx,rfl,hH,cl,na,q⟩:=h
  rw [hb]
  refine ⟨_,AG (Lu (tG (i:=0) rfl (.inl h0) d0.1 d0.2) (tG (i:=1) rfl (.inl h1) d1.1 d1.2) (hsw _)),?_⟩
  exact ⟨v,rfl,_,rfl,a,C,dx,[],rfl,hH,cl,na,by decide,q⟩
structure MakeOk (X:Cx) (cn f:String):Prop where
 ex:∃ C fa k fd ps,X.mg cn=some (.ref C)/\Cls X.K C/\kQ X.K C f/\Mk X.K C fa/\FnOk X.prog X.w X.K X.mg X.base CX0 k fa fd ps (spI X.K f)/\Room (k+1) X.A/\Binds X.K fd ps []
theorem Jr (h:MakeOk X cn f) (G:Gb X cn) (ha:SA X (e::es) gs) (he:starEach (e::es) X.env=(false,eval e X.env)::starEach es X.env:=by rfl) (hpl:(backTo pos (starEach es X.env)).any (·.1)=false:=by rfl) :
  SE X (.Call (.Name cn p) (e::es) [] pos) (EV.call (mk1 cn f) gs):=by
 obtain ⟨C,fa,k,fd,ps,hC,cl,na,M,F,hr,hb⟩:=h.ex
 refine PE.weak (HN (E:=fun _ _ _=>False) M F hr G.g hC hb .nil Of ha G.d he hpl) fun σ H Q ⟨δ,hσ,h⟩=>⟨δ,hσ,(RA.bind h).to fun vs H' s ⟨_,ds,rs,q⟩ x dx hx hdx hne => ?_⟩
 unfold mk1 at q
 split at q
 ·rename_i d
  obtain ⟨v,rfl,r⟩:=pM rs
  refine ⟨x,v,C,dx,rfl,bz,cl,na,rfl,?_⟩
  have s1:aD H' (upd H' dx (.own x)):=bb hdx _
  have hx1:(upd H' dx (.own x)) x=none:=by rw [bN (Ne.symm hne)];exact hx
  have s2:aD (upd H' dx (.own x)) (upd (upd H' dx (.own x)) x (.ins C dx [])):=bb hx1 _
  have s3:aD H' (upd (upd (upd H' dx (.own x)) x (.ins C dx [])) x (.ins C dx [((f:Str),v)])):=fun b o e=>by
   have hb:b≠x:=dJ e hx
   rw [bN hb,bN hb]
   exact s1 b o e
  exact q _ _ s3 (.ins hC bz (.cons (r.mono s3) .nil))
 ·exact False.elim q
end
end ES
namespace ES
open PySem PySem.Spec PyProof.Rows L2 EV
unseal SE ST SW SA SS SSs
def Fh (X:Cx) (J:It) (H:Hp) (ds:List D):Prop:=∀ Hc,aD H Hc ->
 (∀ i d,ds[i]? = some d->J.go i Hc/\∀ x H',J.yld i Hc x H'->aD Hc H'/\∀ Hq,aD H Hq->(∀ b o,H' b=some o->Hc b=none->Hq b=some o)->Rep X.K X.mg Hq x d)/\∀ i,ds.length<=i->J.stop i Hc
theorem zS {X:Cx} {H Hc H':Hp} {x:V} {d:D} (e:H'=Hc) (r:Rep X.K X.mg H x d):aD Hc H'/\∀ Hq,aD H Hq->(∀ b o,H' b=some o->Hc b=none->Hq b=some o)->Rep X.K X.mg Hq x d :=
 ⟨by rw [e];exact aD.refl _,fun Hq s _=>r.mono s⟩
def RI (X:Cx) (σ:L2.St) (H:Hp) (r:R (List D)) (Q:It->Hp->Prop):Prop:=match r with
 | .ok ds=>∀ J H',aD H H'->Fh X J H' ds->Q J H'
 | .ex C=>∀ Ca,X.mg C=some (.ref Ca)->∀ H',aD H H'->ew X Ca σ H'
 | .bad=>False
def tI (X:Cx) (g:IT):TI:=fun σ H Q=>∃ δ,Stt X.K X.mg H σ δ/\RI X σ H (g δ) Q
@[irreducible] def SI (X:Cx) (tg iter:Expr) (g:IT):Prop:=PI X tg iter (tI X g)
unseal SI
section
variable {X:Cx} {tg e a b:Expr} {g ga gb:E} {σ:L2.St} {H H1:Hp}
theorem RI.mono (s:aD H H1) (h:RI X σ H r Q):RI X σ H1 r Q:=by
 cases r with
 | ok d=>exact fun v H' s' r=>h v H' (s.trans s') r
 | ex C=>exact fun Ca hc H' s'=>h Ca hc H' (s.trans s')
 | bad=>exact h
theorem RI.bind (h:RI X σ H (r.bind f) Q):RQ X σ H r (fun v H'=>aD H H'/\∃ d,Rep X.K X.mg H' v d/\RI X σ H' (f d) Q):=by
 cases r with
 | ok d=>exact fun v H' s r=>⟨s,d,r,h.mono s⟩
 | ex C=>exact h
 | bad=>exact h
theorem PI.weak (h:PI X tg e t) (w:∀ σ H Q,t' σ H Q->t σ H Q):PI X tg e t':=fun pins s σ H Q I q=>h pins s σ H Q I (w σ H Q q)
theorem FF (h:SE X e g):SI X tg e (itL g):=PI.weak (HL h) fun σ H Q ⟨δ,hσ,q⟩=>⟨δ,hσ,(RI.bind q).to fun v H' s ⟨_,d,r,q⟩=>by
 cases d with
 | lst ds =>
  cases r with
  | @lst p xs _ hq rs =>
   refine ⟨p,rfl,⟨xs,hq⟩,q _ _ ↥30 fun Hc sc=>⟨fun i d hd => ?_,fun i hi=>⟨xs,sc.seq hq,by rw [rs.length];exact hi⟩⟩⟩
   obtain ⟨v,e1,r1⟩:=rs.get hd
   exact ⟨⟨xs,v,sc.seq hq,e1⟩,fun x H'' ⟨e2,y⟩=>by
    have:=y xs (sc.seq hq)
    rw [e1] at this
    cases this
    exact zS e2 r1⟩
 | _=>exact False.elim q⟩
theorem OH (h:SE X e g):SI X tg e (itT g):=PI.weak (Lx h) fun σ H Q ⟨δ,hσ,q⟩=>⟨δ,hσ,(RI.bind q).to fun v H' s ⟨_,d,r,q⟩=>by
 cases d with
 | tup ds =>
  cases r with
  | @tup p xs _ hq rs =>
   refine ⟨p,rfl,⟨xs,hq⟩,q _ _ ↥30 fun Hc sc=>⟨fun i d hd => ?_,fun i hi=>⟨xs,gF sc hq,by rw [rs.length];exact hi⟩⟩⟩
   obtain ⟨v,e1,r1⟩:=rs.get hd
   exact ⟨⟨xs,v,gF sc hq,e1⟩,fun x H'' ⟨e2,y⟩=>by
    have:=y xs (gF sc hq)
    rw [e1] at this
    cases this
    exact zS e2 r1⟩
 | _=>exact False.elim q⟩
end
def FI (X:Cx) (σ:L2.St) (H:Hp) (os:Os) (δ:Dt) (r:R (List D)) (Q:It->Hp->Prop):Prop:=match r with
 | .ok ds=>∀ J H',StO X H' σ δ os->aD ↥36 (hide H' os)->Fh X J (hide H' os) ds->Q J H'
 | .ex C=>∀ Ca,X.mg C=some (.ref Ca)->∀ H',aD ↥36 H'->Stt X.K X.mg H' σ (noOwn δ)->ew X Ca σ H'
 | .bad=>False
def tFI (X:Cx) (g:IT):TI:=fun σ H Q=>∃ δ os,StO X H σ δ os/\FI X σ H os δ (g δ) Q
section
variable {X:Cx} {N:List Str} {tg e:Expr} {g:IT}
theorem MD (hx:X.ex=[]) (h:SI X tg e g):PI X tg e (tFI X g):=by
 intro pins s σ H Q I ⟨δ,os,S,q⟩
 have hl:=S.lsts
 have hw:RI X σ ↥36 (g δ) (fun J H1=>aD ↥36 H1/\∃ ds,g δ=.ok ds/\Fh X J H1 ds):=by
  cases r:g δ with
  | ok d=>exact fun v H' s r=>⟨s,d,rfl,r⟩
  | ex C =>
   rw [r] at q
   exact fun Ca hc H' s'=>q Ca hc H' s' (S.noOwn s')
  | bad=>rw [r] at q;exact q
 refine thn (h _ s σ _ _ (m8 I hl) ⟨δ,S.st,hw⟩) fun v s1 h1=>thn h1 fun itv s2 h2 => ?_
 obtain ⟨it,fp,tn,J,H1,e1,I1,T,st,fpk,sm,ds,e2,wk⟩:=h2
 obtain ⟨I2,hn⟩:=m7 hx I hl I1
 rw [e2] at q
 have eh:=kD (H:=H) hn
 refine ⟨it,fp,tn,J,hW H H1 os,e1,I2,T,st,fun b hb => ?_,q J _ (S.shown sm hn) (by rw [eh];exact sm) (by rw [eh];exact wk)⟩
 obtain ⟨f0,f1,f2,f3,f4,f5⟩:=fpk b hb
 have nb:b∉l4 os:=fun z=>by
  obtain ⟨xs,hh⟩:=hl b z
  obtain ⟨o,eo⟩:∃ o,s.heap.get? b=some o:=by
   obtain ⟨_,its,n,_,eo⟩:=I.hok b _ hh
   exact ⟨_,eo⟩
  exact f5 (b,o) (List.mem_append_right _ (List.mem_append_right _ (fA z eo))) rfl
 refine ⟨by unfold hW;rw [if_neg nb];exact f0,f1,f2,f3,f4,fun p hp=>f5 p ?_⟩
 rw [<- List.append_assoc]
 exact List.mem_append_left _ hp
variable {body:List Stmt} {gb:S} {pos:Pos}
theorem Av (C:Sx X N) (L:Lp X) (i:Nat) (hN:N[i]? = some x) (hx:Sto X x) (he:SI X (.Name x pos') e g) (hb:SSs X body gb) (hs:∀ x,foldedSetIterable e X.env x=pure x:=by intro _;rfl) :
  SS X (.For (.Name x pos') e body [] pos) (J2 i g gb):=by
 refine PS.weak (Ls L.own L.calm (MD C.ex he) (oh (i:=i) (by rw [C.sc.n];exact C.sc.nd) (by rw [C.sc.n];exact hN) hx.1 hx.2) hb hs) fun D σ H ⟨δ,os,S,q⟩=>⟨δ,os,S,?_⟩
 unfold J2 ovI at q
 cases r:g δ with
 | ok ds =>
  rw [r] at q
  intro J H1 S1 s1 wk
  refine ⟨fun n m σ' H'=>m=ds.length - n/\n<=ds.length/\Pv X D ↥36 (hide H1 os) i gb ds n σ' H',⟨ds.length,by simp,Nat.zero_le _,δ,os,S1,aD.refl _,s1,by rw [List.drop_zero];exact q⟩,?_⟩
  rintro n m σ' H' ⟨rfl,hn,p⟩
  obtain ⟨δ',os',S',s',s0,q'⟩:=id p
  have w:=wk H' (s'.trans (bq _ _))
  by_cases hlt:n<ds.length
  ·have hd:ds[n]? = some ds[n]:=List.getElem?_eq_getElem hlt
   refine .inr ⟨(w.1 n _ hd).1,Pv X D ↥36 (hide H1 os) i gb ds (n+1),fun σ2 H2 z=>⟨ds.length - (n+1),⋯,rfl,⋯,z⟩,fun x H'' y => ?_⟩
   obtain ⟨e1,r1⟩:=(w.1 n _ hd).2 x H'' y
   have sm:=s'.trans (iT os' e1)
   exact C7 hd (S'.mono e1) sm s0 q' (r1 _ sm fun b o z1 z2=>by
    rw [dt fun z=>by obtain ⟨xs,hx⟩:=S'.lsts b z;rw [z2] at hx;cases hx]
    exact z1)
  ·exact .inl ⟨w.2 n ⋯,MK ⋯ p⟩
 | ex C=>rw [r] at q;exact fun Ca hc H' s' st=>q σ H' s' st Ca hc
 | bad=>rw [r] at q;exact q
end
end ES
namespace ES
open PySem PySem.Spec PyProof.Rows L2 EV
unseal SE ST SW SA SS SSs SI
def CA (env:Env):List (Str×NameKind)->List (Str×Addr)->List (Str×Addr)
 | [],cs=>cs
 | (n,k)::r,cs=>CA env r (if k == .free then (n,(env.cells.lookup n).getD 0)::cs else cs)
theorem zh (h:∀ y,(y,NameKind.free)∈sc.names->∃ c,env.cells.lookup y=some c):closureFor sc env=pure (CA env sc.names []):=by
 unfold closureFor
 have key:∀ (l:List (Str×NameKind)) (cs:List (Str×Addr)),(∀ y,(y,NameKind.free)∈l->∃ c,env.cells.lookup y=some c) ->
   (forIn l cs fun x (r:List (Str×Addr))=>(match x with | (name,kind)=>if (kind == NameKind.free)=true then do let a<-cellOf env name;pure (ForInStep.yield ((name,a)::r)) else pure (ForInStep.yield r)):Sem _)=pure (CA env l cs):=by
  intro l
  induction l with
  | nil=>intro cs _;rfl
  | cons p r ih =>
   intro cs hl
   obtain ⟨n,k⟩:=p
   rw [List.forIn_cons]
   by_cases hk:(k == NameKind.free)=true
   ·obtain ⟨c,hc⟩:=hl n (by rw [beq_iff_eq] at hk;subst hk;exact .head _)
    simp only [hk,if_true,cellOf,hc,CA]
    exact ih _ fun y hy=>hl y (.tail _ hy)
   ·simp only [hk,Bool.false_eq_true,if_false,CA]
    exact ih _ fun y hy=>hl y (.tail _ hy)
 simp only [key sc.names [] h]
 rfl
theorem FP:∀ {l:List (Str×NameKind)} {cs:List (Str×Addr)},(∀ y,(y,NameKind.free)∈l->∃ c,env.cells.lookup y=some c)->(∀ y c,cs.lookup y=some c->env.cells.lookup y=some c)->∀ y c,(CA env l cs).lookup y=some c->env.cells.lookup y=some c
 | [],_,_,h=>h
 | (n,k)::r,cs,hl,h=>by
  refine FP (l:=r) (fun y hy=>hl y (.tail _ hy)) fun y c e => ?_
  by_cases hk:(k == NameKind.free)=true
  ·rw [if_pos hk,List.lookup_cons] at e
   cases q:(y == n) with
   | true =>
    rw [q] at e
    obtain ⟨c',hc⟩:=hl n (by rw [beq_iff_eq] at hk;subst hk;exact .head _)
    rw [beq_iff_eq] at q
    subst q
    rw [hc] at e ⊢
    simpa using e
   | false=>rw [q] at e;exact h y c e
  ·rw [if_neg hk] at e;exact h y c e
theorem BQ:∀ {l:List (Str×NameKind)} {cs:List (Str×Addr)} {y:Str},((y,NameKind.free)∈l\/∃ c,cs.lookup y=some c)->∃ c,(CA env l cs).lookup y=some c
 | [],_,_,h=>h.elim (fun z=>nomatch z) id
 | (n,k)::r,cs,y,h=>by
  refine BQ (l:=r) ?_
  rcases h with h | ⟨c,h⟩
  ·rcases List.mem_cons.mp h with z | z
   ·cases z
    exact .inr ⟨_,by rw [if_pos (show (NameKind.free == NameKind.free)=true from rfl),List.lookup_cons,beq_self_eq_true]⟩
   ·exact .inl z
  ·refine .inr ?_
   by_cases hk:(k == NameKind.free)=true
   ·rw [if_pos hk,List.lookup_cons]
    cases q:(y == n) with
    | true=>exact ⟨_,rfl⟩
    | false=>exact ⟨c,h⟩
   ·rw [if_neg hk];exact ⟨c,h⟩
theorem iP (hk:k ≠ .free):sc.names.lookup x=some k->(relabel sc env).names.lookup x=some k:=by
 unfold relabel
 simp only
 generalize sc.names=l
 induction l with
 | nil=>intro h;cases h
 | cons p r ih =>
  obtain ⟨n,k'⟩:=p
  intro h
  rw [List.lookup_cons] at h
  rw [List.map_cons]
  cases q:(x == n) with
  | true =>
   rw [q] at h
   have e:k'=k:=by simpa using h
   subst e
   have:(k' == NameKind.free)=false:=by simpa using hk
   simp [this,List.lookup_cons,q]
  | false =>
   rw [q] at h
   split<;>(rw [List.lookup_cons,q];exact ih h)
theorem lW (hf:env.scope.kind=.function) (hc:env.kindOf x=some .cell):sc.names.lookup x=some .free->(relabel sc env).names.lookup x=some .cell:=by
 unfold relabel
 simp only
 generalize sc.names=l
 induction l with
 | nil=>intro h;cases h
 | cons p r ih =>
  obtain ⟨n,k'⟩:=p
  intro h
  rw [List.lookup_cons] at h
  rw [List.map_cons]
  cases q:(x == n) with
  | true =>
   rw [q] at h
   have e:k'=.free:=by simpa using h
   subst e
   rw [beq_iff_eq] at q
   subst q
   simp [hf,hc,List.lookup_cons]
  | false =>
   rw [q] at h
   split<;>(rw [List.lookup_cons,q];exact ih h)
theorem pW:(relabel sc env).names.lookup x=some k->sc.names.lookup x=some k\/(sc.names.lookup x=some .free/\k=.cell):=by
 unfold relabel
 simp only
 generalize sc.names=l
 induction l with
 | nil=>intro h;cases h
 | cons p r ih =>
  obtain ⟨n,k'⟩:=p
  intro h
  rw [List.map_cons] at h
  rw [List.lookup_cons]
  cases q:(x == n) with
  | true =>
   split at h
   ·rename_i hc
    rw [List.lookup_cons,q] at h
    have e:NameKind.cell=k:=by simpa using h
    simp only [Bool.and_eq_true,beq_iff_eq] at hc
    exact .inr ⟨by rw [hc.1.1],e.symm⟩
   ·rw [List.lookup_cons,q] at h
    have e:k'=k:=by simpa using h
    exact .inl (by rw [e])
  | false=>split at h<;>(rw [List.lookup_cons,q] at h;exact ih h)
structure ScU (xs ks G:List Str) (sc:Scope):Prop where
 kind:sc.kind=.function
 noc:∀ y∈sc.names,y.2 ≠ .cell
 nms:∀ y∈sc.names,y.2=.local->sc.names.lookup y.1=some .local
 loc:∀ y∈xs,sc.names.lookup y=some .local
 fre:∀ y∈ks,sc.names.lookup y=some .free
 all:∀ y∈sc.names,y.2=.free->y.1∈ks
 glb:∀ y∈G,sc.names.lookup y=some .globalImplicit
 nd:(xs++ks).Nodup
 dbg:∀ y∈xs++ks,(y == ("__debug__":Str))=false/\(y == ("__classdict__":Str))=false
 dbgG:∀ y∈G,(y == ("__debug__":Str))=false/\y≠"__name__"
def cxU (X:Cx) (xs ks:List Str) (sc:Scope) (C:Addr) (fp:List Addr) (s:Shared) (H:Hp) (W:Value->Shared->Prop):Cx :=
 { X with N:=xs++ks,s₀:=s,H₀:=H,env:={ newEnv sc C X.env.globals (CA X.env sc.names []) X.env.qual none .none (some X.env) X.env.builtins with scope:=relabel sc X.env },outer:=X.stack,stack:=X.stack,ex:=fp,fn:=fun _=>false,pn:=[],xe:=W }
theorem Ko (u:Un fs ex H H' h h1) (hC:h.objs.size<=C) (sb:Heap.SameBut C h1 h2):Un fs ex H H' h h2:=by
 have ne:∀ {b:Addr} {o:Obj},h.get? b=some o->b≠C:=fun {b o} e=>Nat.ne_of_lt (Nat.lt_of_lt_of_le (Heap.lt_size e) hC)
 refine ⟨fun b o e n hb hx=>(sb.2 b (ne e)).trans (u.keep b o e n hb hx),fun b o e n hb hx => ?_,u.free,fun b o e hx => ?_,u.tups,u.frzs,u.tbls⟩
 ·obtain ⟨sl,q⟩:=u.slot b o e n hb hx
  exact ⟨sl,(sb.2 b (ne e)).trans q⟩
 ·obtain ⟨o',q⟩:=u.there b o e hx
  exact ⟨o',(sb.2 b (ne e)).trans q⟩
theorem IZ (hok:HOk P w H h1) (hC:H C=none) (sb:Heap.SameBut C h1 h2):HOk P w H h2:=fun b u e =>
 (hok b u e).stay (fun c o hc q=>(sb.2 c (fun z=>by
  subst z
  rcases hc with rfl | hc
  ·rw [hC] at e;cases e
  ·rw [hC] at hc;cases hc)).trans q) (fun _ q=>q) fun _ _ q=>q
def NB (prog:Program) (w:World) (A:Around) (env:Env) (R:Result->Shared->Prop):Value->Shared->Prop:=notedBy ↥25 A env fun x s'=>R (.error x) s'
theorem Bm {prog:Program} {w:World} {A:Around} {R:Result->Shared->Prop} {s:Shared} {elt target iter:Expr} {ifs:List Expr} {scope:Scope} {pos:Pos} {it acc:Value} {env:Env} (J:Nat->Shared->Prop)
  (turn:∀ n s,J n s->wpAny ↥25 A (pyNext it) (fun r s1=>match r with
   | none=>R (.ok .next) s1
   | some v=>wpAny ↥25 A (letOwnedTupleGo target it v) (fun _ s2=>wpAny ↥25 A (assign target env v) (fun _ s3 =>
     wpAny ↥25 A (forIn ifs true fun c r=>if r=true then do let ok<-isTrue c env (eval c env);pure (ForInStep.yield ok) else pure (ForInStep.yield r)) (fun ok s4 =>
      if ok=true then wpAny ↥25 A (eval elt env) (fun x s5=>wpAny ↥25 A (PySem.call (.builtin "list.append") [acc,x]) (fun _ s6=>∃ m,m<n/\J m s6) (NB prog w A env R) s5) (NB prog w A env R) s4
      else ∃ m,m<n/\J m s4) (NB prog w A env R) s3) (NB prog w A env R) s2) (NB prog w A env R) s1) (NB prog w A env R) s)
  (n:Nat) (h:J n s):codeAny ↥25 A (.compLoop (.ListComp elt [⟨target,iter,ifs,0⟩] scope pos) 0 it acc env) R s:=by
 refine codeAny_loop rfl J (fun n s hJ => ?_) n h
 show wpAny _ _ ((compTurn (.ListComp elt [⟨target,iter,ifs,0⟩] scope pos) 0 it acc env).onRaise fun x=>do
  noteFrame x env
  theTreesLotGoes x) _ _ s
 refine wpAny_noted ?_
 rw [compTurn_list]
 refine wpAny_bind (wpAny_standAt (wpAny_bind (wpAny_mono (turn n s hJ) (fun r s1 h1 => ?_) fun _ _ z=>z)))
 cases r with
 | none=>exact wpAny_pure h1
 | some v =>
  refine wpAny_bind (wpAny_mono h1 (fun _ s2 h2 => ?_) fun _ _ z=>z)
  refine wpAny_bind (wpAny_mono h2 (fun _ s3 h3 => ?_) fun _ _ z=>z)
  refine wpAny_bind (wpAny_mono h3 (fun ok s4 h4 => ?_) fun _ _ z=>z)
  cases ok with
  | true =>
   rw [if_pos rfl] at h4
   simp only [if_true]
   refine wpAny_bind (wpAny_bind (wpAny_mono h4 (fun x s5 h5 => ?_) fun _ _ z=>z))
   exact wpAny_bind (wpAny_mono h5 (fun _ s6 h6=>wpAny_pure (wpAny_pure ⟨rfl,h6⟩)) fun _ _ z=>z)
  | false =>
   rw [if_neg Bool.false_ne_true] at h4
   simp only [Bool.false_eq_true,if_false]
   first
    | exact wpAny_pure ⟨rfl,h4⟩
    | exact wpAny_bind (wpAny_pure (wpAny_pure ⟨rfl,h4⟩))
def fJ (M:Model) (A:Around) (E:Value->Shared->Prop) (use:Option (Value->Sem Unit)) (Q:Value->Shared->Prop) (acc:Value) (C:Addr) (fr:Option Addr) (r:Result) (s':Shared):Prop :=
 match r,use with
 | .ok _,none=>∃ m,s'.heap.Ns C m/\∀ h',Heap.SameBut C s'.heap h'->Q acc { s' with heap:=h' }
 | .ok _,some u=>wpAny M A (u acc) (fun _ s''=>∃ m,s''.heap.Ns C m/\∀ h',Heap.SameBut C s''.heap h'->Q .none { s'' with heap:=h' }) E s'
 | .error x,_=>∃ m,s'.heap.Ns C m/\∀ h',Heap.SameBut C s'.heap h'->∀ cenv:Env,cenv.frame=fr->wpAny M A (passOn "comprehension.variables-let-go" x cenv:Sem Value) (fun _ _=>False) E { s' with heap:=h' }
theorem oO {M:Model} {A:Around} {E:Value->Shared->Prop} {s:Shared} {env:Env} {e:Expr} {scope:Scope} {pos:Pos} {newAcc first:Sem Value} {g:Comprehension} {gs:List Comprehension} {cl:List (Str×Addr)} {use:Option (Value->Sem Unit)}
  {Q:Value->Shared->Prop}
  (hcl:clausesOf e=g::gs) (hs:∀ x,foldedSetIterable g.iter env x=pure x) (hclos:closureFor scope env=pure cl)
  (hkind:scope.kind=.function) (hnames:∀ x∈scope.names,x.2=.local->scope.names.lookup x.1=some .local)
  (h:wpAny M A first (fun x s₁=>wpAny M A (pyIter x) (fun it s₂=>wpAny M A newAcc (fun acc s₃ =>
   wpAny M A (newFunctionEnv scope env.globals cl [] env.qual none .none (some env)) (fun cenv s₄=>cenv.frame=env.frame /\
    codeAny M A (.compStart e 0 it acc { cenv with scope:=relabel scope env }) (fJ M A E use Q acc cenv.locals env.frame) s₄) E s₃) E s₂) E s₁) E s) :
  wpAny M A (comprehension e scope env pos newAcc false first use) Q E s:=by
 unfold comprehension
 rw [hclos,hcl]
 refine wpAny_bind (wpAny_mono h (fun x s₁ h₁=>wpAny_bind (wpAny_standAt (wpAny_bind (wpAny_of_eq (hs x) (wpAny_bind (wpAny_holding (wpAny_mono h₁ (fun it s₂ h₂ =>
  wpAny_standIf (wpAny_bind (wpAny_mono h₂ (fun acc s₃ h₃=>wpAny_bind (wpAny_pure (wpAny_bind (wpAny_mono h₃ (fun cenv s₄ h₄ => ?_) fun _ _ h'=>h')))) fun _ _ h'=>h')))
   fun _ _ h'=>h'))))))) fun _ _ h'=>h')
 obtain ⟨hfr,h₄⟩:=h₄
 dsimp only
 have hv:∀ x∈(scope.names.filter fun x=>(x.2 == .local||x.2 == .cell)&&x.1 != (".0":Str)).reverse,x.2=.local ->
   Env.kindOf { cenv with scope:=relabel scope env } x.1=some .local:=fun x hx hl=>lookup_relabel_local (hnames x (List.mem_filter.mp (List.mem_reverse.mp hx)).1 hl)
 have hv':∀ x∈(scope.names.filter fun x=>(x.2 == .local||x.2 == .cell)&&x.1 != (".0":Str)).reverse.drop 1++(scope.names.filter fun x=>(x.2 == .local||x.2 == .cell)&&x.1 != (".0":Str)).reverse.take 1,
   x.2=.local->Env.kindOf { cenv with scope:=relabel scope env } x.1=some .local:=fun x hx hl=>by
  rcases List.mem_append.mp hx with h1 | h1
  ·exact hv x (List.mem_of_mem_drop h1) hl
  ·exact hv x (List.mem_of_mem_take h1) hl
 refine wpAny_holding (wpAny_bind (wpAny_attempt (wpAny_holding (wpAny_run (codeAny_mono h₄ fun r s' hr => ?_)))))
 cases r with
 | ok f =>
  cases use with
  | none =>
   obtain ⟨m,hn,hr⟩:=hr
   exact wpAny_bind (wpAny_holding (wpAny_comp_letGo (cenv:={ cenv with scope:=relabel scope env }) hkind _ s' m hv hn fun h' m' _ hs'=>wpAny_pure (hr h' hs')))
  | some u =>
   refine wpAny_bind (wpAny_rule (wpAny_bind (wpAny_holding (wpAny_mono hr (fun _ s'' hr' => ?_) fun _ _ h'=>h'))))
   obtain ⟨m,hn,hr'⟩:=hr'
   exact wpAny_bind (wpAny_comp_letGo (cenv:={ cenv with scope:=relabel scope env }) hkind _ s'' m hv' hn fun h' m' _ hs'=>wpAny_pure (hr' h' hs'))
 | error x =>
  have hr':∃ m,s'.heap.Ns cenv.locals m/\∀ h',Heap.SameBut cenv.locals s'.heap h'->∀ cenv':Env,cenv'.frame=env.frame->wpAny M A (passOn "comprehension.variables-let-go" x cenv':Sem Value) (fun _ _=>False) E { s' with heap:=h' }:=by cases use<;>exact hr
  obtain ⟨m,hn,hr⟩:=hr'
  exact wpAny_bind (wpAny_holding (wpAny_comp_letGo (cenv:={ cenv with scope:=relabel scope env }) hkind _ s' m hv hn fun h' m' _ hs'=>wpAny_mono (hr h' hs' _ hfr) (fun _ _ f=>f.elim) fun _ _ y=>y))
theorem Aw {st:D->R (Option D)} {l:List D} {d:D} {r1:List D} {o:Option D} (h1:runC st l=.ok r1) (h2:st d=.ok o):runC st (l++[d])=.ok (r1++o.toList):=by
 induction l generalizing r1 with
 | nil =>
  cases h1
  rw [List.nil_append]
  unfold runC
  rw [h2]
  cases o<;>rfl
 | cons x l ih =>
  rw [List.cons_append]
  unfold runC at h1 ⊢
  cases q:st x with
  | ok o' =>
   rw [q] at h1
   simp only [R.bind] at h1 ⊢
   cases q2:runC st l with
   | ok r =>
    rw [q2] at h1
    rw [ih q2]
    cases o'<;>(cases h1;rfl)
   | ex C=>rw [q2] at h1;cases h1
   | bad=>rw [q2] at h1;cases h1
  | ex C=>rw [q] at h1;cases h1
  | bad=>rw [q] at h1;cases h1
theorem mY (h:lM r=.ex C):False:=by cases r<;>cases h
theorem Bb (h:lM r=.ok a):r=.ok a:=by
 cases r with
 | ok x=>exact h
 | ex C=>cases h
 | bad=>cases h
theorem vq {st:D->R (Option D)} {d:D} {l2:List D}:∀ {l1 r1:List D},runC st l1=.ok r1->(st d=.bad->runC st (l1++d::l2)=.bad)/\∀ C,st d=.ex C->runC st (l1++d::l2)=.ex C
 | [],_,_=>⟨fun e=>by rw [List.nil_append];unfold runC;rw [e];rfl,fun C e=>by rw [List.nil_append];unfold runC;rw [e];rfl⟩
 | a::l1,r1,h=>by
  unfold runC at h
  cases q:st a with
  | ok o =>
   rw [q] at h
   simp only [R.bind] at h
   cases q2:runC st l1 with
   | ok r =>
    obtain ⟨i1,i2⟩:=vq (d:=d) (l2:=l2) q2
    refine ⟨fun e => ?_,fun C e => ?_⟩
    ·rw [List.cons_append];unfold runC;rw [q,i1 e];rfl
    ·rw [List.cons_append];unfold runC;rw [q,i2 C e];rfl
   | ex C=>rw [q2] at h;cases h
   | bad=>rw [q2] at h;cases h
  | ex C=>rw [q] at h;cases h
  | bad=>rw [q] at h;cases h
theorem qb:∀ {a:List D} {r:D},D.flats a=true->D.flat r=true->D.flats (a++[r])=true
 | [],r,_,h=>by show (D.flat r&&D.flats [])=true;rw [h];rfl
 | x::a,r,h,hr=>by
  have h':D.flat x=true/\D.flats a=true:=by simpa [D.flats] using h
  show (D.flat x&&D.flats (a++[r]))=true
  rw [h'.1,qb h'.2 hr]
  rfl
def stG (pt:D->Option (List D)) (c elt:E) (ks:List Nat) (δ:Dt) (d:D):R (Option D):=match pt d with
 | some xs=>(lM (c (xs.map some++ks.map fun k=>δ.getD k none))).bind fun b=>truth b ((elt (xs.map some++ks.map fun k=>δ.getD k none)).bind fun r=>if D.flat r=true then .ok (some r) else .bad) (.ok none)
 | none=>.bad
theorem Hl (h:EV.R.bad≠stG pt c elt ks δ d):∃ xs k,pt d=some xs/\c (xs.map some++ks.map fun k=>δ.getD k none)=.ok (.bl k) /\
  ((k=true/\stG pt c elt ks δ d=(elt (xs.map some++ks.map fun k=>δ.getD k none)).bind fun r=>if D.flat r=true then .ok (some r) else .bad)\/(k=false/\stG pt c elt ks δ d=.ok none)):=by
 unfold stG at h ⊢
 cases e:pt d with
 | none=>rw [e] at h;exact absurd rfl h
 | some xs =>
  rw [e] at h
  simp only at h ⊢
  cases q:lM (c (xs.map some++ks.map fun k=>δ.getD k none)) with
  | ok b =>
   have q':=Bb q
   rw [q] at h
   simp only [R.bind] at h ⊢
   cases b with
   | bl k =>
    refine ⟨xs,k,rfl,q',?_⟩
    cases k with
    | true=>exact .inl ⟨rfl,rfl⟩
    | false=>exact .inr ⟨rfl,rfl⟩
   | _=>exact absurd rfl h
  | ex C=>exact (mY q).elim
  | bad=>rw [q] at h;exact absurd rfl h
def Put (σ:L2.St) (vs:List V) (σ':L2.St):Prop:=σ'.length=σ.length/\(∀ (j:Nat) (v:V),vs[j]? = some v->σ'[j]? = some (some v))/\∀ j:Nat,vs.length<=j->σ'[j]? = σ[j]?
structure Tgt (X:Cx) (n:Nat) (pt:D->Option (List D)) (gT:TG):Prop where
 len:∀ d xs,pt d=some xs->xs.length=n
 put:∀ {d:D} {xs:List D} {v:V} {σ:L2.St} {H:Hp} {Q:L2.St->Hp->Prop},pt d=some xs->Rep X.K X.mg H v d->n<=σ.length->(∀ vs σ',Reps X.K X.mg H vs xs->Put σ vs σ'->Q σ' H)->gT v σ H Q
inductive Tst (X':Cx):List Expr->E->Prop
 | nil:Tst X' [] (con ↥26)
 | one {c:Expr} {g:E}:ST X' c g->Tst X' [c] g
theorem GR {X':Cx} {ifs:List Expr} {g:E} (h:Tst X' ifs g) {pins:List ↥14} {s:Shared} {σ:L2.St} {H:Hp} {δ:Dt} {k:Bool} (I:Inv X' pins σ H s) (hσ:Stt X'.K X'.mg H σ δ) (hg:g δ=.ok (.bl k)) {E:Value->Shared->Prop} (hE:∀ e s,X'.xe e s->E e s) :
  wpAny (model X'.prog X'.w) X'.A (forIn ifs true fun c r=>if r=true then do let ok<-isTrue c X'.env (eval c X'.env);pure (ForInStep.yield ok) else pure (ForInStep.yield r)) (fun ok s'=>ok=k/\∃ H',Inv X' pins σ H' s'/\aD H H') E s:=by
 cases h with
 | nil=>cases hg;exact wpAny_tests_nil ⟨rfl,H,I,aD.refl _⟩
 | one h =>
  refine wpAny_mono (wpAny_tests_one (E:=X'.xe) (thn (h pins s σ H (fun b H'=>b=k/\aD H H') I ⟨δ,hσ,?_⟩) fun b s' ⟨H',I',e,sm⟩=>⟨e,H',I',sm⟩)) (fun _ _ x=>x) hE
  rw [hg]
  exact fun H' sm=>⟨rfl,sm⟩
theorem MH {base h h':Heap}:∀ {l:List Env},h.FunFrames base l->(∀ b∈frs l,h'.get? b=h.get? b)->h'.FunFrames base l
 | [],_,_=>trivial
 | env::r,⟨hk,⟨L,o,hf,hn,ho,hd⟩,hr⟩,k=>by
  have e:frs (env::r)=L::frs r:=by unfold frs;rw [List.filterMap_cons,hf]
  rw [e] at k
  exact ⟨hk,⟨L,o,hf,hn,(k L (.head _)).trans ho,hd⟩,MH hr fun b hb=>k b (.tail _ hb)⟩
theorem EF {X:Cx} (O:Own X) {xs ksn:List Str} {sc:Scope} {fp:List Addr} {WW:Value->Shared->Prop} {pins pins':List ↥14} {σ σ6:L2.St} {H3 Hx H':Hp} {s3 sx s':Shared} {ea Ca:Addr} {use:Option (Value->Sem Unit)} {Qf:Value->Shared->Prop} {acc:Value} {cenv:Env}
  (I3:Inv X pins σ H3 s3) (f3:∀ b∈fp,zA X pins H3 b) (hcf:cenv.frame=X.env.frame) (Ix:Inv ↥19 pins' σ6 Hx sx) (FX:FlyX X.prog X.w X.stack Hx sx Ca H' ea s')
  (kx:∀ b u,H3 b=some u->∃ u',H' b=some u') (hx:∀ ea s',HeldX X pins σ Ca H' ea s'->X.xe (.ref ea) s') :
  NB X.prog X.w X.A cenv (fJ ↥8 X.A X.xe use Qf acc s3.heap.objs.size X.env.frame) (.ref ea) s':=by
 have en:noteFrame (.ref ea) cenv=noteFrame (.ref ea) X.env:=by unfold noteFrame PySem.frameOf;rw [hcf]
 unfold NB notedBy
 rw [en]
 obtain ⟨a0,B,hfl,i1,i2⟩:=FX.fly
 have Iy:Inv ↥19 pins' σ6 H' s':=BE Ix FX
 have ff:=za hfl.2.2.1
 rw [O.stk] at hfl
 refine wpAny_looks_onW (by rw [I3.ok.frames,O.stk]) O.frm hfl fun h4 held up => ?_
 have IX:Inv X pins σ Hx sx:=I3.call' (s':=sx) (ch:=fp) Ix.os Ix.base Ix.hok Ix.bare fun b hb=>⟨(f3 b hb).2.2.2.1,(f3 b hb).2.1,(f3 b hb).2.2.2.2.1,(f3 b hb).2.2.2.2.2⟩
 obtain ⟨m,⟨oC,es,ep,hoC,rC⟩,_⟩:=Ix.loc
 have hoC:sx.heap.get? s3.heap.objs.size=some oC:=hoC
 have nfr:s3.heap.objs.size∉frs X.stack:=fun z=>by
  rw [O.frs] at z
  rcases List.mem_cons.mp z with q | q
  ·exact absurd I3.lt (by rw [<- q];exact Nat.lt_irrefl _)
  ·exact I3.nofs ↥38 q
 have hBC:B.get? s3.heap.objs.size=some oC:=i1 _ _ hoC Ix.free nfr
 have h4C:h4.get? s3.heap.objs.size=some oC:=held.1 _ _ hBC
 refine ⟨m,⟨oC,es,ep,h4C,rC⟩,fun h5 sb5 cenv' hcf' => ?_⟩
 have kB:(PySem.W.hideAll B [s3.heap.objs.size]).StaysIn B:=fun b o e=>PySem.W.of_hideAll _ e
 have held':=PySem.W.heldW_base kB held
 have st4:∀ b o,(PySem.W.hideAll B [s3.heap.objs.size]).get? b=some o->b≠s3.heap.objs.size:=fun b o e z=>by
  rw [z,PySem.W.hideAll_none _ (by simp)] at e
  cases e
 obtain ⟨_,hne,hff,oe,vs,T,oT,ts,he,hcls,hd,h1,hnT,hTe,hT,hdT,h3⟩:=held
 have neC:∀ b,B.get? b=none->b≠s3.heap.objs.size:=fun b e z=>by rw [z,hBC] at e;cases e
 have he5:h5.get? ea=some oe:=(sb5.2 _ (neC _ hne)).trans he
 have hT5:h5.get? T=some oT:=(sb5.2 _ (neC _ hnT)).trans hT
 have hsz3:3<ts.size:=(Array.getElem?_eq_some_iff.mp h3).1
 unfold PySem.passOn
 refine wpAny_bind (wpAny_field he5 hd h1 ?_)
 rw [if_neg (by simp)]
 show wpAny _ _ (setFlight (.ref ea) cenv'.frame >>= _) _ _ _
 refine wpAny_bind ?_
 unfold setFlight
 refine wpAny_bind (wpAny_field he5 hd h1 ?_)
 rw [if_pos (show (Value.ref T != Value.none)=true from by simp),hcf',O.frm]
 refine wpAny_setField hT5 hdT hsz3 ?_
 refine wpAny_throw (hx ea _ ?_)
 have other:∀ b,b≠T->(h5.update T (Obj.mapFields (·.setIfInBounds 3 ((some X.env.locals).elim Value.none fun f=>rawInt f)))).get? b=h5.get? b:=fun b hb=>Heap.get?_update_other _ _ (Ne.symm hb)
 have hT6:=Heap.get?_update_self (Obj.mapFields (·.setIfInBounds 3 ((some X.env.locals).elim Value.none fun f=>rawInt f))) hT5 (Obj.isFreed_of_fields (Obj.data_mapFields hdT _))
 generalize h5.update T (Obj.mapFields (·.setIfInBounds 3 ((some X.env.locals).elim Value.none fun f=>rawInt f)))=h6 at other hT6 ⊢
 have k46:∀ b,b≠T->b≠s3.heap.objs.size->h6.get? b=h4.get? b:=fun b q1 q2=>(other b q1).trans (sb5.2 b q2)
 have st6:(PySem.W.hideAll B [s3.heap.objs.size]).StaysIn h6:=fun b o e=>by
  rw [k46 b (fun z=>by rw [z] at e;have:=kB _ _ e;rw [hnT] at this;cases this) (st4 b o e)]
  exact held'.1 b o e
 have i2':∀ b u o,H' b=some u->s'.heap.get? b=some o->(PySem.W.hideAll B [s3.heap.objs.size]).get? b=some o:=fun b u o e q=>PySem.W.hideAll_get _ (i2 b u o e q) fun z=>by
  have z':b=s3.heap.objs.size:=by simpa using z
  rw [z'] at e
  have:H' s3.heap.objs.size=none:=Iy.free
  rw [this] at e
  cases e
 have i1':∀ b o,s3.heap.get? b=some o->H3 b=none->b∉frs X.stack->b∉fp->(PySem.W.hideAll B [s3.heap.objs.size]).get? b=some o:=fun b o e n hb hp=>PySem.W.hideAll_get _ (i1 b o (Ix.base.keep b o e n hb hp) (Ix.base.free b o e n hp) hb) fun z=>by
  have z':b=s3.heap.objs.size:=by simpa using z
  exact absurd (Heap.lt_size e) (by rw [z'];exact Nat.lt_irrefl _)
 have u6:Un (frs X.stack) fp H3 H' s3.heap h6:=by
  have u:=Iy.base
  have slot:∀ b o,s3.heap.get? b=some o->H3 b=none->b∈frs X.stack->b∉fp->∃ sl,h6.get? b=some { o with slots:=sl }:=fun b o e n hb hp=>by
   obtain ⟨sl,e1⟩:=u.slot b o e n hb hp
   obtain ⟨sl2,e2⟩:=up b _ e1 (ff b hb _ e1)
   refine ⟨sl2,?_⟩
   rw [k46 b (fun z => ?_) (fun z=>nfr (z▸hb))]
   ·exact e2
   ·have:=za hff b (by rw [<- O.stk];exact hb) oT (by rw [z];exact hT) ts
    exact this hdT
  refine ⟨fun b o e n hb hp=>st6 b o (i1' b o e n hb hp),slot,u.free,fun b o e hp => ?_,u.tups,u.frzs,u.tbls⟩
  cases n:H3 b with
  | none =>
   by_cases hb:b∈frs X.stack
   ·obtain ⟨sl,e2⟩:=slot b o e n hb hp
    exact ⟨_,e2⟩
   ·exact ⟨o,st6 b o (i1' b o e n hb hp)⟩
  | some x =>
   obtain ⟨o',e1⟩:=u.there b o e hp
   obtain ⟨x',n'⟩:=kx b x n
   exact ⟨o',st6 b o' (i2' b x' o' n' e1)⟩
 refine ⟨I3.call' (s':={ s' with heap:=h6 }) (ch:=fp) Iy.os u6 (rK Iy.hok i2' st6) Iy.bare fun b hb=>⟨(f3 b hb).2.2.2.1,(f3 b hb).2.1,(f3 b hb).2.2.2.2.1,(f3 b hb).2.2.2.2.2⟩,?_,a0,PySem.W.hideAll B [s3.heap.objs.size],?_,fun b o e n hb => ?_,xw Iy.hok i2' st6⟩
 ·exact Bc IX O FX.new
 ·rw [O.stk]
  have nT:∀ b∈frs (X.env::X.outer),h6.get? b=h4.get? b:=fun b hb=>k46 b (fun z=>za hff b hb oT (by rw [z];exact hT) ts hdT) (fun z=>nfr (by rw [O.stk];exact z▸hb))
  exact ⟨st6,held'.2.1,MH held'.2.2.1 nT,oe,vs,T,_,_,(k46 ea (Ne.symm hTe) (neC _ hne)).trans he,hcls,hd,h1,PySem.W.fresh_of_stays kB hnT,hTe,hT6,Obj.data_mapFields hdT _,by simp [hsz3]⟩
 ·exact PySem.W.hideAll_get _ (kN IX O i1 b o e n hb) fun z=>by
   have z':b=s3.heap.objs.size:=by simpa using z
   exact absurd (Nat.lt_of_lt_of_le (Heap.lt_size e) I3.sz) (by rw [z'];exact Nat.lt_irrefl _)
section
variable {X:Cx}
set_option maxHeartbeats 2000000 in
theorem ug (hc:X.calm=true) {N:List Str} (S:Sc X N) {xs ksn G:List Str} {ks:List Nat} {tg elt iter:Expr} {ifs:List Expr} {pos ps:Pos} {sc:Scope} {git:IT} {gc ge:E} {pt:EV.D->Option (List EV.D)} {gT:TG} (SC:ScU xs ksn G sc)
  (hks:ks.map (fun k=>N.getD k "")=ksn) (hlt:∀ k∈ks,k<N.length) (hcell:∀ y∈ksn,X.env.scope.names.lookup y=some .cell)
  (he:SI X tg iter git) (TT:Tgt X xs.length pt gT)
  (htg:∀ C fp s H W,Sc ↥9 (xs++ksn)->(∀ y∈xs,(cxU X xs ksn sc C fp s H W).env.scope.names.lookup y=some .local)->PG ↥9 tg gT)
  (htst:∀ C fp s H W,Sc ↥9 (xs++ksn)->(∀ y∈G,Gb ↥9 y)->Tst ↥9 ifs gc)
  (helt:∀ C fp s H W,Sc ↥9 (xs++ksn)->(∀ y∈G,Gb ↥9 y)->SE ↥9 elt ge)
  (hs:∀ z,foldedSetIterable iter X.env z=pure z) {use:Option (Value->Sem Unit)} {Qf:Value->Shared->Prop}
  {pins:List ↥14} {s:Shared} {σ:L2.St} {H:Hp} {δ:Dt} (I:Inv X pins σ H s) (hσ:Stt X.K X.mg H σ δ)
  (hgit:∀ C,git δ=.ex C->∀ Ca,X.mg C=some (.ref Ca)->∀ H',aD H H'->ew X Ca σ H')
  {ds:List EV.D} (hds:git δ ≠ .bad) (hds':∀ ds',git δ=.ok ds'->ds'=ds/\ds.length<=100000/\runC (stG pt gc ge ks δ) ds ≠ .bad/\∀ rs,runC (stG pt gc ge ks δ) ds=.ok rs->EV.D.flats rs=true)
  (hex:∀ C Ca,runC (stG pt gc ge ks δ) ds=.ex C->X.mg C=some (.ref Ca)->∀ H',aD H H'->∀ ea s',HeldX X pins σ Ca H' ea s'->X.xe (.ref ea) s') (hO:(∃ C,runC (stG pt gc ge ks δ) ds=.ex C)->Own X)
  (hfin:∀ (s1:Shared) (Hc:Hp) (D C:Addr) (ys:List V) (rs:List EV.D),git δ=.ok ds->runC (stG pt gc ge ks δ) ds=.ok rs->EV.D.flats rs=true->H D=none->Hc D=some (.lst ys)->Reps X.K X.mg Hc ys rs->aD H Hc ->
   zA X pins Hc C->Inv X pins σ Hc s1->(∃ m,s1.heap.Ns C m)->(∀ h',Heap.SameBut C s1.heap h'->Inv X pins σ Hc { s1 with heap:=h' })->fJ ↥8 X.A X.xe use Qf (.ref D) C X.env.frame (.ok .next) s1) :
  wpAny ↥8 X.A (comprehension (.ListComp elt [⟨tg,iter,ifs,0⟩] sc pos) sc X.env ps (newList []) false (eval iter X.env) use) Qf X.xe s:=by
 have lenks:ksn.length=ks.length:=by rw [<- hks,List.length_map]
 have atk:∀ (j:Nat) (y:Str),ksn[j]? = some y->∃ k,ks[j]? = some k/\N[k]? = some y:=fun j y e=>by
  rw [<- hks,List.getElem?_map] at e
  cases q:ks[j]? with
  | none=>rw [q] at e;cases e
  | some k =>
   rw [q] at e
   have e':N.getD k ""=y:=Option.some.inj e
   have hk:=hlt k (List.mem_of_getElem? q)
   exact ⟨k,rfl,by rw [<- e',List.getD_eq_getElem?_getD,List.getElem?_eq_getElem hk];rfl⟩
 have frec:∀ y,(y,NameKind.free)∈sc.names->∃ c,X.env.cells.lookup y=some c:=fun y hy=>I.ok.has y (.inl (hcell y (SC.all _ hy rfl)))
 refine oO (use:=use) rfl hs (zh frec) SC.kind SC.nms ?_
 have sub:∀ y c,(CA X.env sc.names []).lookup y=some c->X.env.cells.lookup y=some c:=FP frec fun y c e=>nomatch e
 have hq:RI X σ H (git δ) (fun J H'=>aD H H'/\∃ ds,git δ=.ok ds/\Fh X J H' ds):=by
  cases r:git δ with
  | ok ds=>exact fun J H' s w=>⟨s,ds,rfl,w⟩
  | ex C=>exact hgit C r
  | bad=>exact absurd r hds
 refine thn (he pins s σ H _ I ⟨δ,hσ,hq⟩) fun v s1 h1=>thn h1 fun itv s2 h2 => ?_
 obtain ⟨it,fp,tn,J,H2,e,I2,T,st2,f2,sm2,ds',eds,wk⟩:=h2
 subst e
 obtain ⟨eq0,hz,nbad,hfl⟩:=hds' ds' eds
 rw [eq0] at eds wk
 have hσ2:Stt X.K X.mg H2 σ δ:=hσ.mono sm2
 refine wpAny_newList ?_ (Nat.zero_le _)
 have I3:Inv X pins σ (upd H2 s2.heap.objs.size (.lst [])) { s2 with heap:=s2.heap.push { cls:=.type "list",data:=.seq ([]:List Value).toArray } }:=I2.lnew (t':=s2.toks) .nil (Nat.zero_le _)
 have hnew:H2 s2.heap.objs.size=none:=I2.fresh
 have sm3:aD H2 (upd H2 s2.heap.objs.size (.lst [])):=bb hnew _
 generalize hD:s2.heap.objs.size=D at *
 generalize hH3:upd H2 D (.lst [])=H3 at *
 have hD3:H3 D=some (.lst []):=by rw [<- hH3];exact bz
 have keep3:∀ b o,s2.heap.get? b=some o->(s2.heap.push { cls:=.type "list",data:=.seq ([]:List Value).toArray }).get? b=some o:=fun b o q=>Heap.get?_push_of_some _ q
 have st3:tn 0 (s2.heap.push { cls:=.type "list",data:=.seq ([]:List Value).toArray }):=T.keep 0 _ _ st2 fun b _ o q=>keep3 b o q
 have ne3:∀ b∈fp,b≠D:=fun b hb z=>by
  obtain ⟨o,e,_⟩:=T.obj 0 _ st2 b hb
  exact absurd (Heap.lt_size e) (by rw [z,<-hD];exact Nat.lt_irrefl _)
 have f3:∀ b∈fp,zA X pins H3 b:=fun b hb=>⟨by rw [<- hH3,bN (ne3 b hb)];exact (f2 b hb).1,(f2 b hb).2⟩
 generalize hs3:({ s2 with heap:=s2.heap.push { cls:=.type "list",data:=.seq ([]:List Value).toArray } }:Shared)=s3 at *
 have st3':tn 0 s3.heap:=by rw [<- hs3];exact st3
 refine wpAny_newFunctionEnv SC.noc (fun y z=>nomatch z) (fun h4 ns4 sb4=>⟨rfl,?_⟩) SC.kind
 generalize hWW:NB X.prog X.w X.A (cxU X xs ksn sc s3.heap.objs.size fp s3 H3 (fun _ _=>False)).env (fJ ↥8 X.A X.xe use Qf (.ref D) s3.heap.objs.size X.env.frame)=WW
 have kp4:∀ b o,s3.heap.get? b=some o->h4.get? b=some o:=fun b o q=>by
  rw [sb4.2 b (Nat.ne_of_lt (Heap.lt_size q))]
  exact Heap.get?_push_of_some _ q
 have nst:∀ b∈fp,b∉frs X.stack:=fun b hb z=>by
  rcases List.mem_cons.mp (I3.stkSub b z) with q | q
  ·exact (f3 b hb).2.1 q
  ·exact (f3 b hb).2.2.1 q
 have neC:∀ b∈fp,b≠s3.heap.objs.size:=fun b hb=>by
  obtain ⟨ob,e,_⟩:=T.obj 0 _ st3' b hb
  exact Nat.ne_of_lt (Heap.lt_size e)
 have fpcl:∀ b∈fp,∀ y c,(CA X.env sc.names []).lookup y=some c->c≠b:=fun b hb y c e=>(f3 b hb).2.2.2.2.1 y c (sub y c e)
 have ok4:(cxU X xs ksn sc s3.heap.objs.size fp s3 H3 WW).Ok:=by
  have o:=I3.ok
  refine ⟨o.mod,SC.kind,o.glob,o.blt,Nat.le_refl _,fun y z c e1 e2=>o.inj y z c (sub y c e1) (sub z c e2),fun y hy => ?_,fun y c z e=>absurd z Bool.false_ne_true,o.hd,o.frames,.inl rfl,fun b hb=>⟨neC b hb,fpcl b hb⟩,I3.bs,Nat.le_trans o.bsz I3.sz,fun b ob e hb => ?_,fun b hb=>nst b hb,I3.stack,I3.stkFree⟩
  ·have hy:(relabel sc X.env).names.lookup y=some .cell\/(relabel sc X.env).names.lookup y=some .free:=hy
   have hf:sc.names.lookup y=some .free:=by
    rcases hy with hy | hy
    ·rcases pW hy with q | ⟨q,_⟩
     ·exact absurd rfl (SC.noc _ (PySem.mem_of_lookup q))
     ·exact q
    ·rcases pW hy with q | ⟨_,q⟩
     ·exact q
     ·cases q
   exact BQ (.inl (PySem.mem_of_lookup hf))
  ·rcases (f3 b hb).2.2.2.1 with q | q
   ·exact o.noex b ob e q
   ·exact absurd (Heap.lt_size (o.bs b ob e).1) (Nat.not_lt.mpr q)
 have fun4:X.env.scope.kind=.function:=I3.ok.kind
 have S4:Sc ↥19 (xs++ksn):=by
  refine ⟨rfl,SC.nd,fun y hy => ?_,SC.dbg⟩
  rcases List.mem_append.mp hy with z | z
  ·exact .inl (iP ↥1 (SC.loc y z))
  ·exact .inr (.inl (lW fun4 (hcell y z) (SC.fre y z)))
 have G4:∀ y∈G,Gb ↥19 y:=fun y hy=>⟨iP ↥1 (SC.glb y hy),(SC.dbgG y hy).1,(SC.dbgG y hy).2⟩
 have E4:=helt s3.heap.objs.size fp s3 H3 WW S4 G4
 have T4:=htst s3.heap.objs.size fp s3 H3 WW S4 G4
 have P4:=htg s3.heap.objs.size fp s3 H3 WW S4 fun y hy=>iP ↥1 (SC.loc y hy)
 have hCn:H3 s3.heap.objs.size=none:=I3.fresh
 have hσ3:Stt X.K X.mg H3 σ δ:=hσ2.mono sm3
 have lenσ3:σ.length=N.length:=by rw [I3.len,S.n]
 have I4:Inv ↥19 [] (List.replicate xs.length none++ks.map fun k=>σ.getD k none) H3 { s3 with heap:=h4,toks:=s3.toks+([]:List (Str×Value)).length }:=by
  refine ⟨ok4,rfl,I3.bare,Un.kept kp4,⟨_,ns4,fun j y v e1 e2 e3 => ?_⟩,fun y c e => ?_,hCn,fun y c e=>I3.freeC y c (sub y c e),fun p hp=>absurd (show p∈([]:List ↥14) from hp) (by simp),I3.hok.kept kp4,by show _=(xs++ksn).length;rw [List.length_append,List.length_append,List.length_replicate,List.length_map,lenks]⟩
  ·by_cases hj:j<xs.length
   ·rw [List.getElem?_append_left (by rw [List.length_replicate];exact hj),List.getElem?_replicate,if_pos hj] at e2
    cases e2
   ·have e1:(xs++ksn)[j]? = some y:=e1
    rw [List.getElem?_append_right ⋯] at e1
    rw [List.getElem?_append_right (by rw [List.length_replicate];omega),List.length_replicate] at e2
    generalize j - xs.length=j at e1 e2
    have e1':ksn[j]? = some y:=e1
    obtain ⟨k,ek,eN⟩:=atk j y e1'
    rw [List.getElem?_map,ek] at e2
    have e2':σ.getD k none=some v:=Option.some.inj e2
    have eσ:σ[k]? = some (some v):=by
     rw [List.getD_eq_getElem?_getD] at e2'
     cases q:σ[k]? with
     | none=>rw [q] at e2';cases e2'
     | some o=>rw [q] at e2';have:o=some v:=e2';rw [this]
    have hy:=List.mem_of_getElem? e1'
    have hyc:=hcell y hy
    obtain ⟨m',hn',hl'⟩:=I3.loc
    obtain ⟨u,ru,lu⟩:=hl' k y v (by rw [S.n];exact eN) eσ (.inr (.inl hyc))
    refine ⟨u,ru,?_⟩
    rcases lu with ⟨k1,_⟩ | ⟨_,c,hcc,ic⟩
    ·have:(some NameKind.local)=some .cell:=k1.symm.trans hyc
     cases this
    ·obtain ⟨c',hc'⟩:=BQ (env:=X.env) (cs:=[]) (.inl (PySem.mem_of_lookup (SC.fre y hy)))
     have:c'=c:=by have:=sub y c' hc';rw [hcc] at this;exact (Option.some.inj this).symm
     subst this
     obtain ⟨oc,hoc,hd⟩:=ic
     exact .inr ⟨.inl (lW fun4 hyc (SC.fre y hy)),c',hc',oc,kp4 _ _ hoc,hd⟩
  ·obtain ⟨v,oc,hoc,hd⟩:=I3.cell y c (sub y c e)
   exact ⟨v,oc,kp4 _ _ hoc,hd⟩
 have fpc:∀ {Hc:Hp},(∀ b∈fp,Hc b=none)->∀ b∈fp,zA ↥19 [] Hc b:=fun {Hc} hn b hb =>
  ⟨hn b hb,neC b hb,nst b hb,.inl hb,fpcl b hb,fun p hp=>absurd (show p∈([]:List ↥14) from hp) (by simp)⟩
 have st4:tn 0 h4:=T.keep 0 _ _ st3' fun b _ o q=>kp4 b o q
 have kc2:∀ {Hc:Hp},(∀ b o,b≠D->H3 b=some o->Hc b=some o)->aD H2 Hc:=fun {Hc} kc b o e=>kc b o (fun z=>by rw [z,hnew] at e;cases e) (sm3 b o e)
 have R4:codeAny ↥8 X.A (.compLoop (.ListComp elt [⟨tg,iter,ifs,0⟩] sc pos) 0 (.ref it) (.ref D) (cxU X xs ksn sc s3.heap.objs.size fp s3 H3 WW).env)
   (fJ ↥8 X.A X.xe use Qf (.ref D) s3.heap.objs.size X.env.frame)
   { s3 with heap:=h4,toks:=s3.toks+([]:List (Str×Value)).length }:=by
  refine Bm (fun n s'=>∃ i σc Hc ys rsi,Inv ↥19 [] σc Hc s'/\tn i s'.heap/\(∀ b∈fp,Hc b=none)/\n=ds.length - i/\i<=ds.length/\Hc D=some (.lst ys)/\runC (stG pt gc ge ks δ) (ds.take i)=.ok rsi/\ys.length<=i/\Reps X.K X.mg Hc ys rsi/\(∀ b o,b≠D->H3 b=some o->Hc b=some o)/\σc.drop xs.length=(ks.map fun k=>σ.getD k none)/\EV.D.flats rsi=true) ?_ ds.length
   ⟨0,_,H3,[],[],I4,st4,fun b hb=>(f3 b hb).1,rfl,Nat.zero_le _,hD3,by rw [List.take_zero];rfl,Nat.zero_le _,.nil,fun _ _ _ q=>q,by rw [List.drop_append_of_le_length (by rw [List.length_replicate];exact Nat.le_refl _)];simp,rfl⟩
  have hW':NB X.prog X.w X.A (cxU X xs ksn sc s3.heap.objs.size fp s3 H3 WW).env (fJ ↥8 X.A X.xe use Qf (.ref D) s3.heap.objs.size X.env.frame)=WW:=hWW
  rw [hW']
  rintro n s' ⟨i,σc,Hc,ys,rsi,Ic,st,fr,rfl,hi,hDc,ersi,hyl,hys,kc,tlσ,fl1⟩
  have smc:=kc2 kc
  have wkc:=wk Hc smc
  by_cases hlt':i<ds.length
  ·have hd:ds[i]? = some ds[i]:=List.getElem?_eq_getElem hlt'
   generalize ds[i]=d at hd
   have etk:ds=ds.take i++(d::ds.drop (i+1)):=by
    have:=List.take_append_drop i ds
    rw [lY hd] at this
    exact this.symm
   have nst':EV.R.bad≠stG pt gc ge ks δ d:=fun z=>nbad (by rw [etk];exact (vq ersi).1 z.symm)
   obtain ⟨xd,k,ept,ek,kcase⟩:=Hl nst'
   have ertk:∀ o,stG pt gc ge ks δ d=.ok o->runC (stG pt gc ge ks δ) (ds.take (i+1))=.ok (rsi++o.toList):=fun o eo=>by
    rw [List.take_add_one,hd]
    exact Aw ersi eo
   have lxd:=TT.len d xd ept
   refine thn (T.item ↥19 rfl rfl rfl hc i [] s' σc Hc WW Ic (fpc fr) st (wkc.1 i d hd).1) fun r s1 ⟨u,hr,h4'⟩ => ?_
   subst hr
   refine thn h4' fun _ s5 ⟨v,H5,I5,r5,yl,st5,fr5⟩ => ?_
   obtain ⟨sm5,rd⟩:=(wkc.1 i d hd).2 v H5 yl
   have smc5:=smc.trans sm5
   have rd5:=rd H5 smc5 fun b o z _=>z
   have I5':=I5.pinned (fpc fr5) (T.obj _ _ st5)
   have pinf:∀ {σ7:L2.St} {H7:Hp} {s7:Shared},Inv ↥19 ([]++pX fp s5.heap) σ7 H7 s7->∀ b∈fp,∀ o,s5.heap.get? b=some o->s7.heap.get? b=some o/\H7 b=none:=fun {σ7 H7 s7} I7 b hb o q =>
    have z:=I7.pin (b,o) (List.mem_append_right _ (List.mem_append_right _ (fA hb q)))
    ⟨z.1,z.2.1⟩
   have lenσ:σc.length=xs.length+ks.length:=by
    have:=Ic.len
    rw [this]
    show (xs++ksn).length=_
    rw [List.length_append,lenks]
   refine thn (P4 _ s5 σc H5 v u (fun σ6 H6=>∃ vs,Reps X.K X.mg H5 vs xd/\Put σc vs σ6/\H6=H5) I5' r5 (TT.put ept rd5 ⋯ fun vs σ' rv pu=>⟨vs,rv,pu,rfl⟩)) fun _ s6 ⟨σ6,H6,I6,vs,rv,pu,e6'⟩ => ?_
   subst e6'
   have lvs:vs.length=xs.length:=by rw [rv.length,lxd]
   have hσ6:Stt X.K X.mg H6 σ6 (xd.map some++ks.map fun k=>δ.getD k none):=by
    refine ⟨by rw [pu.1,lenσ,List.length_append,List.length_map,List.length_map,lxd],fun j d' e nown => ?_⟩
    by_cases hj:j<xd.length
    ·rw [List.getElem?_append_left (by rw [List.length_map];exact hj),List.getElem?_map] at e
     cases q:xd[j]? with
     | none=>rw [q] at e;cases e
     | some d'' =>
      rw [q] at e
      cases e
      obtain ⟨v',e1,e2⟩:=rv.get q
      exact ⟨v',pu.2.1 j v' e1,e2⟩
    ·rw [List.getElem?_append_right (by rw [List.length_map];omega),List.length_map,List.getElem?_map] at e
     cases ek':ks[j - xd.length]? with
     | none=>rw [ek'] at e;cases e
     | some k =>
      rw [ek'] at e
      have e':δ.getD k none=some d':=Option.some.inj e
      have eδ:δ[k]? = some (some d'):=by
       rw [List.getD_eq_getElem?_getD] at e'
       cases q:δ[k]? with
       | none=>rw [q] at e';cases e'
       | some o=>rw [q] at e';have:o=some d':=e';rw [this]
      obtain ⟨w,ew',rw'⟩:=hσ2.2 k d' eδ nown
      refine ⟨w,?_,rw'.mono smc5⟩
      rw [pu.2.2 j ⋯]
      have ht:(σc.drop xs.length)[j - xd.length]? = some (some w):=by
       rw [tlσ,List.getElem?_map,ek']
       show some (σ.getD k none)=_
       rw [List.getD_eq_getElem?_getD,ew']
       rfl
      rw [List.getElem?_drop,show xs.length+(j - xd.length)=j by omega] at ht
      exact ht
   have tl6:σ6.drop xs.length=(ks.map fun k=>σ.getD k none):=by
    rw [<- tlσ]
    refine List.ext_getElem? fun j => ?_
    rw [List.getElem?_drop,List.getElem?_drop]
    exact pu.2.2 _ ⋯
   have hD5:H6 D=some (.lst ys):=sm5 _ _ hDc
   have kc5:∀ b o,b≠D->H3 b=some o->H6 b=some o:=fun b o hb q=>sm5 _ _ (kc b o hb q)
   have hys5:=hys.mono sm5
   refine thn (GR T4 I6 hσ6 ek (E:=WW) fun _ _ z=>z) fun ok s7 ⟨eok,H7,I7,sm7⟩ => ?_
   subst eok
   rcases kcase with ⟨rfl,eg⟩ | ⟨rfl,eo⟩
   ·rw [if_pos rfl]
    cases eg':ge (xd.map some++ks.map fun k=>δ.getD k none) with
    | bad=>rw [eg'] at eg;exact absurd eg.symm nst'
    | ex C =>
     rw [eg'] at eg
     have ext:runC (stG pt gc ge ks δ) ds=.ex C:=by rw [etk];exact (vq ersi).2 C eg
     refine thn (E4 _ s7 σ6 H7 (fun _ _=>False) I7 ⟨_,hσ6.mono sm7,?_⟩) fun _ _ ⟨_,_,_,_,z⟩=>z.elim
     rw [eg']
     intro Ca hCa H' sm8 pins' Hx sx ea s8 Ix FX
     show WW (.ref ea) s8
     rw [<- hWW]
     exact EF (hO ⟨C,ext⟩) I3 f3 rfl Ix FX (fun b u e=>by
      by_cases hb:b=D
      ·rw [hb];exact ⟨_,sm8 _ _ (sm7 _ _ hD5)⟩
      ·exact ⟨_,sm8 _ _ (sm7 _ _ (kc5 b u hb e))⟩) (hex C Ca ext hCa H' (((sm2.trans smc5).trans sm7).trans sm8))
    | ok r =>
     rw [eg'] at eg
     simp only [R.bind] at eg
     have flo:EV.D.flat r=true:=by
      refine Classical.byContradiction fun z => ?_
      rw [if_neg z] at eg
      exact nst' eg.symm
     rw [if_pos flo] at eg
     refine thn (E4 _ s7 σ6 H7 (fun v8 H8=>aD H7 H8/\Rep X.K X.mg H8 v8 r) I7 ⟨_,hσ6.mono sm7,by rw [eg'];exact fun v8 H8 sm rp=>⟨sm,rp⟩⟩) fun u8 s8 ⟨v8,H8,I8,r8,sm8,rp8⟩ => ?_
     have sm78:=sm7.trans sm8
     have hD8:H8 D=some (.lst ys):=sm78 _ _ hD5
     refine thn (t4 (X:=↥19) _ s8 _ H8 (.ref D) [v8] (.ref D) [u8] (fun _ H9=>H9=upd H8 D (.lst (ys++[v8]))) I8 rfl (.cons r8 .nil) ⟨D,ys,v8,rfl,rfl,hD8,by rw [sizeLine_eq];omega,rfl⟩) fun _ s9 ⟨_,H9,I9,_,e9⟩ => ?_
     subst e9
     have k9:NoL H8 (upd H8 D (.lst (ys++[v8]))):=fun b ob e n _=>by
      rw [bN fun z => ?_];exact e
      rw [z,hD8] at e
      exact n ys (Option.some.inj e).symm
     have k9':∀ b ob,b≠D->H8 b=some ob->upd H8 D (.lst (ys++[v8])) b=some ob:=fun b ob hb q=>by rw [bN hb];exact q
     refine ⟨ds.length - (i+1),⋯,i+1,_,_,ys++[v8],rsi++[r],I9.unpinned,T.keep _ _ _ st5 (fun b hb o q=>(pinf I9 b hb o q).1),fun b hb => ?_,rfl,⋯,bz,ertk _ eg,by rw [List.length_append];simp;omega,?_,fun b ob hb q=>k9' b ob hb (sm78 _ _ (kc5 b ob hb q)),tl6,qb fl1 flo⟩
     ·obtain ⟨ob,e,_⟩:=T.obj _ _ st5 b hb
      exact (pinf I9 b hb ob e).2
     ·exact (mX k9 fl1 (hys5.mono sm78)).append (.cons (rg k9 flo rp8) .nil)
   ·rw [if_neg Bool.false_ne_true]
    refine ⟨ds.length - (i+1),⋯,i+1,_,_,ys,rsi,I7.unpinned,T.keep _ _ _ st5 (fun b hb o q=>(pinf I7 b hb o q).1),fun b hb => ?_,rfl,⋯,sm7 _ _ hD5,by rw [ertk _ eo];simp,⋯,hys5.mono sm7,fun b ob hb q=>sm7 _ _ (kc5 b ob hb q),tl6,fl1⟩
    obtain ⟨ob,e,_⟩:=T.obj _ _ st5 b hb
    exact (pinf I7 b hb ob e).2
  ·have ei:i=ds.length:=⋯
   subst ei
   refine thn (T.done ↥19 rfl rfl rfl hc ds.length [] s' σc Hc WW Ic (fpc fr) st (wkc.2 _ ↥38)) fun r s1 ⟨hr,I9⟩ => ?_
   subst hr
   obtain ⟨m,hns,_⟩:=id I9.loc
   have I10:∀ h',Heap.SameBut s3.heap.objs.size s1.heap h'->Inv X pins σ Hc { s1 with heap:=h' }:=fun h' sb=>I3.call' (s':={ s1 with heap:=h' }) (ch:=fp) I9.os (Ko I9.base ↥38 sb) (IZ I9.hok I9.free sb) I9.bare fun b hb =>
    ⟨(f3 b hb).2.2.2.1,(f3 b hb).2.1,(f3 b hb).2.2.2.2.1,(f3 b hb).2.2.2.2.2⟩
   rw [List.take_of_length_le ↥38] at ersi
   have hHD:H D=none:=by
    cases q:H D with
    | none=>rfl
    | some o=>have:=sm2 D o q;rw [hnew] at this;cases this
   exact hfin s1 Hc D s3.heap.objs.size ys rsi eds ersi fl1 hHD hDc hys (sm2.trans smc) (I3.fpOk ↥38 I9.free)
    (I10 s1.heap (Heap.SameBut.refl _ _)) ⟨m,hns⟩ I10
 exact codeAny_compStart_list R4 (T.self _ 0 _ _ _ st4 R4)
def pt1 (d:D):Option (List D):=some [d]
theorem O5:Tgt X 1 pt1 (yZ 0):=⟨fun d xs e=>by cases e;rfl,fun {d xs v σ H Q} e r hl q=>by
 cases e
 refine q [v] _ (.cons r .nil) ⟨List.length_set ..,fun j w hj => ?_,fun j hj => ?_⟩
 ·cases j with
  | zero=>cases hj;exact List.getElem?_set_self ⋯
  | succ j=>simp at hj
 ·exact List.getElem?_set_ne (by have:1<=j:=hj;omega)⟩
theorem tg1:∀ C fp s H W,Sc ↥21 ([x]++ksn)->(∀ y∈[x],(cxU X [x] ksn sc C fp s H W).env.scope.names.lookup y=some .local)->PG ↥21 (.Name x px) (yZ 0) :=
 fun C fp s H W S4 hl=>oh (i:=0) (by rw [S4.n];exact S4.nd) rfl (.inl (hl x (by simp))) (.inr (hl x (by simp)))
theorem K2:∀ {ds rs:List EV.D},runC (EV.stC gc ge ks δ) ds=.ok rs->EV.D.flats rs=true->runC (stG pt1 gc ge ks δ) ds=.ok rs
 | [],rs,h,_=>h
 | d::ds,rs,h,hf=>by
  unfold runC at h ⊢
  cases q:EV.stC gc ge ks δ d with
  | ok o =>
   rw [q] at h
   simp only [R.bind] at h
   cases q2:runC (EV.stC gc ge ks δ) ds with
   | ok r =>
    rw [q2] at h
    have e:o.toList++r=rs:=by cases o<;>simpa using h
    have key:stG pt1 gc ge ks δ d=.ok o/\EV.D.flats r=true:=by
     unfold EV.stC at q
     unfold stG pt1
     simp only
     have ei:inC ks δ d=[d].map some++ks.map fun k=>δ.getD k none:=rfl
     rw [ei] at q
     cases q3:lM (gc ([d].map some++ks.map fun k=>δ.getD k none)) with
     | ok b =>
      rw [q3] at q
      cases b with
      | bl k =>
       cases k with
       | true =>
        simp only [R.bind,truth] at q ⊢
        cases q4:lM (ge ([d].map some++ks.map fun k=>δ.getD k none)) with
        | ok r' =>
         rw [q4] at q
         cases q
         rw [Bb q4]
         rw [<- e] at hf
         have hf':EV.D.flat r'=true/\EV.D.flats r=true:=by simpa [EV.D.flats] using hf
         simp only
         rw [if_pos hf'.1]
         exact ⟨rfl,hf'.2⟩
        | ex C=>rw [q4] at q;cases q
        | bad=>rw [q4] at q;cases q
       | false =>
        simp only [R.bind,truth] at q ⊢
        cases q
        exact ⟨rfl,by rw [show r=rs from e];exact hf⟩
      | _=>cases q
     | ex C=>exact (mY q3).elim
     | bad=>rw [q3] at q;cases q
    rw [key.1]
    simp only [R.bind]
    rw [K2 q2 key.2]
    simp only
    rw [<- e]
    cases o<;>rfl
   | ex C=>rw [q2] at h;cases h
   | bad=>rw [q2] at h;cases h
  | ex C=>rw [q] at h;cases h
  | bad=>rw [q] at h;cases h
structure CompOf (ce:E) (git:IT) (pt:EV.D->Option (List EV.D)) (gc ge:E) (ks:List Nat):Prop where
 ex:∀ δ C,git δ=.ex C->ce δ=.ex C
 bad:∀ δ,git δ=.bad->ce δ=.bad
 ok:∀ δ ds,git δ=.ok ds->ce δ=.bad\/(ds.length<=100000/\∃ rs,runC (stG pt gc ge ks δ) ds=.ok rs/\EV.D.flats rs=true/\ce δ=.ok (.lst rs))
theorem qf (hc:X.calm=true) {N:List Str} (S:Sc X N) {xs ksn G:List Str} {ks:List Nat} {tg elt iter:Expr} {ifs:List Expr} {pos ps:Pos} {sc:Scope} {git:IT} {gc ge ce:E} {pt:EV.D->Option (List EV.D)} {gT:TG} (CE:CompOf ce git pt gc ge ks) (SC:ScU xs ksn G sc)
  (hks:ks.map (fun k=>N.getD k "")=ksn) (hlt:∀ k∈ks,k<N.length) (hcell:∀ y∈ksn,X.env.scope.names.lookup y=some .cell)
  (he:SI X tg iter git) (TT:Tgt X xs.length pt gT)
  (htg:∀ C fp s H W,Sc ↥9 (xs++ksn)->(∀ y∈xs,(cxU X xs ksn sc C fp s H W).env.scope.names.lookup y=some .local)->PG ↥9 tg gT)
  (htst:∀ C fp s H W,Sc ↥9 (xs++ksn)->(∀ y∈G,Gb ↥9 y)->Tst ↥9 ifs gc)
  (helt:∀ C fp s H W,Sc ↥9 (xs++ksn)->(∀ y∈G,Gb ↥9 y)->SE ↥9 elt ge)
  (hs:∀ z,foldedSetIterable iter X.env z=pure z) {use:Option (Value->Sem Unit)} {Qf:Value->Shared->Prop} {Q:VK}
  {pins:List ↥14} {s:Shared} {σ:L2.St} {H:Hp} {δ:Dt} (I:Inv X pins σ H s) (hσ:Stt X.K X.mg H σ δ) (h:RQ X σ H (ce δ) Q)
  (hfin:∀ (s1:Shared) (Hc:Hp) (D C:Addr) (ys:List V) (rs:List EV.D),ce δ=.ok (.lst rs)->EV.D.flats rs=true->H D=none->Hc D=some (.lst ys)->Reps X.K X.mg Hc ys rs->aD H Hc->Q (.ref D) Hc ->
   zA X pins Hc C->Inv X pins σ Hc s1->(∃ m,s1.heap.Ns C m)->(∀ h',Heap.SameBut C s1.heap h'->Inv X pins σ Hc { s1 with heap:=h' })->fJ ↥8 X.A X.xe use Qf (.ref D) C X.env.frame (.ok .next) s1) :
  wpAny ↥8 X.A (comprehension (.ListComp elt [⟨tg,iter,ifs,0⟩] sc pos) sc X.env ps (newList []) false (eval iter X.env) use) Qf X.xe s:=by
 have key:git δ ≠ .bad/\(∀ C,git δ=.ex C->∀ Ca,X.mg C=some (.ref Ca)->∀ H',aD H H'->ew X Ca σ H')/\∃ ds,(∀ ds',git δ=.ok ds'->ds'=ds)/\∀ ds',git δ=.ok ds'->ds.length<=100000/\∃ rs,runC (stG pt gc ge ks δ) ds=.ok rs/\EV.D.flats rs=true/\ce δ=.ok (.lst rs):=by
  cases r:git δ with
  | bad=>rw [CE.bad δ r] at h;exact False.elim h
  | ex C=>rw [CE.ex δ C r] at h;exact ⟨(fun z=>nomatch z),(fun C' e=>by cases e;exact h),[],(fun _ e=>nomatch e),(fun _ e=>nomatch e)⟩
  | ok ds =>
   refine ⟨fun z=>(nomatch z),fun C' e=>(nomatch e),ds,fun _ e=>by cases e;rfl,fun _ e => ?_⟩
   rcases CE.ok δ ds r with z | z
   ·rw [z] at h;exact False.elim h
   ·exact z
 obtain ⟨k1,k2,ds,k3,k4⟩:=key
 by_cases g:∃ ds',git δ=.ok ds'
 ·obtain ⟨ds',eds⟩:=g
  obtain ⟨hz,rs,er,fl,ec⟩:=k4 ds' eds
  refine ug hc S SC hks hlt hcell he TT htg htst helt hs (use:=use) I hσ k2 (ds:=ds) k1 (fun d e=>⟨k3 d e,hz,(fun z=>by rw [er] at z;cases z),(fun rs' e'=>by rw [er] at e';cases e';exact fl)⟩) (fun C Ca e=>by rw [er] at e;cases e) (fun ⟨C,e⟩=>by rw [er] at e;cases e) fun s1 Hc D C ys rs' e1 e2 e3 e4 e5 e6 e7 e8 e9 e10 e11 => ?_
  rw [er] at e2
  cases e2
  rw [ec] at h
  exact hfin s1 Hc D C ys rs ec fl e4 e5 e6 e7 (h _ _ e7 (.lst (SqL.of e5) e6)) e8 e9 e10 e11
 ·have no:∀ d,git δ ≠ .ok d:=fun d e=>g ⟨d,e⟩
  exact ug hc S SC hks hlt hcell he TT htg htst helt hs (use:=use) I hσ k2 (ds:=[]) k1 (fun d e=>absurd e (no d)) (fun C Ca e=>nomatch e) (fun ⟨C,e⟩=>nomatch e) fun s1 Hc D C ys rs' e1=>absurd e1 (no _)
theorem uh:CompOf (gw git ks gc ge) git pt1 gc ge ks where
 ex:=fun δ C e=>by unfold gw;rw [e];rfl
 bad:=fun δ e=>by unfold gw;rw [e];rfl
 ok:=fun δ ds e=>by
  unfold gw
  rw [e]
  simp only [R.bind]
  by_cases hz:ds.length<=100000
  ·rw [if_pos hz]
   cases r:runC (EV.stC gc ge ks δ) ds with
   | bad=>exact .inl rfl
   | ex C =>
    exfalso
    have:∀ l C,runC (EV.stC gc ge ks δ) l ≠ .ex C:=fun l C=>by
     induction l with
     | nil=>exact fun z=>nomatch z
     | cons a l ih =>
      intro z
      unfold runC at z
      cases q:EV.stC gc ge ks δ a with
      | ok o =>
       rw [q] at z
       simp only [R.bind] at z
       cases q2:runC (EV.stC gc ge ks δ) l with
       | ok r=>rw [q2] at z;cases z
       | ex C'=>exact ih.elim (by rw [q2] at z;cases z;exact q2)
       | bad=>rw [q2] at z;cases z
      | ex C' =>
       unfold EV.stC at q
       cases q3:lM (gc (inC ks δ a)) with
       | ok d =>
        rw [q3] at q
        cases d with
        | bl b =>
         cases b with
         | true =>
          simp only [R.bind,truth] at q
          cases q4:lM (ge (inC ks δ a)) with
          | ok r=>rw [q4] at q;cases q
          | ex C''=>exact mY q4
          | bad=>rw [q4] at q;cases q
         | false=>cases q
        | _=>cases q
       | ex C''=>exact mY q3
       | bad=>rw [q3] at q;cases q
      | bad=>rw [q] at z;cases z
    exact this _ _ r
   | ok rs =>
    simp only [dC]
    by_cases hf:EV.D.flats rs=true
    ·rw [if_pos hf]
     exact .inr ⟨hz,rs,K2 r hf,hf,rfl⟩
    ·rw [if_neg hf]
     exact .inl rfl
  ·rw [if_neg hz]
   exact .inl rfl
theorem Ju (hc:X.calm=true) {N:List Str} (S:Sc X N) {xs ksn G:List Str} {ks:List Nat} {tg elt iter:Expr} {ifs:List Expr} {pos:Pos} {sc:Scope} {git:IT} {gc ge ce:E} {pt:EV.D->Option (List EV.D)} {gT:TG} (CE:CompOf ce git pt gc ge ks) (SC:ScU xs ksn G sc)
  (hks:ks.map (fun k=>N.getD k "")=ksn) (hlt:∀ k∈ks,k<N.length) (hcell:∀ y∈ksn,X.env.scope.names.lookup y=some .cell)
  (he:SI X tg iter git) (TT:Tgt X xs.length pt gT)
  (htg:∀ C fp s H W,Sc ↥9 (xs++ksn)->(∀ y∈xs,(cxU X xs ksn sc C fp s H W).env.scope.names.lookup y=some .local)->PG ↥9 tg gT)
  (htst:∀ C fp s H W,Sc ↥9 (xs++ksn)->(∀ y∈G,Gb ↥9 y)->Tst ↥9 ifs gc)
  (helt:∀ C fp s H W,Sc ↥9 (xs++ksn)->(∀ y∈G,Gb ↥9 y)->SE ↥9 elt ge)
  (hs:∀ z,foldedSetIterable iter X.env z=pure z):SE X (.ListComp elt [⟨tg,iter,ifs,0⟩] sc pos) ce:=by
 intro pins s σ H Q I ⟨δ,hσ,h⟩
 rw [eval_ListComp]
 exact qf hc S CE SC hks hlt hcell he TT htg htst helt hs (use:=none) I hσ h fun s1 Hc D C ys rs e1 e2 e3 e4 e5 e6 q fC I1 ⟨m,ns⟩ turn=>⟨m,ns,fun h' sb=>⟨.ref D,Hc,turn h' sb,rfl,q⟩⟩
theorem ED (hc:X.calm=true) {N:List Str} (S:Sc X N) {x:Str} {ksn G:List Str} {ks:List Nat} {elt iter:Expr} {ifs:List Expr} {px pos:Pos} {sc:Scope} {git:IT} {gc ge:E} (SC:ScU [x] ksn G sc)
  (hks:ks.map (fun k=>N.getD k "")=ksn) (hlt:∀ k∈ks,k<N.length) (hcell:∀ y∈ksn,X.env.scope.names.lookup y=some .cell)
  (he:SI X (.Name x px) iter git)
  (htst:∀ C fp s H W,Sc ↥21 ([x]++ksn)->(∀ y∈G,Gb ↥21 y)->Tst ↥21 ifs gc)
  (helt:∀ C fp s H W,Sc ↥21 ([x]++ksn)->(∀ y∈G,Gb ↥21 y)->SE ↥21 elt ge)
  (hs:∀ z,foldedSetIterable iter X.env z=pure z:=by intro _;rfl):SE X (.ListComp elt [⟨.Name x px,iter,ifs,0⟩] sc pos) (gw git ks gc ge) :=
 Ju hc S uh SC hks hlt hcell he O5 tg1 htst helt hs
theorem ue (hc:X.calm=true) {N:List Str} (S:Sc X N) {x:Str} {ksn G:List Str} {ks:List Nat} {elt iter:Expr} {px pos:Pos} {sc:Scope} {git:IT} {ge:E} (SC:ScU [x] ksn G sc)
  (hks:ks.map (fun k=>N.getD k "")=ksn) (hlt:∀ k∈ks,k<N.length) (hcell:∀ y∈ksn,X.env.scope.names.lookup y=some .cell)
  (he:SI X (.Name x px) iter git)
  (helt:∀ C fp s H W,Sc ↥21 ([x]++ksn)->(∀ y∈G,Gb ↥21 y)->SE ↥21 elt ge)
  (hs:∀ z,foldedSetIterable iter X.env z=pure z:=by intro _;rfl):SE X (.ListComp elt [⟨.Name x px,iter,[],0⟩] sc pos) (comp git ks ge) :=
 ED hc S SC hks hlt hcell he (fun _ _ _ _ _ _ _=>.nil) helt hs
end
end ES
namespace ES
open PySem PySem.Spec PyProof.Rows L2 EV
unseal SE ST SW SA SS SSs SI
structure GC (X:Cx) (x:String) (d:D):Prop where
 ex:∃ v u,X.mg x=some u/\RelV v u/\∀ H,Rep X.K X.mg H v d
section
variable {X:Cx} {pos p:Pos} {x:String} {d:D} {e e2:Expr} {g:E}
theorem V2 (G:Gb X x) (h:GC X x d):SE X (.Name x pos) (con d):=by
 obtain ⟨v,u,hm,r,hr⟩:=h.ex
 exact wa (AJ (v:=v) G.g hm r G.d) hr
theorem Je {a:Addr} {dd:Option Addr} {ss:List String} {its:Array Value} {n:Nat} {sl:Array (Option Value)} (hm:X.mg x=some (.ref a)) (hk:X.K.lookup a=some ⟨.type "tuple",dd,.seq its n,sl⟩) (hi:Vals (ss.map fun s=>V.str (Str.ofString s)) its.toList) (hz:its.size<=1000):GC X x (.tup (ss.map fun s=>D.str (Str.ofString s))):=by
 refine ⟨.ref a,.ref a,hm,rfl,fun H=>.tup (.inr ⟨_,its,n,hk,rfl,rfl,Nat.le_of_lt (j3 hz),hi⟩) ?_⟩
 clear hi
 induction ss with
 | nil=>exact .nil
 | cons s r ih=>exact .cons (.str _) ih
theorem sN:∀ {ss:List String} {ts:List Tok} {its:List Value},its=(ss.zip ts).map (fun p=>Value.str (Str.ofString p.1) p.2)->ts.length=ss.length->Vals (ss.map fun s=>V.str (Str.ofString s)) its
 | [],_,_,e,_=>by subst e;exact .nil
 | s::r,[],_,_,h=>by simp at h
 | s::r,t::ts,_,e,h=>by
  subst e
  exact .cons ⟨t,rfl⟩ (sN (ts:=ts) rfl (by simpa using h))
end
section
variable {X:Cx} {x y:Str} {ksn:List Str} {sc:Scope} {C:Addr} {fp:List Addr} {s:Shared} {H:Hp} {f:List D->R D} {cn m:String} {F:List D->R D}
end
def eA:Stmt->List Stmt
 | .ClassDef _ _ _ b _ _ _ _ _ _ _=>b
 | _=>[]
end ES
namespace ES
open EV
end ES
namespace ES
open PySem PySem.Spec PyProof.Rows L2 EV
unseal SE ST SW SA SS SSs SI
def ROp (X:Cx) (σ:L2.St) (H:Hp) (r:R (Option Int)) (Q:Option Int->Hp->Prop):Prop:=match r with
 | .ok o=>∀ H',aD H H'->Q o H'
 | .ex C=>∀ Ca,X.mg C=some (.ref Ca)->∀ H',aD H H'->ew X Ca σ H'
 | .bad=>False
def tPo (X:Cx) (g:Option E):TO:=fun σ H Q=>∃ δ,Stt X.K X.mg H σ δ/\ROp X σ H (part g δ) Q
@[irreducible] def SO (X:Cx) (e:Option Expr) (g:Option E):Prop:=PO X e (tPo X g)
unseal SO
section
variable {X:Cx} {tg e a:Expr} {lo hi:Option Expr} {g:E} {gl gu:Option E} {σ:L2.St} {H H1:Hp} {pos p2:Pos}
theorem PO.weak (h:PO X o t) (w:∀ σ H Q,t' σ H Q->t σ H Q):PO X o t':=fun pins s σ H Q I q=>h pins s σ H Q I (w σ H Q q)
theorem Dz:SO X none none:=PO.weak HJ fun σ H Q ⟨δ,hσ,q⟩=>q H ↥30
theorem Dy (h:SE X e g):SO X (some e) (some g):=PO.weak (HI h) fun σ H Q ⟨δ,hσ,q⟩=>⟨δ,hσ,by
 simp only [EV.part] at q
 cases r:g δ with
 | ok d =>
  rw [r] at q
  cases d with
  | int i=>exact fun v H' s r=>by cases r;exact ⟨i,rfl,q H' s⟩
  | _=>exact False.elim q
 | ex C=>rw [r] at q;exact q
 | bad=>rw [r] at q;exact q⟩
theorem ROp.bind (h:RQ X σ H (r.bind f) Q):ROp X σ H r (fun o H'=>aD H H'/\RQ X σ H' (f o) Q):=by
 cases r with
 | ok d=>exact fun H' s=>⟨s,h.mono s⟩
 | ex C=>exact h
 | bad=>exact h
theorem ROp.to (h:ROp X σ H r Q) (g:∀ o H',aD H H'->Q o H'->Q' o H'):ROp X σ H r Q':=by
 cases r with
 | ok d=>exact fun H' s=>g d H' s (h H' s)
 | ex C=>exact h
 | bad=>exact h
theorem xa (rs:Reps X.K X.mg H xs ds) (l u:Option Int):Reps X.K X.mg H (FN xs l u) (EV.cut ds l u):=by
 unfold FN EV.cut
 rw [rs.length]
 exact (rs.drop _).take _
def rS (X:Cx):V->Option Int->Option Int->Hp->VK->Prop:=fun x l u H Q=>∃ dx d,Rep X.K X.mg H x dx/\oSl dx l u=.ok d/\∀ v H',aD H H'->Rep X.K X.mg H' v d->Q v H'
theorem TY:SlR X (rS X):=by
 intro pins s σ H x v vl vu l u sl Q I rx hs pl pu ⟨dx,d,r,e,q⟩
 unfold oSl at e
 split at e
 ·split at e
  ·cases e
  ·rename_i hn
   cases e;cases r
   rename_i p xs hq rs
   refine K4 pins s σ H _ v vl vu l u sl Q I rx hs pl pu ⟨p,xs,rfl,hq,?_,fun p hp=>q _ _ (bb hp _) (.tup (SqT.of bz) ((xa rs l u).mono (bb hp _)))⟩
   rw [rs.length]
   exact hn
 ·cases e;cases r
  rename_i p xs hq rs
  exact Hm pins s σ H _ v vl vu l u sl Q I rx hs pl pu ⟨p,xs,rfl,hq,fun p hp=>q _ _ (bb hp _) (.lst (SqL.of bz) ((xa rs l u).mono (bb hp _)))⟩
 ·cases e
theorem OR (ha:SE X a g) (hl:SO X lo gl) (hu:SO X hi gu):SE X (.Subscript a (.Slice lo hi none p2) pos) (slc g gl gu) :=
 PE.weak (DC TY ha hl hu) fun σ H Q ⟨δ,hσ,q⟩=>⟨δ,hσ,(RQ.bind q).to fun x H1 _ ⟨s1,d,r1,q1⟩=>⟨δ,hσ.mono s1,(ROp.bind q1).to fun l H2 _ ⟨s2,q2⟩=>⟨δ,hσ.mono (s1.trans s2),(ROp.bind q2).to fun u H3 _ ⟨s3,q3⟩=>by
  have r3:=r1.mono (s2.trans s3)
  cases e:oSl d l u with
  | ok z=>rw [e] at q3;exact ⟨d,z,r3,e,q3⟩
  | ex C =>
   exfalso
   unfold oSl at e
   split at e
   ·split at e<;>cases e
   ·cases e
   ·cases e
  | bad=>rw [e] at q3;exact False.elim q3⟩⟩⟩
theorem kC (h:SE X e g):SI X tg e (itA g):=fun pins s σ H Q I ⟨δ,hσ,q⟩=>by
 unfold itA at q
 cases r:g δ with
 | ok d =>
  rw [r] at q
  cases d with
  | lst ds=>exact FF h pins s σ H Q I ⟨δ,hσ,by unfold itL;rw [r];exact q⟩
  | tup ds=>exact OH h pins s σ H Q I ⟨δ,hσ,by unfold itT;rw [r];exact q⟩
  | _=>exact False.elim q
 | ex C=>exact FF h pins s σ H Q I ⟨δ,hσ,by unfold itL;rw [r] at q ⊢;exact q⟩
 | bad=>rw [r] at q;exact False.elim q
end
theorem O4 {P:String->Prop} (h0:P "MillError") (h1:P "NoSize") (h2:P "NoBits") (h3:P "NoParts") (h4:P "NoRank") (h5:P "NotFinite") (h6:P "NoWay") (h7:P "NoFlags") (h8:P "NoFraction") (h9:P "Unlike") (h10:P "Empty") (h11:P "NoLeft") (h12:P "NoText") (h13:P "NoRow") (h14:P "NoName") (h15:P "Stopped"):∀ n∈ax,P n:=by
 intro n hn
 simp only [ax,List.mem_cons,List.not_mem_nil,or_false] at hn
 rcases hn with rfl | rfl | rfl | rfl | rfl | rfl | rfl | rfl | rfl | rfl | rfl | rfl | rfl | rfl | rfl | rfl
 all_goals assumption
end ES
namespace ES
open PySem PySem.Spec PyProof.Rows L2 EV
unseal SE ST SW SA SS SSs SI SO
section
variable {X:Cx} {tg:Expr} {H:Hp} {a b c:Expr} {ga gb gc:E}
end
end ES
namespace ES
open PySem PySem.Spec PyProof.Rows L2 EV
unseal SE ST SW SA SS SSs SI SO
section
variable {X:Cx} {N:List Str} {H:Hp} {σ:L2.St} {δ:Dt} {os:Os}
theorem Hf (h:Stt X.K X.mg H σ δ):Stt X.K X.mg H σ (δ.set i (some (.own ds))):=by
 refine ⟨by rw [List.length_set];exact h.1,fun j d e n => ?_⟩
 by_cases hj:j=i
 ·subst hj
  by_cases hl:j<δ.length
  ·rw [List.getElem?_set_self hl] at e
   have e':.own ds=d:=Option.some.inj (Option.some.inj e)
   exact absurd e'.symm (n ds)
  ·rw [List.getElem?_eq_none (by simp;omega)] at e
   cases e
 ·rw [List.getElem?_set_ne (Ne.symm hj)] at e
  exact h.2 j d e n
theorem rL (h:a∈l4 os):hide (upd H a o) os=hide H os:=by
 funext b
 unfold hide
 by_cases hb:b∈l4 os
 ·rw [if_pos hb,if_pos hb]
 ·rw [if_neg hb,if_neg hb]
  exact bN fun z=>hb (by rw [z];exact h)
theorem StO.write (S:StO X H σ δ os) (ha:(i,a)∈os) (r:Reps X.K X.mg ↥36 xs ds):StO X (upd H a (.lst xs)) σ (δ.set i (some (.own ds))) os:=by
 have eh:hide (upd H a (.lst xs)) os=hide H os:=rL (jE ha)
 obtain ⟨_,_,_,h2,h3,_⟩:=S.lst _ ha
 have hl:i<δ.length:=(List.getElem?_eq_some_iff.mp h3).1
 refine ⟨by rw [eh];exact Hf S.st,fun p hp => ?_,fun j es e => ?_,S.inj⟩
 ·rw [eh]
  by_cases hj:p.1=i
  ·have e2:p.2=a:=by
    obtain ⟨_,_,_,q2,_,_⟩:=S.lst p hp
    rw [hj,h2] at q2
    exact (V.ref.inj (Option.some.inj (Option.some.inj q2))).symm
   refine ⟨xs,ds,by rw [e2];exact bz,by rw [hj,e2];exact h2,by rw [hj];exact List.getElem?_set_self hl,r⟩
  ·obtain ⟨ys,es,q1,q2,q3,q4⟩:=S.lst p hp
   have ne:p.2≠a:=fun z=>hj (S.inj p.1 i a (by rw [<- z];exact hp) ha)
   exact ⟨ys,es,by rw [bN ne];exact q1,q2,by rw [List.getElem?_set_ne (Ne.symm hj)];exact q3,q4⟩
 ·by_cases hj:j=i
  ·subst hj;exact ⟨a,ha⟩
  ·rw [List.getElem?_set_ne (Ne.symm hj)] at e
   exact S.own j es e
theorem StO.pub (S:StO X H σ δ os) (i:Nat):∃ os',StO X H σ (EV.pub i δ) os'/\aD ↥36 (hide H os'):=by
 unfold EV.pub
 split
 ·rename_i ds e
  obtain ⟨a,ha⟩:=S.own i ds e
  obtain ⟨xs,ds',h1,h2,h3,h4⟩:=S.lst _ ha
  rw [e] at h3
  cases h3
  have sm:aD ↥36 (hide H (os.filter fun p=>p.1 != i)):=t7 fun p hp=>(cE os i p hp).1
  have hl:i<δ.length:=(List.getElem?_eq_some_iff.mp e).1
  have na:a∉l4 (os.filter fun p=>p.1 != i):=fun z=>by
   obtain ⟨p,hp,e2⟩:=ky z
   obtain ⟨hp',ne⟩:=cE os i p hp
   exact ne (S.inj p.1 i a (by rw [<- e2];exact hp') ha)
  refine ⟨_,⟨?_,fun p hp => ?_,fun j es q => ?_,fun j k b h1 h2=>S.inj j k b (cE os i _ h1).1 (cE os i _ h2).1⟩,sm⟩
  ·have st:=S.st.mono sm
   refine ⟨by rw [List.length_set];exact st.1,fun j d q n => ?_⟩
   by_cases hj:j=i
   ·subst hj
    rw [List.getElem?_set_self hl] at q
    have q':D.lst ds=d:=Option.some.inj (Option.some.inj q)
    subst q'
    exact ⟨.ref a,h2,.lst (SqL.of (by rw [dt na];exact h1)) (h4.mono sm)⟩
   ·rw [List.getElem?_set_ne (Ne.symm hj)] at q
    exact st.2 j d q n
  ·obtain ⟨hp',ne⟩:=cE os i p hp
   obtain ⟨ys,es,q1,q2,q3,q4⟩:=S.lst p hp'
   exact ⟨ys,es,q1,q2,by rw [List.getElem?_set_ne (Ne.symm ne)];exact q3,q4.mono sm⟩
  ·by_cases hj:j=i
   ·subst hj
    rw [List.getElem?_set_self hl] at q
    cases q
   ·rw [List.getElem?_set_ne (Ne.symm hj)] at q
    obtain ⟨b,hb⟩:=S.own j es q
    exact ⟨b,List.mem_filter.mpr ⟨hb,by simpa using hj⟩⟩
 ·exact ⟨os,S,aD.refl _⟩
variable {e:Expr} {g:E} {pos:Pos} {st:Stmt} {gs:S}
theorem yC (i:Nat) (h:SS X st gs):SS X st (AE i gs):=PS.weak h fun D σ H ⟨δ,os,S,q⟩=>by
 obtain ⟨os',S',sm⟩:=S.pub i
 exact ⟨_,os',S',OQ.mono sm q⟩
theorem wV (C:Sx X N) (i:Nat) (hN:N[i]? = some x) (he:SE X e g)
  (hbase:attributeBase (.Name x p1) "append" X.env (eval (.Name x p1) X.env)=eval (.Name x p1) X.env:=by rfl)
  (hfew:((backTo p3 (starEach [e] X.env)).all (fun x => !x.1)&&(backToKw p3 (keywordEach [] X.env)).all (fun x=>x.1.isSome)
   && decide ([e].length+([]:List Keyword).length+(if ([]:List Keyword).isEmpty then 0 else 1)<30))=true:=by rfl)
  (hline:(p2.endLine == p3.line)=true:=by rfl) (hs:starEach [e] X.env=[(false,eval e X.env)]:=by rfl)
  (hsw:swapsWith (.Call (.Attribute (.Name x p1) "append" p2) [e] [] p3) none pos.line X.env=pure false:=by rfl) :
  SS X (.Expr (.Call (.Attribute (.Name x p1) "append" p2) [e] [] p3) pos) (tM i g):=by
 have hm:x∈N:=List.mem_of_getElem? hN
 refine PS.weak (vx (LH PySem.F.plainAttrs_list PySem.F.slot_list_append PySem.F.type_list_append t4 (tG (i:=i) (by rw [C.sc.n];exact hN) (C.sc.vis x hm) (C.sc.dbg x hm).1 (C.sc.dbg x hm).2) (oj (wj he) tK hs) hbase hfew hline hs (by rfl)) hsw) fun D σ H ⟨δ,os,S,q⟩ => ?_
 unfold tM lL at q
 split at q
 ·rename_i ds ei
  obtain ⟨a,ha⟩:=S.own i ds ei
  obtain ⟨xs,ds',h1,h2,h3,h4⟩:=S.lst _ ha
  rw [ei] at h3
  cases h3
  refine ⟨.ref a,h2,.inl ⟨rfl,xs,SqL.of h1⟩,δ,os,S,?_,?_⟩
  ·intro d ed
   unfold JZ at q
   rw [ed] at q
   simp only at q
   split at q
   ·rename_i z;exact z.1
   ·exact False.elim q
  ·unfold JZ at q
   cases r:g (view δ) with
   | ok d =>
    rw [r] at q
    simp only at q
    split at q
    ·rename_i z
     intro v H' S' sm rp
     obtain ⟨xs',ds',k1,k2,k3,k4⟩:=S'.lst _ ha
     rw [ei] at k3
     cases k3
     refine ⟨a,xs',v,rfl,rfl,k1,by rw [k4.length,sizeLine_eq];omega,?_⟩
     have S2:=S'.write ha (k4.append (.cons rp .nil))
     exact q _ _ _ S2 (by rw [rL (jE ha)];exact sm)
    ·exact False.elim q
   | ex C=>rw [r] at q;exact fun Ca hc H' s' st=>q σ H' s' st Ca hc
   | bad=>rw [r] at q;exact False.elim q
 ·exact False.elim q
end
end ES
namespace ES
open PySem PySem.Spec PyProof.Rows L2 EV
unseal SE ST SW SA SS SSs SI SO
section
variable {X:Cx} {N:List Str} {H:Hp} {σ:L2.St} {δ:Dt} {os:Os}
theorem StO.adopt (S:StO X H σ δ os) (sm:aD H Hc) (hi:i<σ.length) (hn:H a=none) (ha:Hc a=some (.lst xs)) (r:Reps X.K X.mg Hc xs ds) (fl:EV.D.flats ds=true) :
  StO X Hc (σ.set i (some (.ref a))) (δ.set i (some (.own ds))) ((i,a)::os.filter fun p=>p.1 != i)/\aD ↥36 (hide Hc ((i,a)::os.filter fun p=>p.1 != i)):=by
 have hd:i<δ.length:=by rw [<- S.st.1];exact hi
 have sm2:aD ↥36 (hide Hc ((i,a)::os.filter fun p=>p.1 != i)):=fun b o e=>by
  have hb:b∉l4 os:=fun z=>by rw [rM z] at e;cases e
  rw [dt hb] at e
  have ne:b≠a:=fun z=>by rw [z,hn] at e;cases e
  rw [dt fun z => ?_];exact sm b o e
  obtain ⟨p,hp,e2⟩:=ky z
  rcases List.mem_cons.mp hp with q | q
  ·exact ne (by rw [<- e2,q])
  ·exact hb (by rw [<- e2];exact jE (cE os i p q).1)
 have naos:∀ p∈os,p.2≠a:=fun p hp z=>by
  obtain ⟨_,_,q,_⟩:=S.lst p hp
  rw [z,hn] at q
  cases q
 have ls:M1 Hc ((i,a)::os.filter fun p=>p.1 != i):=fun b hb=>by
  obtain ⟨p,hp,e2⟩:=ky hb
  rcases List.mem_cons.mp hp with q | q
  ·exact ⟨xs,by rw [<- e2,q];exact ha⟩
  ·obtain ⟨ys,_,q1,_⟩:=S.lst p (cE os i p q).1
   exact ⟨ys,by rw [<- e2];exact sm _ _ q1⟩
 refine ⟨⟨?_,fun p hp => ?_,fun j es e => ?_,fun j k b h1 h2 => ?_⟩,sm2⟩
 ·have st:=S.st.mono sm2
  refine ⟨by rw [List.length_set,List.length_set];exact st.1,fun j d e n => ?_⟩
  by_cases hj:j=i
  ·subst hj
   rw [List.getElem?_set_self hd] at e
   exact absurd (Option.some.inj (Option.some.inj e)).symm (n ds)
  ·rw [List.getElem?_set_ne (Ne.symm hj)] at e
   obtain ⟨v,e1,e2⟩:=st.2 j d e n
   exact ⟨v,by rw [List.getElem?_set_ne (Ne.symm hj)];exact e1,e2⟩
 ·rcases List.mem_cons.mp hp with q | q
  ·subst q
   exact ⟨xs,ds,ha,List.getElem?_set_self hi,List.getElem?_set_self hd,mX (xm ls) fl r⟩
  ·obtain ⟨hp',ne⟩:=cE os i p q
   obtain ⟨ys,es,q1,q2,q3,q4⟩:=S.lst p hp'
   exact ⟨ys,es,sm _ _ q1,by rw [List.getElem?_set_ne (Ne.symm ne)];exact q2,by rw [List.getElem?_set_ne (Ne.symm ne)];exact q3,q4.mono sm2⟩
 ·by_cases hj:j=i
  ·subst hj;exact ⟨a,.head _⟩
  ·rw [List.getElem?_set_ne (Ne.symm hj)] at e
   obtain ⟨b,hb⟩:=S.own j es e
   exact ⟨b,.tail _ (List.mem_filter.mpr ⟨hb,by simpa using hj⟩)⟩
 ·rcases List.mem_cons.mp h1 with q1 | q1<;>rcases List.mem_cons.mp h2 with q2 | q2
  ·cases q1;cases q2;rfl
  ·cases q1;exact absurd rfl (naos _ (cE os i _ q2).1)
  ·cases q2;exact absurd rfl (naos _ (cE os i _ q1).1)
  ·exact S.inj j k b (cE os i _ q1).1 (cE os i _ q2).1
theorem Af {pins:List ↥14} {s:Shared} {i:Nat} {y:Str} {py:Pos} {a C:Addr} {m:Str->Option Value} (Cx:Sx X N) (hN:N[i]? = some y) (hy:Sto X y) (I:Inv X pins σ H s) (fC:zA X pins H C) (ns:s.heap.Ns C m) :
  wpAny ↥8 X.A (assign (.Name y py) X.env (.ref a)) (fun _ s2=>∃ m,s2.heap.Ns C m/\∀ h',Heap.SameBut C s2.heap h'->Inv X pins (σ.set i (some (.ref a))) H { s2 with heap:=h' }) X.xe s:=by
 obtain ⟨o,es,ep,ho,hd,hk⟩:=id ns
 have Ip:=I.pinned (fp:=[C]) (fun b hb=>by rw [List.mem_singleton] at hb;rw [hb];exact fC) (fun b hb=>by
  rw [List.mem_singleton] at hb
  rw [hb]
  exact ⟨o,ho,fun v z=>by rw [hd] at z;cases z⟩)
 refine thn (oh (X:=X) (pos:=py) (i:=i) (x:=y) (by rw [Cx.sc.n];exact Cx.sc.nd) (by rw [Cx.sc.n];exact hN) hy.1 hy.2 _ s σ H (.ref a) (.ref a) (fun σ6 H6=>σ6=σ.set i (some (.ref a))/\H6=H) Ip rfl ⟨rfl,rfl⟩) fun _ s2 ⟨σ6,H6,I6,e6,e7⟩ => ?_
 subst e6 e7
 have hp:=(I6.pin (C,o) (List.mem_append_right _ (List.mem_append_right _ (fA (List.mem_singleton.mpr rfl) ho)))).1
 refine ⟨m,ns.at' fun o' e' => ?_,fun h' sb => ?_⟩
 ·rw [ho] at e'
  cases e'
  exact hp
 ·obtain ⟨f0,f1,f2,f3,f4,f5⟩:=fC
  exact I6.unpinned.turned (t':=s2.toks) (fun b o hb e=>(sb.2 b hb).trans e) f0 f1 f3 f4 f5
variable {e c k v:Expr} {g gc gk gv:E} {pos:Pos} {st:Stmt} {body els:List Stmt} {gs gb ge:S}
theorem NY (hc:ST X c gc) (ha:SSs X body gb) (hb:SSs X els ge):SS X (.If c body els pos) (OG gc gb ge) :=
 PS.weak (Lr (JD hc) ha hb) fun D σ H ⟨δ,os,S,q⟩=>⟨δ,os,S,FT.then q fun b H' S' s q'=>by
  cases b with
  | true=>exact IU ⟨δ,os,S',by simpa using q'⟩
  | false=>exact IV ⟨δ,os,S',by simpa using q'⟩⟩
theorem wU (C:Sx X N) (i:Nat) (hN:N[i]? = some x) (hx:Sto X x) (h:SE X e g) (hsw:swapsWith e (some (.Name x pos')) pos.line X.env=pure false:=by rfl):SS X (.Assign [.Name x pos'] e pos) (jY i g) :=
 PS.weak (Ft (i:=i) (by rw [C.sc.n];exact C.sc.nd) (by rw [C.sc.n];exact hN) hx.1 (wj h) hsw hx.2) fun D σ H ⟨δ,os,S,q⟩=>by
  unfold jY MX at q
  refine ⟨δ,os,S,fun d ed => ?_,?_⟩
  ·rw [ed] at q
   simp only at q
   split at q
   ·assumption
   ·exact False.elim q
  ·cases r:g (view δ) with
   | ok d =>
    rw [r] at q
    simp only at q
    split at q
    ·intro v H' S' s rp
     obtain ⟨S2,s2⟩:=S'.set (i:=i) rp
     exact q _ _ _ S2 (s.trans s2)
    ·exact False.elim q
   | ex C=>rw [r] at q;exact fun Ca hc H' s' st=>q σ H' s' st Ca hc
   | bad=>rw [r] at q;exact False.elim q
theorem gD (hS:env.scope=sc0)
  (h:((if sc0.kind.isAnnotationScope then ScopeKind.function else sc0.kind) == ScopeKind.function&&sc0.names.lookup t == some NameKind.local&&pt.line == (Expr.ListComp elt gens sc pos).pos.line && !(sc.names.any fun (n,k)=>n == t&&(k == .local||k == .cell)))=true) :
  swapsWith (.ListComp elt gens sc pos) (some (.Name t pt)) line env=pure true:=by
 subst hS
 show (pure ((if env.scope.kind.isAnnotationScope then ScopeKind.function else env.scope.kind) == ScopeKind.function&&env.scope.names.lookup t == some NameKind.local&&pt.line == (Expr.ListComp elt gens sc pos).pos.line && !(sc.names.any fun (n,k)=>n == t&&(k == .local||k == .cell))):Sem Bool)=pure true
 rw [h]
theorem yD (Cx:Sx X N) (hc:X.calm=true) (i:Nat) {y:Str} {py spos:Pos} (hN:N[i]? = some y) (hy:Sto X y) {xs ksn G:List Str} {ks:List Nat} {tg elt iter:Expr} {ifs:List Expr} {sc:Scope} {git:IT} {gt ge' ce:E} {pt:EV.D->Option (List EV.D)} {gT:TG} (CE:CompOf ce git pt gt ge' ks) (SC:ScU xs ksn G sc)
  (hks:ks.map (fun k=>N.getD k "")=ksn) (hlt:∀ k∈ks,k<N.length) (hcell:∀ y∈ksn,X.env.scope.names.lookup y=some .cell)
  (he:SI X tg iter git) (TT:Tgt X xs.length pt gT)
  (htg:∀ C fp s H W,Sc ↥9 (xs++ksn)->(∀ y∈xs,(cxU X xs ksn sc C fp s H W).env.scope.names.lookup y=some .local)->PG ↥9 tg gT)
  (htst:∀ C fp s H W,Sc ↥9 (xs++ksn)->(∀ y∈G,Gb ↥9 y)->Tst ↥9 ifs gt)
  (helt:∀ C fp s H W,Sc ↥9 (xs++ksn)->(∀ y∈G,Gb ↥9 y)->SE ↥9 elt ge')
  (hsw:swapsWith (.ListComp elt [⟨tg,iter,ifs,0⟩] sc pos) (some (.Name y py)) spos.line X.env=pure true)
  (hs:∀ z,foldedSetIterable iter X.env z=pure z) :
  SS X (.Assign [.Name y py] (.ListComp elt [⟨tg,iter,ifs,0⟩] sc pos) spos) (dI i ce):=by
 intro pins s σ H D I ⟨δ,os,S,q⟩
 have hi:i<σ.length:=by
  rw [I.len,Cx.sc.n]
  exact (List.getElem?_eq_some_iff.mp hN).1
 unfold dI Cy at q
 rw [exec_Assign_Name_used _ _ _ _ hsw]
 refine wpAny_bind (wpAny_standAt (wpAny_bind ?_))
 show wpAny _ X.A (do let _<-comprehension (.ListComp elt [⟨tg,iter,ifs,0⟩] sc pos) sc X.env _ (newList []) false (eval iter X.env) (some (assign (.Name y py) X.env))) _ _ s
 refine wpAny_bind (wpAny_mono (qf (Q:=fun _ _=>True) (Qf:=fun _ s'=>SP X pins D .next s') hc Cx.sc CE SC hks hlt hcell he TT htg htst helt hs (use:=some (assign (.Name y py) X.env)) I S.view ?_ ?_) (fun _ s' hq=>wpAny_pure (wpAny_pure hq)) fun _ _ e=>e)
 ·cases r:ce (view δ) with
  | ok d=>exact fun _ _ _ _=>trivial
  | ex C=>rw [r] at q;exact fun Ca hc H' s'=>q σ H' ((bq H os).trans s') (S.noOwn ((bq H os).trans s')) Ca hc
  | bad=>rw [r] at q;exact False.elim q
 ·intro s1 Hc A C ys rs e1 fl hA hAc rr sm _ fC I1 ⟨m,ns⟩ _
  rw [e1] at q
  obtain ⟨S2,sm2⟩:=S.adopt sm hi hA hAc rr fl
  refine thn (Af (a:=A) (py:=py) Cx hN hy I1 fC ns) fun _ s2 ⟨m2,ns2,hq⟩=>⟨m2,ns2,fun h' sb=>⟨_,Hc,hq h' sb,q _ _ _ S2 sm2⟩⟩
theorem gG (Cx:Sx X N) (hc:X.calm=true) (i:Nat) {y:Str} {py spos:Pos} (hN:N[i]? = some y) (hy:Sto X y) {x:Str} {ksn G:List Str} {ks:List Nat} {elt iter:Expr} {ifs:List Expr} {px:Pos} {sc:Scope} {git:IT} {gt ge':E} (SC:ScU [x] ksn G sc)
  (hks:ks.map (fun k=>N.getD k "")=ksn) (hlt:∀ k∈ks,k<N.length) (hcell:∀ y∈ksn,X.env.scope.names.lookup y=some .cell)
  (he:SI X (.Name x px) iter git)
  (htst:∀ C fp s H W,Sc ↥21 ([x]++ksn)->(∀ y∈G,Gb ↥21 y)->Tst ↥21 ifs gt)
  (helt:∀ C fp s H W,Sc ↥21 ([x]++ksn)->(∀ y∈G,Gb ↥21 y)->SE ↥21 elt ge')
  (hsw:swapsWith (.ListComp elt [⟨.Name x px,iter,ifs,0⟩] sc pos) (some (.Name y py)) spos.line X.env=pure true)
  (hs:∀ z,foldedSetIterable iter X.env z=pure z:=by intro _;rfl) :
  SS X (.Assign [.Name y py] (.ListComp elt [⟨.Name x px,iter,ifs,0⟩] sc pos) spos) (dI i (gw git ks gt ge')) :=
 yD Cx hc i hN hy uh SC hks hlt hcell he O5 tg1 htst helt hsw hs
end
end ES
namespace ES
open PySem PySem.Spec PyProof.Rows L2 EV
unseal SE ST SW SA SS SSs SI SO
def RF (X:Cx) (σ:L2.St) (H:Hp) (r:R D) (Q:VK):Prop:=match r with
 | .ok (.lst rs)=>∀ a xs H',aD H H'->H a=none->H' a=some (.lst xs)->Reps X.K X.mg H' xs rs->EV.D.flats rs=true->Q (.ref a) H'
 | .ex C=>∀ Ca,X.mg C=some (.ref Ca)->∀ H',aD H H'->ew X Ca σ H'
 | _=>False
def FE (X:Cx) (e:Expr) (g:E):Prop:=PE X e fun σ H Q=>∃ δ,Stt X.K X.mg H σ δ/\RF X σ H (g δ) Q
def OQF (X:Cx) (D:Ends) (F:Hp):O->Prop
 | .rt (.lst rs)=>∀ a xs H,aD F H->F a=none->H a=some (.lst xs)->Reps X.K X.mg H xs rs->EV.D.flats rs=true->D.rt (.ref a) H
 | .rt _=>False
 | o=>OQ X D F o
def tSF (X:Cx) (g:S):TS:=fun D σ H=>∃ δ os,StO X H σ δ os/\OQF X D ↥36 (g δ)
@[irreducible] def SSF (X:Cx) (st:List Stmt) (g:S):Prop:=PSs X st (tSF X g)
unseal SSF
section
variable {X:Cx} {N:List Str}
variable {st:Stmt} {rest:List Stmt} {gs gr:S} {e:Expr} {g:E} {pos:Pos}
theorem Ah {H Hc:Hp} {os:Os} (hn:∀ a∈l4 os,Hc a=none):aD Hc (hW H Hc os):=fun b o q=>by
 unfold hW
 rw [if_neg fun z=>by rw [hn b z] at q;cases q]
 exact q
end
def spF (K:PySem.W.Frag) (mg:Str->Option Value) (f:List D->R D):Sp:=fun vs H Q E=>∃ ds,Reps K mg H vs ds/\match f ds with
 | .ok (.lst rs)=>∀ a xs H',aD H H'->H a=none->H' a=some (.lst xs)->Reps K mg H' xs rs->EV.D.flats rs=true->Q (.ref a) H'
 | .ex C=>∀ Ca,mg C=some (.ref Ca)->∀ H',aD H H'->E (.ref Ca) none H'
 | _=>False
structure FnF (P:Program) (w:World) (K:PySem.W.Frag) (mg:Str->Option Value) (base:Heap) (x:Str) (k:Nat) (f:List D->R D):Prop where
 ex:∃ fa fd ps,FnOk P w K mg base (CXF P w) k fa fd ps (spF K mg f)/\mg x=some (.ref fa)/\PySem.W.keepIn K (.ref fa)=true/\Binds K fd ps []
structure CalleeF (X:Cx) (x:Str) (f:List D->R D):Prop where
 ex:∃ k fa fd ps,FnOk X.prog X.w X.K X.mg X.base (CXF X.prog X.w) k fa fd ps (spF X.K X.mg f)/\Room k X.A/\X.mg x=some (.ref fa)/\PySem.W.keepIn X.K (.ref fa)=true/\Binds X.K fd ps []
section
variable {X:Cx} {N:List Str} {x:Str} {f:List D->R D} {e:Expr} {es:List Expr} {gs:List E} {p pos:Pos} {g:E}
theorem tf (C:Sx X N) (i:Nat) {y:Str} {pos':Pos} (hN:N[i]? = some y) (hy:Sto X y) (h:FE X e g) (hsw:swapsWith e (some (.Name y pos')) pos.line X.env=pure false:=by rfl):SS X (.Assign [.Name y pos'] e pos) (ot i g):=by
 intro pins s σ H D I ⟨δ,os,S,q⟩
 have hi:i<σ.length:=by
  rw [I.len,C.sc.n]
  exact (List.getElem?_eq_some_iff.mp hN).1
 have hl:=S.lsts
 unfold ot Cy at q
 refine wpAny_Assign_Name (thn (h _ s σ _ (fun v Hc=>∃ a xs rs,v=.ref a/\g δ=.ok (.lst rs)/\aD ↥36 Hc/\hide H os a=none/\Hc a=some (.lst xs)/\Reps X.K X.mg Hc xs rs/\EV.D.flats rs=true) (m8 I hl) ⟨δ,S.st,?_⟩) fun u s1 ⟨v,Hc,I1,rv,a,xs,rs,ev,eg,sm,hn,ha,rr,fl⟩ => ?_) hsw
 ·cases r:g δ with
  | ok d =>
   rw [r] at q
   cases d with
   | lst rs=>exact fun a xs H' sm hn ha rr fl=>⟨a,xs,rs,rfl,rfl,sm,hn,ha,rr,fl⟩
   | _=>exact False.elim q
  | ex C=>rw [r] at q;exact fun Ca hc H' s'=>q σ H' s' (S.noOwn s') Ca hc
  | bad=>rw [r] at q;exact False.elim q
 ·obtain ⟨I2,hz⟩:=m7 C.ex I hl I1
  rw [eg] at q
  subst ev
  have ss:=Ah (H:=H) hz
  have na:a∉l4 os:=fun z=>by rw [hz a z] at ha;cases ha
  have sH:aD H (hW H Hc os):=fun b o e=>by
   unfold hW
   by_cases hb:b∈l4 os
   ·rw [if_pos hb];exact e
   ·rw [if_neg hb]
    exact sm b o (by rw [dt hb];exact e)
  obtain ⟨S2,sm2⟩:=S.adopt (i:=i) sH hi (by rw [dt na] at hn;exact hn) (ss a _ ha) (rr.mono ss) fl
  exact qI I2 (by rw [C.sc.n];exact C.sc.nd) (by rw [C.sc.n];exact hN) hy.1 rv (fun s2 I3=>⟨_,_,I3,q _ _ _ S2 sm2⟩) hy.2
end
end ES
namespace EV
def Na (gs:List E):E:=fun δ=>(evs gs δ).bind dC
def put2 (i j:Nat) (δ:Dt):D->O
 | .tup [a,b]=>.nx ((δ.set i (some a)).set j (some b))
 | _=>.bad
def O3 (i j:Nat) (δ:Dt) (r:R D):O:=match r with
 | .ok d=>put2 i j δ d
 | .ex C=>.ex C (noOwn δ)
 | .bad=>.bad
def wD (i j:Nat) (g:E):S:=fun δ=>O3 i j δ (g δ)
def sG (k:Int):List D->R D
 | [.lst ds]=>match intsOf ds with
  | some []=>.ok (.int k)
  | some (n::ns)=>.ok (.int (ns.foldl min n))
  | none=>.bad
 | _=>.bad
def uE:List D->R D
 | [.lst ds]=>dC ds
 | [.tup ds]=>dC ds
 | _=>.bad
def boolsOf:List D->Option (List Bool)
 | []=>some []
 | .bl b::r=>(boolsOf r).map (b::·)
 | _=>none
def JQ:List D->R D
 | [.lst ds]=>match boolsOf ds with | some bs=>.ok (.bl (bs.any id)) | none=>.bad
 | _=>.bad
def J3 (i:Nat) (δ:Dt) (ds:List D) (r:R D):O:=match r with
 | .ok (.tup es)=>if D.flats es=true/\ds.length+es.length<=100000 then .nx (δ.set i (some (.own (ds++es)))) else .bad
 | .ex C=>.ex C (noOwn δ)
 | _=>.bad
def lX (i:Nat) (g:E):S:=fun δ=>lL i δ fun ds=>J3 i δ ds (g (view δ))
theorem Ku:Na gs δ=(evs gs δ).bind dC:=rfl
theorem sP:wD i j g δ=O3 i j δ (g δ):=rfl
theorem C3:lX i g δ=lL i δ fun ds=>J3 i δ ds (g (view δ)):=rfl
end EV
namespace ES
open PySem PySem.Spec PyProof.Rows L2 EV
unseal SE ST SW SA SS SSs SI SO
section
variable {X:Cx} {N:List Str} {e:Expr} {g:E} {pos:Pos}
theorem ON (h:SA X es gs) (hl:es.length<=1000) (hg:gs.length=es.length:=by rfl):FE X (.List es pos) (Na gs) :=
 PE.weak (Fw h) fun σ H Q ⟨δ,hσ,q⟩=>⟨δ,hσ,by
  unfold Na at q
  cases e:evs gs δ with
  | ok ds =>
   have hd:ds.length=gs.length:=aK.evs_len e
   rw [e] at q
   simp only [R.bind,dC] at q
   refine fun vs H1 s1 rs=>⟨by rw [rs.length,hd,hg];exact Nat.le_of_lt (j3 hl),fun p hp => ?_⟩
   split at q
   ·rename_i fl
    have q':∀ a xs H',aD H H'->H a=none->H' a=some (.lst xs)->Reps X.K X.mg H' xs ds->EV.D.flats ds=true->Q (.ref a) H':=q
    exact q' p vs _ (s1.trans (bb hp _)) (by
     cases z:H p with
     | none=>rfl
     | some o=>rw [s1 p o z] at hp;cases hp) bz (rs.mono (bb hp _)) fl
   ·exact False.elim q
  | ex C=>rw [e] at q;exact q
  | bad=>rw [e] at q;exact False.elim q⟩
theorem K8 (C:Sx X N) (hc:X.calm=true) (i j:Nat) {x y:Str} {px py pt:Pos} {k:Nat} (hi:N[i]? = some x) (hj:N[j]? = some y) (hx:Sto X x) (hy:Sto X y) (h:SE X e g)
  (hs:swapsWithSole [.Tuple [.Name x px,.Name y py] k pt] e pos.line X.env=pure false:=by rfl) (hw:swappedStores [.Tuple [.Name x px,.Name y py] k pt] e X.env=pure none:=by rfl)
  (h1:(assignEach [.Tuple [.Name x px,.Name y py] k pt] X.env).map (·.2)=[assign (.Tuple [.Name x px,.Name y py] k pt) X.env]:=by rfl)
  (hn:(assignEach [.Name x px,.Name y py] X.env).length=2:=by rfl) (hst:(assignEach [.Name x px,.Name y py] X.env).findIdx? (·.1)=none:=by rfl) :
  SS X (.Assign [.Tuple [.Name x px,.Name y py] k pt] e pos) (wD i j g) :=
 PS.weak (Lv (xC C.ex h) (Ly hc (xf (oh (i:=i) (by rw [C.sc.n];exact C.sc.nd) (by rw [C.sc.n];exact hi) hx.1 hx.2) (xf (oh (i:=j) (by rw [C.sc.n];exact C.sc.nd) (by rw [C.sc.n];exact hj) hy.1 hy.2) HM)) hn hst) hs hw h1)
  fun D σ H ⟨δ,os,S,q⟩=>⟨δ,os,S,FQ.then (f:=put2 i j δ) q fun d v H' e S' s r q'=>by
   unfold put2 at q'
   split at q'
   ·rename_i a b
    cases r with
    | @tup p xs _ hq rr =>
     cases rr with
     | cons ra rr =>
      cases rr with
      | cons rb rr =>
       cases rr
       refine ⟨p,_,rfl,gF (bq _ _) hq,rfl,_,_,rfl,_,_,rfl,rfl,?_⟩
       obtain ⟨S2,s2⟩:=S'.set (i:=i) ra
       obtain ⟨S3,s3⟩:=S2.set (i:=j) (rb.mono s2)
       exact q' _ _ _ S3 (s2.trans s3)
   ·exact False.elim q'⟩
end
end ES
namespace ES
open PySem PySem.Spec PyProof.Rows L2 EV
unseal SE ST SW SA SS SSs SI SO
section
variable {prog:Program} {w:World} {A:Around} {R:Result->Shared->Prop} {I:Addr} {fp wr:List Addr} {n:Nat} {P:Nat->Value->Prop} {St:Nat->Heap->Prop}
abbrev dfl (d:Value):List (Str×Value):=[(Str.ofString "default",d)]
theorem rE:(toString "min"++toString ".loop":String)="min.loop":=by decide
theorem Bi (W:Walks prog w A.in1 I fp wr n P St) (bt:Nat->Nat->Bool) (hcmp:CmpOf prog w A.in1 .Lt P bt) (S:Addr) (hSf:S∉fp) :
  ∀ (k j:Nat) (s:Shared) (vb:Value) (c:Nat),n - (j+1)=k->j+1<=n->St (j+1) s.heap->P (argBest bt j) vb->s.heap.get? S=some { cls:=.type "list",dict:=none,data:=.seq #[vb,vb] c,slots := #[] } ->
   (∀ v h' tk,P (argBest bt (n - 1)) v->(∀ b o,b∉wr->b≠S->s.heap.get? b=some o->h'.get? b=some o)->R (.ok (.ret v)) { s with heap:=h',toks:=tk }) ->
   codeAny ↥25 A (.builtin "min.loop" ⟨[.ref I,.none,.ref S],dfl d⟩) R s:=by
 have hSw:S∉wr:=fun z=>hSf (W.sub _ z)
 intro k
 induction k with
 | zero =>
  intro j s vb c hk hj hst hPb hS hR
  have hin:j+1=n:=⋯
  refine codeAny_builtin PySem.F.entry_min_loop ?_;rw [Around.under_plainId PySem.F.plain_min_loop _]
  (show wpAny _ A.in1 (seqItems? (.ref S) >>= _) _ _ s);refine wpAny_bind (wpAny_seqItems hS rfl ?_)
  (show wpAny _ A.in1 (tryCatch (pyNext (.ref I)) _ >>= _) _ _ s);refine wpAny_bind (wpAny_tryCatch (W.done s _ _ (hin▸hst) fun h' tk hk' => ?_))
  have hS':=hk' S _ hSw hS
  (show wpAny _ A.in1 (updateSeq S (fun _ => #[]) >>= _) _ _ _);refine wpAny_bind ?_;refine wpAny_updateSeq hS' rfl (wpAny_bind (wpAny_letGo (wpAny_pure ?_)))
  exact hR vb _ tk (by rw [<- hin];exact hPb) fun b o hbw hbS e=>(Heap.get?_update_other _ _ (Ne.symm hbS)).trans (hk' b o hbw e)
 | succ k ih =>
  intro j s vb c hk hj hst hPb hS hR
  have hlt:j+1<n:=⋯
  refine codeAny_builtin PySem.F.entry_min_loop ?_;rw [Around.under_plainId PySem.F.plain_min_loop _]
  (show wpAny _ A.in1 (seqItems? (.ref S) >>= _) _ _ s);refine wpAny_bind (wpAny_seqItems hS rfl ?_)
  (show wpAny _ A.in1 (tryCatch (pyNext (.ref I)) _ >>= _) _ _ s);refine wpAny_bind (wpAny_tryCatch (W.item (j+1) s _ _ hlt hst fun v h' tk hP hst' hk' => ?_))
  have hS':=hk' S _ hSw hS
  (show wpAny _ A.in1 (tryCatch (holding [v,v] (richCompare .Lt v vb >>= _)) _ >>= _) _ _ _);refine wpAny_bind (wpAny_tryCatch (wpAny_holding (wpAny_bind (hcmp (j+1) (argBest bt j) v vb _ _ _ hP hPb ?_))))
  refine wpAny_bind (wpAny_holding (wpAny_truthy_bool ?_));refine wpAny_bind (wpAny_letGo (wpAny_pure ?_))
  cases hb:bt (j+1) (argBest bt j) with
  | true =>
   simp only [if_true];refine wpAny_bind ?_;refine wpAny_updateSeq hS' rfl (wpAny_bind (wpAny_letGo ?_));rw [rE]
   refine wpAny_pure ⟨plainId_quiet PySem.F.plain_min_loop _,ih (j+1) _ v _ ⋯ hlt (W.frame _ _ _ hst' fun b hbf o e => ?_) (by simp only [argBest,hb,if_true];exact hP) (Heap.get?_update_self _ hS' rfl) fun v' h'' tk'' hP' hk'' => ?_⟩
   ·exact (Heap.get?_update_other _ _ (fun z:S=b=>hSf (by rw [z];exact hbf))).trans e
   ·exact hR v' h'' tk'' hP' fun b o hbw hbS e=>hk'' b o hbw hbS ((Heap.get?_update_other _ _ (Ne.symm hbS)).trans (hk' b o hbw e))
  | false =>
   simp only [Bool.false_eq_true,if_false];refine wpAny_bind (wpAny_letGo ?_);rw [rE]
   exact wpAny_pure ⟨plainId_quiet PySem.F.plain_min_loop _,ih (j+1) _ vb c ⋯ hlt hst' (by simp only [argBest,hb,Bool.false_eq_true,if_false];exact hPb) hS' fun v' h'' tk'' hP' hk''=>hR v' h'' tk'' hP' fun b o hbw hbS e=>hk'' b o hbw hbS (hk' b o hbw e)⟩
theorem yO (W:Walks prog w A.in1 I fp wr n P St) (bt:Nat->Nat->Bool) (hcmp:CmpOf prog w A.in1 .Lt P bt) (S:Addr) (hSf:S∉fp) (hst:St 0 s.heap)
  (hS:s.heap.get? S=some { cls:=.type "list",dict:=none,data:=.seq #[] c,slots := #[] })
  (h0:n=0->∀ h' tk,(∀ b o,b∉wr->s.heap.get? b=some o->h'.get? b=some o)->R (.ok (.ret d)) { s with heap:=h',toks:=tk })
  (hR:0<n->∀ v h' tk,P (argBest bt (n - 1)) v->(∀ b o,b∉wr->b≠S->s.heap.get? b=some o->h'.get? b=some o)->R (.ok (.ret v)) { s with heap:=h',toks:=tk }) :
  codeAny ↥25 A (.builtin "min.loop" ⟨[.ref I,.none,.ref S],dfl d⟩) R s:=by
 have hSw:S∉wr:=fun z=>hSf (W.sub _ z)
 refine codeAny_builtin PySem.F.entry_min_loop ?_;rw [Around.under_plainId PySem.F.plain_min_loop _]
 (show wpAny _ A.in1 (seqItems? (.ref S) >>= _) _ _ s);refine wpAny_bind (wpAny_seqItems hS rfl ?_)
 by_cases hn:n=0
 ·(show wpAny _ A.in1 (tryCatch (pyNext (.ref I)) _ >>= _) _ _ s);refine wpAny_bind (wpAny_tryCatch (W.done s _ _ (hn▸hst) fun h' tk hk' => ?_))
  (show wpAny _ A.in1 (rule _ >>= _) _ _ _);refine wpAny_bind (wpAny_rule (wpAny_pure ?_))
  exact h0 hn h' tk hk'
 ·(show wpAny _ A.in1 (tryCatch (pyNext (.ref I)) _ >>= _) _ _ s);refine wpAny_bind (wpAny_tryCatch (W.item 0 s _ _ ⋯ hst fun v h' tk hP hst' hk' => ?_))
  have hS':=hk' S _ hSw hS
  (show wpAny _ A.in1 (updateSeq S (fun _ => #[v,v]) >>= _) _ _ _);refine wpAny_bind ?_;refine wpAny_updateSeq hS' rfl ?_;rw [rE]
  refine wpAny_pure ⟨plainId_quiet PySem.F.plain_min_loop _,Bi W bt hcmp S hSf _ 0 _ v _ rfl ⋯ (W.frame _ _ _ hst' fun b hbf o e => ?_) hP (Heap.get?_update_self _ hS' rfl) fun v' h'' tk'' hP' hk'' => ?_⟩
  ·exact (Heap.get?_update_other _ _ (fun z:S=b=>hSf (by rw [z];exact hbf))).trans e
  ·exact hR ⋯ v' h'' tk'' hP' fun b o hbw hbS e=>hk'' b o hbw hbS ((Heap.get?_update_other _ _ (Ne.symm hbS)).trans (hk' b o hbw e))
end
section
variable {prog:Program} {w:World} {A:Around} {E:Value->Shared->Prop} {s:Shared} {l:Addr} {xs:Array (Int×Tok)}
theorem IM (h1:builtinKind i=none) (h2:plainId i=true) (h3:entryFor table i=some f) (h4:argsOk i ⟨us,ks⟩)
  (h:wpAny ↥25 A.in1 (f ⟨us,ks⟩) (fun x s'=>match x with | .done r=>(match (Except.ok r:Result) with | .ok (.ret v)=>Q v s' | .ok _=>False | .error e=>E e s') | .again c=>c.quiet=true/\codeAny ↥25 A c (fun r s'=>match r with | .ok (.ret v)=>Q v s' | .ok _=>False | .error e=>E e s') s') E s) :
  wpAny ↥25 A (call (.builtin i) us ks) Q E s:=by
 refine wpAny_call (codeAny_call_builtin h2 h3 ?_);simp only [checkBuiltinCall,h1]
 cases q:Manifest.signature? i with
 | none=>exact wpAny_pure h
 | some sg=>simp only [show Bind.checkArgs i sg ⟨us,ks⟩=pure () by simpa only [argsOk,q] using h4];exact wpAny_pure h
theorem Cf (a v:Value):argsOk "min" ⟨[a],dfl v⟩:=by unfold argsOk;kernel_rfl
theorem Bj (hh:A.handled=none) (hl:s.heap.IsList l (intItems xs))
  (h:∀ v h' tk,(xs.size=0/\v=d\/0<xs.size/\(intItems xs)[argBest (fun i j=>decide (numAt xs i<numAt xs j)) (xs.size - 1)]? = some v)->(∀ b o,s.heap.get? b=some o->h'.get? b=some o)->Q v { s with heap:=h',toks:=tk }) :
  wpAny ↥25 A (call (.builtin "min") [.ref l] (dfl d)) Q E s:=by
 refine IM PySem.F.kind_min PySem.F.plain_min PySem.F.entry_min (Cf _ _) ?_
 (show wpAny _ A.in1 (Builtin.Builtins.bindParams "min" ["key","default"] 0 ⟨[],dfl d⟩ >>= _) _ _ s);refine wpAny_bind (wpAny_of_eq (show Builtin.Builtins.bindParams "min" ["key","default"] 0 ⟨[],dfl d⟩=pure [none,some d] from rfl) ?_)
 refine wpAny_bind (wpAny_pure ?_);refine wpAny_bind (iter_intList hl fun s₂ e st hfp hlI => ?_)
 subst e
 refine wpAny_bind (wpAny_newObj_type ?_);rw [rE]
 have hz:(intItems xs).size=xs.size:=by simp [intItems]
 refine wpAny_pure ⟨plainId_quiet PySem.F.plain_min_loop _,yO (Walks.list (A:=A.in1) hh _ l hlI (intItems xs)) _ (CmpOf.ints_lt (numAt xs) (fun _ _=>intItems_at)) _ (fun z=>Nat.lt_irrefl _ (hfp _ z)) ((Walks.list (prog:=prog) (w:=w) (A:=A.in1) hh _ l hlI (intItems xs)).frame _ _ _ st fun b _ o e=>Heap.get?_push_of_some _ e) (Heap.get?_push_size _ rfl) (fun z h' tk hk => ?_) fun z v h' tk hP hk => ?_⟩
 ·exact h d h' tk (.inl ⟨by rw [<- hz];exact z,rfl⟩) (old_kept (l:=l) fun b o hb e=>hk b o hb (Heap.get?_push_of_some _ e))
 ·exact h v h' tk (.inr ⟨by rw [<- hz];exact z,by rw [<- hz];exact hP⟩) (old_kept (l:=l) fun b o hb e=>hk b o hb (Nat.ne_of_lt (Heap.lt_size e)) (Heap.get?_push_of_some _ e))
end
theorem xK {f:Nat->Int} {n:Int} {ns:List Int} (h0:f 0=n) (h1:∀ i,i<ns.length->ns[i]? = some (f (i+1))):∀ k,k<=ns.length->f (argBest (fun i j=>decide (f i<f j)) k)=(ns.take k).foldl min n
 | 0,_=>by rw [List.take_zero];exact h0
 | k+1,hk=>by
  have ih:=xK h0 h1 k ⋯
  rw [List.take_succ,h1 k ⋯,List.foldl_append]
  show f (if decide (f (k+1)<f (argBest _ k))=true then k+1 else argBest _ k)=min ((ns.take k).foldl min n) (f (k+1))
  rw [<- ih]
  by_cases g:f (k+1)<f (argBest (fun i j=>decide (f i<f j)) k)
  ·rw [if_pos (by simpa using g)];omega
  ·rw [if_neg (by simpa using g)];omega
section
variable {X:Cx} {N:List Str} {e:Expr} {g:E} {pos:Pos}
theorem L7:NoX (sG k):=fun ds C z=>by
 unfold sG at z
 split at z
 ·split at z<;>cases z
 ·cases z
theorem MQ (hc:X.calm=true) {k:Int} {t:Tok} (pins:List ↥14) (s:Shared) (σ:L2.St) (H:Hp) (xs:List V) (us:List Value) (Q:VK) (I:Inv X pins σ H s) (rs:Vals xs us) (h:rC X (sG k) xs H Q) :
  wpAny ↥8 X.A (call (.builtin "min") us (dfl (.int k t))) (EP X pins σ Q) X.xe s:=by
 obtain ⟨ds,d,r,e,q⟩:=h
 unfold sG at e
 split at e
 ·rename_i ds'
  cases hns:intsOf ds' with
  | none=>rw [hns] at e;cases e
  | some ns =>
   obtain ⟨v,rfl,r1⟩:=pM r
   cases r1 with
   | @lst a ys _ hq rr =>
    obtain ⟨its,rv,pl,_⟩:=I.list hq
    obtain ⟨ts,e1,e2⟩:=oH hns rr rv
    cases rs with
    | cons h1 h2 =>
     cases h2
     cases h1
     have hl:s.heap.IsList a (intItems ts.toArray):=by
      have:=pl.isList
      rw [e1] at this
      rw [show intItems ts.toArray=(ts.map fun p=>Value.int p.1 p.2).toArray by simp [intItems]]
      exact this
     refine Bj (I.ok.hd hc) hl fun v h' tk hv hk => ?_
     have fin:∀ (m:Int) (t':Tok),v=.int m t'->d=.int m->EP X pins σ Q v { s with heap:=h',toks:=tk }:=fun m t' ev ed=>by
      subst ev ed
      exact ⟨.int m,H,I.kept (t':=tk) hk,⟨_,rfl⟩,q _ _ ↥30 (.int _)⟩
     have hlen:ts.length=ns.length:=by rw [<- e2,List.length_map]
     cases ns with
     | nil =>
      rw [hns] at e
      rcases hv with ⟨_,hv⟩ | ⟨z,_⟩
      ·exact fin k t hv (R.ok.inj e).symm
      ·rw [List.size_toArray,hlen] at z;exact absurd z (Nat.lt_irrefl 0)
     | cons n ns =>
      rw [hns] at e
      rcases hv with ⟨z,_⟩ | ⟨_,hv⟩
      ·rw [List.size_toArray] at z;rw [z] at hlen;cases hlen
      ·obtain ⟨t',ev⟩:=intItems_at hv
       have at_:∀ i,numAt ts.toArray i=((n::ns)[i]?).getD 0:=fun i=>by
        rw [<- e2];unfold numAt;simp
       have bm:=xK (f:=numAt ts.toArray) (n:=n) (ns:=ns) (by rw [at_];rfl) (fun i hi=>by rw [at_];simp [List.getElem?_eq_getElem hi]) ns.length ↥38
       rw [List.take_length] at bm
       have hs:ts.toArray.size - 1=ns.length:=by rw [List.size_toArray,hlen,List.length_cons];omega
       rw [hs,bm] at ev
       exact fin _ t' ev (R.ok.inj e).symm
 ·cases e
theorem MN (hc:X.calm=true) (G:Gb X "min") (hm:X.mg "min"=none) {j} (ha:SA X [e] [g])
  (he:backTo pos (starEach [e] X.env)=(false,eval e X.env)::backTo pos (starEach [] X.env):=by rfl) (hpl:(backTo pos (starEach [e] X.env)).any (·.1)=false:=by rfl) :
  SE X (.Call (.Name "min" p) [e] [⟨some "default",.Constant (.int k) j cp,kp⟩] pos) (EV.call (sG k) [g]):=by
 intro pins s σ H Q I ⟨δ,hσ,q⟩
 refine wpAny_Call_Name_kw (xv I G.g hm boot_min ?_ G.n G.d)
 refine callWith_kw (thn (ha pos pins s σ H (fun vs H'=>∃ ds,aD H H'/\Reps X.K X.mg H' vs ds/\RQ X σ H' (sG k ds) Q) I ⟨δ,hσ,?_⟩) fun us s1 ⟨vs,H1,I1,r1,ds,s01,rp,q1⟩ => ?_) he hpl
 ·exact (RA.bind q).to fun vs H' s ⟨s',ds,rs,q⟩=>⟨ds,s',rs,q⟩
 ·refine kws_cons (thn (af pins s1 σ H1 (fun v H'=>v=.int k/\aD H1 H') I1 ⟨δ,hσ.mono s01,fun v H' s' r=>by cases r;exact ⟨rfl,s'⟩⟩) fun u s2 ⟨v,H2,I2,rv,ev,sm⟩=>kws_nil ?_)
  subst ev
  obtain ⟨t,rfl⟩:=rv
  obtain ⟨ds',d,r,e',q'⟩:=RQ.cl L7 rp q1
  exact MQ hc pins s2 σ H2 vs us Q I2 r1 ⟨ds',d,r.mono sm,e',fun v H' s'=>q' v H' (sm.trans s')⟩
end
end ES
namespace ES
open PySem PySem.Spec PyProof.Rows L2 EV
unseal SE ST SW SA SS SSs SI SO
set_option maxRecDepth 8000 in
theorem Ji (a:Addr) (xs:Array Value) (k:Nat) (t:Addr) (ys:Array Value) (m:Nat) (dd:Option Addr) (sl:Array (Option Value)) (z0:¬(!xs.isEmpty&&Builtin.List.listTooLong (xs.size+ys.size))=true) (z1:xs.size<=sizeLine) (z2:xs.size+ys.size<=sizeLine+1) :
  Meets (Builtin.«list.extend» ⟨[.ref a,.ref t],[]⟩) (fun _ R s=>s.heap.get? a=some { cls:=.type "list",dict:=none,data:=.seq xs k,slots := #[] }/\s.heap.get? t=some { cls:=.type "tuple",dict:=dd,data:=.seq ys m,slots:=sl }/\R (.ok (.ret Value.none)) { s with heap:=s.heap.update a (Obj.mapSeq fun x=>x++ys),toks:=s.toks }) :=
 .of_wp fun prog w A R s q=>by
  obtain ⟨hp,g,d,tk,os⟩:=s;obtain ⟨ha,ht,q⟩:=q;have f1:=PySem.AutoSeq1.idx_int;have f2:=PySem.AutoSeq1.sub_tuple_tuple;have f3:=PySem.AutoSeq1.sub_list_list;have f4:=PySem.AutoSeq1.sub_tuple_list;have f5:=PySem.AutoSeq1.sub_list_tuple
  have z3:(xs++ys).size<=sizeLine+1:=by rw [Array.size_append];exact z2
  wp_walk using (wpAny_updateSeq ha rfl (hz:=z1) (_hz':=z3)),PySem.AutoSeq1.wpAny_loadPart' ha,PySem.AutoSeq1.wpAny_loadPart' ht;exact ⟨_,rfl,q⟩
section
variable {X:Cx} {N:List Str} {e:Expr} {g:E} {pos:Pos}
def N2 (X:Cx):V->List V->Hp->VK->Prop:=fun x vs H Q=>∃ l b xs zs,x=.ref l/\vs=[.ref b]/\H l=some (.lst xs)/\SqT X.K H b zs/\xs.length+zs.length<=sizeLine/\Q .non (upd H l (.lst (xs++zs)))
theorem II:MtM X "list.extend" (N2 X):=by
 intro pins s σ H x vs v us Q I rx rv h
 obtain ⟨l,b,xs,zs,rfl,rfl,hH,hB,hz,q⟩:=h
 cases rx
 obtain ⟨u,rfl,ru⟩:=rv.one
 cases ru
 obtain ⟨z,its,n,r,hl,e⟩:=I.lstM hH
 obtain ⟨its2,r2,⟨⟨cl,dd,da,sl⟩,e2,hc,n2,hd⟩,hl2⟩:=I.tuple hB
 simp only at hc hd
 subst hc hd
 have hl3:=r2.length
 have hsz:its.toArray.size+its2.toArray.size<=sizeLine:=by rw [List.size_toArray,List.size_toArray];omega
 have hlong:¬ (!its.toArray.isEmpty&&Builtin.List.listTooLong (its.toArray.size+its2.toArray.size))=true:=by rw [Ec hsz,Bool.and_false];exact Bool.false_ne_true
 refine call_meets PySem.F.slot_list_extend ⟨_,e,rfl⟩ PySem.F.entry_list_extend (PySem.F.args_list_extend_2 _ _) (Ji l its.toArray n b its2.toArray n2 dd sl hlong (by rw [List.size_toArray];omega) ⋯) ⟨e,e2,?_⟩
 exact ⟨.non,_,I.lset (its':=its++its2) hH e (by simp) (r.append r2) (by rw [List.length_append];omega),rfl,q⟩
theorem Dp (C:Sx X N) (i:Nat) (hN:N[i]? = some x) (he:SE X e g)
  (hbase:attributeBase (.Name x p1) "extend" X.env (eval (.Name x p1) X.env)=eval (.Name x p1) X.env:=by rfl)
  (hfew:((backTo p3 (starEach [e] X.env)).all (fun x => !x.1)&&(backToKw p3 (keywordEach [] X.env)).all (fun x=>x.1.isSome)
   && decide ([e].length+([]:List Keyword).length+(if ([]:List Keyword).isEmpty then 0 else 1)<30))=true:=by rfl)
  (hline:(p2.endLine == p3.line)=true:=by rfl) (hs:starEach [e] X.env=[(false,eval e X.env)]:=by rfl)
  (hsw:swapsWith (.Call (.Attribute (.Name x p1) "extend" p2) [e] [] p3) none pos.line X.env=pure false:=by rfl) :
  SS X (.Expr (.Call (.Attribute (.Name x p1) "extend" p2) [e] [] p3) pos) (lX i g):=by
 have hm:x∈N:=List.mem_of_getElem? hN
 refine PS.weak (vx (LH PySem.F.plainAttrs_list PySem.F.slot_list_extend PySem.F.type_list_extend II (tG (i:=i) (by rw [C.sc.n];exact hN) (C.sc.vis x hm) (C.sc.dbg x hm).1 (C.sc.dbg x hm).2) (oj (wj he) tK hs) hbase hfew hline hs (by rfl)) hsw) fun D σ H ⟨δ,os,S,q⟩ => ?_
 unfold lX lL at q
 split at q
 ·rename_i ds ei
  obtain ⟨a,ha⟩:=S.own i ds ei
  obtain ⟨xs,ds',h1,h2,h3,h4⟩:=S.lst _ ha
  rw [ei] at h3
  cases h3
  refine ⟨.ref a,h2,.inl ⟨rfl,xs,SqL.of h1⟩,δ,os,S,?_,?_⟩
  ·intro d ed
   unfold J3 at q
   rw [ed] at q
   cases d with
   | tup es =>
    simp only at q
    split at q
    ·rename_i z;exact z.1
    ·exact False.elim q
   | _=>exact False.elim q
  ·unfold J3 at q
   cases r:g (view δ) with
   | ok d =>
    rw [r] at q
    cases d with
    | tup es =>
     simp only at q
     split at q
     ·rename_i z
      intro v H' S' sm rp
      obtain ⟨xs',ds',k1,k2,k3,k4⟩:=S'.lst _ ha
      rw [ei] at k3
      cases k3
      cases rp with
      | @tup b ys _ hq rr =>
       refine ⟨a,b,xs',ys,rfl,rfl,k1,gF (bq _ _) hq,by rw [k4.length,rr.length,sizeLine_eq];omega,?_⟩
       have S2:=S'.write ha (k4.append rr)
       exact q _ _ _ S2 (by rw [rL (jE ha)];exact sm)
     ·exact False.elim q
    | _=>exact False.elim q
   | ex C=>rw [r] at q;exact fun Ca hc H' s' st=>q σ H' s' st Ca hc
   | bad=>rw [r] at q;exact False.elim q
 ·exact False.elim q
theorem Jh (G:Gb X "list") (hm:X.mg "list"=none) (h:SE X e g) (he:starEach [e] X.env=[(false,eval e X.env)]:=by rfl) (hpl:(backTo pos (starEach [] X.env)).any (·.1)=false:=by rfl) :
  FE X (.Call (.Name "list" p) [e] [] pos) (EV.call uE [g]):=by
 refine PE.weak (tH ui G.g hm boot_list (oj h tK he) G.n G.d he hpl) fun σ H Q ⟨δ,hσ,q⟩=>⟨δ,hσ,?_⟩
 unfold EV.call at q
 have fin:∀ {H':Hp} {a:Addr} {ys:List V} {ds:List D},RF X σ H (dC ds) Q->aD H H'->(SqL X.K H' a ys\/SqT X.K H' a ys)->Reps X.K X.mg H' ys ds->∃ p zs,[V.ref a]=[V.ref p]/\(SqL X.K H' p zs\/SqT X.K H' p zs)/\∀ l,H' l=none->Q (.ref l) (upd H' l (.lst zs)):=by
  intro H' a ys ds q sm hq rr
  unfold dC at q
  split at q
  ·rename_i fl
   have q':∀ a xs H'',aD H H''->H a=none->H'' a=some (.lst xs)->Reps X.K X.mg H'' xs ds->EV.D.flats ds=true->Q (.ref a) H'':=q
   exact ⟨a,ys,rfl,hq,fun l hl=>q' l ys _ (sm.trans (bb hl _)) (by
    cases z:H l with
    | none=>rfl
    | some o=>rw [sm l o z] at hl;cases hl) bz (rr.mono (bb hl _)) fl⟩
  ·exact False.elim q
 cases r:g δ with
 | ok d =>
  have ev:evs [g] δ=.ok [d]:=by unfold evs;rw [r];rfl
  rw [ev] at q
  simp only [R.bind] at q
  intro v H' sm rp
  cases d with
  | tup ds =>
   cases rp with
   | @tup a ys _ hq rr=>exact fin q sm (.inr hq) rr
  | lst ds =>
   cases rp with
   | @lst a ys _ hq rr=>exact fin q sm (.inl hq) rr
  | _=>exact False.elim q
 | ex C =>
  have ev:evs [g] δ=.ex C:=by unfold evs;rw [r];rfl
  rw [ev] at q
  exact q
 | bad =>
  have ev:evs [g] δ=.bad:=by unfold evs;rw [r];rfl
  rw [ev] at q
  exact False.elim q
theorem OB:NoX JQ:=fun ds C z=>by
 unfold JQ at z
 split at z
 ·split at z<;>cases z
 ·cases z
theorem qg:∀ {xs:List V} {ds:List D} {bs:List Bool} {us:List Value},boolsOf ds=some bs->Reps X.K X.mg H xs ds->Vals xs us->us=bs.map Value.bool
 | _,[],_,_,e,.nil,.nil=>by cases e;rfl
 | _,.bl b::r,bs,_,e,.cons h t,.cons h' t'=>by
  cases h
  unfold boolsOf at e
  cases q:boolsOf r with
  | none=>rw [q] at e;cases e
  | some ms =>
   rw [q] at e
   have e':b::ms=bs:=Option.some.inj e
   subst e'
   cases h'
   rw [qg q t t',List.map_cons]
 | _,.non::_,_,_,e,_,_=>by cases e
 | _,.int _::_,_,_,e,_,_=>by cases e
 | _,.str _::_,_,_,e,_,_=>by cases e
 | _,.tup _::_,_,_,e,_,_=>by cases e
 | _,.lst _::_,_,_,e,_,_=>by cases e
 | _,.own _::_,_,_,e,_,_=>by cases e
 | _,.ty _::_,_,_,e,_,_=>by cases e
 | _,.cls _::_,_,_,e,_,_=>by cases e
 | _,.exc _::_,_,_,e,_,_=>by cases e
 | _,.ins _ _::_,_,_,e,_,_=>by cases e
theorem OW (hc:X.calm=true):iD X (.builtin "any") (rC X JQ):=by
 intro pins s σ H xs us Q I rs ⟨ds,d,r,e,q⟩
 unfold JQ at e
 split at e
 ·rename_i ds'
  cases hbs:boolsOf ds' with
  | none=>rw [hbs] at e;cases e
  | some bs =>
   rw [hbs] at e
   cases e
   obtain ⟨v,rfl,r1⟩:=pM r
   cases r1 with
   | @lst a ys _ hq rr =>
    obtain ⟨its,rv,pl,_⟩:=I.list hq
    have e1:=qg hbs rr rv
    cases rs with
    | cons h1 h2 =>
     cases h2
     cases h1
     have hl:=pl.isList
     rw [e1] at hl
     have hlt:a<s.heap.objs.size:=by obtain ⟨_,z,_⟩:=hl;exact Heap.lt_size z
     refine call_any_walk (wpAny_pyIter_list hl ⟨_,_,_,_,_,_,fun i=>(bs[i]?).getD false,rfl,Walks.list (A:=X.A.in1) (I.ok.hd hc) _ a (Nat.ne_of_lt hlt) (bs.map Value.bool).toArray,⟨⟨_,Heap.get?_push_size _ rfl,rfl,rfl⟩,hl.push _⟩,?_,fun h' tk hk => ?_⟩)
     ·intro i v s' Q' E' hP hQ
      have hQ':Q' ((bs[i]?).getD false) s':=hQ
      have hP':((bs.map Value.bool).toArray)[i]? = some v:=hP
      rw [List.getElem?_toArray,List.getElem?_map] at hP'
      cases hb:bs[i]? with
      | none=>rw [hb] at hP';cases hP'
      | some b =>
       rw [hb] at hP' hQ'
       cases hP'
       exact wpAny_truthy_bool hQ'
     ·have hold:∀ b o,s.heap.get? b=some o->h'.get? b=some o:=fun b o z=>hk b o (fun hm=>by
       rcases List.mem_cons.mp hm with e2 | hm
       ·exact absurd (e2▸Heap.lt_size z) (Nat.lt_irrefl _)
       ·cases hm) (Heap.get?_push_of_some _ z)
      have ea:(List.range (bs.map Value.bool).toArray.size).any (fun i=>(bs[i]?).getD false)=bs.any id:=by
       rw [List.size_toArray,List.length_map]
       apply Bool.eq_iff_iff.mpr
       simp only [List.any_eq_true,List.mem_range,id]
       constructor
       ·rintro ⟨i,hi,z⟩
        rw [List.getElem?_eq_getElem hi] at z
        exact ⟨_,List.getElem_mem hi,z⟩
       ·rintro ⟨b,hb,z⟩
        obtain ⟨i,hi,rfl⟩:=List.getElem_of_mem hb
        exact ⟨i,hi,by rw [List.getElem?_eq_getElem hi];exact z⟩
      rw [ea]
      exact ⟨.bl _,H,I.kept (t':=tk) hold,rfl,q _ _ ↥30 (.bl _)⟩
 ·cases e
end
end ES
namespace ES
open PySem PySem.Spec PyProof.Rows L2 EV
structure DA (K:PySem.W.Frag) (n:Str) (st:Stmt):Prop where
 ex:∃ f fd,PySem.W.nsIn K mainGlobals n=some (some (.ref f))/\Fun K n n st f fd
theorem Jw {K:PySem.W.Frag} {n:Str} {st:Stmt} {f:Addr} {oc:Value} {od an:Option Addr} {osl:Array (Option Value)} {kV doc pm cdv ct:Value} (a:PySem.W.nsIn K mainGlobals n=some (some (.ref f))) (l:K.lookup f=some ⟨oc,od,.func (PySem.W.fnOf n n (gB st) (aj st) (aa st) .none kV doc pm an cdv ct),osl⟩)
  (c:PySem.W.codeIn K cdv n=true) (k:PySem.W.keepIn K (.ref f)=true):DA K n st:=⟨_,_,a,p8 l c k⟩
theorem DA.fn {P:Program} {w:World} {K:PySem.W.Frag} {h:Heap} {mg:Str->Option Value} {base:Heap} {n:Str} {st:Stmt} {N G ps:List Str} {k a m:Nat} {g:S}
  (q:DA K n st) (KX:K.In h) (GG:h.Ns mainGlobals mg) (S:ScF N G ps (aa st)) (hn:ps.length=a) (hm:N.length=m) (B:∀ {f:Addr} {fd:FuncData},Fun K n n st f fd->Binds K fd ps [])
  (hbody:∀ X:Cx,Room k (at5 X P w K mg base).A->Lp (at5 X P w K mg base)->Own (at5 X P w K mg base)->Pl (at5 X P w K mg base) N G->(at5 X P w K mg base).env.scope=aa st->SSs (at5 X P w K mg base) (aj st) g) :
  FnP P w K mg base n (k+1) (fn a m g):=by
 obtain ⟨f,fd,a,F⟩:=q.ex
 exact MG (ua F S hn hm hbody) F.kp (PySem.W.mg_of KX GG a) (B F)
theorem FnP.c (F:FnP X.prog X.w X.K X.mg X.base x k f) (hr:Room j X.A) (h:k<=j:=by decide):Callee X x f:=F.callee hr h
end ES
local macro_rules | `(tactic| walk_at "S")=>`(tactic| exact ⟨⟨rfl,rfl,rfl,by decide +kernel,by decide +kernel,by decide +kernel,by decide +kernel⟩,by decide +kernel,by decide +kernel,by decide +kernel,by decide +kernel⟩)
namespace EV
def O8:List Nat->Dt->List D->Option Dt
 | [],δ,[]=>some δ
 | i::is,δ,d::ds=>O8 is (δ.set i (some d)) ds
 | _,_,_=>none
end EV
namespace ES
open PySem PySem.Spec PyProof.Rows L2 EV
unseal SE ST SW SA SS SSs SI SO
section
variable {X:Cx}
end
end ES
namespace ES
open PySem PySem.Spec PyProof.Rows L2 EV
unseal SE ST SW SA SS SSs SI SO
def gIs:List Nat->TGs
 | []=>Te
 | i::is=>MA (yZ i) (gIs is)
section
variable {X:Cx} {N:List Str} {e:Expr} {es:List Expr} {g:IT} {gb:S} {body:List Stmt} {is:List Nat} {pos:Pos}
theorem Ua:∀ {is:List Nat} {xs:List V} {ds:List D} {σ:L2.St} {δ δ2:Dt} {os:List (Nat×Addr)},StO X H σ δ os->Reps X.K X.mg ↥36 xs ds->O8 is δ ds=some δ2->(∀ σ2 os2,StO X H σ2 δ2 os2->aD ↥36 (hide H os2)->Q σ2 H)->gIs is xs σ H Q
 | [],xs,ds,σ,δ,δ2,os,S,r,e,q=>by
  cases r with
  | nil=>cases e;exact ⟨rfl,q _ _ S ↥30⟩
  | cons _ _=>cases e
 | i::is,xs,ds,σ,δ,δ2,os,S,r,e,q=>by
  cases r with
  | nil=>cases e
  | cons ra rr =>
   obtain ⟨S2,s2⟩:=S.set (i:=i) ra
   exact ⟨_,_,rfl,Ua S2 (rr.mono s2) e fun σ2 os2 S3 s3=>q σ2 os2 S3 (s2.trans s3)⟩
end
end ES
namespace ES
open PySem PySem.Spec PyProof.Rows L2 EV
section
variable {X:Cx} {N G:List Str} {e e1 e2 e3 e4:Expr} {es:List Expr} {g g1 g2 g3 g4:E} {gs:List E} {x:Str} {p pos:Pos} {f:List D->R D}
theorem Pl.v (P:Pl X N G) (i:Nat) (h:N[i]? = some x:=by rfl):SE X (.Name x pos) (var i):=rW P.sc i h
theorem Pl.w (P:Pl X N G) (i:Nat) (h:G[i]? = some x:=by rfl):Gb X x:=P.gb _ (mG i h)
theorem Pl.set (P:Pl X N G) (i:Nat) (h:SE X e g) (hN:N[i]? = some x:=by rfl) (hsw:swapsWith e (some (.Name x p)) pos.line X.env=pure false:=by rfl):SS X (.Assign [.Name x p] e pos) (assign i g):=NW P.toSx i hN (P.sto _ (mG i hN)) h hsw
theorem Pl.ret (P:Pl X N G) (h:SE X e g):SS X (.Return (some e) pos) (ret g):=NX P.toSx h
theorem Pl.if_ {c:Expr} {gc:E} {body els:List Stmt} {gb ge:S} (P:Pl X N G) (hc:ST X c gc) (ha:SSs X body gb) (hb:SSs X els ge):SS X (.If c body els pos) (ifs gc gb ge):=TZ P.toSx hc ha hb
theorem Pl.xp (P:Pl X N G) (h:SE X e g) (hs:swapsWith e none pos.line X.env=pure false:=by rfl):SS X (.Expr e pos) (expr g):=K9 P.toSx h hs
theorem Pl.y {j} (P:Pl X N G) (i:Nat) (h:N[i]? = some x:=by rfl):SE X (.Subscript (.Name x p1) (.Constant (.int k) j p2) pos) (bin oIx (var i) (con (.int k))):=ze (rW P.sc i h) af
theorem Pl.call (P:Pl X N G) (i:Nat) (c:Callee X x f) (ha:SA X (e::es) gs) (h:G[i]? = some x:=by rfl) (he:starEach (e::es) X.env=(false,eval e X.env)::starEach es X.env:=by rfl) (hpl:(backTo pos (starEach es X.env)).any (·.1)=false:=by rfl) :
  SE X (.Call (.Name x p) (e::es) [] pos) (EV.call f gs):=uf c (P.gb _ (mG i h)) ha he hpl
theorem a1 (h1:SE X e1 g1) (s1:starEach [e1] X.env=(false,eval e1 X.env)::starEach [] X.env:=by rfl):SA X [e1] [g1]:=ag h1 bj s1
theorem a2 (h1:SE X e1 g1) (h2:SE X e2 g2) (s1:starEach [e1,e2] X.env=(false,eval e1 X.env)::starEach [e2] X.env:=by rfl) (s2:starEach [e2] X.env=(false,eval e2 X.env)::starEach [] X.env:=by rfl):SA X [e1,e2] [g1,g2]:=ag h1 (ag h2 bj s2) s1
theorem a3 (h1:SE X e1 g1) (h2:SE X e2 g2) (h3:SE X e3 g3) (s1:starEach [e1,e2,e3] X.env=(false,eval e1 X.env)::starEach [e2,e3] X.env:=by rfl) (s2:starEach [e2,e3] X.env=(false,eval e2 X.env)::starEach [e3] X.env:=by rfl) (s3:starEach [e3] X.env=(false,eval e3 X.env)::starEach [] X.env:=by rfl):SA X [e1,e2,e3] [g1,g2,g3]:=ag h1 (ag h2 (ag h3 bj s3) s2) s1
end
end ES
local macro_rules | `(tactic| walk_at "C")=>`(tactic| exact ⟨rfl,by decide +kernel,by decide +kernel,by decide +kernel,by decide +kernel,by decide +kernel,by decide +kernel,by decide +kernel,by decide +kernel,by decide +kernel⟩)
namespace ES
open PySem PySem.Spec PyProof.Rows L2 EV
unseal SE ST SW SA SS SSs SI SO
section
variable {X:Cx} {pos:Pos} {a b:Expr} {ga gb:E}
end
end ES
namespace EV
end EV
namespace ES
open PySem PySem.Spec PyProof.Rows L2 EV
unseal SE ST SW SA SS SSs SI SO
section
variable {X:Cx} {pos:Pos} {a b:Expr} {ga gb:E}
end
end ES
namespace EV
end EV
namespace ES
open PySem PySem.Spec PyProof.Rows L2 EV
unseal SE ST SW SA SS SSs SI SO
section
variable {X:Cx} {pos p p2:Pos} {a e:Expr} {g:E} {lo hi:Option Expr} {gl gu:Option E}
structure IsW (X:Cx) (n:String) (C:Addr):Prop where
 mg:X.mg n=some (.ref C)
 cl:Cls X.K C
 ha:PySem.W.findIn X.K (.ref C) "__class__"=some (some (.builtin "object.__class__"))
 hn:PySem.W.specialIn X.K (.builtin "object.__class__") "__get__"=some (some (.builtin "getset_descriptor.__get__"))
 htk:PySem.W.takesIn X.K (.builtin "object.__class__")=some true
 hm:PySem.W.mroIn X.K C (.type "object")=some true
 kit:PySem.W.kitOne X.K (.ref C) (.ref C)=some true
end
end ES
namespace EV
def zf (x:PySem.Str) (i:Int):PySem.Str:=if i<=x.cps.size then x else ⟨(List.replicate (i.toNat - x.cps.size) 48).toArray++x.cps⟩
end EV
namespace ES
open PySem PySem.Spec PyProof.Rows L2 EV
unseal SE ST SW SA SS SSs SI SO
section
variable {X:Cx} {pos:Pos} {a b:Expr} {ga gb:E}
end
end ES
namespace EV
end EV
namespace ES
open PySem PySem.Spec PyProof.Rows L2 EV
unseal SE ST SW SA SS SSs SI SO
section
variable {X:Cx} {pos:Pos} {a b:Expr} {ga gb:E}
end
end ES
namespace EV
def dv (l:List Nat):Nat:=l.foldl (fun a c=>a*10+(c - 48)) 0
end EV
namespace ES
open PySem PySem.Spec PyProof.Rows L2 EV
unseal SE ST SW SA SS SSs SI SO
section
variable {X:Cx} {pos:Pos} {tg e a b:Expr} {g ga gb:E}
end
end ES
namespace EV
end EV
namespace ES
open PySem PySem.Spec PyProof.Rows L2 EV
abbrev IsZ (h:Heap) (z TI TO:Addr) (f0:Value) (b:Bool):Prop :=
 h.get? z=some { cls:=.type "zip",dict:=none,data:=.fields #[f0,.bool b,.bool false,.ref TI,.ref TO],slots := #[] }
section
variable {prog:Program} {w:World} {A:Around} {E:Value->Shared->Prop} {s:Shared}
end
structure Zs (h:Heap) (z TI TO i1 i2 l1 l2 S N0:Addr) (xs ys:Array Value) (i:Nat) (acc:Array Value):Prop where
 zf:(IsZip h z TI TO .none/\∃ a b,IsPair h TO a b)\/∃ (T:Addr) (b:Bool),IsZ h z TI TO (rawInt T) b/\(∃ o,h.get? T=some o)/\N0<=T
 ti:IsPair h TI (.ref i1) (.ref i2)
 h1:h.IsListIter i1 l1 i
 h2:h.IsListIter i2 l2 i
 hl1:h.IsList l1 xs
 hl2:h.IsList l2 ys
 sz:N0<=h.objs.size
 al:acc.size=i
 ac:∀ (j:Nat) (v:Value),acc[j]? = some v->∃ (a:Addr) (x y:Value),v=Value.ref a/\xs[j]? = some x/\ys[j]? = some y/\IsPair h a x y/\N0<=a
 inj:∀ (j j':Nat) (a:Addr),acc[j]? = some (Value.ref a)->acc[j']? = some (Value.ref a)->j=j'
structure Zap (z TI TO i1 i2 l1 l2 S N0:Addr):Prop where
 D:ZipApart z TI TO i1 i2 l1 l2
 zN:z<N0
 TIN:TI<N0
 TON:TO<N0
 i1N:i1<N0
 i2N:i2<N0
 SN:S<N0
 Sz:S≠z
 STI:S≠TI
 STO:S≠TO
 Si1:S≠i1
 Si2:S≠i2
 Sl1:S≠l1
 Sl2:S≠l2
section
variable {prog:Program} {w:World} {A:Around} {R:Result->Shared->Prop} {z TI TO i1 i2 l1 l2 S N0:Addr} {xs ys:Array Value}
end
section
variable {prog:Program} {w:World} {A:Around} {E:Value->Shared->Prop} {s:Shared} {xs ys:Array Value}
end
section
variable {X:Cx} {pins:List ↥14} {σ:L2.St} {H H':Hp} {s:Shared}
end
unseal SE ST SW SA SS SSs SI SO
section
variable {X:Cx} {a b:Expr} {ga gb:E} {p p2 pos pos2:Pos}
end
end ES
namespace ES
open PySem PySem.Spec PyProof.Rows L2 EV
unseal SE ST SW SA SS SSs SI SO
section
variable {X:Cx} {N:List Str} {e e2:Expr} {g g2:E} {pos:Pos}
end
end ES
namespace EV
end EV
namespace ES
open PySem PySem.Spec PyProof.Rows L2 EV
unseal SE ST SW SA SS SSs SI SO
section
variable {prog:Program} {w:World} {A:Around} {E:Value->Shared->Prop} {s:Shared}
end
section
variable {X:Cx} {a b:Expr} {ga gb:E} {p p2 pos pos2:Pos}
end
end ES
namespace ES
open PySem PySem.Spec PyProof.Rows L2 EV
unseal SE ST SW SA SS SSs SI SO
section
variable {X:Cx} {pins:List ↥14} {σ:L2.St} {H:Hp} {s:Shared} {h':Heap}
end
section
variable {X:Cx} {a b:Expr} {ga gb:E} {p pos:Pos}
end
section
variable {X:Cx}
end
section
variable {prog:Program} {w:World} {A:Around} {E:Value->Shared->Prop} {s:Shared}
end
section
variable {X:Cx} {N:List Str} {e:Expr} {es:List Expr} {g:E} {is:List Nat} {pos:Pos}
end
end ES
namespace ES
open PySem PySem.Spec PyProof.Rows L2 EV
section
variable {K:PySem.W.Frag} {mg:Str->Option Value} {Cs ns:List (String×Addr)} {q:String×Addr}
end
end ES
namespace T
open EV
def fi:S :=
 seq (assign 1 (bin oMod (var 0) ⇑8))
 (seq (assign 2 (bin oDiv (var 0) ⇑8))
 (seq (ifs (bin oEq (var 1) ⇑0) (ret (cF [⇑5,⇑10])) (aq))
 (seq (ifs (bin oEq (var 1) ⇑1) (ret (cF [⇑8,⇑23])) (aq))
 (seq (ifs (bin oEq (var 1) ⇑2) (ret (cF [⇑11,⇑52])) (aq))
 (seq (ifs (bin oEq (var 1) ⇑3) (ret (cF [⇑15,⇑112])) (aq))
 (seq (ifs (bin oLt (var 1) ⇑6) (ret (cF [bin bx ⇑2 (bin oMod (var 2) ⇑14),bin bx ⇑1 (bin oMod (bin oDiv (var 2) ⇑14) ⇑112)])) (aq))
 (ret (cF [bin bx ⇑2 (bin oMod (var 2) ⇑4),bin bx ⇑1 (bin oMod (bin oDiv (var 2) ⇑4) ⇑5)]))))))))
def dk:List D->R D:=fn 1 3 fi
def fo:S :=
 seq (ifs (bin oLt (var 1) (call zu [var 0])) (ret (bin oIx (var 0) (var 1))) (aq))
 (ret ⇑0)
def cx:List D->R D:=fn 2 2 fo
def iC:S :=
 ret (bin oMod (bin cW (var 0) ⇑73846150927364518273645509182736455091827) (var 1))
def b8:List D->R D:=fn 2 2 iC
def fq:S :=
 seq (assign 2 (bin bH ⇑1 (bin bx ↥7 ↥2)))
 (seq (assign 3 ↥18)
 (seq (assign 4 (bin oMod (var 1) ⇑10))
 (seq (assign 5 (bin oDiv (var 1) ⇑10))
 (seq (ifs (bin oLt (var 4) ⇑3) (ret (call b8 [var 5,bin cW ⇑2 (var 2)])) (aq))
 (seq (assign 6 (bin oMod (var 5) ⇑2))
 (seq (assign 5 (bin oDiv (var 5) ⇑2))
 (seq (ifs (bin oEq (var 4) ⇑3) (assign 7 (bin oMod (var 5) (bin bH ⇑2 ↥2))) (ifs (bin oEq (var 4) ⇑4) (assign 7 (bin bT (bin bx (var 3) ⇑1) (bin oMod (var 5) ⇑5))) (ifs (bin oEq (var 4) ⇑5) (assign 7 (bin oIx (rG [⇑0,⇑1,bin bT (bin bH ⇑1 ↥2) ⇑1,bin bH ⇑1 ↥2,bin bT (var 3) ⇑1,var 3]) (bin oMod (var 5) ⇑6))) (seq (assign 8 (bin bx (bin bT (bin bH ⇑1 (bin bT ↥7 ⇑1)) ⇑5) (bin oMod (var 5) ⇑9)))
 (seq (assign 8 (call B8 [⇑0,call E1 [var 8,bin bT (bin bH ⇑1 ↥7) ⇑1]]))
 (assign 7 (bin bx (bin bH (var 8) ↥2) (call b8 [bin oDiv (var 5) ⇑9,bin bH ⇑1 ↥2]))))))))
 (ret (bin bx (bin cW (var 6) (var 2)) (var 7))))))))))
def aH:List D->R D:=fn 2 9 fq
def gj:S :=
 ret (bin oIx (rG [con (.str "even"),con (.str "away"),con (.str "nought"),con (.str "up"),con (.str "down")]) (bin oMod (var 0) ⇑5))
def d5:List D->R D:=fn 1 1 gj
def gm:S :=
 seq (assign 2 (bin bH ⇑1 (bin bx ↥7 ↥2)))
 (seq (assign 3 ↥18)
 (seq (assign 4 (bin oMod (var 1) ⇑5))
 (seq (assign 5 (bin oDiv (var 1) ⇑5))
 (seq (assign 6 (bin cW (bin oMod (var 5) ⇑2) (var 2)))
 (seq (ifs (bin oEq (var 4) ⇑0) (ret (bin bx (bin bx (bin bx (var 6) (var 3)) ⇑1) (bin oMod (bin oDiv (var 5) ⇑2) (bin bT (bin bH ⇑1 ↥2) ⇑1)))) (aq))
 (seq (ifs (bin oEq (var 4) ⇑1) (ret (bin bx (var 6) (var 3))) (aq))
 (seq (ifs (bin oEq (var 4) ⇑2) (ret (var 6)) (aq))
 (ret (call aH [var 0,var 5])))))))))
def b7:List D->R D:=fn 2 7 gm
def fm:S :=
 seq (assign 4 (bin bH ⇑1 (bin bx ↥7 ↥2)))
 (seq (assign 5 (bin bT (bin bH ⇑1 (bin bT ↥7 ⇑1)) ⇑1))
 (seq (assign 6 (bin oMod (var 2) ⇑9))
 (seq (assign 7 (bin oDiv (var 2) ⇑9))
 (seq (ifs (bin oLt (var 6) ⇑5) (seq (assign 8 (bin bT (bin bT (bin oMod (var 7) (bin bx ↥2 ⇑8)) ↥2) ⇑4))
 (seq (ifs (bin oLt (var 6) ⇑2) (assign 8 (bin bx (bin bT (bin bH ⇑1 ↥7) ⇑5) (bin oMod (var 7) ⇑7))) (aq))
 (seq (assign 9 (bin tY (bin oMod (var 1) (var 4)) ↥2))
 (seq (ifs (var 3) (assign 8 (bin bT (var 9) (var 8))) (assign 8 (bin bT (var 8) (var 9))))
 (seq (assign 9 (call B8 [⇑0,call E1 [bin bx (var 5) (var 8),bin cW ⇑2 (var 5)]]))
 (seq (assign 10 (bin oIx (rG [⇑0,bin bH ⇑1 (bin bT ↥2 ⇑1),bin bT (bin bH ⇑1 ↥2) ⇑1,call b8 [var 7,bin bH ⇑1 ↥2]]) (bin oMod (bin oDiv (var 7) ⇑3) ⇑4)))
 (ret (bin bx (bin bx (bin cW (bin oMod (bin oDiv (var 7) ⇑5) ⇑2) (var 4)) (bin bH (var 9) ↥2)) (var 10))))))))) (aq))
 (seq (ifs (bin oEq (var 6) ⇑5) (ret (bin eZ (var 1) (bin cW (bin oMod (var 7) ⇑2) (var 4)))) (aq))
 (seq (ifs (bin oEq (var 6) ⇑6) (ret (call b7 [var 0,var 7])) (aq))
 (ret (call aH [var 0,var 7]))))))))
def dm:List D->R D:=fn 4 11 fm
def fk:S :=
 seq (assign 5 (bin oDiv (var 4) ⇑3))
 (seq (ifs (bin oEq (bin oMod (var 4) ⇑3) ⇑0) (ret (bin oIx (var 1) (bin oMod (var 5) (call zu [var 1])))) (aq))
 (seq (ifs (bin oLt (var 3) ⇑2) (ret (bin eZ (bin eZ (var 2) (bin bH (bin oMod (var 5) ⇑2) (bin bx ↥7 ↥2))) (bin oMod (bin oDiv (var 5) ⇑2) ⇑8))) (aq))
 (ret (call dm [var 0,var 2,var 5,bin oEq (var 3) ⇑3]))))
def cv:List D->R D:=fn 5 6 fk
def iB:S :=
 seq (assign 2 (bin tY (var 1) ↥2))
 (seq (ifs (bin oEq (var 2) ⇑0) (ret (var 1)) (aq))
 (ret (bin bH (bin bx (bin bH ⇑1 ↥2) (bin oMod (var 1) (bin bH ⇑1 ↥2))) (bin bT (var 2) ⇑1))))
def au:List D->R D:=fn 2 3 iB
def dW:S :=
 seq (assign 4 (bin bH ⇑1 (bin bx ↥7 ↥2)))
 (seq (assign 5 ↥18)
 (seq (assign 6 ↥22)
 (seq (assign 7 (bin oMod (var 3) ⇑6))
 (seq (assign 8 (bin oDiv (var 3) ⇑6))
 (seq (ifs (bin oGt (var 7) ⇑3) (ret (call aH [var 0,var 8])) (aq))
 (seq (ifs (bin oEq (var 7) ⇑3) (ret (call b7 [var 0,var 8])) (aq))
 (seq (assign 9 (bin tY (bin cW (call au [var 0,bin oMod (var 1) (var 4)]) (call au [var 0,bin oMod (var 2) (var 4)])) (var 6)))
 (seq (assign 10 (var 9))
 (seq (ifs (bin oGt (bin tY (var 9) ↥2) ⇑0) (seq (assign 12 (bin bT (bin bT (call iW [var 9]) ↥2) ⇑1))
 (assign 10 (bin bx (bin bH (var 12) ↥2) (bin tY (var 9) (var 12))))) (aq))
 (seq (assign 11 (bin oMod (bin bx (bin oDiv (bin eZ (var 1) (var 2)) (var 4)) ⇑1) ⇑2))
 (seq (ifs (bin oEq (var 7) ⇑2) (seq (assign 11 (bin oMod (bin oDiv (var 8) ⇑3) ⇑2))
 (assign 10 (bin bT (var 10) (bin bH (bin bx ↥2 (bin oMod (bin oDiv (var 8) ⇑6) ⇑3)) ↥2)))) (aq))
 (seq (assign 10 (call B8 [⇑0,call E1 [bin bT (bin bx (var 10) (bin oMod (var 8) ⇑3)) ⇑1,bin bT (var 5) ⇑1]]))
 (ret (bin bx (bin cW (var 11) (var 4)) (var 10)))))))))))))))
def bS:List D->R D:=fn 4 13 dW
def nc:S :=
 seq (ifs (bin eC (var 0) (con (.tup [.str "even",.str "away",.str "nought",.str "up",.str "down"]))) (raise "NoWay") (aq))
 (ret (call (mk1 "Way" "name") [var 0]))
def aQ:List D->R D:=fn 1 1 nc
def ju:S :=
 ret (bin bH ⇑1 (bin bx ↥7 ↥2))
def bQ:List D->R D:=fn 1 1 ju
def rP:S :=
 ret (bin bx (bin bx ↥7 ↥2) ⇑1)
def om:List D->R D:=fn 1 1 rP
def nq:S :=
 seq (ifs (or_ (bin oLt (var 1) ⇑0) (bin oGe (var 1) (bin bH ⇑1 (call om [var 0])))) (raise "NoBits") (aq))
 (seq (assign 2 (bin oMod (var 1) (call bQ [var 0])))
 (seq (assign 3 (bin bH ⇑1 ↥2))
 (ret (cF [bin oDiv (var 1) (call bQ [var 0]),bin oDiv (var 2) (var 3),bin oMod (var 2) (var 3)]))))
def br:List D->R D:=fn 2 4 nq
def gq:S :=
 ret (bin bT (bin bH ⇑1 ↥7) ⇑1)
def aT:List D->R D:=fn 1 1 gq
def xA:S :=
 seq (assign 2 (call br [var 0,var 1]))
 (seq (assign 3 (bin oIx (var 2) ⇑1))
 (seq (assign 4 (bin oIx (var 2) ⇑2))
 (seq (ifs (bin oEq (var 3) ⇑0) (ret (ife (bin oEq (var 4) ⇑0) (con (.str "nought")) (con (.str "faint")))) (aq))
 (seq (ifs (bin oEq (var 3) (call aT [var 0])) (ret (ife (bin oEq (var 4) ⇑0) (con (.str "endless")) (con (.str "none")))) (aq))
 (ret (con (.str "plain")))))))
def bf:List D->R D:=fn 2 5 xA
def cO:S :=
 seq (assign 1 ↥2)
 (seq (assign 2 (bin oIx (var 0) ⇑2))
 (seq (ifs (bin oGe (var 2) ⇑0) (ret (cF [bin oIx (var 0) ⇑0,bin bH (var 1) (var 2),⇑1])) (aq))
 (ret (cF [bin oIx (var 0) ⇑0,var 1,bin bH ⇑1 (un Im (var 2))]))))
def aW:List D->R D:=fn 1 3 cO
def xB:S :=
 ret (bin bT (bin bH ⇑1 (bin bT ↥7 ⇑1)) ⇑1)
def tL:List D->R D:=fn 1 1 xB
def Es:S :=
 ret (bin bT (bin bT ⇑1 (call tL [var 0])) ↥2)
def ko:List D->R D:=fn 1 1 Es
def rO:S :=
 seq (assign 2 (call br [var 0,var 1]))
 (seq (assign 3 (bin oIx (var 2) ⇑0))
 (seq (assign 4 (bin oIx (var 2) ⇑1))
 (seq (assign 5 (bin oIx (var 2) ⇑2))
 (seq (ifs (bin oEq (var 4) (call aT [var 0])) (raise "NotFinite") (aq))
 (seq (ifs (bin oEq (var 4) ⇑0) (ret (cF [var 3,var 5,call ko [var 0]])) (aq))
 (ret (cF [var 3,bin bx (bin bH ⇑1 ↥2) (var 5),bin bT (bin bx (call ko [var 0]) (var 4)) ⇑1])))))))
def jU:List D->R D:=fn 2 6 rO
def jA:S :=
 ret (call aW [call jU [var 0,var 1]])
def bG:List D->R D:=fn 2 2 jA
def cR:S :=
 ifs (or_ (bin oLt (var 0) ⇑0) (bin oLt (var 1) ⇑1)) (raise "NoFraction") (aq)
def aJ:List D->R D:=fn 2 2 cR
def cP:S :=
 seq (ifs (bin oEq (var 0) ⇑0) (ret ⇑0) (aq))
 (seq (ifs (bin oLt (var 1) (var 2)) (ret ⇑1) (aq))
 (ret (ife (bin oEq (var 1) (var 2)) ⇑2 ⇑3)))
def aX:List D->R D:=fn 3 3 cP
def kF:S :=
 ret (call aX [var 0,bin cW ⇑2 (var 0),var 1])
def fH:List D->R D:=fn 2 2 kF
def bw:S :=
 seq (ifs (bin oEq (un (zy "Way" "name") (var 0)) (con (.str "up"))) (ret (bin oEq (var 1) ⇑0)) (aq))
 (ret (eB (bin oEq (un (zy "Way" "name") (var 0)) (con (.str "down"))) (bin oEq (var 1) ⇑1)))
def aV:List D->R D:=fn 2 2 bw
def dO:S :=
 seq (ifs (bin oEq (var 3) ⇑0) (ret (con ↥35)) (aq))
 (seq (ifs (bin oEq (un (zy "Way" "name") (var 0)) (con (.str "even"))) (ret (or_ (bin oEq (var 3) ⇑3) (eB (bin oEq (var 3) ⇑2) (var 2)))) (aq))
 (seq (ifs (bin oEq (un (zy "Way" "name") (var 0)) (con (.str "away"))) (ret (bin oGe (var 3) ⇑2)) (aq))
 (ret (IK "Way" "flees_nought" aV (var 0) [var 1]))))
def b9:List D->R D:=fn 4 4 dO
def jt:S :=
 seq (assign 4 (call aQ [var 0]))
 (seq (expr (call aJ [var 2,var 3]))
 (seq (assign 5 (bin oDiv (var 2) (var 3)))
 (seq (assign 6 (call fH [bin oMod (var 2) (var 3),var 3]))
 (ret (ife (IK "Way" "grows" b9 (var 4) [var 1,bin oEq (bin rq (var 5) ⇑1) ⇑1,var 6]) (bin bx (var 5) ⇑1) (var 5))))))
def gH:List D->R D:=fn 4 7 jt
def cy:S :=
 seq (assign 2 (call gH [var 0,bin oIx (var 1) ⇑0,bin oIx (var 1) ⇑1,bin oIx (var 1) ⇑2]))
 (ret (cF [var 2,ife (bin oNe (bin cW (var 2) (bin oIx (var 1) ⇑2)) (bin oIx (var 1) ⇑1)) ⇑1 ⇑0]))
def bD:List D->R D:=fn 2 3 cy
def nj:S :=
 seq (ifs (bin oGe (var 2) ⇑0) (ret (cF [var 0,bin bH (var 1) (var 2)])) (aq))
 (ret (cF [bin bH (var 0) (un Im (var 2)),var 1]))
def eY:List D->R D:=fn 3 3 nj
def nC:S :=
 seq (assign 2 (bin bT (call iW [var 0]) (call iW [var 1])))
 (seq (assign 3 (call eY [var 0,var 1,var 2]))
 (ret (ife (bin oLt (bin oIx (var 3) ⇑0) (bin oIx (var 3) ⇑1)) (var 2) (bin bx (var 2) ⇑1))))
def iq:List D->R D:=fn 2 4 nC
def BA:S :=
 seq (expr (call aJ [var 1,var 2]))
 (seq (ifs (bin oEq (var 1) ⇑0) (ret (cF [⇑0,call ko [var 0],⇑0])) (aq))
 (seq (assign 3 (call B8 [call ko [var 0],bin bT (bin bT (call iq [var 1,var 2]) ↥2) ⇑1]))
 (seq (assign 4 (call eY [var 1,var 2,var 3]))
 (ret (cF [bin oDiv (bin oIx (var 4) ⇑0) (bin oIx (var 4) ⇑1),var 3,call fH [bin oMod (bin oIx (var 4) ⇑0) (bin oIx (var 4) ⇑1),bin oIx (var 4) ⇑1]])))))
def vB:List D->R D:=fn 3 5 BA
def kJ:S :=
 ret (bin bH (call aT [var 0]) ↥2)
def aZ:List D->R D:=fn 1 1 kJ
def nh:S :=
 ret (bin bx (bin cW (var 1) (call bQ [var 0])) (var 2))
def bK:List D->R D:=fn 3 3 nh
def gi:S :=
 seq (ifs (bin oEq (var 2) (call aZ [var 0])) (ret (bin bx ⇑1 ⇑4)) (aq))
 (seq (assign 3 (bin oLt (var 1) (bin bH ⇑1 ↥2)))
 (ret (ife (var 3) (bin bx ⇑1 ⇑2) ⇑1)))
def dZ:List D->R D:=fn 3 4 gi
def d7:S :=
 seq (ifs (bin oIn (un (zy "Way" "name") (var 0)) (cF [con (.str "even"),con (.str "away")])) (ret (con ↥26)) (aq))
 (ret (IK "Way" "flees_nought" aV (var 0) [var 1]))
def fY:List D->R D:=fn 2 2 d7
def kE:S :=
 seq (assign 6 (call aQ [var 1]))
 (seq (assign 7 (bin bx (bin bH (bin bT (var 4) (call ko [var 0])) ↥2) (var 3)))
 (seq (assign 8 (call aZ [var 0]))
 (seq (ifs (bin oGe (var 7) (var 8)) (seq (assign 9 (ife (IK "Way" "bursts" fY (var 6) [var 2]) (var 8) (bin bT (var 8) ⇑1)))
 (ret (cF [call bK [var 0,var 2,var 9],bin bx ⇑1 ⇑4]))) (aq))
 (seq (ifs (bin oEq (var 5) ⇑0) (ret (cF [call bK [var 0,var 2,var 7],⇑0])) (aq))
 (seq (assign 9 (ife (IK "Way" "grows" b9 (var 6) [var 2,bin oEq (bin rq (var 7) ⇑1) ⇑1,var 5]) (bin bx (var 7) ⇑1) (var 7)))
 (ret (cF [call bK [var 0,var 2,var 9],call dZ [var 0,var 7,var 9]])))))))
def fF:List D->R D:=fn 6 10 kE
def iU:S :=
 seq (expr (call aQ [var 1]))
 (seq (assign 5 (call vB [var 0,var 3,var 4]))
 (ret (call fF [var 0,var 1,var 2,bin oIx (var 5) ⇑0,bin oIx (var 5) ⇑1,bin oIx (var 5) ⇑2])))
def bE:List D->R D:=fn 5 6 iU
def iz:S :=
 ret (bin bx (call aZ [var 0]) (bin bH ⇑1 (bin bT ↥2 ⇑1)))
def aE:List D->R D:=fn 1 1 iz
def js:S :=
 seq (expr (call aQ [var 1]))
 (seq (assign 3 (call bf [var 0,var 2]))
 (seq (ifs (bin oEq (var 3) (con (.str "none"))) (ret (cF [call aE [var 0],⇑0])) (aq))
 (seq (ifs (bin oIn (var 3) (cF [con (.str "nought"),con (.str "endless")])) (ret (cF [var 2,⇑0])) (aq))
 (seq (assign 4 (call bG [var 0,var 2]))
 (seq (assign 5 (call bD [var 1,var 4]))
 (seq (assign 6 (call bE [var 0,var 1,bin oIx (var 4) ⇑0,bin oIx (var 5) ⇑0,⇑1]))
 (ret (cF [bin oIx (var 6) ⇑0,bin Cz (bin oIx (var 6) ⇑1) (bin oIx (var 5) ⇑1)]))))))))
def di:List D->R D:=fn 3 7 js
def fB:S :=
 seq (dI 2 (gw (itA (var 1)) [0] (con ↥26) (call bf [var 1,var 0])))
 (AE 2 (ret (bin oIn (con (.str "none")) (var 2))))
def bg:List D->R D:=fn 2 3 fB
def rQ:S :=
 seq (assign 1 (call (sG 0) [comp (itA (var 0)) [] (bin oIx (var 0) ⇑2)]))
 (seq (assign 2 ⇑0)
 (seq (J2 3 (itA (var 0)) (seq (assign 4 (bin bH (bin oIx (var 3) ⇑1) (bin bT (bin oIx (var 3) ⇑2) (var 1))))
 (assign 2 (ife (bin oEq (bin oIx (var 3) ⇑0) ⇑1) (bin bT (var 2) (var 4)) (bin bx (var 2) (var 4))))))
 (ret (cF [ife (bin oLt (var 2) ⇑0) ⇑1 ⇑0,call FW [var 2],var 1]))))
def oo:List D->R D:=fn 1 5 rQ
def fh:S :=
 seq (expr (call aQ [var 0]))
 (seq (ifs (eB (bin oIn ⇑0 (var 1)) (bin oIn ⇑1 (var 1))) (ret (ife (bin oEq (var 0) (con (.str "down"))) ⇑1 ⇑0)) (aq))
 (ret (ife (bin oIn ⇑1 (var 1)) ⇑1 ⇑0)))
def dj:List D->R D:=fn 2 2 fh
def cf:S :=
 seq (assign 3 (call aW [call oo [var 2]]))
 (seq (ifs (bin oEq (bin oIx (var 3) ⇑1) ⇑0) (seq (assign 4 (call dj [var 1,comp (itA (var 2)) [] ↥7]))
 (ret (cF [call bK [var 0,var 4,⇑0],⇑0]))) (aq))
 (ret (call bE [var 0,var 1,bin oIx (var 3) ⇑0,bin oIx (var 3) ⇑1,bin oIx (var 3) ⇑2])))
def aF:List D->R D:=fn 3 5 cf
def cg:S :=
 seq (dI 3 (gw (itA (var 2)) [] (un vE ↥2) ↥7))
 (seq (AE 3 (ifs (eB (bin oIn ⇑0 (var 3)) (bin oIn ⇑1 (var 3))) (ret (cF [call aE [var 0],⇑16])) (aq)))
 (seq (ifs (bin oGt (call zu [var 3]) ⇑0) (ret (cF [call bK [var 0,bin oIx (var 3) ⇑0,call aZ [var 0]],⇑0])) (aq))
 (ret (call aF [var 0,var 1,var 2]))))
def aS:List D->R D:=fn 3 4 cg
def dz:S :=
 seq (ifs (bin oEq (call bf [var 0,var 1]) (con (.str "endless"))) (ret (cF [bin oIx (call br [var 0,var 1]) ⇑0,con .non,⇑0])) (aq))
 (ret (call jU [var 0,var 1]))
def aG:List D->R D:=fn 2 2 dz
def dU:S :=
 seq (assign 3 (call aG [var 0,var 1]))
 (seq (assign 4 (call aG [var 0,var 2]))
 (seq (assign 5 (bin eZ (bin oIx (var 3) ⇑0) (bin oIx (var 4) ⇑0)))
 (seq (ifs (or_ (un vE (bin oIx (var 3) ⇑1)) (un vE (bin oIx (var 4) ⇑1))) (ret (cF [var 5,con .non,⇑0])) (aq))
 (ret (cF [var 5,bin cW (bin oIx (var 3) ⇑1) (bin oIx (var 4) ⇑1),bin bx (bin oIx (var 3) ⇑2) (bin oIx (var 4) ⇑2)])))))
def bR:List D->R D:=fn 3 6 dU
def du:S :=
 seq (assign 3 (cF [call bf [var 0,var 1],call bf [var 0,var 2]]))
 (ret (eB (bin oIn (con (.str "nought")) (var 3)) (bin oIn (con (.str "endless")) (var 3))))
def bo:List D->R D:=fn 3 4 du
def cz:S :=
 seq (expr (call aQ [var 1]))
 (seq (ot 4 (call uE [var 3]))
 (seq (J2 5 (itA (var 2)) (lX 4 (var 5)))
 (seq (OG (call bg [var 0,var 4]) (ret (cF [call aE [var 0],⇑0])) (aq))
 (seq (ifs (call JQ [comp (itA (var 2)) [0] (call bo [var 1,bin oIx (var 0) ⇑0,bin oIx (var 0) ⇑1])]) (ret (cF [call aE [var 0],⇑16])) (aq))
 (seq (dI 6 (gw (itA (var 2)) [0] (con ↥26) (call bR [var 1,bin oIx (var 0) ⇑0,bin oIx (var 0) ⇑1])))
 (AE 6 (ret (call aS [var 0,var 1,bin bx (var 6) (comp (itA (var 3)) [0] (call aG [var 1,var 0]))]))))))))
def ao:List D->R D:=fn 4 7 cz
def oJ:S :=
 ret (call ao [var 0,var 1,rG [],rG [var 2,var 3]])
def iR:List D->R D:=fn 4 4 oJ
def nz:S :=
 seq (ifs (or_ (bin oLt (var 1) ⇑0) (bin oGt (var 1) ⇑1)) (raise "NoParts") (aq))
 (seq (ifs (or_ (bin oLt (var 2) ⇑0) (bin oGt (var 2) (call aT [var 0]))) (raise "NoParts") (aq))
 (seq (ifs (or_ (bin oLt (var 3) ⇑0) (bin oGe (var 3) (bin bH ⇑1 ↥2))) (raise "NoParts") (aq))
 (ret (bin bx (bin bx (bin cW (var 1) (call bQ [var 0])) (bin bH (var 2) ↥2)) (var 3)))))
def kq:List D->R D:=fn 4 4 nz
def kG:S :=
 seq (assign 2 (call br [var 0,var 1]))
 (ret (call kq [var 0,bin bT ⇑1 (bin oIx (var 2) ⇑0),bin oIx (var 2) ⇑1,bin oIx (var 2) ⇑2]))
def iQ:List D->R D:=fn 2 3 kG
def rR:S :=
 seq (expr (call aQ [var 1]))
 (ret (call ao [var 0,var 1,rG [],rG [var 2,call iQ [var 0,var 3]]]))
def oq:List D->R D:=fn 4 4 rR
def gh:S :=
 ret (call ao [var 0,var 1,rG [cF [var 2,var 3]],rG []])
def cU:List D->R D:=fn 4 4 gh
def jw:S :=
 ret (call bE [var 0,var 1,bin eZ (bin oIx (var 2) ⇑0) (bin oIx (var 3) ⇑0),bin cW (bin oIx (var 2) ⇑1) (bin oIx (var 3) ⇑2),bin cW (bin oIx (var 2) ⇑2) (bin oIx (var 3) ⇑1)])
def gJ:List D->R D:=fn 4 4 jw
def kK:S :=
 seq (expr (call aQ [var 1]))
 (seq (ifs (call bg [var 0,rG [var 2,var 3]]) (ret (cF [call aE [var 0],⇑0])) (aq))
 (seq (assign 4 (call bf [var 0,var 2]))
 (seq (assign 5 (call bf [var 0,var 3]))
 (seq (ifs (eB (bin oEq (var 4) (var 5)) (bin oIn (var 4) (cF [con (.str "nought"),con (.str "endless")]))) (ret (cF [call aE [var 0],⇑16])) (aq))
 (seq (assign 6 (bin eZ (bin oIx (call br [var 0,var 2]) ⇑0) (bin oIx (call br [var 0,var 3]) ⇑0)))
 (seq (ifs (bin oEq (var 4) (con (.str "endless"))) (ret (cF [call bK [var 0,var 6,call aZ [var 0]],⇑0])) (aq))
 (seq (ifs (or_ (bin oEq (var 4) (con (.str "nought"))) (bin oEq (var 5) (con (.str "endless")))) (ret (cF [call bK [var 0,var 6,⇑0],⇑0])) (aq))
 (seq (ifs (bin oEq (var 5) (con (.str "nought"))) (ret (cF [call bK [var 0,var 6,call aZ [var 0]],⇑8])) (aq))
 (ret (call gJ [var 0,var 1,call bG [var 0,var 2],call bG [var 0,var 3]]))))))))))
def fI:List D->R D:=fn 4 7 kK
def rT:S :=
 ret (call ao [var 0,var 1,rG [cF [var 2,var 3]],rG [var 4]])
def lK:List D->R D:=fn 5 5 rT
def gf:S :=
 seq (ifs (bin oLt (var 0) ⇑0) (raise "NoFraction") (aq))
 (seq (assign 1 (bin bH ⇑1 (bin oDiv (bin bx (call iW [var 0]) ⇑1) ⇑2)))
 (seq (lU (bin oGt (bin cW (var 1) (var 1)) (var 0)) (assign 1 (bin oDiv (bin bx (var 1) (bin oDiv (var 0) (var 1))) ⇑2)))
 (ret (var 1))))
def dY:List D->R D:=fn 1 2 gf
def iy:S :=
 seq (assign 3 (bin cW (bin cW (bin bx (bin cW ⇑2 (var 2)) ⇑1) (bin bx (bin cW ⇑2 (var 2)) ⇑1)) (var 1)))
 (ret (call aX [bin bT (var 0) (bin cW (bin cW (var 2) (var 2)) (var 1)),bin cW ⇑4 (var 0),var 3]))
def fG:List D->R D:=fn 3 4 iy
def jv:S :=
 seq (expr (call aJ [var 1,var 2]))
 (seq (ifs (bin oEq (var 1) ⇑0) (ret (cF [⇑0,call ko [var 0],⇑0])) (aq))
 (seq (assign 3 (bin oDiv (bin bx (call iq [var 1,var 2]) ⇑1) ⇑2))
 (seq (assign 4 (call B8 [call ko [var 0],bin bT (bin bT (var 3) ↥2) ⇑1]))
 (seq (assign 5 (call eY [var 1,var 2,bin cW ⇑2 (var 4)]))
 (seq (assign 6 (call dY [bin oDiv (bin oIx (var 5) ⇑0) (bin oIx (var 5) ⇑1)]))
 (ret (cF [var 6,var 4,call fG [bin oIx (var 5) ⇑0,bin oIx (var 5) ⇑1,var 6]])))))))
def gI:List D->R D:=fn 3 7 jv
def iw:S :=
 seq (expr (call aQ [var 1]))
 (seq (ifs (call bg [var 0,rG [var 2]]) (ret (cF [call aE [var 0],⇑0])) (aq))
 (seq (ifs (or_ (bin oEq (call bf [var 0,var 2]) (con (.str "nought"))) (bin oEq (var 2) (call aZ [var 0]))) (ret (cF [var 2,⇑0])) (aq))
 (seq (ifs (bin oEq (bin oIx (call br [var 0,var 2]) ⇑0) ⇑1) (ret (cF [call aE [var 0],⇑16])) (aq))
 (seq (assign 3 (call bG [var 0,var 2]))
 (seq (assign 4 (call gI [var 0,bin oIx (var 3) ⇑1,bin oIx (var 3) ⇑2]))
 (ret (call fF [var 0,var 1,⇑0,bin oIx (var 4) ⇑0,bin oIx (var 4) ⇑1,bin oIx (var 4) ⇑2])))))))
def cq:List D->R D:=fn 3 5 iw
def iA:S :=
 ret (eB (call pR [var 0,con (.ty "int")]) (uY (call pR [var 0,con (.ty "bool")])))
def bW:List D->R D:=fn 1 1 iA
def kH:S :=
 seq (ifs (or_ (uY (call pR [var 0,con (.ty "tuple")])) (bin oNe (call zu [var 0]) ⇑2)) (ret (con ↥35)) (aq))
 (ret (eB (call bW [bin oIx (var 0) ⇑0]) (call bW [bin oIx (var 0) ⇑1])))
def bX:List D->R D:=fn 1 1 kH
def nu:S :=
 ret (eB (call bX [var 0]) (eB (bin oEq ↥7 (var 1)) (bin oEq ↥2 (var 2))))
def aR:List D->R D:=fn 3 3 nu
def kI:S :=
 seq (ifs (bin oEq (var 0) (con (.str "even"))) (ret (or_ (bin oGt (var 2) ⇑0) (eB (bin oEq (var 2) ⇑0) (var 3)))) (aq))
 (seq (ifs (bin oEq (var 0) (con (.str "away"))) (ret (bin oGe (var 2) ⇑0)) (aq))
 (ret (var 1)))
def dn:List D->R D:=fn 4 4 kI
def jy:S :=
 seq (ifs (bin oEq (var 0) (con (.str "even"))) (ret (or_ (bin oLt (var 2) ⇑0) (eB (bin oEq (var 2) ⇑0) (var 3)))) (aq))
 (seq (ifs (bin oEq (var 0) (con (.str "away"))) (ret (bin oLt (var 2) ⇑0)) (aq))
 (ret (uY (var 1))))
def cw:List D->R D:=fn 4 4 jy
def cQ:S :=
 seq (ifs (or_ (uY (call bW [var 2])) (bin oLt (var 2) ⇑0)) (ret (con ↥35)) (aq))
 (seq (assign 5 (or_ (eB (bin oEq (var 0) (con (.str "up"))) (bin oEq (var 1) ⇑0)) (eB (bin oEq (var 0) (con (.str "down"))) (bin oEq (var 1) ⇑1))))
 (seq (assign 6 (bin bT (var 3) (bin cW (var 2) (var 4))))
 (seq (ifs (bin oEq (var 6) ⇑0) (ret (con ↥26)) (aq))
 (seq (ifs (bin oGt (var 6) ⇑0) (ret (eB (bin oLt (var 6) (var 4)) (call cw [var 0,var 5,bin bT (bin cW ⇑2 (var 6)) (var 4),bin oEq (bin oMod (var 2) ⇑2) ⇑0]))) (aq))
 (ret (eB (bin oGt (var 6) (un Im (var 4))) (call dn [var 0,var 5,bin bx (bin cW ⇑2 (var 6)) (var 4),bin oEq (bin oMod (var 2) ⇑2) ⇑0])))))))
def bO:List D->R D:=fn 5 7 cQ
def cA:S :=
 seq (assign 4 (bin bH ⇑1 (bin bx ↥7 ↥2)))
 (seq (assign 5 ↥18)
 (seq (assign 6 (bin oMod (var 2) (var 4)))
 (seq (ifs (bin oGt (var 6) (var 5)) (ret (call aR [var 3,bin bx (var 5) (bin bH ⇑1 (bin bT ↥2 ⇑1)),⇑0])) (aq))
 (seq (ifs (or_ (bin oEq (var 6) (var 5)) (bin oEq (var 6) ⇑0)) (ret (call aR [var 3,var 2,⇑0])) (aq))
 (seq (ifs (uY (call bX [var 3])) (ret (con ↥35)) (aq))
 (seq (assign 7 (bin bT (bin oIx (var 3) ⇑0) (bin cW (bin oDiv (var 2) (var 4)) (var 4))))
 (seq (ifs (uY (chain oLe oLe ⇑0 (var 7) (var 5))) (ret (con ↥35)) (aq))
 (seq (assign 8 ↥22)
 (seq (assign 9 (call au [var 0,var 7]))
 (seq (assign 10 (call au [var 0,var 6]))
 (seq (ifs (or_ (bin oNe (bin oMod (var 9) (bin bH ⇑1 (var 8))) ⇑0) (uY (call bO [var 1,bin oDiv (var 2) (var 4),bin tY (var 9) (var 8),var 10,bin bH ⇑1 (var 8)]))) (ret (con ↥35)) (aq))
 (ret (bin oEq (bin oIx (var 3) ⇑1) (bin bx (call CC [bin oNe (var 9) (var 10)]) (bin cW ⇑4 (call CC [bin oEq (var 7) (var 5)]))))))))))))))))
def bF:List D->R D:=fn 4 11 cA
def cV:S :=
 seq (ifs (uY (call bX [var 5])) (ret (con ↥35)) (aq))
 (seq (assign 6 (bin bT (bin oIx (var 5) ⇑0) (bin bH (var 2) (bin bx ↥7 ↥2))))
 (seq (assign 7 ↥18)
 (seq (ifs (uY (chain oLe oLe ⇑0 (var 6) (var 7))) (ret (con ↥35)) (aq))
 (seq (assign 8 (bin cW (call au [var 0,var 6]) (var 4)))
 (seq (assign 9 (or_ ↥27 ↥24))
 (seq (ifs (eB (bin oEq (var 6) (var 7)) (bin oGe (var 3) (var 8))) (ret (eB (bin oEq (bin oIx (var 5) ⇑1) ⇑5) (or_ (bin oEq (var 1) (con (.str "even"))) (or_ (bin oEq (var 1) (con (.str "away"))) (var 9))))) (aq))
 (seq (ifs (bin oEq (var 3) (var 8)) (ret (bin oEq (bin oIx (var 5) ⇑1) ⇑0)) (aq))
 (seq (assign 10 ⇑1)
 (seq (ifs (bin oLt (var 3) (bin bH (var 4) ↥2)) (assign 10 ⇑3) (aq))
 (seq (ifs (bin oGt (var 3) (var 8)) (seq (assign 12 (bin cW (call au [var 0,bin bx (var 6) ⇑1]) (var 4)))
 (seq (ifs (bin oGe (var 3) (var 12)) (ret (eB (bin oEq (bin oIx (var 5) ⇑1) ⇑5) (eB (bin oEq (var 6) (bin bT (var 7) ⇑1)) (eB (bin oNe (var 1) (con (.str "even"))) ↥31)))) (aq))
 (ret (eB (bin oEq (bin oIx (var 5) ⇑1) (var 10)) (call cw [var 1,var 9,bin bT (bin bT (bin cW ⇑2 (var 3)) (var 8)) (var 12),bin oEq (bin oMod (var 6) ⇑2) ⇑0]))))) (aq))
 (seq (ifs (bin oEq (var 6) (var 7)) (assign 10 ⇑5) (aq))
 (seq (assign 11 (bin cW (call au [var 0,bin bT (var 6) ⇑1]) (var 4)))
 (seq (ifs (bin oLe (var 3) (var 11)) (ret (con ↥35)) (aq))
 (ret (eB (bin oEq (bin oIx (var 5) ⇑1) (var 10)) (call dn [var 1,var 9,bin bT (bin bT (bin cW ⇑2 (var 3)) (var 8)) (var 11),bin oEq (bin oMod (var 6) ⇑2) ⇑0]))))))))))))))))
def aP:List D->R D:=fn 6 13 cV
def dX:S :=
 seq (assign 4 (bin bx ↥7 ↥2))
 (seq (assign 5 ↥18)
 (seq (dI 6 (gw (itA (var 2)) [] (con ↥26) ↥7))
 (seq (AE 6 (dI 7 (gw (itA (var 2)) [] (bin oEq ↥7 (con (.str "endless"))) ↥2)))
 (seq (AE 7 (ifs (bin oIn (con (.str "none")) (var 6)) (ret (call aR [var 3,bin bx (var 5) (bin bH ⇑1 (bin bT ↥2 ⇑1)),⇑0])) (aq)))
 (seq (ifs (or_ (bin oIn (con (.str "wrong")) (var 6)) (eB (bin oIn ⇑0 (var 7)) (bin oIn ⇑1 (var 7)))) (ret (call aR [var 3,bin bx (var 5) (bin bH ⇑1 (bin bT ↥2 ⇑1)),⇑16])) (aq))
 (seq (ifs (bin oGt (call zu [var 7]) ⇑0) (ret (call aR [var 3,bin bx (bin bH (bin oIx (var 7) ⇑0) (var 4)) (var 5),⇑0])) (aq))
 (seq (assign 8 (call JO [comp (itA (var 2)) [] (bin cW (bin bT ⇑1 (bin cW ⇑2 ↥2)) (bin oIx (var 0) ⇑2))]))
 (seq (dI 9 (gw (itA (var 2)) [] (con ↥26) ↥2))
 (seq (AE 9 (ifs (bin oEq (var 8) ⇑0) (seq (assign 11 (call CC [eB (bin oIn ⇑1 (var 9)) (or_ (bin oEq (var 1) (con (.str "down"))) (bin eC ⇑0 (var 9)))]))
 (ret (call aR [var 3,bin bH (var 11) (var 4),⇑0]))) (aq)))
 (seq (assign 10 ↥22)
 (ret (call aP [var 0,var 1,call CC [bin oLt (var 8) ⇑0],call FW [var 8],bin bH ⇑1 (var 10),var 3]))))))))))))
def bc:List D->R D:=fn 4 12 dX
def bM:S :=
 seq (assign 5 (bin bH ⇑1 (bin bx ↥7 ↥2)))
 (seq (assign 6 ↥18)
 (seq (assign 7 (bin oMod (var 2) (var 5)))
 (seq (assign 8 (bin oMod (var 3) (var 5)))
 (seq (assign 9 (bin cW (bin oDiv (bin eZ (var 2) (var 3)) (var 5)) (var 5)))
 (seq (ifs (or_ (bin oGt (var 7) (var 6)) (bin oGt (var 8) (var 6))) (ret (call aR [var 4,bin bx (var 6) (bin bH ⇑1 (bin bT ↥2 ⇑1)),⇑0])) (aq))
 (seq (ifs (eB (bin oEq (var 7) (var 8)) (or_ (bin oEq (var 7) ⇑0) (bin oEq (var 7) (var 6)))) (ret (call aR [var 4,bin bx (var 6) (bin bH ⇑1 (bin bT ↥2 ⇑1)),⇑16])) (aq))
 (seq (ifs (bin oEq (var 7) (var 6)) (ret (call aR [var 4,bin bx (var 9) (var 6),⇑0])) (aq))
 (seq (ifs (bin oEq (var 8) ⇑0) (ret (call aR [var 4,bin bx (var 9) (var 6),⇑8])) (aq))
 (seq (ifs (or_ (bin oEq (var 7) ⇑0) (bin oEq (var 8) (var 6))) (ret (call aR [var 4,var 9,⇑0])) (aq))
 (seq (assign 10 ↥22)
 (seq (assign 11 (bin bH (call au [var 0,var 7]) (var 10)))
 (ret (call aP [var 0,var 1,bin oDiv (var 9) (var 5),var 11,call au [var 0,var 8],var 4])))))))))))))
def bp:List D->R D:=fn 5 12 bM
def dB:S :=
 seq (ifs (uY (call bX [var 3])) (ret (con ↥35)) (aq))
 (seq (assign 4 (bin oIx (var 3) ⇑0))
 (seq (ifs (uY (chain oLt oLt ⇑0 (var 4) ↥18)) (ret (con ↥35)) (aq))
 (seq (assign 5 (call au [var 0,var 4]))
 (seq (ifs (bin oEq (bin cW (var 5) (var 5)) (var 2)) (ret (bin oEq (bin oIx (var 3) ⇑1) ⇑0)) (aq))
 (seq (assign 6 ⇑1)
 (seq (ifs (bin oLt (var 2) (bin bH ⇑1 (bin cW ⇑2 ↥2))) (assign 6 ⇑3) (aq))
 (seq (ifs (bin oLt (bin cW (var 5) (var 5)) (var 2)) (seq (assign 10 (call au [var 0,bin bx (var 4) ⇑1]))
 (seq (assign 8 (bin bT (bin cW ⇑4 (var 2)) (bin AN (bin bx (var 5) (var 10)) ⇑2)))
 (seq (assign 11 (call cw [var 1,bin oEq (var 1) (con (.str "up")),var 8,bin oEq (bin oMod (var 4) ⇑2) ⇑0]))
 (ret (eB (bin oEq (bin oIx (var 3) ⇑1) (var 6)) (eB (bin oLt (var 2) (bin cW (var 10) (var 10))) (var 11))))))) (aq))
 (seq (assign 7 (call au [var 0,bin bT (var 4) ⇑1]))
 (seq (assign 8 (bin bT (bin cW ⇑4 (var 2)) (bin AN (bin bx (var 5) (var 7)) ⇑2)))
 (seq (assign 9 (call dn [var 1,bin oEq (var 1) (con (.str "up")),var 8,bin oEq (bin oMod (var 4) ⇑2) ⇑0]))
 (ret (eB (bin oEq (bin oIx (var 3) ⇑1) (var 6)) (eB (bin oLt (bin cW (var 7) (var 7)) (var 2)) (var 9))))))))))))))
def bZ:List D->R D:=fn 4 12 dB
def dA:S :=
 seq (assign 4 (bin bH ⇑1 (bin bx ↥7 ↥2)))
 (seq (assign 5 ↥18)
 (seq (ifs (bin oGt (bin oMod (var 2) (var 4)) (var 5)) (ret (call aR [var 3,bin bx (var 5) (bin bH ⇑1 (bin bT ↥2 ⇑1)),⇑0])) (aq))
 (seq (ifs (or_ (bin oEq (bin oMod (var 2) (var 4)) ⇑0) (bin oEq (var 2) (var 5))) (ret (call aR [var 3,var 2,⇑0])) (aq))
 (seq (ifs (bin oGe (var 2) (var 4)) (ret (call aR [var 3,bin bx (var 5) (bin bH ⇑1 (bin bT ↥2 ⇑1)),⇑16])) (aq))
 (seq (assign 6 ↥22)
 (ret (call bZ [var 0,var 1,bin bH (call au [var 0,var 2]) (var 6),var 3])))))))
def bY:List D->R D:=fn 4 7 dA
def jx:S :=
 seq (assign 2 (bin bH ⇑1 (bin bx ↥7 ↥2)))
 (seq (assign 3 ↥18)
 (seq (assign 4 ↥22)
 (seq (ifs (bin oGt (bin oMod (var 1) (var 2)) (var 3)) (ret (cF [con (.str "none"),⇑0,⇑0])) (aq))
 (seq (ifs (bin oEq (bin oMod (var 1) (var 2)) (var 3)) (ret (cF [con (.str "endless"),bin oDiv (var 1) (var 2),⇑0])) (aq))
 (ret (cF [con (.str "finite"),bin oDiv (var 1) (var 2),bin bH (call au [var 0,bin oMod (var 1) (var 2)]) (var 4)]))))))
def az:List D->R D:=fn 2 5 jx
def fj:S :=
 seq (assign 3 ↥22)
 (seq (assign 4 (call az [var 0,var 1]))
 (seq (assign 5 (call az [var 0,var 2]))
 (seq (assign 6 (bin eZ (bin oIx (var 4) ⇑1) (bin oIx (var 5) ⇑1)))
 (seq (ifs (or_ (bin oEq (bin oIx (var 4) ⇑0) (con (.str "none"))) (bin oEq (bin oIx (var 5) ⇑0) (con (.str "none")))) (ret (cF [con (.str "none"),⇑0,⇑0])) (aq))
 (seq (ifs (eB (bin oEq (bin oIx (var 4) ⇑0) (con (.str "finite"))) (bin oEq (bin oIx (var 5) ⇑0) (con (.str "finite")))) (ret (cF [con (.str "finite"),var 6,bin cW (bin tY (bin oIx (var 4) ⇑2) (var 3)) (bin tY (bin oIx (var 5) ⇑2) (var 3))])) (aq))
 (seq (ifs (or_ (eB (bin oEq (bin oIx (var 4) ⇑0) (con (.str "finite"))) (bin oEq (bin oIx (var 4) ⇑2) ⇑0)) (eB (bin oEq (bin oIx (var 5) ⇑0) (con (.str "finite"))) (bin oEq (bin oIx (var 5) ⇑2) ⇑0))) (ret (cF [con (.str "wrong"),⇑0,⇑0])) (aq))
 (ret (cF [con (.str "endless"),var 6,⇑0]))))))))
def cu:List D->R D:=fn 3 7 fj
def jz:S :=
 seq (ifs (bin oEq (var 2) ⇑0) (seq (assign 6 (call iR [var 0,var 1,var 3,var 4]))
 (ret (cF [call bc [var 0,var 1,rG [call az [var 0,var 3],call az [var 0,var 4]],var 6],var 6]))) (aq))
 (seq (ifs (bin oEq (var 2) ⇑1) (seq (assign 6 (call oq [var 0,var 1,var 3,var 4]))
 (seq (assign 7 (bin eZ (var 4) (bin bH ⇑1 (bin bx ↥7 ↥2))))
 (ret (cF [call bc [var 0,var 1,rG [call az [var 0,var 3],call az [var 0,var 7]],var 6],var 6])))) (aq))
 (seq (ifs (bin oEq (var 2) ⇑2) (seq (assign 6 (call cU [var 0,var 1,var 3,var 4]))
 (ret (cF [call bc [var 0,var 1,rG [call cu [var 0,var 3,var 4]],var 6],var 6]))) (aq))
 (seq (ifs (bin oEq (var 2) ⇑3) (seq (assign 6 (call fI [var 0,var 1,var 3,var 4]))
 (ret (cF [call bp [var 0,var 1,var 3,var 4,var 6],var 6]))) (aq))
 (seq (ifs (bin oEq (var 2) ⇑4) (seq (assign 6 (call lK [var 0,var 1,var 3,var 4,var 5]))
 (ret (cF [call bc [var 0,var 1,rG [call cu [var 0,var 3,var 4],call az [var 0,var 5]],var 6],var 6]))) (aq))
 (seq (ifs (bin oEq (var 2) ⇑5) (seq (assign 6 (call cq [var 0,var 1,var 3]))
 (ret (cF [call bY [var 0,var 1,var 3,var 6],var 6]))) (aq))
 (seq (assign 6 (call di [var 0,var 1,var 3]))
 (ret (cF [call bF [var 0,var 1,var 3,var 6],var 6]))))))))
def fz:List D->R D:=fn 6 8 jz
def Et:S :=
 seq (assign 1 (call dk [call cx [var 0,⇑0]]))
 (seq (ot 2 (Na [call aH [var 1,call cx [var 0,⇑1]]]))
 (seq (J2 3 (itA (slc (var 0) (some ⇑2) none)) (seq (assign 4 (bin oMod (var 3) ⇑8))
 (seq (assign 5 (bin oDiv (var 3) ⇑8))
 (seq (ifs (bin oEq (var 4) ⇑7) (seq (tM 2 (call aH [var 1,var 5]))
 (cont)) (aq))
 (seq (jY 6 (call d5 [bin bx (var 5) (call zu [var 2])]))
 (seq (jY 7 (bin oIx (var 2) (un Im ⇑1)))
 (seq (ifs (bin oEq (bin oMod (bin oDiv (var 5) ⇑5) ⇑3) ⇑0) (jY 7 (bin oIx (var 2) (bin oMod (bin oDiv (var 5) ⇑15) (call zu [var 2])))) (aq))
 (seq (jY 8 (call cv [var 1,var 2,var 7,var 4,bin oMod (bin cW (var 5) ⇑48271) ⇑2147483647]))
 (seq (assign 9 (call bS [var 1,var 7,var 8,bin oMod (bin cW (var 5) ⇑69621) ⇑2147483629]))
 (seq (wD 10 11 (call fz [var 1,var 6,var 4,var 7,var 8,var 9]))
 (seq (ifs (uY (var 10)) (ret (con ↥35)) (aq))
 (tM 2 (bin oIx (var 11) ⇑0)))))))))))))
 (ret (con ↥26))))
def DG:List D->R D:=fn 1 12 Et
end T
namespace T
open PySem PySem.Spec PyProof.Rows L2 EV ES
def top (i:Nat):Stmt:=PySem.Challenge.pw_roundmill_k34_whole_deeds.main.body.getD i (.Pass ⟨0,0,0,0⟩)
set_option maxHeartbeats 4000000
def jr:Stmt:=(eA (top 41)).getD 0 (.Pass ⟨0,0,0,0⟩)
def eJ:Stmt:=top 73
abbrev kU:List Str:=["_law_cell","_law_way","_law_rest"]
abbrev ll:List Str:=[]
theorem pF:ScF kU ll ["_law_cell"] (aa eJ):=by walk_at "S"
def eR:Stmt:=top 71
abbrev kZ:List Str:=["_law_script","_law_k"]
abbrev ly:List Str:=["len"]
theorem pJ:ScF kZ ly ["_law_script","_law_k"] (aa eR):=by walk_at "S"
def ik:Stmt:=top 75
abbrev pe:List Str:=["_law_cell","_law_many"]
abbrev pv:List Str:=[]
theorem sY:ScF pe pv ["_law_cell","_law_many"] (aa ik):=by walk_at "S"
def eV:Stmt:=top 76
abbrev la:List Str:=["_law_size","_law_cell","_law_top","_law_last","_law_way","_law_rest","_law_sign","_law_code","_law_field"]
abbrev lz:List Str:=["_law_mixed","max","min"]
theorem pK:ScF la lz ["_law_size","_law_cell"] (aa eV):=by walk_at "S"
def fV:Stmt:=top 74
abbrev l8:List Str:=["_law_cell"]
abbrev ml:List Str:=[]
theorem qO:ScF l8 ml ["_law_cell"] (aa fV):=by walk_at "S"
def fW:Stmt:=top 77
abbrev l9:List Str:=["_law_size","_law_cell","_law_top","_law_last","_law_way","_law_rest","_law_first"]
abbrev mn:List Str:=["_law_bits_by"]
theorem qP:ScF l9 mn ["_law_size","_law_cell"] (aa fW):=by walk_at "S"
def eQ:Stmt:=top 78
abbrev kY:List Str:=["_law_size","_law_bits","_law_cell","_law_turned","_law_top","_law_middle","_law_way","_law_rest","_law_goal","_law_field","_law_figures"]
abbrev lx:List Str:=["max","min","_law_mixed","_law_odd_by","_law_bits_by"]
theorem pI:ScF kY lx ["_law_size","_law_bits","_law_cell","_law_turned"] (aa eQ):=by walk_at "S"
def eO:Stmt:=top 94
abbrev kX:List Str:=["_law_size","_law_row","_law_a","_law_which","_law_cell","_law_rest"]
abbrev lr:List Str:=["len","_law_mate_by"]
theorem pH:ScF kX lr ["_law_size","_law_row","_law_a","_law_which","_law_cell"] (aa eO):=by walk_at "S"
def ij:Stmt:=top 81
abbrev pd:List Str:=["_law_size","_law_code","_law_field"]
abbrev pq:List Str:=[]
theorem sX:ScF pd pq ["_law_size","_law_code"] (aa ij):=by walk_at "S"
def dR:Stmt:=top 79
abbrev jL:List Str:=["_law_size","_law_a","_law_b","_law_cell","_law_top","_law_last","_law_steps","_law_way","_law_rest","_law_tall","_law_code","_law_sign","_law_more"]
abbrev jO:List Str:=["_law_bits_by","_law_odd_by","_law_value","max","min"]
theorem nQ:ScF jL jO ["_law_size","_law_a","_law_b","_law_cell"] (aa dR):=by walk_at "S"
def mO:Stmt:=top 42
abbrev xR:List Str:=["name"]
abbrev ya:List Str:=["NAMES","NoWay","Way"]
theorem Ak:ScF xR ya ["name"] (aa mO):=by walk_at "S"
def jg:Stmt:=top 11
abbrev qj:List Str:=["size"]
abbrev qu:List Str:=[]
theorem va:ScF qj qu ["size"] (aa jg):=by walk_at "S"
def qU:Stmt:=top 8
abbrev Cj:List Str:=["size"]
abbrev Cr:List Str:=[]
theorem Dj:ScF Cj Cr ["size"] (aa qU):=by walk_at "S"
def mS:Stmt:=top 31
abbrev xV:List Str:=["size","bits","code","step"]
abbrev ye:List Str:=["width","NoBits","sign_bit"]
theorem Ap:ScF xV ye ["size","bits"] (aa mS):=by walk_at "S"
def fX:Stmt:=top 12
abbrev ma:List Str:=["size"]
abbrev mq:List Str:=[]
theorem qQ:ScF ma mq ["size"] (aa fX):=by walk_at "S"
def wW:Stmt:=top 33
abbrev F3:List Str:=["size","bits","parts","field","figures"]
abbrev F5:List Str:=["parted","last_field"]
theorem Ht:ScF F3 F5 ["size","bits"] (aa wW):=by walk_at "S"
def cJ:Stmt:=top 35
abbrev iG:List Str:=["value","whole","power"]
abbrev iK:List Str:=[]
theorem lF:ScF iG iK ["value"] (aa cJ):=by walk_at "S"
def wX:Stmt:=top 9
abbrev F4:List Str:=["size"]
abbrev F6:List Str:=[]
theorem Hu:ScF F4 F6 ["size"] (aa wX):=by walk_at "S"
def Dq:Stmt:=top 10
abbrev MY:List Str:=["size"]
abbrev M3:List Str:=["bias"]
theorem K5:ScF MY M3 ["size"] (aa Dq):=by walk_at "S"
def qT:Stmt:=top 34
abbrev Ci:List Str:=["size","bits","parts","sign","field","figures"]
abbrev Cq:List Str:=["parted","last_field","NotFinite","low"]
theorem Di:ScF Ci Cq ["size","bits"] (aa qT):=by walk_at "S"
def jo:Stmt:=top 36
abbrev qr:List Str:=["size","bits"]
abbrev qB:List Str:=["worth_fraction","worth"]
theorem vk:ScF qr qB ["size","bits"] (aa jo):=by walk_at "S"
def cM:Stmt:=top 16
abbrev iJ:List Str:=["top","bottom"]
abbrev iN:List Str:=["NoFraction"]
theorem lI:ScF iJ iN ["top","bottom"] (aa cM):=by walk_at "S"
def cK:Stmt:=top 19
abbrev iH:List Str:=["over","number","middle"]
abbrev iL:List Str:=[]
theorem lG:ScF iH iL ["over","number","middle"] (aa cK):=by walk_at "S"
def ka:Stmt:=top 20
abbrev uH:List Str:=["over","step"]
abbrev uP:List Str:=["rest_by_middle"]
theorem yw:ScF uH uP ["over","step"] (aa ka):=by walk_at "S"
def aN:Stmt:=(eA (top 41)).getD 3 (.Pass ⟨0,0,0,0⟩)
abbrev gx:List Str:=["self","sign"]
abbrev gy:List Str:=[]
theorem jR:ScF gx gy ["self","sign"] (aa aN):=by walk_at "S"
def cS:Stmt:=(eA (top 41)).getD 1 (.Pass ⟨0,0,0,0⟩)
abbrev pf:List Str:=["self","sign","odd","rest"]
abbrev pz:List Str:=[]
theorem td:ScF pf pz ["self","sign","odd","rest"] (aa cS):=by walk_at "S"
def jf:Stmt:=top 67
abbrev qi:List Str:=["way","sign","top","bottom","chosen","whole","rest"]
abbrev qt:List Str:=["way_of","check_fraction","rest_of"]
theorem u9:ScF qi qt ["way","sign","top","bottom"] (aa jf):=by walk_at "S"
def ck:Stmt:=top 68
abbrev gR:List Str:=["way","value","whole"]
abbrev gU:List Str:=["whole_of","INEXACT"]
theorem j6:ScF gR gU ["way","value"] (aa ck):=by walk_at "S"
def mQ:Stmt:=top 17
abbrev xT:List Str:=["top","bottom","power"]
abbrev yc:List Str:=[]
theorem An:ScF xT yc ["top","bottom","power"] (aa mQ):=by walk_at "S"
def mV:Stmt:=top 18
abbrev xY:List Str:=["top","bottom","guess","parts"]
abbrev yh:List Str:=["scaled"]
theorem Au:ScF xY yh ["top","bottom"] (aa mV):=by walk_at "S"
def Dr:Stmt:=top 21
abbrev M0:List Str:=["size","top","bottom","power","parts"]
abbrev M5:List Str:=["check_fraction","low","max","height","scaled","rest_of"]
theorem K7:ScF M0 M5 ["size","top","bottom"] (aa Dr):=by walk_at "S"
def ki:Stmt:=top 13
abbrev uL:List Str:=["size"]
abbrev uT:List Str:=["last_field"]
theorem yA:ScF uL uT ["size"] (aa ki):=by walk_at "S"
def mP:Stmt:=top 37
abbrev xS:List Str:=["size","sign","code"]
abbrev yb:List Str:=["sign_bit"]
theorem Am:ScF xS yb ["size","sign","code"] (aa mP):=by walk_at "S"
def fU:Stmt:=top 45
abbrev l7:List Str:=["size","code","taken","faint"]
abbrev mj:List Str:=["endless","INEXACT","GREAT","SMALL"]
theorem qN:ScF l7 mj ["size","code","taken"] (aa fU):=by walk_at "S"
def bV:Stmt:=(eA (top 41)).getD 2 (.Pass ⟨0,0,0,0⟩)
abbrev mf:List Str:=["self","sign"]
abbrev mr:List Str:=[]
theorem qS:ScF mf mr ["self","sign"] (aa bV):=by walk_at "S"
def j8:Stmt:=top 44
abbrev uF:List Str:=["size","way","sign","whole","power","rest","chosen","code","end","taken"]
abbrev uN:List Str:=["way_of","low","endless","signed","INEXACT","GREAT","lost_flags"]
theorem yu:ScF uF uN ["size","way","sign","whole","power","rest"] (aa j8):=by walk_at "S"
def j9:Stmt:=top 46
abbrev uG:List Str:=["size","way","sign","top","bottom","parts"]
abbrev uO:List Str:=["way_of","cut","settled"]
theorem yv:ScF uG uO ["size","way","sign","top","bottom"] (aa j9):=by walk_at "S"
def ie:Stmt:=top 14
abbrev oY:List Str:=["size"]
abbrev pj:List Str:=["endless"]
theorem sV:ScF oY pj ["size"] (aa ie):=by walk_at "S"
def mM:Stmt:=top 69
abbrev xQ:List Str:=["size","way","bits","found","value","taken","pair"]
abbrev xZ:List Str:=["way_of","kind","no_number","fraction","whole_and_flags","rounded"]
theorem Aj:ScF xQ xZ ["size","way","bits"] (aa mM):=by walk_at "S"
def jq:Stmt:=top 52
abbrev qs:List Str:=["size","numbers","kinds"]
abbrev qC:List Str:=[]
theorem vo:ScF qs qC ["size","numbers"] (aa jq):=by walk_at "S"
def qV:Stmt:=top 48
abbrev Ck:List Str:=["terms","power","whole","term","part"]
abbrev Ct:List Str:=["min","abs"]
theorem Dk:ScF Ck Ct ["terms"] (aa qV):=by walk_at "S"
def eH:Stmt:=top 49
abbrev kT:List Str:=["way","signs"]
abbrev lj:List Str:=["way_of"]
theorem pE:ScF kT lj ["way","signs"] (aa eH):=by walk_at "S"
def cZ:Stmt:=top 50
abbrev iX:List Str:=["size","way","terms","value","sign"]
abbrev i9:List Str:=["worth_fraction","total","nought_sign","signed","rounded"]
theorem mx:ScF iX i9 ["size","way","terms"] (aa cZ):=by walk_at "S"
def de:Stmt:=top 56
abbrev iY:List Str:=["size","way","terms","signs"]
abbrev ja:List Str:=["no_number","WRONG","len","signed","endless","settled_total"]
theorem my:ScF iY ja ["size","way","terms"] (aa de):=by walk_at "S"
def eG:Stmt:=top 53
abbrev kS:List Str:=["size","bits"]
abbrev lh:List Str:=["kind","parted","worth"]
theorem pC:ScF kS lh ["size","bits"] (aa eG):=by walk_at "S"
def dQ:Stmt:=top 55
abbrev jK:List Str:=["size","a","b","left","right","sign"]
abbrev jN:List Str:=["number_term"]
theorem nO:ScF jK jN ["size","a","b"] (aa dQ):=by walk_at "S"
def df:Stmt:=top 54
abbrev iZ:List Str:=["size","a","b","kinds"]
abbrev jb:List Str:=["kind"]
theorem mz:ScF iZ jb ["size","a","b"] (aa df):=by walk_at "S"
def eD:Stmt:=top 57
abbrev kR:List Str:=["size","way","pairs","singles","numbers","pair","products"]
abbrev lg:List Str:=["way_of","list","any_none","no_number","any","WRONG","settled_terms"]
theorem pB:ScF kR lg ["size","way","pairs","singles"] (aa eD):=by walk_at "S"
def qY:Stmt:=top 59
abbrev Co:List Str:=["size","way","a","b"]
abbrev Cw:List Str:=["settled_sum"]
theorem Dn:ScF Co Cw ["size","way","a","b"] (aa qY):=by walk_at "S"
def mU:Stmt:=top 32
abbrev xX:List Str:=["size","sign","field","figures"]
abbrev yg:List Str:=["NoParts","last_field","sign_bit"]
theorem Ar:ScF xX yg ["size","sign","field","figures"] (aa mU):=by walk_at "S"
def kf:Stmt:=top 38
abbrev uI:List Str:=["size","bits","parts"]
abbrev uQ:List Str:=["parted","joined"]
theorem yx:ScF uI uQ ["size","bits"] (aa kf):=by walk_at "S"
def qW:Stmt:=top 60
abbrev Cm:List Str:=["size","way","a","b"]
abbrev Cu:List Str:=["way_of","settled_sum","negated"]
theorem Dl:ScF Cm Cu ["size","way","a","b"] (aa qW):=by walk_at "S"
def fT:Stmt:=top 61
abbrev l6:List Str:=["size","way","a","b"]
abbrev mi:List Str:=["settled_sum"]
theorem qM:ScF l6 mi ["size","way","a","b"] (aa fT):=by walk_at "S"
def ji:Stmt:=top 64
abbrev ql:List Str:=["size","way","over","under"]
abbrev qw:List Str:=["rounded"]
theorem vf:ScF ql qw ["size","way","over","under"] (aa ji):=by walk_at "S"
def kj:Stmt:=top 63
abbrev uM:List Str:=["size","way","a","b","over","under","sign"]
abbrev uU:List Str:=["way_of","any_none","no_number","kind","WRONG","parted","signed","endless","POLE","quotient","fraction"]
theorem yB:ScF uM uU ["size","way","a","b"] (aa kj):=by walk_at "S"
def qX:Stmt:=top 62
abbrev Cn:List Str:=["size","way","a","b","c"]
abbrev Cv:List Str:=["settled_sum"]
theorem Dm:ScF Cn Cv ["size","way","a","b","c"] (aa qX):=by walk_at "S"
def fR:Stmt:=top 22
abbrev l5:List Str:=["number","root"]
abbrev mh:List Str:=["NoFraction"]
theorem qL:ScF l5 mh ["number"] (aa fR):=by walk_at "S"
def hX:Stmt:=top 23
abbrev oX:List Str:=["top","bottom","root","middle"]
abbrev ph:List Str:=["rest_by_middle"]
theorem sU:ScF oX ph ["top","bottom","root"] (aa hX):=by walk_at "S"
def jh:Stmt:=top 24
abbrev qk:List Str:=["size","top","bottom","root_height","power","parts","root"]
abbrev qv:List Str:=["check_fraction","low","height","max","scaled","whole_root","root_rest"]
theorem ve:ScF qk qv ["size","top","bottom"] (aa jh):=by walk_at "S"
def mR:Stmt:=top 65
abbrev xU:List Str:=["size","way","a","value","parts"]
abbrev yd:List Str:=["way_of","any_none","no_number","kind","endless","parted","WRONG","fraction","root_cut","settled"]
theorem Ao:ScF xU yd ["size","way","a"] (aa mR):=by walk_at "S"
def ig:Stmt:=top 72
abbrev oZ:List Str:=["_law_found"]
abbrev pk:List Str:=["isinstance","int","bool"]
theorem sW:ScF oZ pk ["_law_found"] (aa ig):=by walk_at "S"
def kg:Stmt:=top 80
abbrev uJ:List Str:=["_law_found"]
abbrev uR:List Str:=["isinstance","tuple","len","_law_whole"]
theorem yy:ScF uJ uR ["_law_found"] (aa kg):=by walk_at "S"
def mT:Stmt:=top 85
abbrev xW:List Str:=["_law_found","_law_bits","_law_flags"]
abbrev yf:List Str:=["_law_two"]
theorem Aq:ScF xW yf ["_law_found","_law_bits","_law_flags"] (aa mT):=by walk_at "S"
def kh:Stmt:=top 83
abbrev uK:List Str:=["_law_way","_law_outward","_law_lean","_law_even"]
abbrev uS:List Str:=[]
theorem yz:ScF uK uS ["_law_way","_law_outward","_law_lean","_law_even"] (aa kh):=by walk_at "S"
def jk:Stmt:=top 82
abbrev qo:List Str:=["_law_way","_law_outward","_law_lean","_law_even"]
abbrev qy:List Str:=[]
theorem vh:ScF qo qy ["_law_way","_law_outward","_law_lean","_law_even"] (aa jk):=by walk_at "S"
def cL:Stmt:=top 87
abbrev iI:List Str:=["_law_way","_law_sign","_law_whole_here","_law_top","_law_bottom","_law_outward","_law_over"]
abbrev iM:List Str:=["_law_whole","_law_near","_law_far"]
theorem lH:ScF iI iM ["_law_way","_law_sign","_law_whole_here","_law_top","_law_bottom"] (aa cL):=by walk_at "S"
def cm:Stmt:=top 88
abbrev gS:List Str:=["_law_size","_law_way","_law_a","_law_found","_law_top","_law_last","_law_code","_law_told","_law_steps","_law_here","_law_tall"]
abbrev gW:List Str:=["_law_is","_law_two","_law_value","_law_fair_whole","int"]
theorem j7:ScF gS gW ["_law_size","_law_way","_law_a","_law_found"] (aa cm):=by walk_at "S"
def jl:Stmt:=top 84
abbrev qp:List Str:=["_law_size","_law_way","_law_sign","_law_tall","_law_bottom","_law_found","_law_code","_law_last","_law_here","_law_outward","_law_due","_law_before","_law_beyond"]
abbrev qz:List Str:=["_law_two","_law_value","_law_near","_law_far"]
theorem vi:ScF qp qz ["_law_size","_law_way","_law_sign","_law_tall","_law_bottom","_law_found"] (aa jl):=by walk_at "S"
def dS:Stmt:=top 91
abbrev jM:List Str:=["_law_size","_law_way","_law_terms","_law_found","_law_first","_law_last","_law_sorts","_law_ends","_law_exact","_law_signs","_law_steps","_law_due"]
abbrev jP:List Str:=["_law_is","len","sum","int","_law_fair","abs"]
theorem nR:ScF jM jP ["_law_size","_law_way","_law_terms","_law_found"] (aa dS):=by walk_at "S"
def bJ:Stmt:=top 92
abbrev fN:List Str:=["_law_size","_law_way","_law_a","_law_b","_law_found","_law_top","_law_last","_law_one","_law_other","_law_first","_law_steps","_law_tall"]
abbrev fO:List Str:=["_law_is","_law_value","_law_fair"]
theorem jG:ScF fN fO ["_law_size","_law_way","_law_a","_law_b","_law_found"] (aa bJ):=by walk_at "S"
def dh:Stmt:=top 86
abbrev i8:List Str:=["_law_size","_law_way","_law_square","_law_found","_law_code","_law_here","_law_due","_law_before","_law_lean","_law_far_here","_law_beyond","_law_near_here"]
abbrev jd:List Str:=["_law_two","_law_value","_law_near","_law_far"]
theorem mC:ScF i8 jd ["_law_size","_law_way","_law_square","_law_found"] (aa dh):=by walk_at "S"
def dg:Stmt:=top 93
abbrev i7:List Str:=["_law_size","_law_way","_law_a","_law_found","_law_top","_law_last","_law_steps"]
abbrev jc:List Str:=["_law_is","_law_root_fair","_law_value"]
theorem mB:ScF i7 jc ["_law_size","_law_way","_law_a","_law_found"] (aa dg):=by walk_at "S"
def jj:Stmt:=top 89
abbrev qm:List Str:=["_law_size","_law_bits","_law_top","_law_last","_law_steps"]
abbrev qx:List Str:=["_law_value"]
theorem vg:ScF qm qx ["_law_size","_law_bits"] (aa jj):=by walk_at "S"
def eL:Stmt:=top 90
abbrev kW:List Str:=["_law_size","_law_a","_law_b","_law_steps","_law_one","_law_other","_law_sign"]
abbrev lq:List Str:=["_law_term"]
theorem pG:ScF kW lq ["_law_size","_law_a","_law_b"] (aa eL):=by walk_at "S"
def jm:Stmt:=top 95
abbrev qq:List Str:=["_law_size","_law_way","_law_which","_law_a","_law_b","_law_c","_law_found","_law_turned"]
abbrev qA:List Str:=["added","_law_sum_good","_law_term","taken","multiplied","_law_product","divided","_law_quotient_good","fused","rooted","_law_root_good","wholed","_law_wholed_fair"]
theorem vj:ScF qq qA ["_law_size","_law_way","_law_which","_law_a","_law_b","_law_c"] (aa jm):=by walk_at "S"
def pL:Stmt:=top 96
abbrev MZ:List Str:=["_law_script","_law_size","_law_row","_law_cell","_law_which","_law_rest","_law_way","_law_a","_law_b","_law_c","_law_good","_law_found"]
abbrev M4:List Str:=["_law_size_by","_law_cell_at","_law_bits_by","_law_way_by","len","_law_partner","_law_third_by","_law_deed"]
theorem K6:ScF MZ M4 ["_law_script"] (aa pL):=by walk_at "S"
section
variable {X:Cx} {k:Nat} (hr:Room k X.A) (L:Lp X) (O:Own X)
include hr L O
theorem su (P:Pl X kU ll) (hS:X.env.scope=aa eJ)
     : SSs X (aj eJ) fi:=by
 unfold fi
 exact (ae (P.set 1 (aO ↥29 af))
 (ae (P.set 2 (cj ↥29 af))
 (ae (P.if_ (bA hr (P.v 1) af) (ai (P.ret (aK (a2 af af) ↥1))) ar)
 (ae (P.if_ (bA hr (P.v 1) af) (ai (P.ret (aK (a2 af af) ↥1))) ar)
 (ae (P.if_ (bA hr (P.v 1) af) (ai (P.ret (aK (a2 af af) ↥1))) ar)
 (ae (P.if_ (bA hr (P.v 1) af) (ai (P.ret (aK (a2 af af) ↥1))) ar)
 (ae (P.if_ (pT (P.v 1) af) (ai (P.ret (aK (a2 (aC af (aO (P.v 2) af)) (aC af (aO (cj (P.v 2) af) af))) ↥1))) ar)
 (ai (P.ret (aK (a2 (aC af (aO (P.v 2) af)) (aC af (aO (cj (P.v 2) af) af))) ↥1))))))))))
theorem sD (P:Pl X kZ ly) (hS:X.env.scope=aa eR)
  (m_len:X.mg "len"=none):SSs X (aj eR) fo:=by
 unfold fo
 exact (ae (P.if_ (pT (P.v 1) (dD wg vF (P.w 0) m_len PySem.boot_len (a1 ↥29))) (ai (P.ret (ze ↥29 (P.v 1)))) ar)
 (ai (P.ret af)))
theorem wy (P:Pl X pe pv) (hS:X.env.scope=aa ik)
     : SSs X (aj ik) iC:=by
 unfold iC
 exact (ai (P.ret (aO (bh ↥29 af) (P.v 1))))
theorem sE (P:Pl X la lz) (hS:X.env.scope=aa eV)
  (c_law_mixed:Callee X "_law_mixed" b8) (m_min:X.mg "min"=none) (m_max:X.mg "max"=none):SSs X (aj eV) fq:=by
 unfold fq
 exact (ae (P.set 2 ↥39)
 (ae (P.set 3 (a9 ↥17 (P.y 0)))
 (ae (P.set 4 (aO (P.v 1) af))
 (ae (P.set 5 (cj (P.v 1) af))
 (ae (P.if_ (pT (P.v 4) af) (ai (P.ret (P.call 0 c_law_mixed (a2 (P.v 5) (bh af (P.v 2)))))) ar)
 (ae (P.set 6 (aO (P.v 5) af))
 (ae (P.set 5 (cj (P.v 5) af))
 (ae (P.if_ (bA hr (P.v 4) af) (ai (P.set 7 (aO (P.v 5) (a9 af (P.y 0))))) (ai (P.if_ (bA hr (P.v 4) af) (ai (P.set 7 (aU (aC (P.v 3) af) (aO (P.v 5) af)))) (ai (P.if_ (bA hr (P.v 4) af) (ai (P.set 7 (ze (iV (ag af (ag af (ag ↥17 (ag (a9 af (P.y 0)) (ag (aU (P.v 3) af) (ag (P.v 3) bj)))))) ↥1) (aO (P.v 5) af)))) (ae (P.set 8 (aC (aU ↥16 af) (aO (P.v 5) af)))
 (ae (P.set 8 (dD (BV L.calm) AX (P.w 1) m_max boot_max (a2 af (dD (JB L.calm) IC (P.w 2) m_min boot_min (a2 (P.v 8) ↥17)))))
 (ai (P.set 7 (aC (a9 (P.v 8) (P.y 0)) (P.call 0 c_law_mixed (a2 (cj (P.v 5) af) (a9 af (P.y 0))))))))))))))
 (ai (P.ret (aC (bh (P.v 6) (P.v 2)) (P.v 7))))))))))))
theorem uA (P:Pl X l8 ml) (hS:X.env.scope=aa fV)
     : SSs X (aj fV) gj:=by
 unfold gj
 exact (ai (P.ret (ze (iV (ag aL (ag aL (ag aL (ag aL (ag aL bj))))) ↥1) (aO ↥29 af))))
theorem uB (P:Pl X l9 mn) (hS:X.env.scope=aa fW)
  (c_law_bits_by:Callee X "_law_bits_by" aH):SSs X (aj fW) gm:=by
 unfold gm
 exact (ae (P.set 2 ↥39)
 (ae (P.set 3 (a9 ↥17 (P.y 0)))
 (ae (P.set 4 (aO (P.v 1) af))
 (ae (P.set 5 (cj (P.v 1) af))
 (ae (P.set 6 (bh (aO (P.v 5) af) (P.v 2)))
 (ae (P.if_ (bA hr (P.v 4) af) (ai (P.ret (aC (aC (aC (P.v 6) (P.v 3)) af) (aO (cj (P.v 5) af) ↥17)))) ar)
 (ae (P.if_ (bA hr (P.v 4) af) (ai (P.ret (aC (P.v 6) (P.v 3)))) ar)
 (ae (P.if_ (bA hr (P.v 4) af) (ai (P.ret (P.v 6))) ar)
 (ai (P.ret (P.call 0 c_law_bits_by (a2 ↥29 (P.v 5)))))))))))))
theorem sC (P:Pl X kY lx) (hS:X.env.scope=aa eQ)
  (m_min:X.mg "min"=none) (m_max:X.mg "max"=none) (c_law_mixed:Callee X "_law_mixed" b8) (c_law_odd_by:Callee X "_law_odd_by" b7) (c_law_bits_by:Callee X "_law_bits_by" aH):SSs X (aj eQ) fm:=by
 unfold fm
 exact (ae (P.set 4 ↥39)
 (ae (P.set 5 (aU ↥16 af))
 (ae (P.set 6 (aO (P.v 2) af))
 (ae (P.set 7 (cj (P.v 2) af))
 (ae (P.if_ (pT (P.v 6) af) (ae (P.set 8 (aU (aU (aO (P.v 7) (aC (P.y 0) af)) (P.y 0)) af))
 (ae (P.if_ (pT (P.v 6) af) (ai (P.set 8 (aC ↥17 (aO (P.v 7) af)))) ar)
 (ae (P.set 9 (uc (aO (P.v 1) (P.v 4)) (P.y 0)))
 (ae (P.if_ (jF (P.v 3)) (ai (P.set 8 (aU (P.v 9) (P.v 8)))) (ai (P.set 8 (aU (P.v 8) (P.v 9)))))
 (ae (P.set 9 (dD (BV L.calm) AX (P.w 0) m_max boot_max (a2 af (dD (JB L.calm) IC (P.w 1) m_min boot_min (a2 (aC (P.v 5) (P.v 8)) (bh af (P.v 5)))))))
 (ae (P.set 10 (ze (iV (ag af (ag ↥16 (ag ↥17 (ag (P.call 2 c_law_mixed (a2 (P.v 7) (a9 af (P.y 0)))) bj)))) ↥1) (aO (cj (P.v 7) af) af)))
 (ai (P.ret (aC (aC (bh (aO (cj (P.v 7) af) af) (P.v 4)) (a9 (P.v 9) (P.y 0))) (P.v 10)))))))))) ar)
 (ae (P.if_ (bA hr (P.v 6) af) (ai (P.ret (jI (P.v 1) (bh (aO (P.v 7) af) (P.v 4))))) ar)
 (ae (P.if_ (bA hr (P.v 6) af) (ai (P.ret (P.call 3 c_law_odd_by (a2 ↥29 (P.v 7))))) ar)
 (ai (P.ret (P.call 4 c_law_bits_by (a2 ↥29 (P.v 7))))))))))))
theorem sA (P:Pl X kX lr) (hS:X.env.scope=aa eO)
  (m_len:X.mg "len"=none) (c_law_mate_by:Callee X "_law_mate_by" dm):SSs X (aj eO) fk:=by
 unfold fk
 exact (ae (P.set 5 (cj (P.v 4) af))
 (ae (P.if_ (bA hr (aO (P.v 4) af) af) (ai (P.ret (ze (P.v 1) (aO (P.v 5) (dD wg vF (P.w 0) m_len PySem.boot_len (a1 (P.v 1))))))) ar)
 (ae (P.if_ (pT (P.v 3) af) (ai (P.ret (jI (jI (P.v 2) (a9 (aO (P.v 5) af) (aC (P.y 0) (P.y 0)))) (aO (cj (P.v 5) af) af)))) ar)
 (ai (P.ret (P.call 1 c_law_mate_by (ag ↥29 (ag (P.v 2) (ag (P.v 5) (ag (gC hr (P.v 3) af) bj))))))))))
theorem wx (P:Pl X pd pq) (hS:X.env.scope=aa ij)
     : SSs X (aj ij) iB:=by
 unfold iB
 exact (ae (P.set 2 (uc (P.v 1) (P.y 0)))
 (ae (P.if_ (bA hr (P.v 2) af) (ai (P.ret (P.v 1))) ar)
 (ai (P.ret (a9 (aC (a9 af (P.y 0)) (aO (P.v 1) (a9 af (P.y 0)))) (aU (P.v 2) af))))))
theorem pP (P:Pl X jL jO) (hS:X.env.scope=aa dR)
  (c_law_bits_by:Callee X "_law_bits_by" aH) (c_law_odd_by:Callee X "_law_odd_by" b7) (c_law_value:Callee X "_law_value" au) (m_min:X.mg "min"=none) (m_max:X.mg "max"=none):SSs X (aj dR) dW:=by
 unfold dW
 exact (ae (P.set 4 ↥39)
 (ae (P.set 5 (a9 ↥17 (P.y 0)))
 (ae (P.set 6 (aC (aU ↥16 af) (P.y 0)))
 (ae (P.set 7 (aO (P.v 3) af))
 (ae (P.set 8 (cj (P.v 3) af))
 (ae (P.if_ (wQ (P.v 7) af) (ai (P.ret (P.call 0 c_law_bits_by (a2 ↥29 (P.v 8))))) ar)
 (ae (P.if_ (bA hr (P.v 7) af) (ai (P.ret (P.call 1 c_law_odd_by (a2 ↥29 (P.v 8))))) ar)
 (ae (P.set 9 (uc (bh (P.call 2 c_law_value (a2 ↥29 (aO (P.v 1) (P.v 4)))) (P.call 2 c_law_value (a2 ↥29 (aO (P.v 2) (P.v 4))))) (P.v 6)))
 (ae (P.set 10 (P.v 9))
 (ae (P.if_ (wQ (uc (P.v 9) (P.y 0)) af) (ae (P.set 12 (aU (aU (nG (P.v 9)) (P.y 0)) af))
 (ai (P.set 10 (aC (a9 (P.v 12) (P.y 0)) (uc (P.v 9) (P.v 12)))))) ar)
 (ae (P.set 11 (aO (aC (cj (jI (P.v 1) (P.v 2)) (P.v 4)) af) af))
 (ae (P.if_ (bA hr (P.v 7) af) (ae (P.set 11 (aO (cj (P.v 8) af) af))
 (ai (P.set 10 (aU (P.v 10) (a9 (aC (P.y 0) (aO (cj (P.v 8) af) af)) (P.y 0)))))) ar)
 (ae (P.set 10 (dD (BV L.calm) AX (P.w 3) m_max boot_max (a2 af (dD (JB L.calm) IC (P.w 4) m_min boot_min (a2 (aU (aC (P.v 10) (aO (P.v 8) af)) af) (aU (P.v 5) af))))))
 (ai (P.ret (aC (bh (P.v 11) (P.v 4)) (P.v 10)))))))))))))))))
theorem EN (P:Pl X xR ya) (hS:X.env.scope=aa mO) {C_NoWay:Addr}
  (g_NAMES:GC X "NAMES" (.tup [.str "even",.str "away",.str "nought",.str "up",.str "down"])) (q_NoWay:X.mg "NoWay"=some (.ref  C_NoWay)) (xi_NoWay:PySem.W.excIn X.K C_NoWay bmV "ValueError.__new__"=true) (mk_Way:MakeOk X "Way" "name"):SSs X (aj mO) nc:=by
 unfold nc
 exact (ae (P.if_ (G9 ↥29 (V2 (P.w 0) g_NAMES)) (ai (iO (x:="NoWay") L.calm (P.w 1) q_NoWay xi_NoWay)) ar)
 (ai (P.ret (Jr (cn:="Way") (f:="name") mk_Way (P.w 2) (a1 ↥29)))))
theorem zj (P:Pl X qj qu) (hS:X.env.scope=aa jg)
     : SSs X (aj jg) ju:=by
 unfold ju
 exact (ai (P.ret ↥39))
theorem JJ (P:Pl X Cj Cr) (hS:X.env.scope=aa qU)
     : SSs X (aj qU) rP:=by
 unfold rP
 exact (ai (P.ret (aC (aC (P.y 0) (P.y 0)) af)))
theorem EU (P:Pl X xV ye) (hS:X.env.scope=aa mS) {C_NoBits:Addr}
  (c_width:Callee X "width" om) (q_NoBits:X.mg "NoBits"=some (.ref  C_NoBits)) (xi_NoBits:PySem.W.excIn X.K C_NoBits bmV "ValueError.__new__"=true) (c_sign_bit:Callee X "sign_bit" bQ):SSs X (aj mS) nq:=by
 unfold nq
 exact (ae (P.if_ (t_w (w_or (pT (P.v 1) af) (gX (Fm (P.v 1) (a9 af (P.call 0 c_width (a1 ↥29))))))) (ai (iO (x:="NoBits") L.calm (P.w 1) q_NoBits xi_NoBits)) ar)
 (ae (P.set 2 (aO (P.v 1) (P.call 2 c_sign_bit (a1 ↥29))))
 (ae (P.set 3 (a9 af (P.y 0)))
 (ai (P.ret (aK (a3 (cj (P.v 1) (P.call 2 c_sign_bit (a1 ↥29))) (cj (P.v 2) (P.v 3)) (aO (P.v 2) (P.v 3))) ↥1))))))
theorem uC (P:Pl X ma mq) (hS:X.env.scope=aa fX)
     : SSs X (aj fX) gq:=by
 unfold gq
 exact (ai (P.ret ↥17))
theorem MS (P:Pl X F3 F5) (hS:X.env.scope=aa wW)
  (c_parted:Callee X "parted" br) (c_last_field:Callee X "last_field" aT):SSs X (aj wW) xA:=by
 unfold xA
 exact (ae (P.set 2 (P.call 0 c_parted (a2 ↥29 (P.v 1))))
 (ae (P.set 3 (P.y 2))
 (ae (P.set 4 (P.y 2))
 (ae (P.if_ (bA hr (P.v 3) af) (ai (P.ret (zg (bA hr (P.v 4) af) aL aL))) ar)
 (ae (P.if_ (bA hr (P.v 3) (P.call 1 c_last_field (a1 ↥29))) (ai (P.ret (zg (bA hr (P.v 4) af) aL aL))) ar)
 (ai (P.ret aL)))))))
theorem mE (P:Pl X iG iK) (hS:X.env.scope=aa cJ)
     : SSs X (aj cJ) cO:=by
 unfold cO
 exact (ae (P.set 1 (P.y 0))
 (ae (P.set 2 (P.y 0))
 (ae (P.if_ (Fm (P.v 2) af) (ai (P.ret (aK (a3 (P.y 0) (a9 (P.v 1) (P.v 2)) af) ↥1))) ar)
 (ai (P.ret (aK (a3 (P.y 0) (P.v 1) (a9 af (EC (P.v 2)))) ↥1))))))
theorem MT (P:Pl X F4 F6) (hS:X.env.scope=aa wX)
     : SSs X (aj wX) xB:=by
 unfold xB
 exact (ai (P.ret (aU ↥16 af)))
theorem OZ (P:Pl X MY M3) (hS:X.env.scope=aa Dq)
  (c_bias:Callee X "bias" tL):SSs X (aj Dq) Es:=by
 unfold Es
 exact (ai (P.ret (aU (aU af (P.call 0 c_bias (a1 ↥29))) (P.y 0))))
theorem JI (P:Pl X Ci Cq) (hS:X.env.scope=aa qT) {C_NotFinite:Addr}
  (c_parted:Callee X "parted" br) (c_last_field:Callee X "last_field" aT) (q_NotFinite:X.mg "NotFinite"=some (.ref  C_NotFinite)) (xi_NotFinite:PySem.W.excIn X.K C_NotFinite bmV "ValueError.__new__"=true) (c_low:Callee X "low" ko):SSs X (aj qT) rO:=by
 unfold rO
 exact (ae (P.set 2 (P.call 0 c_parted (a2 ↥29 (P.v 1))))
 (ae (P.set 3 (P.y 2))
 (ae (P.set 4 (P.y 2))
 (ae (P.set 5 (P.y 2))
 (ae (P.if_ (bA hr (P.v 4) (P.call 1 c_last_field (a1 ↥29))) (ai (iO (x:="NotFinite") L.calm (P.w 2) q_NotFinite xi_NotFinite)) ar)
 (ae (P.if_ (bA hr (P.v 4) af) (ai (P.ret (aK (a3 (P.v 3) (P.v 5) (P.call 3 c_low (a1 ↥29))) ↥1))) ar)
 (ai (P.ret (aK (a3 (P.v 3) (aC (a9 af (P.y 0)) (P.v 5)) (aU (aC (P.call 3 c_low (a1 ↥29)) (P.v 4)) af)) ↥1)))))))))
theorem zr (P:Pl X qr qB) (hS:X.env.scope=aa jo)
  (c_worth_fraction:Callee X "worth_fraction" aW) (c_worth:Callee X "worth" jU):SSs X (aj jo) jA:=by
 unfold jA
 exact (ai (P.ret (P.call 0 c_worth_fraction (a1 (P.call 1 c_worth (a2 ↥29 (P.v 1)))))))
theorem mJ (P:Pl X iJ iN) (hS:X.env.scope=aa cM) {C_NoFraction:Addr}
  (q_NoFraction:X.mg "NoFraction"=some (.ref  C_NoFraction)) (xi_NoFraction:PySem.W.excIn X.K C_NoFraction bmV "ValueError.__new__"=true):SSs X (aj cM) cR:=by
 unfold cR
 exact (ai (P.if_ (t_w (w_or (pT ↥29 af) (gX (pT (P.v 1) af)))) (ai (iO (x:="NoFraction") L.calm (P.w 0) q_NoFraction xi_NoFraction)) ar))
theorem mH (P:Pl X iH iL) (hS:X.env.scope=aa cK)
     : SSs X (aj cK) cP:=by
 unfold cP
 exact (ae (P.if_ (bA hr ↥29 af) (ai (P.ret af)) ar)
 (ae (P.if_ (pT (P.v 1) (P.v 2)) (ai (P.ret af)) ar)
 (ai (P.ret (zg (bA hr (P.v 1) (P.v 2)) af af)))))
theorem B2 (P:Pl X uH uP) (hS:X.env.scope=aa ka)
  (c_rest_by_middle:Callee X "rest_by_middle" aX):SSs X (aj ka) kF:=by
 unfold kF
 exact (ai (P.ret (P.call 0 c_rest_by_middle (a3 ↥29 (bh af ↥29) (P.v 1)))))
theorem kP (P:Pl X gx gy) (hS:X.env.scope=aa aN)
  (fl_Way_name:FldOk X "Way" "name"):SSs X (aj aN) bw:=by
 unfold bw
 exact (ae (P.if_ (bA hr (BK (cn:="Way") (f:="name") fl_Way_name ↥29) aL) (ai (P.ret (gC hr (P.v 1) af))) ar)
 (ai (P.ret (dP (gC hr (BK (cn:="Way") (f:="name") fl_Way_name ↥29) aL) (dF (gC hr (P.v 1) af))))))
theorem wz (P:Pl X pf pz) (hS:X.env.scope=aa cS)
  (fl_Way_name:FldOk X "Way" "name") (mt_Way_flees_nought:MethOk X "Way" "flees_nought" aV):SSs X (aj cS) dO:=by
 unfold dO
 exact (ae (P.if_ (bA hr (P.v 3) af) (ai (P.ret wc)) ar)
 (ae (P.if_ (bA hr (BK (cn:="Way") (f:="name") fl_Way_name ↥29) aL) (ai (P.ret (FK (gC hr (P.v 3) af) (dF (dP (gC hr (P.v 3) af) (dF (P.v 2))))))) ar)
 (ae (P.if_ (bA hr (BK (cn:="Way") (f:="name") fl_Way_name ↥29) aL) (ai (P.ret (Tg (P.v 3) af))) ar)
 (ai (P.ret (ud (cn:="Way") (m:="flees_nought") mt_Way_flees_nought ↥29 (a1 (P.v 1))))))))
theorem zi (P:Pl X qi qt) (hS:X.env.scope=aa jf)
  (c_way_of:Callee X "way_of" aQ) (c_check_fraction:Callee X "check_fraction" aJ) (c_rest_of:Callee X "rest_of" fH) (mt_Way_grows:MethOk X "Way" "grows" b9):SSs X (aj jf) jt:=by
 unfold jt
 exact (ae (P.set 4 (P.call 0 c_way_of (a1 ↥29)))
 (ae (P.xp (P.call 1 c_check_fraction (a2 (P.v 2) (P.v 3))))
 (ae (P.set 5 (cj (P.v 2) (P.v 3)))
 (ae (P.set 6 (P.call 2 c_rest_of (a2 (aO (P.v 2) (P.v 3)) (P.v 3))))
 (ai (P.ret (zg (jF (ud (cn:="Way") (m:="grows") mt_Way_grows (P.v 4) (a3 (P.v 1) (gC hr (FL (P.v 5) af) af) (P.v 6)))) (aC (P.v 5) af) (P.v 5))))))))
theorem lR (P:Pl X gR gU) (hS:X.env.scope=aa ck)
  (c_whole_of:Callee X "whole_of" gH) (g_INEXACT:∃ t,X.mg "INEXACT"=some (.int 1 t)):SSs X (aj ck) cy:=by
 unfold cy
 exact (ae (P.set 2 (P.call 0 c_whole_of (ag ↥29 (ag (P.y 1) (ag (P.y 1) (ag (P.y 1) bj))))))
 (ai (P.ret (aK (a2 (P.v 2) (zg (NL hr (bh (P.v 2) (P.y 1)) (P.y 1)) (gQ (P.w 1) g_INEXACT) af)) ↥1))))
theorem ER (P:Pl X xT yc) (hS:X.env.scope=aa mQ)
     : SSs X (aj mQ) nj:=by
 unfold nj
 exact (ae (P.if_ (Fm (P.v 2) af) (ai (P.ret (aK (a2 ↥29 (a9 (P.v 1) (P.v 2))) ↥1))) ar)
 (ai (P.ret (aK (a2 (a9 ↥29 (EC (P.v 2))) (P.v 1)) ↥1))))
theorem EY (P:Pl X xY yh) (hS:X.env.scope=aa mV)
  (c_scaled:Callee X "scaled" eY):SSs X (aj mV) nC:=by
 unfold nC
 exact (ae (P.set 2 (aU (nG ↥29) (nG (P.v 1))))
 (ae (P.set 3 (P.call 0 c_scaled (a3 ↥29 (P.v 1) (P.v 2))))
 (ai (P.ret (zg (pT (P.y 3) (P.y 3)) (P.v 2) (aC (P.v 2) af))))))
theorem O1 (P:Pl X M0 M5) (hS:X.env.scope=aa Dr)
  (c_check_fraction:Callee X "check_fraction" aJ) (c_low:Callee X "low" ko) (c_height:Callee X "height" iq) (m_max:X.mg "max"=none) (c_scaled:Callee X "scaled" eY) (c_rest_of:Callee X "rest_of" fH):SSs X (aj Dr) BA:=by
 unfold BA
 exact (ae (P.xp (P.call 0 c_check_fraction (a2 (P.v 1) (P.v 2))))
 (ae (P.if_ (bA hr (P.v 1) af) (ai (P.ret (aK (a3 af (P.call 1 c_low (a1 ↥29)) af) ↥1))) ar)
 (ae (P.set 3 (dD (BV L.calm) AX (P.w 2) m_max boot_max (a2 (P.call 1 c_low (a1 ↥29)) (aU (aU (P.call 3 c_height (a2 (P.v 1) (P.v 2))) (P.y 0)) af))))
 (ae (P.set 4 (P.call 4 c_scaled (a3 (P.v 1) (P.v 2) (P.v 3))))
 (ai (P.ret (aK (a3 (cj (P.y 4) (P.y 4)) (P.v 3) (P.call 5 c_rest_of (a2 (aO (P.y 4) (P.y 4)) (P.y 4)))) ↥1)))))))
theorem B6 (P:Pl X uL uT) (hS:X.env.scope=aa ki)
  (c_last_field:Callee X "last_field" aT):SSs X (aj ki) kJ:=by
 unfold kJ
 exact (ai (P.ret (a9 (P.call 0 c_last_field (a1 ↥29)) (P.y 0))))
theorem EO (P:Pl X xS yb) (hS:X.env.scope=aa mP)
  (c_sign_bit:Callee X "sign_bit" bQ):SSs X (aj mP) nh:=by
 unfold nh
 exact (ai (P.ret (aC (bh (P.v 1) (P.call 0 c_sign_bit (a1 ↥29))) (P.v 2))))
theorem uz (P:Pl X l7 mj) (hS:X.env.scope=aa fU)
  (c_endless:Callee X "endless" aZ) (g_INEXACT:∃ t,X.mg "INEXACT"=some (.int 1 t)) (g_GREAT:∃ t,X.mg "GREAT"=some (.int 4 t)) (g_SMALL:∃ t,X.mg "SMALL"=some (.int 2 t)):SSs X (aj fU) gi:=by
 unfold gi
 exact (ae (P.if_ (bA hr (P.v 2) (P.call 0 c_endless (a1 ↥29))) (ai (P.ret (aC (gQ (P.w 1) g_INEXACT) (gQ (P.w 2) g_GREAT)))) ar)
 (ae (P.set 3 (Js (P.v 1) (a9 af (P.y 0))))
 (ai (P.ret (zg (jF (P.v 3)) (aC (gQ (P.w 1) g_INEXACT) (gQ (P.w 3) g_SMALL)) (gQ (P.w 1) g_INEXACT))))))
theorem uD (P:Pl X mf mr) (hS:X.env.scope=aa bV)
  (fl_Way_name:FldOk X "Way" "name") (mt_Way_flees_nought:MethOk X "Way" "flees_nought" aV):SSs X (aj bV) d7:=by
 unfold d7
 exact (ae (P.if_ (zx (BK (cn:="Way") (f:="name") fl_Way_name ↥29) (aK (a2 aL aL) ↥1)) (ai (P.ret wc)) ar)
 (ai (P.ret (ud (cn:="Way") (m:="flees_nought") mt_Way_flees_nought ↥29 (a1 (P.v 1))))))
theorem B0 (P:Pl X uF uN) (hS:X.env.scope=aa j8)
  (c_way_of:Callee X "way_of" aQ) (c_low:Callee X "low" ko) (c_endless:Callee X "endless" aZ) (mt_Way_bursts:MethOk X "Way" "bursts" fY) (c_signed:Callee X "signed" bK) (g_INEXACT:∃ t,X.mg "INEXACT"=some (.int 1 t)) (g_GREAT:∃ t,X.mg "GREAT"=some (.int 4 t)) (mt_Way_grows:MethOk X "Way" "grows" b9) (c_lost_flags:Callee X "lost_flags" dZ):SSs X (aj j8) kE:=by
 unfold kE
 exact (ae (P.set 6 (P.call 0 c_way_of (a1 (P.v 1))))
 (ae (P.set 7 (aC (a9 (aU (P.v 4) (P.call 1 c_low (a1 ↥29))) (P.y 0)) (P.v 3)))
 (ae (P.set 8 (P.call 2 c_endless (a1 ↥29)))
 (ae (P.if_ (Fm (P.v 7) (P.v 8)) (ae (P.set 9 (zg (jF (ud (cn:="Way") (m:="bursts") mt_Way_bursts (P.v 6) (a1 (P.v 2)))) (P.v 8) (aU (P.v 8) af)))
 (ai (P.ret (aK (a2 (P.call 3 c_signed (a3 ↥29 (P.v 2) (P.v 9))) (aC (gQ (P.w 4) g_INEXACT) (gQ (P.w 5) g_GREAT))) ↥1)))) ar)
 (ae (P.if_ (bA hr (P.v 5) af) (ai (P.ret (aK (a2 (P.call 3 c_signed (a3 ↥29 (P.v 2) (P.v 7))) af) ↥1))) ar)
 (ae (P.set 9 (zg (jF (ud (cn:="Way") (m:="grows") mt_Way_grows (P.v 6) (a3 (P.v 2) (gC hr (FL (P.v 7) af) af) (P.v 5)))) (aC (P.v 7) af) (P.v 7)))
 (ai (P.ret (aK (a2 (P.call 3 c_signed (a3 ↥29 (P.v 2) (P.v 9))) (P.call 6 c_lost_flags (a3 ↥29 (P.v 7) (P.v 9)))) ↥1)))))))))
theorem B1 (P:Pl X uG uO) (hS:X.env.scope=aa j9)
  (c_way_of:Callee X "way_of" aQ) (c_cut:Callee X "cut" vB) (c_settled:Callee X "settled" fF):SSs X (aj j9) iU:=by
 unfold iU
 exact (ae (P.xp (P.call 0 c_way_of (a1 (P.v 1))))
 (ae (P.set 5 (P.call 1 c_cut (a3 ↥29 (P.v 3) (P.v 4))))
 (ai (P.ret (P.call 2 c_settled (ag ↥29 (ag (P.v 1) (ag (P.v 2) (ag (P.y 5) (ag (P.y 5) (ag (P.y 5) bj)))))))))))
theorem wq (P:Pl X oY pj) (hS:X.env.scope=aa ie)
  (c_endless:Callee X "endless" aZ):SSs X (aj ie) iz:=by
 unfold iz
 exact (ai (P.ret (aC (P.call 0 c_endless (a1 ↥29)) ↥16)))
theorem EM (P:Pl X xQ xZ) (hS:X.env.scope=aa mM)
  (c_way_of:Callee X "way_of" aQ) (c_kind:Callee X "kind" bf) (c_no_number:Callee X "no_number" aE) (c_fraction:Callee X "fraction" bG) (c_whole_and_flags:Callee X "whole_and_flags" bD) (c_rounded:Callee X "rounded" bE):SSs X (aj mM) js:=by
 unfold js
 exact (ae (P.xp (P.call 0 c_way_of (a1 (P.v 1))))
 (ae (P.set 3 (P.call 1 c_kind (a2 ↥29 (P.v 2))))
 (ae (P.if_ (bA hr (P.v 3) aL) (ai (P.ret (aK (a2 (P.call 2 c_no_number (a1 ↥29)) af) ↥1))) ar)
 (ae (P.if_ (zx (P.v 3) (aK (a2 aL aL) ↥1)) (ai (P.ret (aK (a2 (P.v 2) af) ↥1))) ar)
 (ae (P.set 4 (P.call 3 c_fraction (a2 ↥29 (P.v 2))))
 (ae (P.set 5 (P.call 4 c_whole_and_flags (a2 (P.v 1) (P.v 4))))
 (ae (P.set 6 (P.call 5 c_rounded (ag ↥29 (ag (P.v 1) (ag (P.y 4) (ag (P.y 5) (ag af bj)))))))
 (ai (P.ret (aK (a2 (P.y 6) (OT (P.y 6) (P.y 5))) ↥1))))))))))
theorem zt (P:Pl X qs qC) (hS:X.env.scope=aa jq)
  (c_kind:Callee X "kind" bf):SSs X (aj jq) fB:=by
 unfold fB
 exact (ae (gG P.toSx L.calm 2 rfl (P.sto _ (mG 2)) (x:="bits") (ksn:=["size"]) (G:=["kind"]) (ks:=[0]) (by walk_at "C") rfl ↥1 (by rw [hS];decide +kernel) (kC (P.v 1)) (fun C fp s H W S' G'=>.nil) (fun C fp s H W S' G'=>(uf ⟨c_kind.ex⟩ (G' _ (mG 0)) (a2 (rW S' 1 rfl) (rW S' 0 rfl)))) (gD hS (by decide +kernel)))
 (ai (yC 2 (P.ret (Nd aL (P.v 2))))))
theorem JK (P:Pl X Ck Ct) (hS:X.env.scope=aa qV)
  (m_min:X.mg "min"=none) (m_abs:X.mg "abs"=none):SSs X (aj qV) rQ:=by
 unfold rQ
 exact (ae (P.set 1 (MN L.calm (P.w 0) m_min (a1 (ue L.calm P.sc (x:="term") (ksn:=[]) (G:=[]) (ks:=[]) (by walk_at "C") rfl ↥1 (by rw [hS];decide +kernel) (kC ↥29) (fun C fp s H W S' G'=>↥33)))))
 (ae (P.set 2 af)
 (ae (Av P.toSx L 3 rfl (P.sto _ (mG 3)) (kC ↥29) (ae (P.set 4 (a9 (P.y 3) (aU (P.y 3) (P.v 1))))
 (ai (P.set 2 (zg (bA hr (P.y 3) af) (aU (P.v 2) (P.v 4)) (aC (P.v 2) (P.v 4)))))))
 (ai (P.ret (aK (a3 (zg (pT (P.v 2) af) af af) (dD MR Mb (P.w 1) m_abs boot_abs (a1 (P.v 2))) (P.v 1)) ↥1))))))
theorem sq (P:Pl X kT lj) (hS:X.env.scope=aa eH)
  (c_way_of:Callee X "way_of" aQ):SSs X (aj eH) fh:=by
 unfold fh
 exact (ae (P.xp (P.call 0 c_way_of (a1 ↥29)))
 (ae (P.if_ (t_w (w_and (zx af (P.v 1)) (j1 (zx af (P.v 1))))) (ai (P.ret (zg (bA hr ↥29 aL) af af))) ar)
 (ai (P.ret (zg (zx af (P.v 1)) af af)))))
theorem oQ (P:Pl X iX i9) (hS:X.env.scope=aa cZ)
  (c_worth_fraction:Callee X "worth_fraction" aW) (c_total:Callee X "total" oo) (c_nought_sign:Callee X "nought_sign" dj) (c_signed:Callee X "signed" bK) (c_rounded:Callee X "rounded" bE):SSs X (aj cZ) cf:=by
 unfold cf
 exact (ae (P.set 3 (P.call 0 c_worth_fraction (a1 (P.call 1 c_total (a1 (P.v 2))))))
 (ae (P.if_ (bA hr (P.y 3) af) (ae (P.set 4 (P.call 2 c_nought_sign (a2 (P.v 1) (ue L.calm P.sc (x:="term") (ksn:=[]) (G:=[]) (ks:=[]) (by walk_at "C") rfl ↥1 (by rw [hS];decide +kernel) (kC (P.v 2)) (fun C fp s H W S' G'=>↥33)))))
 (ai (P.ret (aK (a2 (P.call 3 c_signed (a3 ↥29 (P.v 4) af)) af) ↥1)))) ar)
 (ai (P.ret (P.call 4 c_rounded (ag ↥29 (ag (P.v 1) (ag (P.y 3) (ag (P.y 3) (ag (P.y 3) bj))))))))))
theorem oR (P:Pl X iY ja) (hS:X.env.scope=aa de)
  (c_no_number:Callee X "no_number" aE) (g_WRONG:∃ t,X.mg "WRONG"=some (.int 16 t)) (m_len:X.mg "len"=none) (c_signed:Callee X "signed" bK) (c_endless:Callee X "endless" aZ) (c_settled_total:Callee X "settled_total" aF):SSs X (aj de) cg:=by
 unfold cg
 exact (ae (gG P.toSx L.calm 3 rfl (P.sto _ (mG 3)) (x:="term") (ksn:=[]) (G:=[]) (ks:=[]) (by walk_at "C") rfl ↥1 (by rw [hS];decide +kernel) (kC (P.v 2)) (fun C fp s H W S' G'=>.one (Ha ↥33)) (fun C fp s H W S' G'=>↥33) (gD hS (by decide +kernel)))
 (ae (yC 3 (P.if_ (t_w (w_and (zx af (P.v 3)) (j1 (zx af (P.v 3))))) (ai (P.ret (aK (a2 (P.call 0 c_no_number (a1 ↥29)) (gQ (P.w 1) g_WRONG)) ↥1))) ar))
 (ae (P.if_ (wQ (dD wg vF (P.w 2) m_len PySem.boot_len (a1 (P.v 3))) af) (ai (P.ret (aK (a2 (P.call 3 c_signed (a3 ↥29 (P.y 3) (P.call 4 c_endless (a1 ↥29)))) af) ↥1))) ar)
 (ai (P.ret (P.call 5 c_settled_total (a3 ↥29 (P.v 1) (P.v 2))))))))
theorem sk (P:Pl X kS lh) (hS:X.env.scope=aa eG)
  (c_kind:Callee X "kind" bf) (c_parted:Callee X "parted" br) (c_worth:Callee X "worth" jU):SSs X (aj eG) dz:=by
 unfold dz
 exact (ae (P.if_ (bA hr (P.call 0 c_kind (a2 ↥29 (P.v 1))) aL) (ai (P.ret (aK (a3 (ze (P.call 1 c_parted (a2 ↥29 (P.v 1))) af) Jq af) ↥1))) ar)
 (ai (P.ret (P.call 2 c_worth (a2 ↥29 (P.v 1))))))
theorem pO (P:Pl X jK jN) (hS:X.env.scope=aa dQ)
  (c_number_term:Callee X "number_term" aG):SSs X (aj dQ) dU:=by
 unfold dU
 exact (ae (P.set 3 (P.call 0 c_number_term (a2 ↥29 (P.v 1))))
 (ae (P.set 4 (P.call 0 c_number_term (a2 ↥29 (P.v 2))))
 (ae (P.set 5 (jI (P.y 3) (P.y 4)))
 (ae (P.if_ (t_w (w_or (Ha (P.y 3)) (gX (Ha (P.y 4))))) (ai (P.ret (aK (a3 (P.v 5) Jq af) ↥1))) ar)
 (ai (P.ret (aK (a3 (P.v 5) (bh (P.y 3) (P.y 4)) (aC (P.y 3) (P.y 4))) ↥1)))))))
theorem oS (P:Pl X iZ jb) (hS:X.env.scope=aa df)
  (c_kind:Callee X "kind" bf):SSs X (aj df) du:=by
 unfold du
 exact (ae (P.set 3 (aK (a2 (P.call 0 c_kind (a2 ↥29 (P.v 1))) (P.call 0 c_kind (a2 ↥29 (P.v 2)))) ↥1))
 (ai (P.ret (dP (Nd aL (P.v 3)) (dF (Nd aL (P.v 3)))))))
theorem sj (P:Pl X kR lg) (hS:X.env.scope=aa eD)
  (c_way_of:Callee X "way_of" aQ) (m_list:X.mg "list"=none) (c_any_none:Callee X "any_none" bg) (c_no_number:Callee X "no_number" aE) (c_product_wrong:Callee X "product_wrong" bo) (m_any:X.mg "any"=none) (g_WRONG:∃ t,X.mg "WRONG"=some (.int 16 t)) (c_product_term:Callee X "product_term" bR) (c_settled_terms:Callee X "settled_terms" aS) (c_number_term:Callee X "number_term" aG):SSs X (aj eD) cz:=by
 unfold cz
 exact (ae (P.xp (P.call 0 c_way_of (a1 (P.v 1))))
 (ae (tf P.toSx 4 rfl (P.sto _ (mG 4)) (Jh (P.w 1) m_list (P.v 3)))
 (ae (Av P.toSx L 5 rfl (P.sto _ (mG 5)) (kC (P.v 2)) (ai (Dp P.toSx 4 rfl (P.v 5))))
 (ae (NY (jF (P.call 2 c_any_none (a2 ↥29 (P.v 4)))) (ai (P.ret (aK (a2 (P.call 3 c_no_number (a1 ↥29)) af) ↥1))) ar)
 (ae (P.if_ (jF (dD (OW L.calm) OB (P.w 4) m_any boot_any (a1 (ue L.calm P.sc (x:="pair") (ksn:=["size"]) (G:=["product_wrong"]) (ks:=[0]) (by walk_at "C") rfl ↥1 (by rw [hS];decide +kernel) (kC (P.v 2)) (fun C fp s H W S' G'=>(uf ⟨c_product_wrong.ex⟩ (G' _ (mG 0)) (a3 (rW S' 1 rfl) ↥33 ↥33))))))) (ai (P.ret (aK (a2 (P.call 3 c_no_number (a1 ↥29)) (gQ (P.w 5) g_WRONG)) ↥1))) ar)
 (ae (gG P.toSx L.calm 6 rfl (P.sto _ (mG 6)) (x:="pair") (ksn:=["size"]) (G:=["product_term"]) (ks:=[0]) (by walk_at "C") rfl ↥1 (by rw [hS];decide +kernel) (kC (P.v 2)) (fun C fp s H W S' G'=>.nil) (fun C fp s H W S' G'=>(uf ⟨c_product_term.ex⟩ (G' _ (mG 0)) (a3 (rW S' 1 rfl) ↥33 ↥33))) (gD hS (by decide +kernel)))
 (ai (yC 6 (P.ret (P.call 6 c_settled_terms (a3 ↥29 (P.v 1) (aC (P.v 6) (ue L.calm P.sc (x:="bits") (ksn:=["size"]) (G:=["number_term"]) (ks:=[0]) (by walk_at "C") rfl ↥1 (by rw [hS];decide +kernel) (kC (P.v 3)) (fun C fp s H W S' G'=>(uf ⟨c_number_term.ex⟩ (G' _ (mG 0)) (a2 (rW S' 1 rfl) (rW S' 0 rfl)))))))))))))))))
theorem JN (P:Pl X Co Cw) (hS:X.env.scope=aa qY)
  (c_settled_sum:Callee X "settled_sum" ao):SSs X (aj qY) oJ:=by
 unfold oJ
 exact (ai (P.ret (P.call 0 c_settled_sum (ag ↥29 (ag (P.v 1) (ag (iV bj ↥1) (ag (iV (a2 (P.v 2) (P.v 3)) ↥1) bj)))))))
theorem EX (P:Pl X xX yg) (hS:X.env.scope=aa mU) {C_NoParts:Addr}
  (q_NoParts:X.mg "NoParts"=some (.ref  C_NoParts)) (xi_NoParts:PySem.W.excIn X.K C_NoParts bmV "ValueError.__new__"=true) (c_last_field:Callee X "last_field" aT) (c_sign_bit:Callee X "sign_bit" bQ):SSs X (aj mU) nz:=by
 unfold nz
 exact (ae (P.if_ (t_w (w_or (pT (P.v 1) af) (gX (wQ (P.v 1) af)))) (ai (iO (x:="NoParts") L.calm (P.w 0) q_NoParts xi_NoParts)) ar)
 (ae (P.if_ (t_w (w_or (pT (P.v 2) af) (gX (wQ (P.v 2) (P.call 1 c_last_field (a1 ↥29)))))) (ai (iO (x:="NoParts") L.calm (P.w 0) q_NoParts xi_NoParts)) ar)
 (ae (P.if_ (t_w (w_or (pT (P.v 3) af) (gX (Fm (P.v 3) (a9 af (P.y 0)))))) (ai (iO (x:="NoParts") L.calm (P.w 0) q_NoParts xi_NoParts)) ar)
 (ai (P.ret (aC (aC (bh (P.v 1) (P.call 2 c_sign_bit (a1 ↥29))) (a9 (P.v 2) (P.y 0))) (P.v 3)))))))
theorem B3 (P:Pl X uI uQ) (hS:X.env.scope=aa kf)
  (c_parted:Callee X "parted" br) (c_joined:Callee X "joined" kq):SSs X (aj kf) kG:=by
 unfold kG
 exact (ae (P.set 2 (P.call 0 c_parted (a2 ↥29 (P.v 1))))
 (ai (P.ret (P.call 1 c_joined (ag ↥29 (ag (aU af (P.y 2)) (ag (P.y 2) (ag (P.y 2) bj))))))))
theorem JL (P:Pl X Cm Cu) (hS:X.env.scope=aa qW)
  (c_way_of:Callee X "way_of" aQ) (c_settled_sum:Callee X "settled_sum" ao) (c_negated:Callee X "negated" iQ):SSs X (aj qW) rR:=by
 unfold rR
 exact (ae (P.xp (P.call 0 c_way_of (a1 (P.v 1))))
 (ai (P.ret (P.call 1 c_settled_sum (ag ↥29 (ag (P.v 1) (ag (iV bj ↥1) (ag (iV (a2 (P.v 2) (P.call 2 c_negated (a2 ↥29 (P.v 3)))) ↥1) bj))))))))
theorem uy (P:Pl X l6 mi) (hS:X.env.scope=aa fT)
  (c_settled_sum:Callee X "settled_sum" ao):SSs X (aj fT) gh:=by
 unfold gh
 exact (ai (P.ret (P.call 0 c_settled_sum (ag ↥29 (ag (P.v 1) (ag (iV (a1 (aK (a2 (P.v 2) (P.v 3)) ↥1)) ↥1) (ag (iV bj ↥1) bj)))))))
theorem zl (P:Pl X ql qw) (hS:X.env.scope=aa ji)
  (c_rounded:Callee X "rounded" bE):SSs X (aj ji) jw:=by
 unfold jw
 exact (ai (P.ret (P.call 0 c_rounded (ag ↥29 (ag (P.v 1) (ag (jI (P.y 2) (P.y 3)) (ag (bh (P.y 2) (P.y 3)) (ag (bh (P.y 2) (P.y 3)) bj))))))))
theorem B7 (P:Pl X uM uU) (hS:X.env.scope=aa kj)
  (c_way_of:Callee X "way_of" aQ) (c_any_none:Callee X "any_none" bg) (c_no_number:Callee X "no_number" aE) (c_kind:Callee X "kind" bf) (g_WRONG:∃ t,X.mg "WRONG"=some (.int 16 t)) (c_parted:Callee X "parted" br) (c_signed:Callee X "signed" bK) (c_endless:Callee X "endless" aZ) (g_POLE:∃ t,X.mg "POLE"=some (.int 8 t)) (c_quotient:Callee X "quotient" gJ) (c_fraction:Callee X "fraction" bG):SSs X (aj kj) kK:=by
 unfold kK
 exact (ae (P.xp (P.call 0 c_way_of (a1 (P.v 1))))
 (ae (P.if_ (jF (P.call 1 c_any_none (a2 ↥29 (iV (a2 (P.v 2) (P.v 3)) ↥1)))) (ai (P.ret (aK (a2 (P.call 2 c_no_number (a1 ↥29)) af) ↥1))) ar)
 (ae (P.set 4 (P.call 3 c_kind (a2 ↥29 (P.v 2))))
 (ae (P.set 5 (P.call 3 c_kind (a2 ↥29 (P.v 3))))
 (ae (P.if_ (t_w (w_and (bA hr (P.v 4) (P.v 5)) (j1 (zx (P.v 4) (aK (a2 aL aL) ↥1))))) (ai (P.ret (aK (a2 (P.call 2 c_no_number (a1 ↥29)) (gQ (P.w 4) g_WRONG)) ↥1))) ar)
 (ae (P.set 6 (jI (ze (P.call 5 c_parted (a2 ↥29 (P.v 2))) af) (ze (P.call 5 c_parted (a2 ↥29 (P.v 3))) af)))
 (ae (P.if_ (bA hr (P.v 4) aL) (ai (P.ret (aK (a2 (P.call 6 c_signed (a3 ↥29 (P.v 6) (P.call 7 c_endless (a1 ↥29)))) af) ↥1))) ar)
 (ae (P.if_ (t_w (w_or (bA hr (P.v 4) aL) (gX (bA hr (P.v 5) aL)))) (ai (P.ret (aK (a2 (P.call 6 c_signed (a3 ↥29 (P.v 6) af)) af) ↥1))) ar)
 (ae (P.if_ (bA hr (P.v 5) aL) (ai (P.ret (aK (a2 (P.call 6 c_signed (a3 ↥29 (P.v 6) (P.call 7 c_endless (a1 ↥29)))) (gQ (P.w 8) g_POLE)) ↥1))) ar)
 (ai (P.ret (P.call 9 c_quotient (ag ↥29 (ag (P.v 1) (ag (P.call 10 c_fraction (a2 ↥29 (P.v 2))) (ag (P.call 10 c_fraction (a2 ↥29 (P.v 3))) bj))))))))))))))))
theorem JM (P:Pl X Cn Cv) (hS:X.env.scope=aa qX)
  (c_settled_sum:Callee X "settled_sum" ao):SSs X (aj qX) rT:=by
 unfold rT
 exact (ai (P.ret (P.call 0 c_settled_sum (ag ↥29 (ag (P.v 1) (ag (iV (a1 (aK (a2 (P.v 2) (P.v 3)) ↥1)) ↥1) (ag (iV (a1 (P.v 4)) ↥1) bj)))))))
theorem ux (P:Pl X l5 mh) (hS:X.env.scope=aa fR) {C_NoFraction:Addr}
  (q_NoFraction:X.mg "NoFraction"=some (.ref  C_NoFraction)) (xi_NoFraction:PySem.W.excIn X.K C_NoFraction bmV "ValueError.__new__"=true):SSs X (aj fR) gf:=by
 unfold gf
 exact (ae (P.if_ (pT ↥29 af) (ai (iO (x:="NoFraction") L.calm (P.w 0) q_NoFraction xi_NoFraction)) ar)
 (ae (P.set 1 (a9 af (cj (aC (nG ↥29) af) af)))
 (ae (Hv P.toSx L.own (wQ (bh (P.v 1) (P.v 1)) ↥29) (ai (P.set 1 (cj (aC (P.v 1) (cj ↥29 (P.v 1))) af))))
 (ai (P.ret (P.v 1))))))
theorem wm (P:Pl X oX ph) (hS:X.env.scope=aa hX)
  (c_rest_by_middle:Callee X "rest_by_middle" aX):SSs X (aj hX) iy:=by
 unfold iy
 exact (ae (P.set 3 (bh (bh (aC (bh af (P.v 2)) af) (aC (bh af (P.v 2)) af)) (P.v 1)))
 (ai (P.ret (P.call 0 c_rest_by_middle (a3 (aU ↥29 (bh (bh (P.v 2) (P.v 2)) (P.v 1))) (bh af ↥29) (P.v 3))))))
theorem zk (P:Pl X qk qv) (hS:X.env.scope=aa jh)
  (c_check_fraction:Callee X "check_fraction" aJ) (c_low:Callee X "low" ko) (c_height:Callee X "height" iq) (m_max:X.mg "max"=none) (c_scaled:Callee X "scaled" eY) (c_whole_root:Callee X "whole_root" dY) (c_root_rest:Callee X "root_rest" fG):SSs X (aj jh) jv:=by
 unfold jv
 exact (ae (P.xp (P.call 0 c_check_fraction (a2 (P.v 1) (P.v 2))))
 (ae (P.if_ (bA hr (P.v 1) af) (ai (P.ret (aK (a3 af (P.call 1 c_low (a1 ↥29)) af) ↥1))) ar)
 (ae (P.set 3 (cj (aC (P.call 2 c_height (a2 (P.v 1) (P.v 2))) af) af))
 (ae (P.set 4 (dD (BV L.calm) AX (P.w 3) m_max boot_max (a2 (P.call 1 c_low (a1 ↥29)) (aU (aU (P.v 3) (P.y 0)) af))))
 (ae (P.set 5 (P.call 4 c_scaled (a3 (P.v 1) (P.v 2) (bh af (P.v 4)))))
 (ae (P.set 6 (P.call 5 c_whole_root (a1 (cj (P.y 5) (P.y 5)))))
 (ai (P.ret (aK (a3 (P.v 6) (P.v 4) (P.call 6 c_root_rest (a3 (P.y 5) (P.y 5) (P.v 6)))) ↥1)))))))))
theorem ET (P:Pl X xU yd) (hS:X.env.scope=aa mR)
  (c_way_of:Callee X "way_of" aQ) (c_any_none:Callee X "any_none" bg) (c_no_number:Callee X "no_number" aE) (c_kind:Callee X "kind" bf) (c_endless:Callee X "endless" aZ) (c_parted:Callee X "parted" br) (g_WRONG:∃ t,X.mg "WRONG"=some (.int 16 t)) (c_fraction:Callee X "fraction" bG) (c_root_cut:Callee X "root_cut" gI) (c_settled:Callee X "settled" fF):SSs X (aj mR) iw:=by
 unfold iw
 exact (ae (P.xp (P.call 0 c_way_of (a1 (P.v 1))))
 (ae (P.if_ (jF (P.call 1 c_any_none (a2 ↥29 (iV (a1 (P.v 2)) ↥1)))) (ai (P.ret (aK (a2 (P.call 2 c_no_number (a1 ↥29)) af) ↥1))) ar)
 (ae (P.if_ (t_w (w_or (bA hr (P.call 3 c_kind (a2 ↥29 (P.v 2))) aL) (gX (bA hr (P.v 2) (P.call 4 c_endless (a1 ↥29)))))) (ai (P.ret (aK (a2 (P.v 2) af) ↥1))) ar)
 (ae (P.if_ (bA hr (ze (P.call 5 c_parted (a2 ↥29 (P.v 2))) af) af) (ai (P.ret (aK (a2 (P.call 2 c_no_number (a1 ↥29)) (gQ (P.w 6) g_WRONG)) ↥1))) ar)
 (ae (P.set 3 (P.call 7 c_fraction (a2 ↥29 (P.v 2))))
 (ae (P.set 4 (P.call 8 c_root_cut (a3 ↥29 (P.y 3) (P.y 3))))
 (ai (P.ret (P.call 9 c_settled (ag ↥29 (ag (P.v 1) (ag af (ag (P.y 4) (ag (P.y 4) (ag (P.y 4) bj)))))))))))))))
theorem wu (P:Pl X oZ pk) (hS:X.env.scope=aa ig)
  (m_int:X.mg "int"=none) (isi_int:Isi X (.ty "int")) (hE:uV X) (m_isinstance:X.mg "isinstance"=none) (m_bool:X.mg "bool"=none) (isi_bool:Isi X (.ty "bool")):SSs X (aj ig) iA:=by
 unfold iA
 exact (ai (P.ret (dP (Jt isi_int hE (P.w 0) m_isinstance ↥29 (OP (n:="int") (P.w 1) m_int boot_int)) (dF (Jp (Jt isi_bool hE (P.w 0) m_isinstance ↥29 (OP (n:="bool") (P.w 2) m_bool boot_bool)))))))
theorem B4 (P:Pl X uJ uR) (hS:X.env.scope=aa kg)
  (m_tuple:X.mg "tuple"=none) (isi_tuple:Isi X (.ty "tuple")) (hE:uV X) (m_isinstance:X.mg "isinstance"=none) (m_len:X.mg "len"=none) (c_law_whole:Callee X "_law_whole" bW):SSs X (aj kg) kH:=by
 unfold kH
 exact (ae (P.if_ (t_w (w_or (pA (jF (Jt isi_tuple hE (P.w 0) m_isinstance ↥29 (OP (n:="tuple") (P.w 1) m_tuple boot_tuple)))) (gX (NL hr (dD wg vF (P.w 2) m_len PySem.boot_len (a1 ↥29)) af)))) (ai (P.ret wc)) ar)
 (ai (P.ret (dP (P.call 3 c_law_whole (a1 (P.y 0))) (dF (P.call 3 c_law_whole (a1 (P.y 0))))))))
theorem EW (P:Pl X xW yf) (hS:X.env.scope=aa mT)
  (c_law_two:Callee X "_law_two" bX):SSs X (aj mT) nu:=by
 unfold nu
 exact (ai (P.ret (dP (P.call 0 c_law_two (a1 ↥29)) (dP (gC hr (P.y 0) (P.v 1)) (dF (gC hr (P.y 0) (P.v 2)))))))
theorem B5 (P:Pl X uK uS) (hS:X.env.scope=aa kh)
     : SSs X (aj kh) kI:=by
 unfold kI
 exact (ae (P.if_ (bA hr ↥29 aL) (ai (P.ret (FK (Tf (P.v 2) af) (dF (dP (gC hr (P.v 2) af) (dF (P.v 3))))))) ar)
 (ae (P.if_ (bA hr ↥29 aL) (ai (P.ret (Tg (P.v 2) af))) ar)
 (ai (P.ret (P.v 1)))))
theorem zo (P:Pl X qo qy) (hS:X.env.scope=aa jk)
     : SSs X (aj jk) jy:=by
 unfold jy
 exact (ae (P.if_ (bA hr ↥29 aL) (ai (P.ret (FK (Js (P.v 2) af) (dF (dP (gC hr (P.v 2) af) (dF (P.v 3))))))) ar)
 (ae (P.if_ (bA hr ↥29 aL) (ai (P.ret (Js (P.v 2) af))) ar)
 (ai (P.ret (Jp (P.v 1))))))
theorem mI (P:Pl X iI iM) (hS:X.env.scope=aa cL)
  (c_law_whole:Callee X "_law_whole" bW) (c_law_near:Callee X "_law_near" cw) (c_law_far:Callee X "_law_far" dn):SSs X (aj cL) cQ:=by
 unfold cQ
 exact (ae (P.if_ (t_w (w_or (pA (jF (P.call 0 c_law_whole (a1 (P.v 2))))) (gX (pT (P.v 2) af)))) (ai (P.ret wc)) ar)
 (ae (P.set 5 (FK (dP (gC hr ↥29 aL) (dF (gC hr (P.v 1) af))) (dF (dP (gC hr ↥29 aL) (dF (gC hr (P.v 1) af))))))
 (ae (P.set 6 (aU (P.v 3) (bh (P.v 2) (P.v 4))))
 (ae (P.if_ (bA hr (P.v 6) af) (ai (P.ret wc)) ar)
 (ae (P.if_ (wQ (P.v 6) af) (ai (P.ret (dP (Js (P.v 6) (P.v 4)) (dF (P.call 1 c_law_near (ag ↥29 (ag (P.v 5) (ag (aU (bh af (P.v 6)) (P.v 4)) (ag (gC hr (aO (P.v 2) af) af) bj))))))))) ar)
 (ai (P.ret (dP (Tf (P.v 6) (EC (P.v 4))) (dF (P.call 2 c_law_far (ag ↥29 (ag (P.v 5) (ag (aC (bh af (P.v 6)) (P.v 4)) (ag (gC hr (aO (P.v 2) af) af) bj))))))))))))))
theorem lS (P:Pl X gS gW) (hS:X.env.scope=aa cm)
  (c_law_is:Callee X "_law_is" aR) (c_law_two:Callee X "_law_two" bX) (c_law_value:Callee X "_law_value" au) (c_law_fair_whole:Callee X "_law_fair_whole" bO) (m_int:X.mg "int"=none):SSs X (aj cm) cA:=by
 unfold cA
 exact (ae (P.set 4 ↥39)
 (ae (P.set 5 (a9 ↥17 (P.y 0)))
 (ae (P.set 6 (aO (P.v 2) (P.v 4)))
 (ae (P.if_ (wQ (P.v 6) (P.v 5)) (ai (P.ret (P.call 0 c_law_is (a3 (P.v 3) (aC (P.v 5) ↥16) af)))) ar)
 (ae (P.if_ (t_w (w_or (bA hr (P.v 6) (P.v 5)) (gX (bA hr (P.v 6) af)))) (ai (P.ret (P.call 0 c_law_is (a3 (P.v 3) (P.v 2) af)))) ar)
 (ae (P.if_ (pA (jF (P.call 1 c_law_two (a1 (P.v 3))))) (ai (P.ret wc)) ar)
 (ae (P.set 7 (aU (P.y 3) (bh (cj (P.v 2) (P.v 4)) (P.v 4))))
 (ae (P.if_ (pA (u2 L8 L8 tR tR af (P.v 7) (P.v 5))) (ai (P.ret wc)) ar)
 (ae (P.set 8 (aC (aU ↥16 af) (P.y 0)))
 (ae (P.set 9 (P.call 2 c_law_value (a2 ↥29 (P.v 7))))
 (ae (P.set 10 (P.call 2 c_law_value (a2 ↥29 (P.v 6))))
 (ae (P.if_ (t_w (w_or (NL hr (aO (P.v 9) (a9 af (P.v 8))) af) (gX (pA (jF (P.call 3 c_law_fair_whole (ag (P.v 1) (ag (cj (P.v 2) (P.v 4)) (ag (uc (P.v 9) (P.v 8)) (ag (P.v 10) (ag (a9 af (P.v 8)) bj))))))))))) (ai (P.ret wc)) ar)
 (ai (P.ret (gC hr (P.y 3) (aC (xI EI Eb (P.w 4) m_int PyProof.Rows.boot_int (a1 (OS hr (P.v 9) (P.v 10)))) (bh af (xI EI Eb (P.w 4) m_int PyProof.Rows.boot_int (a1 (gC hr (P.v 7) (P.v 5)))))))))))))))))))))
theorem zp (P:Pl X qp qz) (hS:X.env.scope=aa jl)
  (c_law_two:Callee X "_law_two" bX) (c_law_value:Callee X "_law_value" au) (c_law_near:Callee X "_law_near" cw) (c_law_far:Callee X "_law_far" dn):SSs X (aj jl) cV:=by
 unfold cV
 exact (ae (P.if_ (pA (jF (P.call 0 c_law_two (a1 (P.v 5))))) (ai (P.ret wc)) ar)
 (ae (P.set 6 (aU (P.y 5) (a9 (P.v 2) (aC (P.y 0) (P.y 0)))))
 (ae (P.set 7 (a9 ↥17 (P.y 0)))
 (ae (P.if_ (pA (u2 L8 L8 tR tR af (P.v 6) (P.v 7))) (ai (P.ret wc)) ar)
 (ae (P.set 8 (bh (P.call 1 c_law_value (a2 ↥29 (P.v 6))) (P.v 4)))
 (ae (P.set 9 (FK (dP (gC hr (P.v 1) aL) (dF (gC hr (P.v 2) af))) (dF (dP (gC hr (P.v 1) aL) (dF (gC hr (P.v 2) af))))))
 (ae (P.if_ (t_w (w_and (bA hr (P.v 6) (P.v 7)) (j1 (Fm (P.v 3) (P.v 8))))) (ai (P.ret (dP (gC hr (P.y 5) af) (dF (FK (gC hr (P.v 1) aL) (FK (gC hr (P.v 1) aL) (dF (P.v 9)))))))) ar)
 (ae (P.if_ (bA hr (P.v 3) (P.v 8)) (ai (P.ret (gC hr (P.y 5) af))) ar)
 (ae (P.set 10 af)
 (ae (P.if_ (pT (P.v 3) (a9 (P.v 4) (P.y 0))) (ai (P.set 10 af)) ar)
 (ae (P.if_ (wQ (P.v 3) (P.v 8)) (ae (P.set 12 (bh (P.call 1 c_law_value (a2 ↥29 (aC (P.v 6) af))) (P.v 4)))
 (ae (P.if_ (Fm (P.v 3) (P.v 12)) (ai (P.ret (dP (gC hr (P.y 5) af) (dP (gC hr (P.v 6) (aU (P.v 7) af)) (dP (OS hr (P.v 1) aL) (dP (OS hr (P.v 1) aL) (dF (Jp (P.v 9))))))))) ar)
 (ai (P.ret (dP (gC hr (P.y 5) (P.v 10)) (dF (P.call 2 c_law_near (ag (P.v 1) (ag (P.v 9) (ag (aU (aU (bh af (P.v 3)) (P.v 8)) (P.v 12)) (ag (gC hr (aO (P.v 6) af) af) bj))))))))))) ar)
 (ae (P.if_ (bA hr (P.v 6) (P.v 7)) (ai (P.set 10 af)) ar)
 (ae (P.set 11 (bh (P.call 1 c_law_value (a2 ↥29 (aU (P.v 6) af))) (P.v 4)))
 (ae (P.if_ (TB (P.v 3) (P.v 11)) (ai (P.ret wc)) ar)
 (ai (P.ret (dP (gC hr (P.y 5) (P.v 10)) (dF (P.call 3 c_law_far (ag (P.v 1) (ag (P.v 9) (ag (aU (aU (bh af (P.v 3)) (P.v 8)) (P.v 11)) (ag (gC hr (aO (P.v 6) af) af) bj)))))))))))))))))))))))
theorem pQ (P:Pl X jM jP) (hS:X.env.scope=aa dS)
  (c_law_is:Callee X "_law_is" aR) (m_len:X.mg "len"=none) (m_sum:X.mg "sum"=none) (m_int:X.mg "int"=none) (c_law_fair:Callee X "_law_fair" aP) (m_abs:X.mg "abs"=none):SSs X (aj dS) dX:=by
 unfold dX
 exact (ae (P.set 4 (aC (P.y 0) (P.y 0)))
 (ae (P.set 5 (a9 ↥17 (P.y 0)))
 (ae (gG P.toSx L.calm 6 rfl (P.sto _ (mG 6)) (x:="_law_term_here") (ksn:=[]) (G:=[]) (ks:=[]) (by walk_at "C") rfl ↥1 (by rw [hS];decide +kernel) (kC (P.v 2)) (fun C fp s H W S' G'=>.nil) (fun C fp s H W S' G'=>↥33) (gD hS (by decide +kernel)))
 (ae (yC 6 (gG P.toSx L.calm 7 rfl (P.sto _ (mG 7)) (x:="_law_term_here") (ksn:=[]) (G:=[]) (ks:=[]) (by walk_at "C") rfl ↥1 (by rw [hS];decide +kernel) (kC (P.v 2)) (fun C fp s H W S' G'=>.one (bA hr ↥33 aL)) (fun C fp s H W S' G'=>↥33) (gD hS (by decide +kernel))))
 (ae (yC 7 (P.if_ (zx aL (P.v 6)) (ai (P.ret (P.call 0 c_law_is (a3 (P.v 3) (aC (P.v 5) ↥16) af)))) ar))
 (ae (P.if_ (t_w (w_or (zx aL (P.v 6)) (gX (t_w (w_and (zx af (P.v 7)) (j1 (zx af (P.v 7)))))))) (ai (P.ret (P.call 0 c_law_is (a3 (P.v 3) (aC (P.v 5) ↥16) af)))) ar)
 (ae (P.if_ (wQ (dD wg vF (P.w 1) m_len PySem.boot_len (a1 (P.v 7))) af) (ai (P.ret (P.call 0 c_law_is (a3 (P.v 3) (aC (a9 (P.y 7) (P.v 4)) (P.v 5)) af)))) ar)
 (ae (P.set 8 (dD (OU L.calm) Oq (P.w 2) m_sum boot_sum (a1 (ue L.calm P.sc (x:="_law_term_here") (ksn:=[]) (G:=[]) (ks:=[]) (by walk_at "C") rfl ↥1 (by rw [hS];decide +kernel) (kC (P.v 2)) (fun C fp s H W S' G'=>(bh (aU af (bh af ↥33)) ↥33))))))
 (ae (gG P.toSx L.calm 9 rfl (P.sto _ (mG 9)) (x:="_law_term_here") (ksn:=[]) (G:=[]) (ks:=[]) (by walk_at "C") rfl ↥1 (by rw [hS];decide +kernel) (kC (P.v 2)) (fun C fp s H W S' G'=>.nil) (fun C fp s H W S' G'=>↥33) (gD hS (by decide +kernel)))
 (ae (yC 9 (P.if_ (bA hr (P.v 8) af) (ae (P.set 11 (xI EI Eb (P.w 3) m_int PyProof.Rows.boot_int (a1 (dP (Nd af (P.v 9)) (dF (FK (gC hr (P.v 1) aL) (dF (Jo af (P.v 9)))))))))
 (ai (P.ret (P.call 0 c_law_is (a3 (P.v 3) (a9 (P.v 11) (P.v 4)) af))))) ar))
 (ae (P.set 10 (aC (aU ↥16 af) (P.y 0)))
 (ai (P.ret (P.call 4 c_law_fair (ag ↥29 (ag (P.v 1) (ag (xI EI Eb (P.w 3) m_int PyProof.Rows.boot_int (a1 (Js (P.v 8) af))) (ag (dD MR Mb (P.w 5) m_abs boot_abs (a1 (P.v 8))) (ag (a9 af (P.v 10)) (ag (P.v 3) bj))))))))))))))))))))
theorem jX (P:Pl X fN fO) (hS:X.env.scope=aa bJ)
  (c_law_is:Callee X "_law_is" aR) (c_law_value:Callee X "_law_value" au) (c_law_fair:Callee X "_law_fair" aP):SSs X (aj bJ) bM:=by
 unfold bM
 exact (ae (P.set 5 ↥39)
 (ae (P.set 6 (a9 ↥17 (P.y 0)))
 (ae (P.set 7 (aO (P.v 2) (P.v 5)))
 (ae (P.set 8 (aO (P.v 3) (P.v 5)))
 (ae (P.set 9 (bh (cj (jI (P.v 2) (P.v 3)) (P.v 5)) (P.v 5)))
 (ae (P.if_ (t_w (w_or (wQ (P.v 7) (P.v 6)) (gX (wQ (P.v 8) (P.v 6))))) (ai (P.ret (P.call 0 c_law_is (a3 (P.v 4) (aC (P.v 6) ↥16) af)))) ar)
 (ae (P.if_ (t_w (w_and (bA hr (P.v 7) (P.v 8)) (j1 (t_w (w_or (bA hr (P.v 7) af) (gX (bA hr (P.v 7) (P.v 6)))))))) (ai (P.ret (P.call 0 c_law_is (a3 (P.v 4) (aC (P.v 6) ↥16) af)))) ar)
 (ae (P.if_ (bA hr (P.v 7) (P.v 6)) (ai (P.ret (P.call 0 c_law_is (a3 (P.v 4) (aC (P.v 9) (P.v 6)) af)))) ar)
 (ae (P.if_ (bA hr (P.v 8) af) (ai (P.ret (P.call 0 c_law_is (a3 (P.v 4) (aC (P.v 9) (P.v 6)) af)))) ar)
 (ae (P.if_ (t_w (w_or (bA hr (P.v 7) af) (gX (bA hr (P.v 8) (P.v 6))))) (ai (P.ret (P.call 0 c_law_is (a3 (P.v 4) (P.v 9) af)))) ar)
 (ae (P.set 10 (aC (aU ↥16 af) (P.y 0)))
 (ae (P.set 11 (a9 (P.call 1 c_law_value (a2 ↥29 (P.v 7))) (P.v 10)))
 (ai (P.ret (P.call 2 c_law_fair (ag ↥29 (ag (P.v 1) (ag (cj (P.v 9) (P.v 5)) (ag (P.v 11) (ag (P.call 1 c_law_value (a2 ↥29 (P.v 8))) (ag (P.v 4) bj)))))))))))))))))))))
theorem oV (P:Pl X i8 jd) (hS:X.env.scope=aa dh)
  (c_law_two:Callee X "_law_two" bX) (c_law_value:Callee X "_law_value" au) (c_law_near:Callee X "_law_near" cw) (c_law_far:Callee X "_law_far" dn):SSs X (aj dh) dB:=by
 unfold dB
 exact (ae (P.if_ (pA (jF (P.call 0 c_law_two (a1 (P.v 3))))) (ai (P.ret wc)) ar)
 (ae (P.set 4 (P.y 3))
 (ae (P.if_ (pA (u2 M9 M9 xj xj af (P.v 4) (a9 ↥17 (P.y 0)))) (ai (P.ret wc)) ar)
 (ae (P.set 5 (P.call 1 c_law_value (a2 ↥29 (P.v 4))))
 (ae (P.if_ (bA hr (bh (P.v 5) (P.v 5)) (P.v 2)) (ai (P.ret (gC hr (P.y 3) af))) ar)
 (ae (P.set 6 af)
 (ae (P.if_ (pT (P.v 2) (a9 af (bh af (P.y 0)))) (ai (P.set 6 af)) ar)
 (ae (P.if_ (pT (bh (P.v 5) (P.v 5)) (P.v 2)) (ae (P.set 10 (P.call 1 c_law_value (a2 ↥29 (aC (P.v 4) af))))
 (ae (P.set 8 (aU (bh af (P.v 2)) (MM (aC (P.v 5) (P.v 10)) af)))
 (ae (P.set 11 (P.call 2 c_law_near (ag (P.v 1) (ag (gC hr (P.v 1) aL) (ag (P.v 8) (ag (gC hr (aO (P.v 4) af) af) bj))))))
 (ai (P.ret (dP (gC hr (P.y 3) (P.v 6)) (dP (Js (P.v 2) (bh (P.v 10) (P.v 10))) (dF (P.v 11))))))))) ar)
 (ae (P.set 7 (P.call 1 c_law_value (a2 ↥29 (aU (P.v 4) af))))
 (ae (P.set 8 (aU (bh af (P.v 2)) (MM (aC (P.v 5) (P.v 7)) af)))
 (ae (P.set 9 (P.call 3 c_law_far (ag (P.v 1) (ag (gC hr (P.v 1) aL) (ag (P.v 8) (ag (gC hr (aO (P.v 4) af) af) bj))))))
 (ai (P.ret (dP (gC hr (P.y 3) (P.v 6)) (dP (Js (bh (P.v 7) (P.v 7)) (P.v 2)) (dF (P.v 9)))))))))))))))))
theorem oU (P:Pl X i7 jc) (hS:X.env.scope=aa dg)
  (c_law_is:Callee X "_law_is" aR) (c_law_root_fair:Callee X "_law_root_fair" bZ) (c_law_value:Callee X "_law_value" au):SSs X (aj dg) dA:=by
 unfold dA
 exact (ae (P.set 4 ↥39)
 (ae (P.set 5 (a9 ↥17 (P.y 0)))
 (ae (P.if_ (wQ (aO (P.v 2) (P.v 4)) (P.v 5)) (ai (P.ret (P.call 0 c_law_is (a3 (P.v 3) (aC (P.v 5) ↥16) af)))) ar)
 (ae (P.if_ (t_w (w_or (bA hr (aO (P.v 2) (P.v 4)) af) (gX (bA hr (P.v 2) (P.v 5))))) (ai (P.ret (P.call 0 c_law_is (a3 (P.v 3) (P.v 2) af)))) ar)
 (ae (P.if_ (Fm (P.v 2) (P.v 4)) (ai (P.ret (P.call 0 c_law_is (a3 (P.v 3) (aC (P.v 5) ↥16) af)))) ar)
 (ae (P.set 6 (aC (aU ↥16 af) (P.y 0)))
 (ai (P.ret (P.call 1 c_law_root_fair (ag ↥29 (ag (P.v 1) (ag (a9 (P.call 2 c_law_value (a2 ↥29 (P.v 2))) (P.v 6)) (ag (P.v 3) bj)))))))))))))
theorem zm (P:Pl X qm qx) (hS:X.env.scope=aa jj)
  (c_law_value:Callee X "_law_value" au):SSs X (aj jj) jx:=by
 unfold jx
 exact (ae (P.set 2 ↥39)
 (ae (P.set 3 (a9 ↥17 (P.y 0)))
 (ae (P.set 4 (aC (aU ↥16 af) (P.y 0)))
 (ae (P.if_ (wQ (aO (P.v 1) (P.v 2)) (P.v 3)) (ai (P.ret (aK (a3 aL af af) ↥1))) ar)
 (ae (P.if_ (bA hr (aO (P.v 1) (P.v 2)) (P.v 3)) (ai (P.ret (aK (a3 aL (cj (P.v 1) (P.v 2)) af) ↥1))) ar)
 (ai (P.ret (aK (a3 aL (cj (P.v 1) (P.v 2)) (a9 (P.call 0 c_law_value (a2 ↥29 (aO (P.v 1) (P.v 2)))) (P.v 4))) ↥1))))))))
theorem sv (P:Pl X kW lq) (hS:X.env.scope=aa eL)
  (c_law_term:Callee X "_law_term" az):SSs X (aj eL) fj:=by
 unfold fj
 exact (ae (P.set 3 (aC (aU ↥16 af) (P.y 0)))
 (ae (P.set 4 (P.call 0 c_law_term (a2 ↥29 (P.v 1))))
 (ae (P.set 5 (P.call 0 c_law_term (a2 ↥29 (P.v 2))))
 (ae (P.set 6 (jI (P.y 4) (P.y 5)))
 (ae (P.if_ (t_w (w_or (bA hr (P.y 4) aL) (gX (bA hr (P.y 5) aL)))) (ai (P.ret (aK (a3 aL af af) ↥1))) ar)
 (ae (P.if_ (t_w (w_and (bA hr (P.y 4) aL) (j1 (bA hr (P.y 5) aL)))) (ai (P.ret (aK (a3 aL (P.v 6) (bh (uc (P.y 4) (P.v 3)) (uc (P.y 5) (P.v 3)))) ↥1))) ar)
 (ae (P.if_ (t_w (w_or (t_w (w_and (bA hr (P.y 4) aL) (j1 (bA hr (P.y 4) af)))) (gX (t_w (w_and (bA hr (P.y 5) aL) (j1 (bA hr (P.y 5) af))))))) (ai (P.ret (aK (a3 aL af af) ↥1))) ar)
 (ai (P.ret (aK (a3 aL (P.v 6) af) ↥1))))))))))
theorem zq (P:Pl X qq qA) (hS:X.env.scope=aa jm)
  (c_added:Callee X "added" iR) (c_law_sum_good:Callee X "_law_sum_good" bc) (c_law_term:Callee X "_law_term" az) (c_taken:Callee X "taken" oq) (c_multiplied:Callee X "multiplied" cU) (c_law_product:Callee X "_law_product" cu) (c_divided:Callee X "divided" fI) (c_law_quotient_good:Callee X "_law_quotient_good" bp) (c_fused:Callee X "fused" lK) (c_rooted:Callee X "rooted" cq) (c_law_root_good:Callee X "_law_root_good" bY) (c_wholed:Callee X "wholed" di) (c_law_wholed_fair:Callee X "_law_wholed_fair" bF):SSs X (aj jm) jz:=by
 unfold jz
 exact (ae (P.if_ (bA hr (P.v 2) af) (ae (P.set 6 (P.call 0 c_added (ag ↥29 (ag (P.v 1) (ag (P.v 3) (ag (P.v 4) bj))))))
 (ai (P.ret (aK (a2 (P.call 1 c_law_sum_good (ag ↥29 (ag (P.v 1) (ag (iV (a2 (P.call 2 c_law_term (a2 ↥29 (P.v 3))) (P.call 2 c_law_term (a2 ↥29 (P.v 4)))) ↥1) (ag (P.v 6) bj))))) (P.v 6)) ↥1)))) ar)
 (ae (P.if_ (bA hr (P.v 2) af) (ae (P.set 6 (P.call 3 c_taken (ag ↥29 (ag (P.v 1) (ag (P.v 3) (ag (P.v 4) bj))))))
 (ae (P.set 7 (jI (P.v 4) ↥39))
 (ai (P.ret (aK (a2 (P.call 1 c_law_sum_good (ag ↥29 (ag (P.v 1) (ag (iV (a2 (P.call 2 c_law_term (a2 ↥29 (P.v 3))) (P.call 2 c_law_term (a2 ↥29 (P.v 7)))) ↥1) (ag (P.v 6) bj))))) (P.v 6)) ↥1))))) ar)
 (ae (P.if_ (bA hr (P.v 2) af) (ae (P.set 6 (P.call 4 c_multiplied (ag ↥29 (ag (P.v 1) (ag (P.v 3) (ag (P.v 4) bj))))))
 (ai (P.ret (aK (a2 (P.call 1 c_law_sum_good (ag ↥29 (ag (P.v 1) (ag (iV (a1 (P.call 5 c_law_product (a3 ↥29 (P.v 3) (P.v 4)))) ↥1) (ag (P.v 6) bj))))) (P.v 6)) ↥1)))) ar)
 (ae (P.if_ (bA hr (P.v 2) af) (ae (P.set 6 (P.call 6 c_divided (ag ↥29 (ag (P.v 1) (ag (P.v 3) (ag (P.v 4) bj))))))
 (ai (P.ret (aK (a2 (P.call 7 c_law_quotient_good (ag ↥29 (ag (P.v 1) (ag (P.v 3) (ag (P.v 4) (ag (P.v 6) bj)))))) (P.v 6)) ↥1)))) ar)
 (ae (P.if_ (bA hr (P.v 2) af) (ae (P.set 6 (P.call 8 c_fused (ag ↥29 (ag (P.v 1) (ag (P.v 3) (ag (P.v 4) (ag (P.v 5) bj)))))))
 (ai (P.ret (aK (a2 (P.call 1 c_law_sum_good (ag ↥29 (ag (P.v 1) (ag (iV (a2 (P.call 5 c_law_product (a3 ↥29 (P.v 3) (P.v 4))) (P.call 2 c_law_term (a2 ↥29 (P.v 5)))) ↥1) (ag (P.v 6) bj))))) (P.v 6)) ↥1)))) ar)
 (ae (P.if_ (bA hr (P.v 2) af) (ae (P.set 6 (P.call 9 c_rooted (a3 ↥29 (P.v 1) (P.v 3))))
 (ai (P.ret (aK (a2 (P.call 10 c_law_root_good (ag ↥29 (ag (P.v 1) (ag (P.v 3) (ag (P.v 6) bj))))) (P.v 6)) ↥1)))) ar)
 (ae (P.set 6 (P.call 11 c_wholed (a3 ↥29 (P.v 1) (P.v 3))))
 (ai (P.ret (aK (a2 (P.call 12 c_law_wholed_fair (ag ↥29 (ag (P.v 1) (ag (P.v 3) (ag (P.v 6) bj))))) (P.v 6)) ↥1))))))))))
theorem O0 (P:Pl X MZ M4) (hS:X.env.scope=aa pL)
  (c_law_size_by:Callee X "_law_size_by" dk) (c_law_cell_at:Callee X "_law_cell_at" cx) (c_law_bits_by:Callee X "_law_bits_by" aH) (c_law_way_by:Callee X "_law_way_by" d5) (m_len:X.mg "len"=none) (c_law_partner:Callee X "_law_partner" cv) (c_law_third_by:Callee X "_law_third_by" bS) (c_law_deed:Callee X "_law_deed" fz):SSs X (aj pL) Et:=by
 unfold Et
 exact (ae (P.set 1 (P.call 0 c_law_size_by (a1 (P.call 1 c_law_cell_at (a2 ↥29 af)))))
 (ae (tf P.toSx 2 rfl (P.sto _ (mG 2)) (ON (a1 (P.call 2 c_law_bits_by (a2 (P.v 1) (P.call 1 c_law_cell_at (a2 ↥29 af))))) ↥1))
 (ae (Av P.toSx L 3 rfl (P.sto _ (mG 3)) (kC (OR ↥29 (Dy af) Dz)) (ae (P.set 4 (aO (P.v 3) af))
 (ae (P.set 5 (cj (P.v 3) af))
 (ae (P.if_ (bA hr (P.v 4) af) (ae (wV P.toSx 2 rfl (P.call 2 c_law_bits_by (a2 (P.v 1) (P.v 5))))
 (ai La)) ar)
 (ae (wU P.toSx 6 rfl (P.sto _ (mG 6)) (P.call 3 c_law_way_by (a1 (aC (P.v 5) (dD wg vF (P.w 4) m_len PySem.boot_len (a1 (P.v 2)))))))
 (ae (wU P.toSx 7 rfl (P.sto _ (mG 7)) (ze (P.v 2) (EC af)))
 (ae (P.if_ (bA hr (aO (cj (P.v 5) af) af) af) (ai (wU P.toSx 7 rfl (P.sto _ (mG 7)) (ze (P.v 2) (aO (cj (P.v 5) af) (dD wg vF (P.w 4) m_len PySem.boot_len (a1 (P.v 2))))))) ar)
 (ae (wU P.toSx 8 rfl (P.sto _ (mG 8)) (P.call 5 c_law_partner (ag (P.v 1) (ag (P.v 2) (ag (P.v 7) (ag (P.v 4) (ag (aO (bh (P.v 5) af) af) bj)))))))
 (ae (P.set 9 (P.call 6 c_law_third_by (ag (P.v 1) (ag (P.v 7) (ag (P.v 8) (ag (aO (bh (P.v 5) af) af) bj))))))
 (ae (K8 P.toSx L.calm 10 11 rfl rfl (P.sto _ (mG 10)) (P.sto _ (mG 11)) (P.call 7 c_law_deed (ag (P.v 1) (ag (P.v 6) (ag (P.v 4) (ag (P.v 7) (ag (P.v 8) (ag (P.v 9) bj))))))))
 (ae (P.if_ (pA (jF (P.v 10))) (ai (P.ret wc)) ar)
 (ai (wV P.toSx 2 rfl (P.y 11))))))))))))))
 (ai (P.ret wc)))))
end
theorem all_mk {P:Program} {w:World} {K:PySem.W.Frag} {h:Heap} {mg:Str->Option Value} {fa:Addr} (KX:K.In h) (GG:h.Ns mainGlobals mg) (hfa:mg "law"=some (.ref fa))
  {C_Way:Addr} (n_Way:PySem.W.nsIn K mainGlobals "Way"=some (some (.ref C_Way)))
  (pg_Way:PySem.W.plainGet K C_Way Str.empty=true) (hd_Way:PySem.W.hasDictIn K C_Way=true) (po_Way:PySem.W.plainOver K C_Way=true) (sa_Way:PySem.W.findIn K (.ref C_Way) "__setattr__"=some (some (.builtin "object.__setattr__")))
  (na_Way:PySem.W.findIn K (.ref C_Way) "name"=some none)
  {fIWay:Addr} {odIWay anIWay:Option Addr} {slIWay:Array (Option Value)} {ocIWay kVIWay dcIWay pmIWay cdIWay ctIWay:Value}
  (aIWay:PySem.W.findIn K (.ref C_Way) "__init__"=some (some (.ref fIWay))) (uIWay:PySem.W.isFn K (.ref fIWay)=true) (mm_Way:PySem.W.makesIn K C_Way=true) (kc_Way:PySem.W.keepIn K (.ref C_Way)=true)
  (lIWay:K.lookup fIWay=some ⟨ocIWay,odIWay,.func (PySem.W.fnOf "__init__" "Way.__init__" (gB jr) (aj jr) (aa jr) .none kVIWay dcIWay pmIWay anIWay cdIWay ctIWay),slIWay⟩)
  (eIWay:PySem.W.codeIn K cdIWay "Way.__init__"=true) (kIWay:PySem.W.keepIn K (.ref fIWay)=true)
  (q1:DA K "_law_size_by" eJ)
  (q2:DA K "_law_cell_at" eR)
  (q3:DA K "_law_mixed" ik)
  (q4:DA K "_law_bits_by" eV)
  (q5:DA K "_law_way_by" fV)
  (q6:DA K "_law_odd_by" fW)
  (q7:DA K "_law_mate_by" eQ)
  (q8:DA K "_law_partner" eO)
  (q9:DA K "_law_value" ij)
  (q10:DA K "_law_third_by" dR)
  (q11:DA K "way_of" mO)
  (q12:DA K "sign_bit" jg)
  (q13:DA K "width" qU)
  (q14:DA K "parted" mS)
  (q15:DA K "last_field" fX)
  (q16:DA K "kind" wW)
  (q17:DA K "worth_fraction" cJ)
  (q18:DA K "bias" wX)
  (q19:DA K "low" Dq)
  (q20:DA K "worth" qT)
  (q21:DA K "fraction" jo)
  (q22:DA K "check_fraction" cM)
  (q23:DA K "rest_by_middle" cK)
  (q24:DA K "rest_of" ka)
  {f25:Addr} {od25 an25:Option Addr} {sl25:Array (Option Value)} {oc25 kV25 dc25 pm25 cd25 ct25:Value}
  (a25:PySem.W.findIn K (.ref C_Way) "flees_nought"=some (some (.ref f25))) (u25:PySem.W.isFn K (.ref f25)=true)
  (l25:K.lookup f25=some ⟨oc25,od25,.func (PySem.W.fnOf "flees_nought" "Way.flees_nought" (gB aN) (aj aN) (aa aN) .none kV25 dc25 pm25 an25 cd25 ct25),sl25⟩)
  (e25:PySem.W.codeIn K cd25 "Way.flees_nought"=true) (k25:PySem.W.keepIn K (.ref f25)=true)
  {f26:Addr} {od26 an26:Option Addr} {sl26:Array (Option Value)} {oc26 kV26 dc26 pm26 cd26 ct26:Value}
  (a26:PySem.W.findIn K (.ref C_Way) "grows"=some (some (.ref f26))) (u26:PySem.W.isFn K (.ref f26)=true)
  (l26:K.lookup f26=some ⟨oc26,od26,.func (PySem.W.fnOf "grows" "Way.grows" (gB cS) (aj cS) (aa cS) .none kV26 dc26 pm26 an26 cd26 ct26),sl26⟩)
  (e26:PySem.W.codeIn K cd26 "Way.grows"=true) (k26:PySem.W.keepIn K (.ref f26)=true)
  (q27:DA K "whole_of" jf)
  (q28:DA K "whole_and_flags" ck)
  (q29:DA K "scaled" mQ)
  (q30:DA K "height" mV)
  (q31:DA K "cut" Dr)
  (q32:DA K "endless" ki)
  (q33:DA K "signed" mP)
  (q34:DA K "lost_flags" fU)
  {f35:Addr} {od35 an35:Option Addr} {sl35:Array (Option Value)} {oc35 kV35 dc35 pm35 cd35 ct35:Value}
  (a35:PySem.W.findIn K (.ref C_Way) "bursts"=some (some (.ref f35))) (u35:PySem.W.isFn K (.ref f35)=true)
  (l35:K.lookup f35=some ⟨oc35,od35,.func (PySem.W.fnOf "bursts" "Way.bursts" (gB bV) (aj bV) (aa bV) .none kV35 dc35 pm35 an35 cd35 ct35),sl35⟩)
  (e35:PySem.W.codeIn K cd35 "Way.bursts"=true) (k35:PySem.W.keepIn K (.ref f35)=true)
  (q36:DA K "settled" j8)
  (q37:DA K "rounded" j9)
  (q38:DA K "no_number" ie)
  (q39:DA K "wholed" mM)
  (q40:DA K "any_none" jq)
  (q41:DA K "total" qV)
  (q42:DA K "nought_sign" eH)
  (q43:DA K "settled_total" cZ)
  (q44:DA K "settled_terms" de)
  (q45:DA K "number_term" eG)
  (q46:DA K "product_term" dQ)
  (q47:DA K "product_wrong" df)
  (q48:DA K "settled_sum" eD)
  (q49:DA K "added" qY)
  (q50:DA K "joined" mU)
  (q51:DA K "negated" kf)
  (q52:DA K "taken" qW)
  (q53:DA K "multiplied" fT)
  (q54:DA K "quotient" ji)
  (q55:DA K "divided" kj)
  (q56:DA K "fused" qX)
  (q57:DA K "whole_root" fR)
  (q58:DA K "root_rest" hX)
  (q59:DA K "root_cut" jh)
  (q60:DA K "rooted" mR)
  (q61:DA K "_law_whole" ig)
  (q62:DA K "_law_two" kg)
  (q63:DA K "_law_is" mT)
  (q64:DA K "_law_far" kh)
  (q65:DA K "_law_near" jk)
  (q66:DA K "_law_fair_whole" cL)
  (q67:DA K "_law_wholed_fair" cm)
  (q68:DA K "_law_fair" jl)
  (q69:DA K "_law_sum_good" dS)
  (q70:DA K "_law_quotient_good" bJ)
  (q71:DA K "_law_root_fair" dh)
  (q72:DA K "_law_root_good" dg)
  (q73:DA K "_law_term" jj)
  (q74:DA K "_law_product" eL)
  (q75:DA K "_law_deed" jm)
  {f76:Addr} {od76 an76:Option Addr} {sl76:Array (Option Value)} {oc76 kV76 dc76 pm76 cd76 ct76:Value}
  (a76:PySem.W.nsIn K mainGlobals "law"=some (some (.ref f76)))
  (l76:K.lookup f76=some ⟨oc76,od76,.func (PySem.W.fnOf "law" "law" (gB pL) (aj pL) (aa pL) .none kV76 dc76 pm76 an76 cd76 ct76),sl76⟩)
  (e76:PySem.W.codeIn K cd76 "law"=true) (k76:PySem.W.keepIn K (.ref f76)=true)
  (z_len:PySem.W.nsIn K mainGlobals "len"=some none)
  (z_min:PySem.W.nsIn K mainGlobals "min"=some none)
  (z_max:PySem.W.nsIn K mainGlobals "max"=some none)
  (z_abs:PySem.W.nsIn K mainGlobals "abs"=some none)
  (z_list:PySem.W.nsIn K mainGlobals "list"=some none)
  (z_any:PySem.W.nsIn K mainGlobals "any"=some none)
  (z_int:PySem.W.nsIn K mainGlobals "int"=some none)
  (z_isinstance:PySem.W.nsIn K mainGlobals "isinstance"=some none)
  (z_bool:PySem.W.nsIn K mainGlobals "bool"=some none)
  (z_tuple:PySem.W.nsIn K mainGlobals "tuple"=some none)
  (z_sum:PySem.W.nsIn K mainGlobals "sum"=some none)
  {A_NAMES:Addr} {dd_NAMES:Option Addr} {nn_NAMES:Nat} {ss_NAMES:Array (Option Value)} {t0_NAMES t1_NAMES t2_NAMES t3_NAMES t4_NAMES:Tok} (y_NAMES:PySem.W.nsIn K mainGlobals "NAMES"=some (some (.ref A_NAMES)))
  (yl_NAMES:K.lookup A_NAMES=some ⟨.type "tuple",dd_NAMES,.seq #[.str "even" t0_NAMES,.str "away" t1_NAMES,.str "nought" t2_NAMES,.str "up" t3_NAMES,.str "down" t4_NAMES] nn_NAMES,ss_NAMES⟩)
  {t_INEXACT:Tok} (y_INEXACT:PySem.W.nsIn K mainGlobals "INEXACT"=some (some (.int 1 t_INEXACT)))
  {t_GREAT:Tok} (y_GREAT:PySem.W.nsIn K mainGlobals "GREAT"=some (some (.int 4 t_GREAT)))
  {t_SMALL:Tok} (y_SMALL:PySem.W.nsIn K mainGlobals "SMALL"=some (some (.int 2 t_SMALL)))
  {t_WRONG:Tok} (y_WRONG:PySem.W.nsIn K mainGlobals "WRONG"=some (some (.int 16 t_WRONG)))
  {t_POLE:Tok} (y_POLE:PySem.W.nsIn K mainGlobals "POLE"=some (some (.int 8 t_POLE)))
  {C_MillError:Addr} (n_MillError:PySem.W.nsIn K mainGlobals "MillError"=some (some (.ref C_MillError)))
  {C_NoBits:Addr} (n_NoBits:PySem.W.nsIn K mainGlobals "NoBits"=some (some (.ref C_NoBits)))
  {C_NoParts:Addr} (n_NoParts:PySem.W.nsIn K mainGlobals "NoParts"=some (some (.ref C_NoParts)))
  {C_NotFinite:Addr} (n_NotFinite:PySem.W.nsIn K mainGlobals "NotFinite"=some (some (.ref C_NotFinite)))
  {C_NoWay:Addr} (n_NoWay:PySem.W.nsIn K mainGlobals "NoWay"=some (some (.ref C_NoWay)))
  {C_NoFraction:Addr} (n_NoFraction:PySem.W.nsIn K mainGlobals "NoFraction"=some (some (.ref C_NoFraction)))
  (xi_NoWay:PySem.W.excIn K C_NoWay bmV "ValueError.__new__"=true)
  (xi_NoBits:PySem.W.excIn K C_NoBits bmV "ValueError.__new__"=true)
  (xi_NotFinite:PySem.W.excIn K C_NotFinite bmV "ValueError.__new__"=true)
  (xi_NoFraction:PySem.W.excIn K C_NoFraction bmV "ValueError.__new__"=true)
  (xi_NoParts:PySem.W.excIn K C_NoParts bmV "ValueError.__new__"=true)
  (v_MillError:XCls K C_MillError)
  (w_NoSize:PySem.W.nsIn K mainGlobals "NoSize"=some none)
  (v_NoBits:XCls K C_NoBits)
  (v_NoParts:XCls K C_NoParts)
  (w_NoRank:PySem.W.nsIn K mainGlobals "NoRank"=some none)
  (v_NotFinite:XCls K C_NotFinite)
  (v_NoWay:XCls K C_NoWay)
  (w_NoFlags:PySem.W.nsIn K mainGlobals "NoFlags"=some none)
  (v_NoFraction:XCls K C_NoFraction)
  (w_Unlike:PySem.W.nsIn K mainGlobals "Unlike"=some none)
  (w_Empty:PySem.W.nsIn K mainGlobals "Empty"=some none)
  (w_NoLeft:PySem.W.nsIn K mainGlobals "NoLeft"=some none)
  (w_NoText:PySem.W.nsIn K mainGlobals "NoText"=some none)
  (w_NoRow:PySem.W.nsIn K mainGlobals "NoRow"=some none)
  (w_NoName:PySem.W.nsIn K mainGlobals "NoName"=some none)
  (w_Stopped:PySem.W.nsIn K mainGlobals "Stopped"=some none)
  (i_int_NoneType:PySem.W.kitOne K (.type "NoneType") (.type "int")=some false)
  (i_int_bool:PySem.W.kitOne K (.type "bool") (.type "int")=some true)
  (i_int_int:PySem.W.kitOne K (.type "int") (.type "int")=some true)
  (i_int_str:PySem.W.kitOne K (.type "str") (.type "int")=some false)
  (i_int_tuple:PySem.W.kitOne K ↥5 (.type "int")=some false)
  (i_int_list:PySem.W.kitOne K (.type "list") (.type "int")=some false)
  (i_bool_NoneType:PySem.W.kitOne K (.type "NoneType") (.type "bool")=some false)
  (i_bool_bool:PySem.W.kitOne K (.type "bool") (.type "bool")=some true)
  (i_bool_int:PySem.W.kitOne K (.type "int") (.type "bool")=some false)
  (i_bool_str:PySem.W.kitOne K (.type "str") (.type "bool")=some false)
  (i_bool_tuple:PySem.W.kitOne K ↥5 (.type "bool")=some false)
  (i_bool_list:PySem.W.kitOne K (.type "list") (.type "bool")=some false)
  (i_tuple_NoneType:PySem.W.kitOne K (.type "NoneType") ↥5=some false)
  (i_tuple_bool:PySem.W.kitOne K (.type "bool") ↥5=some false)
  (i_tuple_int:PySem.W.kitOne K (.type "int") ↥5=some false)
  (i_tuple_str:PySem.W.kitOne K (.type "str") ↥5=some false)
  (i_tuple_tuple:PySem.W.kitOne K ↥5 ↥5=some true)
  (i_tuple_list:PySem.W.kitOne K (.type "list") ↥5=some false)
  : ∃ fd:FuncData,(∀ (s:Shared) (v:Value),BindsTo s fd ⟨[v],[]⟩ [("_law_script",v)])/\∀ base:Heap,K.In base->base.Ns mainGlobals mg->FnOk P w K mg base (CXF P w) 11 fa fd ["_law_script"] (spP K mg DG):=by
 have e:=hfa.symm.trans (PySem.W.mg_of KX GG a76)
 cases e
 have q_Way:=PySem.W.mg_of KX GG n_Way
 have cl_Way:Cls K C_Way:=⟨pg_Way,hd_Way,po_Way,sa_Way⟩
 have m_len:=PySem.W.mg_none_of KX GG z_len
 have m_min:=PySem.W.mg_none_of KX GG z_min
 have m_max:=PySem.W.mg_none_of KX GG z_max
 have m_abs:=PySem.W.mg_none_of KX GG z_abs
 have m_list:=PySem.W.mg_none_of KX GG z_list
 have m_any:=PySem.W.mg_none_of KX GG z_any
 have m_int:=PySem.W.mg_none_of KX GG z_int
 have m_isinstance:=PySem.W.mg_none_of KX GG z_isinstance
 have m_bool:=PySem.W.mg_none_of KX GG z_bool
 have m_tuple:=PySem.W.mg_none_of KX GG z_tuple
 have m_sum:=PySem.W.mg_none_of KX GG z_sum
 have g_INEXACT:∃ t,mg "INEXACT"=some (.int 1 t):=⟨_,PySem.W.mg_of KX GG y_INEXACT⟩
 have g_GREAT:∃ t,mg "GREAT"=some (.int 4 t):=⟨_,PySem.W.mg_of KX GG y_GREAT⟩
 have g_SMALL:∃ t,mg "SMALL"=some (.int 2 t):=⟨_,PySem.W.mg_of KX GG y_SMALL⟩
 have g_WRONG:∃ t,mg "WRONG"=some (.int 16 t):=⟨_,PySem.W.mg_of KX GG y_WRONG⟩
 have g_POLE:∃ t,mg "POLE"=some (.int 8 t):=⟨_,PySem.W.mg_of KX GG y_POLE⟩
 have q_MillError:=PySem.W.mg_of KX GG n_MillError
 have q_NoBits:=PySem.W.mg_of KX GG n_NoBits
 have q_NoParts:=PySem.W.mg_of KX GG n_NoParts
 have q_NotFinite:=PySem.W.mg_of KX GG n_NotFinite
 have q_NoWay:=PySem.W.mg_of KX GG n_NoWay
 have q_NoFraction:=PySem.W.mg_of KX GG n_NoFraction
 have hXF:∀ n∈ax,XF K mg n:=O4
  ⟨.inr ⟨_,q_MillError,v_MillError⟩⟩
  ⟨.inl (PySem.W.mg_none_of KX GG w_NoSize)⟩
  ⟨.inr ⟨_,q_NoBits,v_NoBits⟩⟩
  ⟨.inr ⟨_,q_NoParts,v_NoParts⟩⟩
  ⟨.inl (PySem.W.mg_none_of KX GG w_NoRank)⟩
  ⟨.inr ⟨_,q_NotFinite,v_NotFinite⟩⟩
  ⟨.inr ⟨_,q_NoWay,v_NoWay⟩⟩
  ⟨.inl (PySem.W.mg_none_of KX GG w_NoFlags)⟩
  ⟨.inr ⟨_,q_NoFraction,v_NoFraction⟩⟩
  ⟨.inl (PySem.W.mg_none_of KX GG w_Unlike)⟩
  ⟨.inl (PySem.W.mg_none_of KX GG w_Empty)⟩
  ⟨.inl (PySem.W.mg_none_of KX GG w_NoLeft)⟩
  ⟨.inl (PySem.W.mg_none_of KX GG w_NoText)⟩
  ⟨.inl (PySem.W.mg_none_of KX GG w_NoRow)⟩
  ⟨.inl (PySem.W.mg_none_of KX GG w_NoName)⟩
  ⟨.inl (PySem.W.mg_none_of KX GG w_Stopped)⟩
 refine ⟨PySem.W.fnOf "law" "law" (gB pL) (aj pL) (aa pL) .none kV76 dc76 pm76 an76 cd76 ct76,fun s v=>.of_eq rfl,fun base _ _ => ?_⟩
 have FIWay:=p8 (st:=jr) lIWay eIWay kIWay
 have BIWay:=cH (ps:=["self","name"]) FIWay rfl fun _ _ _ _ _ _ _ _=>rfl
 have JIWay:FnOk P w K mg base CX0 1 fIWay _ ["self","name"] (spI K "name"):=IW (k:=0) FIWay ⟨rfl,rfl,rfl,by decide +kernel,by decide +kernel,by decide +kernel,by decide +kernel⟩ (by decide +kernel) (by decide +kernel) (by decide +kernel) (by decide +kernel) rfl (fun _=>rfl)
 have D1:FnP P w K mg base "_law_size_by" 1 dk:=q1.fn KX GG pF rfl rfl (fM · rfl fun _ _ _ _ _ _ _=>rfl) fun X hr L O Pl hS =>
  su (X:=at5 X P w K mg base) hr L O Pl hS
 have D2:FnP P w K mg base "_law_cell_at" 1 cx:=q2.fn KX GG pJ rfl rfl (cH · rfl fun _ _ _ _ _ _ _ _=>rfl) fun X hr L O Pl hS =>
  sD (X:=at5 X P w K mg base) hr L O Pl hS m_len
 have D3:FnP P w K mg base "_law_mixed" 1 b8:=q3.fn KX GG sY rfl rfl (cH · rfl fun _ _ _ _ _ _ _ _=>rfl) fun X hr L O Pl hS =>
  wy (X:=at5 X P w K mg base) hr L O Pl hS
 have D4:FnP P w K mg base "_law_bits_by" 2 aH:=q4.fn KX GG pK rfl rfl (cH · rfl fun _ _ _ _ _ _ _ _=>rfl) fun X hr L O Pl hS =>
  sE (X:=at5 X P w K mg base) hr L O Pl hS (D3.c hr) m_min m_max
 have D5:FnP P w K mg base "_law_way_by" 1 d5:=q5.fn KX GG qO rfl rfl (fM · rfl fun _ _ _ _ _ _ _=>rfl) fun X hr L O Pl hS =>
  uA (X:=at5 X P w K mg base) hr L O Pl hS
 have D6:FnP P w K mg base "_law_odd_by" 3 b7:=q6.fn KX GG qP rfl rfl (cH · rfl fun _ _ _ _ _ _ _ _=>rfl) fun X hr L O Pl hS =>
  uB (X:=at5 X P w K mg base) hr L O Pl hS (D4.c hr)
 have D7:FnP P w K mg base "_law_mate_by" 4 dm:=q7.fn KX GG pI rfl rfl (d9 · rfl fun _ _ _ _ _ _ _ _ _ _=>rfl) fun X hr L O Pl hS =>
  sC (X:=at5 X P w K mg base) hr L O Pl hS m_min m_max (D3.c hr) (D6.c hr) (D4.c hr)
 have D8:FnP P w K mg base "_law_partner" 5 cv:=q8.fn KX GG pH rfl rfl (uq · rfl fun _ _ _ _ _ _ _ _ _ _ _=>rfl) fun X hr L O Pl hS =>
  sA (X:=at5 X P w K mg base) hr L O Pl hS m_len (D7.c hr)
 have D9:FnP P w K mg base "_law_value" 1 au:=q9.fn KX GG sX rfl rfl (cH · rfl fun _ _ _ _ _ _ _ _=>rfl) fun X hr L O Pl hS =>
  wx (X:=at5 X P w K mg base) hr L O Pl hS
 have D10:FnP P w K mg base "_law_third_by" 4 bS:=q10.fn KX GG nQ rfl rfl (d9 · rfl fun _ _ _ _ _ _ _ _ _ _=>rfl) fun X hr L O Pl hS =>
  pP (X:=at5 X P w K mg base) hr L O Pl hS (D4.c hr) (D6.c hr) (D9.c hr) m_min m_max
 have D11:FnP P w K mg base "way_of" 3 aQ:=q11.fn KX GG Ak rfl rfl (fM · rfl fun _ _ _ _ _ _ _=>rfl) fun X hr L O Pl hS =>
  EN (X:=at5 X P w K mg base) hr L O Pl hS (Je (ss:=["even","away","nought","up","down"]) (PySem.W.mg_of KX GG y_NAMES) yl_NAMES (sN (ts:=[t0_NAMES,t1_NAMES,t2_NAMES,t3_NAMES,t4_NAMES]) rfl rfl) (Nat.le_of_ble_eq_true rfl)) q_NoWay xi_NoWay ⟨⟨C_Way,_,1,_,_,q_Way,cl_Way,na_Way,⟨mm_Way,aIWay,uIWay,kc_Way⟩,JIWay,hr.mono ↥1,BIWay⟩⟩
 have D12:FnP P w K mg base "sign_bit" 1 bQ:=q12.fn KX GG va rfl rfl (fM · rfl fun _ _ _ _ _ _ _=>rfl) fun X hr L O Pl hS =>
  zj (X:=at5 X P w K mg base) hr L O Pl hS
 have D13:FnP P w K mg base "width" 1 om:=q13.fn KX GG Dj rfl rfl (fM · rfl fun _ _ _ _ _ _ _=>rfl) fun X hr L O Pl hS =>
  JJ (X:=at5 X P w K mg base) hr L O Pl hS
 have D14:FnP P w K mg base "parted" 2 br:=q14.fn KX GG Ap rfl rfl (cH · rfl fun _ _ _ _ _ _ _ _=>rfl) fun X hr L O Pl hS =>
  EU (X:=at5 X P w K mg base) hr L O Pl hS (D13.c hr) q_NoBits xi_NoBits (D12.c hr)
 have D15:FnP P w K mg base "last_field" 1 aT:=q15.fn KX GG qQ rfl rfl (fM · rfl fun _ _ _ _ _ _ _=>rfl) fun X hr L O Pl hS =>
  uC (X:=at5 X P w K mg base) hr L O Pl hS
 have D16:FnP P w K mg base "kind" 3 bf:=q16.fn KX GG Ht rfl rfl (cH · rfl fun _ _ _ _ _ _ _ _=>rfl) fun X hr L O Pl hS =>
  MS (X:=at5 X P w K mg base) hr L O Pl hS (D14.c hr) (D15.c hr)
 have D17:FnP P w K mg base "worth_fraction" 1 aW:=q17.fn KX GG lF rfl rfl (fM · rfl fun _ _ _ _ _ _ _=>rfl) fun X hr L O Pl hS =>
  mE (X:=at5 X P w K mg base) hr L O Pl hS
 have D18:FnP P w K mg base "bias" 1 tL:=q18.fn KX GG Hu rfl rfl (fM · rfl fun _ _ _ _ _ _ _=>rfl) fun X hr L O Pl hS =>
  MT (X:=at5 X P w K mg base) hr L O Pl hS
 have D19:FnP P w K mg base "low" 2 ko:=q19.fn KX GG K5 rfl rfl (fM · rfl fun _ _ _ _ _ _ _=>rfl) fun X hr L O Pl hS =>
  OZ (X:=at5 X P w K mg base) hr L O Pl hS (D18.c hr)
 have D20:FnP P w K mg base "worth" 3 jU:=q20.fn KX GG Di rfl rfl (cH · rfl fun _ _ _ _ _ _ _ _=>rfl) fun X hr L O Pl hS =>
  JI (X:=at5 X P w K mg base) hr L O Pl hS (D14.c hr) (D15.c hr) q_NotFinite xi_NotFinite (D19.c hr)
 have D21:FnP P w K mg base "fraction" 4 bG:=q21.fn KX GG vk rfl rfl (cH · rfl fun _ _ _ _ _ _ _ _=>rfl) fun X hr L O Pl hS =>
  zr (X:=at5 X P w K mg base) hr L O Pl hS (D17.c hr) (D20.c hr)
 have D22:FnP P w K mg base "check_fraction" 1 aJ:=q22.fn KX GG lI rfl rfl (cH · rfl fun _ _ _ _ _ _ _ _=>rfl) fun X hr L O Pl hS =>
  mJ (X:=at5 X P w K mg base) hr L O Pl hS q_NoFraction xi_NoFraction
 have D23:FnP P w K mg base "rest_by_middle" 1 aX:=q23.fn KX GG lG rfl rfl (fL · rfl fun _ _ _ _ _ _ _ _ _=>rfl) fun X hr L O Pl hS =>
  mH (X:=at5 X P w K mg base) hr L O Pl hS
 have D24:FnP P w K mg base "rest_of" 2 fH:=q24.fn KX GG yw rfl rfl (cH · rfl fun _ _ _ _ _ _ _ _=>rfl) fun X hr L O Pl hS =>
  B2 (X:=at5 X P w K mg base) hr L O Pl hS (D23.c hr)
 have F25:=p8 (st:=aN) l25 e25 k25
 have B25:=cH (ps:=["self","sign"]) F25 rfl fun _ _ _ _ _ _ _ _=>rfl
 have D25:=ua (P:=P) (w:=w) (mg:=mg) (base:=base) (n:=2) (m:=2) (g:=bw) (k:=0) F25 jR rfl rfl fun X hr L O Pl hS=>by
  exact kP (X:=at5 X P w K mg base) hr L O Pl hS ⟨⟨C_Way,q_Way,cl_Way,na_Way⟩⟩
 have F26:=p8 (st:=cS) l26 e26 k26
 have B26:=d9 (ps:=["self","sign","odd","rest"]) F26 rfl fun _ _ _ _ _ _ _ _ _ _=>rfl
 have D26:=ua (P:=P) (w:=w) (mg:=mg) (base:=base) (n:=4) (m:=4) (g:=dO) (k:=1) F26 td rfl rfl fun X hr L O Pl hS=>by
  exact wz (X:=at5 X P w K mg base) hr L O Pl hS ⟨⟨C_Way,q_Way,cl_Way,na_Way⟩⟩ ⟨⟨C_Way,f25,1,_,_,q_Way,cl_Way,⟨a25,u25,k25⟩,D25,hr.mono ↥1,B25⟩⟩
 have D27:FnP P w K mg base "whole_of" 4 gH:=q27.fn KX GG u9 rfl rfl (d9 · rfl fun _ _ _ _ _ _ _ _ _ _=>rfl) fun X hr L O Pl hS =>
  zi (X:=at5 X P w K mg base) hr L O Pl hS (D11.c hr) (D22.c hr) (D24.c hr) ⟨⟨C_Way,f26,2,_,_,q_Way,cl_Way,⟨a26,u26,k26⟩,D26,hr.mono ↥1,B26⟩⟩
 have D28:FnP P w K mg base "whole_and_flags" 5 bD:=q28.fn KX GG j6 rfl rfl (cH · rfl fun _ _ _ _ _ _ _ _=>rfl) fun X hr L O Pl hS =>
  lR (X:=at5 X P w K mg base) hr L O Pl hS (D27.c hr) g_INEXACT
 have D29:FnP P w K mg base "scaled" 1 eY:=q29.fn KX GG An rfl rfl (fL · rfl fun _ _ _ _ _ _ _ _ _=>rfl) fun X hr L O Pl hS =>
  ER (X:=at5 X P w K mg base) hr L O Pl hS
 have D30:FnP P w K mg base "height" 2 iq:=q30.fn KX GG Au rfl rfl (cH · rfl fun _ _ _ _ _ _ _ _=>rfl) fun X hr L O Pl hS =>
  EY (X:=at5 X P w K mg base) hr L O Pl hS (D29.c hr)
 have D31:FnP P w K mg base "cut" 3 vB:=q31.fn KX GG K7 rfl rfl (fL · rfl fun _ _ _ _ _ _ _ _ _=>rfl) fun X hr L O Pl hS =>
  O1 (X:=at5 X P w K mg base) hr L O Pl hS (D22.c hr) (D19.c hr) (D30.c hr) m_max (D29.c hr) (D24.c hr)
 have D32:FnP P w K mg base "endless" 2 aZ:=q32.fn KX GG yA rfl rfl (fM · rfl fun _ _ _ _ _ _ _=>rfl) fun X hr L O Pl hS =>
  B6 (X:=at5 X P w K mg base) hr L O Pl hS (D15.c hr)
 have D33:FnP P w K mg base "signed" 2 bK:=q33.fn KX GG Am rfl rfl (fL · rfl fun _ _ _ _ _ _ _ _ _=>rfl) fun X hr L O Pl hS =>
  EO (X:=at5 X P w K mg base) hr L O Pl hS (D12.c hr)
 have D34:FnP P w K mg base "lost_flags" 3 dZ:=q34.fn KX GG qN rfl rfl (fL · rfl fun _ _ _ _ _ _ _ _ _=>rfl) fun X hr L O Pl hS =>
  uz (X:=at5 X P w K mg base) hr L O Pl hS (D32.c hr) g_INEXACT g_GREAT g_SMALL
 have F35:=p8 (st:=bV) l35 e35 k35
 have B35:=cH (ps:=["self","sign"]) F35 rfl fun _ _ _ _ _ _ _ _=>rfl
 have D35:=ua (P:=P) (w:=w) (mg:=mg) (base:=base) (n:=2) (m:=2) (g:=d7) (k:=1) F35 qS rfl rfl fun X hr L O Pl hS=>by
  exact uD (X:=at5 X P w K mg base) hr L O Pl hS ⟨⟨C_Way,q_Way,cl_Way,na_Way⟩⟩ ⟨⟨C_Way,f25,1,_,_,q_Way,cl_Way,⟨a25,u25,k25⟩,D25,hr.mono ↥1,B25⟩⟩
 have D36:FnP P w K mg base "settled" 4 fF:=q36.fn KX GG yu rfl rfl (BW · rfl fun _ _ _ _ _ _ _ _ _ _ _ _=>rfl) fun X hr L O Pl hS =>
  B0 (X:=at5 X P w K mg base) hr L O Pl hS (D11.c hr) (D19.c hr) (D32.c hr) ⟨⟨C_Way,f35,2,_,_,q_Way,cl_Way,⟨a35,u35,k35⟩,D35,hr.mono ↥1,B35⟩⟩ (D33.c hr) g_INEXACT g_GREAT ⟨⟨C_Way,f26,2,_,_,q_Way,cl_Way,⟨a26,u26,k26⟩,D26,hr.mono ↥1,B26⟩⟩ (D34.c hr)
 have D37:FnP P w K mg base "rounded" 5 bE:=q37.fn KX GG yv rfl rfl (uq · rfl fun _ _ _ _ _ _ _ _ _ _ _=>rfl) fun X hr L O Pl hS =>
  B1 (X:=at5 X P w K mg base) hr L O Pl hS (D11.c hr) (D31.c hr) (D36.c hr)
 have D38:FnP P w K mg base "no_number" 3 aE:=q38.fn KX GG sV rfl rfl (fM · rfl fun _ _ _ _ _ _ _=>rfl) fun X hr L O Pl hS =>
  wq (X:=at5 X P w K mg base) hr L O Pl hS (D32.c hr)
 have D39:FnP P w K mg base "wholed" 6 di:=q39.fn KX GG Aj rfl rfl (fL · rfl fun _ _ _ _ _ _ _ _ _=>rfl) fun X hr L O Pl hS =>
  EM (X:=at5 X P w K mg base) hr L O Pl hS (D11.c hr) (D16.c hr) (D38.c hr) (D21.c hr) (D28.c hr) (D37.c hr)
 have D40:FnP P w K mg base "any_none" 4 bg:=q40.fn KX GG vo rfl rfl (cH · rfl fun _ _ _ _ _ _ _ _=>rfl) fun X hr L O Pl hS =>
  zt (X:=at5 X P w K mg base) hr L O Pl hS (D16.c hr)
 have D41:FnP P w K mg base "total" 1 oo:=q41.fn KX GG Dk rfl rfl (fM · rfl fun _ _ _ _ _ _ _=>rfl) fun X hr L O Pl hS =>
  JK (X:=at5 X P w K mg base) hr L O Pl hS m_min m_abs
 have D42:FnP P w K mg base "nought_sign" 4 dj:=q42.fn KX GG pE rfl rfl (cH · rfl fun _ _ _ _ _ _ _ _=>rfl) fun X hr L O Pl hS =>
  sq (X:=at5 X P w K mg base) hr L O Pl hS (D11.c hr)
 have D43:FnP P w K mg base "settled_total" 6 aF:=q43.fn KX GG mx rfl rfl (fL · rfl fun _ _ _ _ _ _ _ _ _=>rfl) fun X hr L O Pl hS =>
  oQ (X:=at5 X P w K mg base) hr L O Pl hS (D17.c hr) (D41.c hr) (D42.c hr) (D33.c hr) (D37.c hr)
 have D44:FnP P w K mg base "settled_terms" 7 aS:=q44.fn KX GG my rfl rfl (fL · rfl fun _ _ _ _ _ _ _ _ _=>rfl) fun X hr L O Pl hS =>
  oR (X:=at5 X P w K mg base) hr L O Pl hS (D38.c hr) g_WRONG m_len (D33.c hr) (D32.c hr) (D43.c hr)
 have D45:FnP P w K mg base "number_term" 4 aG:=q45.fn KX GG pC rfl rfl (cH · rfl fun _ _ _ _ _ _ _ _=>rfl) fun X hr L O Pl hS =>
  sk (X:=at5 X P w K mg base) hr L O Pl hS (D16.c hr) (D14.c hr) (D20.c hr)
 have D46:FnP P w K mg base "product_term" 5 bR:=q46.fn KX GG nO rfl rfl (fL · rfl fun _ _ _ _ _ _ _ _ _=>rfl) fun X hr L O Pl hS =>
  pO (X:=at5 X P w K mg base) hr L O Pl hS (D45.c hr)
 have D47:FnP P w K mg base "product_wrong" 4 bo:=q47.fn KX GG mz rfl rfl (fL · rfl fun _ _ _ _ _ _ _ _ _=>rfl) fun X hr L O Pl hS =>
  oS (X:=at5 X P w K mg base) hr L O Pl hS (D16.c hr)
 have D48:FnP P w K mg base "settled_sum" 8 ao:=q48.fn KX GG pB rfl rfl (d9 · rfl fun _ _ _ _ _ _ _ _ _ _=>rfl) fun X hr L O Pl hS =>
  sj (X:=at5 X P w K mg base) hr L O Pl hS (D11.c hr) m_list (D40.c hr) (D38.c hr) (D47.c hr) m_any g_WRONG (D46.c hr) (D44.c hr) (D45.c hr)
 have D49:FnP P w K mg base "added" 9 iR:=q49.fn KX GG Dn rfl rfl (d9 · rfl fun _ _ _ _ _ _ _ _ _ _=>rfl) fun X hr L O Pl hS =>
  JN (X:=at5 X P w K mg base) hr L O Pl hS (D48.c hr)
 have D50:FnP P w K mg base "joined" 2 kq:=q50.fn KX GG Ar rfl rfl (d9 · rfl fun _ _ _ _ _ _ _ _ _ _=>rfl) fun X hr L O Pl hS =>
  EX (X:=at5 X P w K mg base) hr L O Pl hS q_NoParts xi_NoParts (D15.c hr) (D12.c hr)
 have D51:FnP P w K mg base "negated" 3 iQ:=q51.fn KX GG yx rfl rfl (cH · rfl fun _ _ _ _ _ _ _ _=>rfl) fun X hr L O Pl hS =>
  B3 (X:=at5 X P w K mg base) hr L O Pl hS (D14.c hr) (D50.c hr)
 have D52:FnP P w K mg base "taken" 9 oq:=q52.fn KX GG Dl rfl rfl (d9 · rfl fun _ _ _ _ _ _ _ _ _ _=>rfl) fun X hr L O Pl hS =>
  JL (X:=at5 X P w K mg base) hr L O Pl hS (D11.c hr) (D48.c hr) (D51.c hr)
 have D53:FnP P w K mg base "multiplied" 9 cU:=q53.fn KX GG qM rfl rfl (d9 · rfl fun _ _ _ _ _ _ _ _ _ _=>rfl) fun X hr L O Pl hS =>
  uy (X:=at5 X P w K mg base) hr L O Pl hS (D48.c hr)
 have D54:FnP P w K mg base "quotient" 6 gJ:=q54.fn KX GG vf rfl rfl (d9 · rfl fun _ _ _ _ _ _ _ _ _ _=>rfl) fun X hr L O Pl hS =>
  zl (X:=at5 X P w K mg base) hr L O Pl hS (D37.c hr)
 have D55:FnP P w K mg base "divided" 7 fI:=q55.fn KX GG yB rfl rfl (d9 · rfl fun _ _ _ _ _ _ _ _ _ _=>rfl) fun X hr L O Pl hS =>
  B7 (X:=at5 X P w K mg base) hr L O Pl hS (D11.c hr) (D40.c hr) (D38.c hr) (D16.c hr) g_WRONG (D14.c hr) (D33.c hr) (D32.c hr) g_POLE (D54.c hr) (D21.c hr)
 have D56:FnP P w K mg base "fused" 9 lK:=q56.fn KX GG Dm rfl rfl (uq · rfl fun _ _ _ _ _ _ _ _ _ _ _=>rfl) fun X hr L O Pl hS =>
  JM (X:=at5 X P w K mg base) hr L O Pl hS (D48.c hr)
 have D57:FnP P w K mg base "whole_root" 1 dY:=q57.fn KX GG qL rfl rfl (fM · rfl fun _ _ _ _ _ _ _=>rfl) fun X hr L O Pl hS =>
  ux (X:=at5 X P w K mg base) hr L O Pl hS q_NoFraction xi_NoFraction
 have D58:FnP P w K mg base "root_rest" 2 fG:=q58.fn KX GG sU rfl rfl (fL · rfl fun _ _ _ _ _ _ _ _ _=>rfl) fun X hr L O Pl hS =>
  wm (X:=at5 X P w K mg base) hr L O Pl hS (D23.c hr)
 have D59:FnP P w K mg base "root_cut" 3 gI:=q59.fn KX GG ve rfl rfl (fL · rfl fun _ _ _ _ _ _ _ _ _=>rfl) fun X hr L O Pl hS =>
  zk (X:=at5 X P w K mg base) hr L O Pl hS (D22.c hr) (D19.c hr) (D30.c hr) m_max (D29.c hr) (D57.c hr) (D58.c hr)
 have D60:FnP P w K mg base "rooted" 5 cq:=q60.fn KX GG Ao rfl rfl (fL · rfl fun _ _ _ _ _ _ _ _ _=>rfl) fun X hr L O Pl hS =>
  ET (X:=at5 X P w K mg base) hr L O Pl hS (D11.c hr) (D40.c hr) (D38.c hr) (D16.c hr) (D32.c hr) (D14.c hr) g_WRONG (D21.c hr) (D59.c hr) (D36.c hr)
 have D61:FnP P w K mg base "_law_whole" 1 bW:=q61.fn KX GG sW rfl rfl (fM · rfl fun _ _ _ _ _ _ _=>rfl) fun X hr L O Pl hS =>
  wu (X:=at5 X P w K mg base) hr L O Pl hS m_int (Br ↥1 i_int_NoneType i_int_bool i_int_int i_int_str i_int_tuple i_int_list) (ub (zM hXF)) m_isinstance m_bool (Br ↥1 i_bool_NoneType i_bool_bool i_bool_int i_bool_str i_bool_tuple i_bool_list)
 have D62:FnP P w K mg base "_law_two" 2 bX:=q62.fn KX GG yy rfl rfl (fM · rfl fun _ _ _ _ _ _ _=>rfl) fun X hr L O Pl hS =>
  B4 (X:=at5 X P w K mg base) hr L O Pl hS m_tuple (Br ↥1 i_tuple_NoneType i_tuple_bool i_tuple_int i_tuple_str i_tuple_tuple i_tuple_list) (ub (zM hXF)) m_isinstance m_len (D61.c hr)
 have D63:FnP P w K mg base "_law_is" 3 aR:=q63.fn KX GG Aq rfl rfl (fL · rfl fun _ _ _ _ _ _ _ _ _=>rfl) fun X hr L O Pl hS =>
  EW (X:=at5 X P w K mg base) hr L O Pl hS (D62.c hr)
 have D64:FnP P w K mg base "_law_far" 1 dn:=q64.fn KX GG yz rfl rfl (d9 · rfl fun _ _ _ _ _ _ _ _ _ _=>rfl) fun X hr L O Pl hS =>
  B5 (X:=at5 X P w K mg base) hr L O Pl hS
 have D65:FnP P w K mg base "_law_near" 1 cw:=q65.fn KX GG vh rfl rfl (d9 · rfl fun _ _ _ _ _ _ _ _ _ _=>rfl) fun X hr L O Pl hS =>
  zo (X:=at5 X P w K mg base) hr L O Pl hS
 have D66:FnP P w K mg base "_law_fair_whole" 2 bO:=q66.fn KX GG lH rfl rfl (uq · rfl fun _ _ _ _ _ _ _ _ _ _ _=>rfl) fun X hr L O Pl hS =>
  mI (X:=at5 X P w K mg base) hr L O Pl hS (D61.c hr) (D65.c hr) (D64.c hr)
 have D67:FnP P w K mg base "_law_wholed_fair" 4 bF:=q67.fn KX GG j7 rfl rfl (d9 · rfl fun _ _ _ _ _ _ _ _ _ _=>rfl) fun X hr L O Pl hS =>
  lS (X:=at5 X P w K mg base) hr L O Pl hS (D63.c hr) (D62.c hr) (D9.c hr) (D66.c hr) m_int
 have D68:FnP P w K mg base "_law_fair" 3 aP:=q68.fn KX GG vi rfl rfl (BW · rfl fun _ _ _ _ _ _ _ _ _ _ _ _=>rfl) fun X hr L O Pl hS =>
  zp (X:=at5 X P w K mg base) hr L O Pl hS (D62.c hr) (D9.c hr) (D65.c hr) (D64.c hr)
 have D69:FnP P w K mg base "_law_sum_good" 4 bc:=q69.fn KX GG nR rfl rfl (d9 · rfl fun _ _ _ _ _ _ _ _ _ _=>rfl) fun X hr L O Pl hS =>
  pQ (X:=at5 X P w K mg base) hr L O Pl hS (D63.c hr) m_len m_sum m_int (D68.c hr) m_abs
 have D70:FnP P w K mg base "_law_quotient_good" 4 bp:=q70.fn KX GG jG rfl rfl (uq · rfl fun _ _ _ _ _ _ _ _ _ _ _=>rfl) fun X hr L O Pl hS =>
  jX (X:=at5 X P w K mg base) hr L O Pl hS (D63.c hr) (D9.c hr) (D68.c hr)
 have D71:FnP P w K mg base "_law_root_fair" 3 bZ:=q71.fn KX GG mC rfl rfl (d9 · rfl fun _ _ _ _ _ _ _ _ _ _=>rfl) fun X hr L O Pl hS =>
  oV (X:=at5 X P w K mg base) hr L O Pl hS (D62.c hr) (D9.c hr) (D65.c hr) (D64.c hr)
 have D72:FnP P w K mg base "_law_root_good" 4 bY:=q72.fn KX GG mB rfl rfl (d9 · rfl fun _ _ _ _ _ _ _ _ _ _=>rfl) fun X hr L O Pl hS =>
  oU (X:=at5 X P w K mg base) hr L O Pl hS (D63.c hr) (D71.c hr) (D9.c hr)
 have D73:FnP P w K mg base "_law_term" 2 az:=q73.fn KX GG vg rfl rfl (cH · rfl fun _ _ _ _ _ _ _ _=>rfl) fun X hr L O Pl hS =>
  zm (X:=at5 X P w K mg base) hr L O Pl hS (D9.c hr)
 have D74:FnP P w K mg base "_law_product" 3 cu:=q74.fn KX GG pG rfl rfl (fL · rfl fun _ _ _ _ _ _ _ _ _=>rfl) fun X hr L O Pl hS =>
  sv (X:=at5 X P w K mg base) hr L O Pl hS (D73.c hr)
 have D75:FnP P w K mg base "_law_deed" 10 fz:=q75.fn KX GG vj rfl rfl (BW · rfl fun _ _ _ _ _ _ _ _ _ _ _ _=>rfl) fun X hr L O Pl hS =>
  zq (X:=at5 X P w K mg base) hr L O Pl hS (D49.c hr) (D69.c hr) (D73.c hr) (D52.c hr) (D53.c hr) (D74.c hr) (D55.c hr) (D70.c hr) (D56.c hr) (D60.c hr) (D72.c hr) (D39.c hr) (D67.c hr)
 have F76:=p8 (st:=pL) l76 e76 k76
 ·refine ua (k:=10) F76 K6 rfl rfl fun X hr L O Pl hS => ?_
  exact O0 (X:=at5 X P w K mg base) hr L O Pl hS (D1.c hr) (D2.c hr) (D4.c hr) (D5.c hr) m_len (D8.c hr) (D10.c hr) (D75.c hr)
end T
namespace H
open PySem PySem.W PySem.Spec PyProof.Rows L2 EV ES
noncomputable section
abbrev vS (x:Str) (n:Nat):Value:=.str x n
abbrev vI (x:Int) (n:Nat):Value:=.int x n
abbrev r (n:Addr):Value:=.ref n
abbrev z (x:Int):Value:=.int x 0
abbrev c (n:Nat):Value:=.str "/claim/cut.py" n
abbrev en (P:Params) (x:Str) (n:Nat) (v:Value):DictEntry:=⟨PyData.keyHash P x,.str x n,v⟩
abbrev sqO (c:Value) (a:Array Value):Obj:=⟨c,none,.seq a 0,#[]⟩
abbrev fiO (c:Value) (a:Array Value):Obj:=⟨c,none,.fields a,#[]⟩
abbrev diO (c:Value) (a:Array DictEntry) (n:Nat):Obj:=⟨c,none,.dict a n,#[]⟩
abbrev fnO (c:Value) (x q:Str) (s:Stmt) (g:Addr) (cl:List (Str×Addr)) (d k dc m:Value) (an:Option Addr) (cd ct:Value) (b:Addr):Obj:=⟨c,none,.func ⟨x,q,gB s,.stmts (aj s),aa s,g,cl,d,k,dc,m,an,cd,ct,b⟩,#[]⟩
abbrev cd (x:Str) (a b d:Nat) (l k:Int) (p:Addr) (w:Int) (q s t u:Addr) (m:Int) (e:Nat):Obj:=fiO (.type "code") #[vS x a,vS x b,c d,z l,z k,z 0,z 0,z 3,r p,.bool true,z w,r q,.none,r s,r t,r u,z m,z l,c e]
abbrev fu (x:Str) (n:Nat) (g:Addr) (m:Str) (b:Nat) (d:Addr):Obj:=fnO (.type "function") x x (T.top n) g [] .none .none .none (vS m b) none (r d) .none 0
abbrev fv (x:Str) (n:Nat):Obj:=fnO .none x x (T.top n) 0 [] .none .none .none .none none .none .none 0
abbrev N:BT:=.nil
abbrev L (o:Obj):BT:=.node o .nil .nil
abbrev B (o:Obj) (l r:BT):BT:=.node o l r
def cut (n:Nat) (t:BT):Nat->Nat->BT := @BT.rec (fun _=>Nat->Nat->BT) (fun _ _=>.nil) (fun v _ _ l r a b => @Bool.rec (fun _=>BT) .nil (.node v (l (Nat.mul 2 a) (Nat.add a b)) (r (Nat.mul 2 a) (Nat.add (Nat.mul 2 a) b))) (Nat.blt b n)) t
def o0:Obj:=sqO ↥5 #[]
def o1:Obj:=fiO .none #[]
def o2:Obj:=fiO (.type "code") #[(vS "<module>" 182),(vS "<module>" 183),(c 184),(z 1),(z 0),(z 0),(z 0),(z 0),(r 11),(.bool false),(z 181),(r 12),.none,.none,.none,.none,(z 185),(z 1),(c 186)]
def o3:Obj:=(Obj.mk (.type "frame") none Data.plain #[(some (r 13)),(some (r 3)),(some (r 3)),none,(some (vS "__main__" 164)),none,(some (r 0))])
def o4 (P:Params):Obj:=diO (.type "dict") #[(en P "__name__" 165 (vS "roundmill.sizes" 287)),(en P "__doc__" 166 .none),(en P "__package__" 167 .none),(en P "__loader__" 168 (.builtin "__main__.__loader__#opaque")),(en P "__spec__" 169 .none),(en P "__annotations__" 170 (r 6)),(en P "__builtins__" 171 (r 4)),(en P "__file__" 173 (c 172)),(en P "__cached__" 174 .none),(en P "MillError" 206 (r 24)),(en P "NoBits" 222 (r 37)),(en P "NoParts" 238 (r 49)),(en P "NotFinite" 254 (r 61)),(en P "NoWay" 270 (r 73)),(en P "NoFraction" 286 (r 85)),(en P "width" 295 (r 94))] 16
def o5:Obj:=fiO .none #[(z 2),(z 0),(r 20),(z 4),(z 0),(r 33),(z 6),(z 0),(r 45),(z 8),(z 0),(r 57),(z 10),(z 0),(r 69),(z 12),(z 0),(r 81),(z 15),(z 0),(r 93)]
def o6:Obj:=sqO ↥5 #[(.type "ValueError")]
def o7:Obj:=fiO (.type "builtin_function_or_method") #[(.builtin "type.__prepare__"),(.type "type")]
def o8 (P:Params):Obj:=diO (.type "dict") #[(en P "__module__" 196 ↥23),(en P "__qualname__" 198 (vS "MillError" 197)),(en P "__firstlineno__" 200 (vI 2 199)),(en P "__static_attributes__" 201 (r 22))] 4
def o9:Obj:=fiO (.type "code") #[(vS "MillError" 191),(vS "MillError" 192),(c 193),(z 2),(z 0),(z 0),(z 0),(z 0),(r 18),(.bool false),(z 181),(r 19),.none,.none,.none,.none,(z 194),(z 2),(c 195)]
def o10:Obj:=(Obj.mk (.type "frame") none Data.plain #[(some (r 20)),(some (r 3)),(some (r 17)),none,(some ↥23),none,(some (r 0))])
def o11 (P:Params):Obj:=diO (.type "dict") #[(en P "__module__" 196 ↥23),(en P "__firstlineno__" 200 (vI 2 199)),(en P "__static_attributes__" 201 (r 22)),(en P "__weakref__" 203 (r 25)),(en P "__doc__" 204 .none)] 3
def o12:Obj:=(Obj.mk (.type "type") none (Data.cls (ClassData.mk "MillError" [(.type "ValueError")] [(r 24),(.type "ValueError"),(.type "Exception"),(.type "BaseException"),(.type "object")] 23 "MillError" true [] [(r 37),(r 49),(r 61),(r 73),(r 85)] false none false)) #[(some (r 15)),none,(some (vS "MillError" 189)),(some (vS "MillError" 197)),(some (.builtin "ValueError.__new__")),(some (.bool true))])
def o13:Obj:=fiO (.type "getset_descriptor") #[(vS "__weakref__" 202),(r 24),(.builtin "ExceptionGroup.__weakref__"),.none]
def o14:Obj:=fiO (.type "super") #[(r 24),(r 24),(r 24)]
def o15:Obj:=fiO (.type "builtin_function_or_method") #[(.builtin "object.__init_subclass__"),(r 24)]
def o16:Obj:=sqO ↥5 #[(r 24)]
def o17 (P:Params):Obj:=diO (.type "dict") #[(en P "__module__" 214 ↥23),(en P "__qualname__" 216 (vS "NoBits" 215)),(en P "__firstlineno__" 218 (vI 4 217)),(en P "__static_attributes__" 219 (r 35))] 4
def o18:Obj:=fiO (.type "code") #[(vS "NoBits" 209),(vS "NoBits" 210),(c 211),(z 4),(z 0),(z 0),(z 0),(z 0),(r 31),(.bool false),(z 181),(r 32),.none,.none,.none,.none,(z 212),(z 4),(c 213)]
def o19:Obj:=(Obj.mk (.type "frame") none Data.plain #[(some (r 33)),(some (r 3)),(some (r 30)),none,(some ↥23),none,(some (r 0))])
def o20 (P:Params):Obj:=diO (.type "dict") #[(en P "__module__" 214 ↥23),(en P "__firstlineno__" 218 (vI 4 217)),(en P "__static_attributes__" 219 (r 35)),(en P "__doc__" 220 .none)] 2
def o21:Obj:=(Obj.mk (.type "type") none (Data.cls (ClassData.mk "NoBits" [(r 24)] [(r 37),(r 24),(.type "ValueError"),(.type "Exception"),(.type "BaseException"),(.type "object")] 36 "NoBits" true [] [] false none false)) #[(some (r 28)),none,(some (vS "NoBits" 207)),(some (vS "NoBits" 215)),(some (.builtin "ValueError.__new__")),(some (.bool true))])
def o22:Obj:=fiO (.type "super") #[(r 37),(r 37),(r 37)]
def o23:Obj:=fiO (.type "builtin_function_or_method") #[(.builtin "object.__init_subclass__"),(r 37)]
def o24 (P:Params):Obj:=diO (.type "dict") #[(en P "__module__" 230 ↥23),(en P "__qualname__" 232 (vS "NoParts" 231)),(en P "__firstlineno__" 234 (vI 6 233)),(en P "__static_attributes__" 235 (r 47))] 4
def o25:Obj:=fiO (.type "code") #[(vS "NoParts" 225),(vS "NoParts" 226),(c 227),(z 6),(z 0),(z 0),(z 0),(z 0),(r 43),(.bool false),(z 181),(r 44),.none,.none,.none,.none,(z 228),(z 6),(c 229)]
def o26:Obj:=(Obj.mk (.type "frame") none Data.plain #[(some (r 45)),(some (r 3)),(some (r 42)),none,(some ↥23),none,(some (r 0))])
def o27 (P:Params):Obj:=diO (.type "dict") #[(en P "__module__" 230 ↥23),(en P "__firstlineno__" 234 (vI 6 233)),(en P "__static_attributes__" 235 (r 47)),(en P "__doc__" 236 .none)] 2
def o28:Obj:=(Obj.mk (.type "type") none (Data.cls (ClassData.mk "NoParts" [(r 24)] [(r 49),(r 24),(.type "ValueError"),(.type "Exception"),(.type "BaseException"),(.type "object")] 48 "NoParts" true [] [] false none false)) #[(some (r 40)),none,(some (vS "NoParts" 223)),(some (vS "NoParts" 231)),(some (.builtin "ValueError.__new__")),(some (.bool true))])
def o29:Obj:=fiO (.type "super") #[(r 49),(r 49),(r 49)]
def o30:Obj:=fiO (.type "builtin_function_or_method") #[(.builtin "object.__init_subclass__"),(r 49)]
def o31 (P:Params):Obj:=diO (.type "dict") #[(en P "__module__" 246 ↥23),(en P "__qualname__" 248 (vS "NotFinite" 247)),(en P "__firstlineno__" 250 (vI 8 249)),(en P "__static_attributes__" 251 (r 59))] 4
def o32:Obj:=fiO (.type "code") #[(vS "NotFinite" 241),(vS "NotFinite" 242),(c 243),(z 8),(z 0),(z 0),(z 0),(z 0),(r 55),(.bool false),(z 181),(r 56),.none,.none,.none,.none,(z 244),(z 8),(c 245)]
def o33:Obj:=(Obj.mk (.type "frame") none Data.plain #[(some (r 57)),(some (r 3)),(some (r 54)),none,(some ↥23),none,(some (r 0))])
def o34 (P:Params):Obj:=diO (.type "dict") #[(en P "__module__" 246 ↥23),(en P "__firstlineno__" 250 (vI 8 249)),(en P "__static_attributes__" 251 (r 59)),(en P "__doc__" 252 .none)] 2
def o35:Obj:=(Obj.mk (.type "type") none (Data.cls (ClassData.mk "NotFinite" [(r 24)] [(r 61),(r 24),(.type "ValueError"),(.type "Exception"),(.type "BaseException"),(.type "object")] 60 "NotFinite" true [] [] false none false)) #[(some (r 52)),none,(some (vS "NotFinite" 239)),(some (vS "NotFinite" 247)),(some (.builtin "ValueError.__new__")),(some (.bool true))])
def o36:Obj:=fiO (.type "super") #[(r 61),(r 61),(r 61)]
def o37:Obj:=fiO (.type "builtin_function_or_method") #[(.builtin "object.__init_subclass__"),(r 61)]
def o38 (P:Params):Obj:=diO (.type "dict") #[(en P "__module__" 262 ↥23),(en P "__qualname__" 264 (vS "NoWay" 263)),(en P "__firstlineno__" 266 (vI 10 265)),(en P "__static_attributes__" 267 (r 71))] 4
def o39:Obj:=fiO (.type "code") #[(vS "NoWay" 257),(vS "NoWay" 258),(c 259),(z 10),(z 0),(z 0),(z 0),(z 0),(r 67),(.bool false),(z 181),(r 68),.none,.none,.none,.none,(z 260),(z 10),(c 261)]
def o40:Obj:=(Obj.mk (.type "frame") none Data.plain #[(some (r 69)),(some (r 3)),(some (r 66)),none,(some ↥23),none,(some (r 0))])
def o41 (P:Params):Obj:=diO (.type "dict") #[(en P "__module__" 262 ↥23),(en P "__firstlineno__" 266 (vI 10 265)),(en P "__static_attributes__" 267 (r 71)),(en P "__doc__" 268 .none)] 2
def o42:Obj:=(Obj.mk (.type "type") none (Data.cls (ClassData.mk "NoWay" [(r 24)] [(r 73),(r 24),(.type "ValueError"),(.type "Exception"),(.type "BaseException"),(.type "object")] 72 "NoWay" true [] [] false none false)) #[(some (r 64)),none,(some (vS "NoWay" 255)),(some (vS "NoWay" 263)),(some (.builtin "ValueError.__new__")),(some (.bool true))])
def o43:Obj:=fiO (.type "super") #[(r 73),(r 73),(r 73)]
def o44:Obj:=fiO (.type "builtin_function_or_method") #[(.builtin "object.__init_subclass__"),(r 73)]
def o45 (P:Params):Obj:=diO (.type "dict") #[(en P "__module__" 278 ↥23),(en P "__qualname__" 280 (vS "NoFraction" 279)),(en P "__firstlineno__" 282 (vI 12 281)),(en P "__static_attributes__" 283 (r 83))] 4
def o46:Obj:=fiO (.type "code") #[(vS "NoFraction" 273),(vS "NoFraction" 274),(c 275),(z 12),(z 0),(z 0),(z 0),(z 0),(r 79),(.bool false),(z 181),(r 80),.none,.none,.none,.none,(z 276),(z 12),(c 277)]
def o47:Obj:=(Obj.mk (.type "frame") none Data.plain #[(some (r 81)),(some (r 3)),(some (r 78)),none,(some ↥23),none,(some (r 0))])
def o48 (P:Params):Obj:=diO (.type "dict") #[(en P "__module__" 278 ↥23),(en P "__firstlineno__" 282 (vI 12 281)),(en P "__static_attributes__" 283 (r 83)),(en P "__doc__" 284 .none)] 2
def o49:Obj:=(Obj.mk (.type "type") none (Data.cls (ClassData.mk "NoFraction" [(r 24)] [(r 85),(r 24),(.type "ValueError"),(.type "Exception"),(.type "BaseException"),(.type "object")] 84 "NoFraction" true [] [] false none false)) #[(some (r 76)),none,(some (vS "NoFraction" 271)),(some (vS "NoFraction" 279)),(some (.builtin "ValueError.__new__")),(some (.bool true))])
def o50:Obj:=fiO (.type "super") #[(r 85),(r 85),(r 85)]
def o51:Obj:=fiO (.type "builtin_function_or_method") #[(.builtin "object.__init_subclass__"),(r 85)]
def o52:Obj:=sqO ↥5 #[(vS "size" 292)]
def o53:Obj:=fv "width" 8
def o54:Obj:=cd "width" 289 290 291 15 1 88 181 89 90 91 92 293 294
def o55:Obj:=fu "width" 8 3 "roundmill.sizes" 287 93
def o56 (P:Params):Obj:=diO (.type "dict") #[(en P "__name__" 165 (vS "roundmill.totals" 626)),(en P "__doc__" 166 .none),(en P "__package__" 167 .none),(en P "__loader__" 168 (.builtin "__main__.__loader__#opaque")),(en P "__spec__" 169 .none),(en P "__annotations__" 170 (r 6)),(en P "__builtins__" 171 (r 4)),(en P "__file__" 173 (c 172)),(en P "__cached__" 174 .none),(en P "MillError" 206 (r 24)),(en P "NoBits" 222 (r 37)),(en P "NoParts" 238 (r 49)),(en P "NotFinite" 254 (r 61)),(en P "NoWay" 270 (r 73)),(en P "NoFraction" 286 (r 85)),(en P "width" 295 (r 94)),(en P "bias" 302 (r 101)),(en P "low" 309 (r 108)),(en P "sign_bit" 316 (r 115)),(en P "last_field" 323 (r 122)),(en P "endless" 330 (r 129)),(en P "no_number" 337 (r 136)),(en P "check_fraction" 347 (r 143)),(en P "scaled" 356 (r 150)),(en P "height" 366 (r 157)),(en P "rest_by_middle" 375 (r 164)),(en P "rest_of" 383 (r 171)),(en P "cut" 394 (r 178)),(en P "whole_root" 402 (r 185)),(en P "root_rest" 412 (r 192)),(en P "root_cut" 425 (r 199)),(en P "INEXACT" 427 (vI 1 426)),(en P "SMALL" 429 (vI 2 428)),(en P "GREAT" 431 (vI 4 430)),(en P "POLE" 433 (vI 8 432)),(en P "WRONG" 435 (vI 16 434)),(en P "parted" 447 (r 206)),(en P "joined" 457 (r 213)),(en P "kind" 468 (r 220)),(en P "worth" 480 (r 227)),(en P "worth_fraction" 489 (r 234)),(en P "fraction" 497 (r 241)),(en P "signed" 506 (r 248)),(en P "negated" 515 (r 255)),(en P "NAMES" 523 (r 256)),(en P "Way" 578 (r 294)),(en P "way_of" 585 (r 305)),(en P "settled" 603 (r 312)),(en P "lost_flags" 613 (r 319)),(en P "rounded" 625 (r 326)),(en P "total" 633 (r 331))] 51
def o57:Obj:=fiO .none #[(z 2),(z 0),(r 20),(z 4),(z 0),(r 33),(z 6),(z 0),(r 45),(z 8),(z 0),(r 57),(z 10),(z 0),(r 69),(z 12),(z 0),(r 81),(z 15),(z 0),(r 93),(z 17),(z 0),(r 100),(z 19),(z 0),(r 107),(z 21),(z 0),(r 114),(z 23),(z 0),(r 121),(z 25),(z 0),(r 128),(z 27),(z 0),(r 135),(z 30),(z 0),(r 142),(z 33),(z 0),(r 149),(z 37),(z 0),(r 156),(z 41),(z 0),(r 163),(z 47),(z 0),(r 170),(z 49),(z 0),(r 177),(z 56),(z 0),(r 184),(z 63),(z 0),(r 191),(z 66),(z 0),(r 198),(z 81),(z 0),(r 205),(z 87),(z 0),(r 212),(z 95),(z 0),(r 219),(z 104),(z 0),(r 226),(z 114),(z 0),(r 233),(z 120),(z 0),(r 240),(z 122),(z 0),(r 247),(z 124),(z 0),(r 254),(z 129),(z 0),(r 262),(z 152),(z 0),(r 304),(z 157),(z 0),(r 311),(z 168),(z 0),(r 318),(z 173),(z 0),(r 325),(z 178),(z 0),(r 330)]
def o58:Obj:=sqO ↥5 #[(vS "size" 299)]
def o59:Obj:=fv "bias" 9
def o60:Obj:=cd "bias" 296 297 298 17 1 95 181 96 97 98 99 300 301
def o61:Obj:=fu "bias" 9 3 "roundmill.sizes" 287 100
def o62:Obj:=sqO ↥5 #[(vS "size" 306)]
def o63:Obj:=fv "low" 10
def o64:Obj:=cd "low" 303 304 305 19 1 102 181 103 104 105 106 307 308
def o65:Obj:=fu "low" 10 3 "roundmill.sizes" 287 107
def o66:Obj:=sqO ↥5 #[(vS "size" 313)]
def o67:Obj:=fv "sign_bit" 11
def o68:Obj:=cd "sign_bit" 310 311 312 21 1 109 181 110 111 112 113 314 315
def o69:Obj:=fu "sign_bit" 11 3 "roundmill.sizes" 287 114
def o70:Obj:=sqO ↥5 #[(vS "size" 320)]
def o71:Obj:=fv "last_field" 12
def o72:Obj:=cd "last_field" 317 318 319 23 1 116 181 117 118 119 120 321 322
def o73:Obj:=fu "last_field" 12 3 "roundmill.sizes" 287 121
def o74:Obj:=sqO ↥5 #[(vS "size" 327)]
def o75:Obj:=fv "endless" 13
def o76:Obj:=cd "endless" 324 325 326 25 1 123 181 124 125 126 127 328 329
def o77:Obj:=fu "endless" 13 3 "roundmill.sizes" 287 128
def o78:Obj:=sqO ↥5 #[(vS "size" 334)]
def o79:Obj:=fv "no_number" 14
def o80:Obj:=cd "no_number" 331 332 333 27 1 130 181 131 132 133 134 335 336
def o81:Obj:=fu "no_number" 14 3 "roundmill.sizes" 287 135
def o82:Obj:=sqO ↥5 #[(vS "top" 343),(vS "bottom" 344)]
def o83:Obj:=fv "check_fraction" 16
def o84:Obj:=cd "check_fraction" 340 341 342 30 2 137 181 138 139 140 141 345 346
def o85:Obj:=fu "check_fraction" 16 3 "roundmill.cutting" 338 142
def o86:Obj:=sqO ↥5 #[(vS "top" 351),(vS "bottom" 352),(vS "power" 353)]
def o87:Obj:=fv "scaled" 17
def o88:Obj:=cd "scaled" 348 349 350 33 3 144 181 145 146 147 148 354 355
def o89:Obj:=fu "scaled" 17 3 "roundmill.cutting" 338 149
def o90:Obj:=sqO ↥5 #[(vS "top" 360),(vS "bottom" 361),(vS "guess" 362),(vS "parts" 363)]
def o91:Obj:=fv "height" 18
def o92:Obj:=cd "height" 357 358 359 37 2 151 181 152 153 154 155 364 365
def o93:Obj:=fu "height" 18 3 "roundmill.cutting" 338 156
def o94:Obj:=sqO ↥5 #[(vS "over" 370),(vS "number" 371),(vS "middle" 372)]
def o95:Obj:=fv "rest_by_middle" 19
def o96:Obj:=cd "rest_by_middle" 367 368 369 41 3 158 181 159 160 161 162 373 374
def o97:Obj:=fu "rest_by_middle" 19 3 "roundmill.cutting" 338 163
def o98:Obj:=sqO ↥5 #[(vS "over" 379),(vS "step" 380)]
def o99:Obj:=fv "rest_of" 20
def S7:Obj:=cd "rest_of" 376 377 378 47 2 165 181 166 167 168 169 381 382
def S6:Obj:=fu "rest_of" 20 3 "roundmill.cutting" 338 170
def S5:Obj:=sqO ↥5 #[(vS "size" 387),(vS "top" 388),(vS "bottom" 389),(vS "power" 390),(vS "parts" 391)]
def Vq:Obj:=fv "cut" 21
def SY:Obj:=cd "cut" 384 385 386 49 3 172 181 173 174 175 176 392 393
def SX:Obj:=fu "cut" 21 3 "roundmill.cutting" 338 177
def SV:Obj:=sqO ↥5 #[(vS "number" 398),(vS "root" 399)]
def Vp:Obj:=fv "whole_root" 22
def SU:Obj:=cd "whole_root" 395 396 397 56 1 179 181 180 181 182 183 400 401
def SR:Obj:=fu "whole_root" 22 3 "roundmill.cutting" 338 184
def SQ:Obj:=sqO ↥5 #[(vS "top" 406),(vS "bottom" 407),(vS "root" 408),(vS "middle" 409)]
def Vo:Obj:=fv "root_rest" 23
def SM:Obj:=cd "root_rest" 403 404 405 63 3 186 181 187 188 189 190 410 411
def SK:Obj:=fu "root_rest" 23 3 "roundmill.cutting" 338 191
def SJ:Obj:=sqO ↥5 #[(vS "size" 416),(vS "top" 417),(vS "bottom" 418),(vS "root_height" 419),(vS "power" 420),(vS "parts" 421),(vS "root" 422)]
def Vn:Obj:=fv "root_cut" 24
def SH:Obj:=cd "root_cut" 413 414 415 66 3 193 181 194 195 196 197 423 424
def SG:Obj:=fu "root_cut" 24 3 "roundmill.cutting" 338 198
def SF:Obj:=sqO ↥5 #[(vS "size" 441),(vS "bits" 442),(vS "code" 443),(vS "step" 444)]
def Vm:Obj:=fv "parted" 31
def SD:Obj:=cd "parted" 438 439 440 81 2 200 181 201 202 203 204 445 446
def Sy:Obj:=fu "parted" 31 3 "roundmill.parts" 436 205
def Sw:Obj:=sqO ↥5 #[(vS "size" 451),(vS "sign" 452),(vS "field" 453),(vS "figures" 454)]
def Vl:Obj:=fv "joined" 32
def Sv:Obj:=cd "joined" 448 449 450 87 4 207 181 208 209 210 211 455 456
def Su:Obj:=fu "joined" 32 3 "roundmill.parts" 436 212
def Ss:Obj:=sqO ↥5 #[(vS "size" 461),(vS "bits" 462),(vS "parts" 463),(vS "field" 464),(vS "figures" 465)]
def Vk:Obj:=fv "kind" 33
def Sr:Obj:=cd "kind" 458 459 460 95 2 214 181 215 216 217 218 466 467
def Sq:Obj:=fu "kind" 33 3 "roundmill.parts" 436 219
def So:Obj:=sqO ↥5 #[(vS "size" 472),(vS "bits" 473),(vS "parts" 474),(vS "sign" 475),(vS "field" 476),(vS "figures" 477)]
def Vj:Obj:=fv "worth" 34
def Sn:Obj:=cd "worth" 469 470 471 104 2 221 181 222 223 224 225 478 479
def Sm:Obj:=fu "worth" 34 3 "roundmill.parts" 436 226
def Sl:Obj:=sqO ↥5 #[(vS "value" 484),(vS "whole" 485),(vS "power" 486)]
def Vi:Obj:=fv "worth_fraction" 35
def Sk:Obj:=cd "worth_fraction" 481 482 483 114 1 228 181 229 230 231 232 487 488
def Sj:Obj:=fu "worth_fraction" 35 3 "roundmill.parts" 436 233
def Si:Obj:=sqO ↥5 #[(vS "size" 493),(vS "bits" 494)]
def Vh:Obj:=fv "fraction" 36
def Sh:Obj:=cd "fraction" 490 491 492 120 2 235 181 236 237 238 239 495 496
def Sg:Obj:=fu "fraction" 36 3 "roundmill.parts" 436 240
def Sf:Obj:=sqO ↥5 #[(vS "size" 501),(vS "sign" 502),(vS "code" 503)]
def Vg:Obj:=fv "signed" 37
def Se:Obj:=cd "signed" 498 499 500 122 3 242 181 243 244 245 246 504 505
def Sd:Obj:=fu "signed" 37 3 "roundmill.parts" 436 247
def Sb:Obj:=sqO ↥5 #[(vS "size" 510),(vS "bits" 511),(vS "parts" 512)]
def Vf:Obj:=fv "negated" 38
def Sa:Obj:=cd "negated" 507 508 509 124 2 249 181 250 251 252 253 513 514
def R9:Obj:=fu "negated" 38 3 "roundmill.parts" 436 254
def R8:Obj:=sqO ↥5 #[(vS "even" 518),(vS "away" 519),(vS "nought" 520),(vS "up" 521),(vS "down" 522)]
def Ve (P:Params):Obj:=diO (.type "dict") #[(en P "__module__" 531 (vS "roundmill.ways" 516)),(en P "__qualname__" 533 (vS "Way" 532)),(en P "__firstlineno__" 535 (vI 129 534)),(en P "__init__" 543 (r 270)),(en P "grows" 553 (r 277)),(en P "bursts" 561 (r 284)),(en P "flees_nought" 569 (r 291)),(en P "__static_attributes__" 571 (r 292))] 8
def Vd:Obj:=fiO .none #[(z 131),(z 4),(r 269),(z 134),(z 4),(r 276),(z 143),(z 4),(r 283),(z 148),(z 4),(r 290)]
def Vc:Obj:=fiO (.type "code") #[(vS "Way" 526),(vS "Way" 527),(c 528),(z 129),(z 0),(z 0),(z 0),(z 0),(r 260),(.bool false),(z 181),(r 261),.none,.none,.none,.none,(z 529),(z 129),(c 530)]
def Vb:Obj:=(Obj.mk (.type "frame") none Data.plain #[(some (r 262)),(some (r 3)),(some (r 259)),none,(some (vS "roundmill.ways" 516)),none,(some (r 0))])
def R7:Obj:=sqO ↥5 #[(vS "self" 539),(vS "name" 540)]
def Va:Obj:=fnO .none "__init__" "Way.__init__" ((eA (T.top 41)).getD 0 (.Pass ⟨0,0,0,0⟩)) 0 [] .none .none .none .none none .none .none 0
def R6:Obj:=fiO (.type "code") #[(vS "__init__" 536),(vS "Way.__init__" 537),(c 538),(z 131),(z 2),(z 0),(z 0),(z 3),(r 264),(.bool true),(z 181),(r 265),.none,(r 266),(r 267),(r 268),(z 541),(z 131),(c 542)]
def R5:Obj:=fnO (.type "function") "__init__" "Way.__init__" ((eA (T.top 41)).getD 0 (.Pass ⟨0,0,0,0⟩)) 3 [] .none .none .none (vS "roundmill.ways" 516) none (r 269) .none 0
def R3:Obj:=sqO ↥5 #[(vS "self" 547),(vS "sign" 548),(vS "odd" 549),(vS "rest" 550)]
def U9:Obj:=fnO .none "grows" "Way.grows" ((eA (T.top 41)).getD 1 (.Pass ⟨0,0,0,0⟩)) 0 [] .none .none .none .none none .none .none 0
def R1:Obj:=fiO (.type "code") #[(vS "grows" 544),(vS "Way.grows" 545),(c 546),(z 134),(z 4),(z 0),(z 0),(z 3),(r 271),(.bool true),(z 181),(r 272),.none,(r 273),(r 274),(r 275),(z 551),(z 134),(c 552)]
def R0:Obj:=fnO (.type "function") "grows" "Way.grows" ((eA (T.top 41)).getD 1 (.Pass ⟨0,0,0,0⟩)) 3 [] .none .none .none (vS "roundmill.ways" 516) none (r 276) .none 0
def RZ:Obj:=sqO ↥5 #[(vS "self" 557),(vS "sign" 558)]
def U8:Obj:=fnO .none "bursts" "Way.bursts" ((eA (T.top 41)).getD 2 (.Pass ⟨0,0,0,0⟩)) 0 [] .none .none .none .none none .none .none 0
def RY:Obj:=fiO (.type "code") #[(vS "bursts" 554),(vS "Way.bursts" 555),(c 556),(z 143),(z 2),(z 0),(z 0),(z 3),(r 278),(.bool true),(z 181),(r 279),.none,(r 280),(r 281),(r 282),(z 559),(z 143),(c 560)]
def RX:Obj:=fnO (.type "function") "bursts" "Way.bursts" ((eA (T.top 41)).getD 2 (.Pass ⟨0,0,0,0⟩)) 3 [] .none .none .none (vS "roundmill.ways" 516) none (r 283) .none 0
def RW:Obj:=sqO ↥5 #[(vS "self" 565),(vS "sign" 566)]
def U7:Obj:=fnO .none "flees_nought" "Way.flees_nought" ((eA (T.top 41)).getD 3 (.Pass ⟨0,0,0,0⟩)) 0 [] .none .none .none .none none .none .none 0
def RV:Obj:=fiO (.type "code") #[(vS "flees_nought" 562),(vS "Way.flees_nought" 563),(c 564),(z 148),(z 2),(z 0),(z 0),(z 3),(r 285),(.bool true),(z 181),(r 286),.none,(r 287),(r 288),(r 289),(z 567),(z 148),(c 568)]
def RU:Obj:=fnO (.type "function") "flees_nought" "Way.flees_nought" ((eA (T.top 41)).getD 3 (.Pass ⟨0,0,0,0⟩)) 3 [] .none .none .none (vS "roundmill.ways" 516) none (r 290) .none 0
def RS:Obj:=sqO ↥5 #[(vS "name" 570)]
def RR (P:Params):Obj:=diO (.type "dict") #[(en P "__module__" 531 (vS "roundmill.ways" 516)),(en P "__firstlineno__" 535 (vI 129 534)),(en P "__init__" 543 (r 270)),(en P "grows" 553 (r 277)),(en P "bursts" 561 (r 284)),(en P "flees_nought" 569 (r 291)),(en P "__static_attributes__" 571 (r 292)),(en P "__dict__" 573 (r 295)),(en P "__weakref__" 575 (r 296)),(en P "__doc__" 576 .none)] 4
def RP:Obj:=(Obj.mk (.type "type") none (Data.cls (ClassData.mk "Way" [(.type "object")] [(r 294),(.type "object")] 293 "Way" true [] [] false none false)) #[none,none,(some (vS "Way" 524)),(some (vS "Way" 532)),(some (.builtin "object.__new__")),(some (.bool true))])
def RO:Obj:=fiO (.type "getset_descriptor") #[(vS "__dict__" 572),(r 294),(.builtin "function.__dict__"),(.builtin "function.__dict__#set")]
def RN:Obj:=fiO (.type "getset_descriptor") #[(vS "__weakref__" 574),(r 294),(.builtin "ExceptionGroup.__weakref__"),.none]
def U6:Obj:=fiO (.type "super") #[(r 294),(r 294),(r 294)]
def U5:Obj:=fiO (.type "builtin_function_or_method") #[(.builtin "object.__init_subclass__"),(r 294)]
def RM:Obj:=sqO ↥5 #[(vS "name" 582)]
def U4:Obj:=fv "way_of" 42
def RL:Obj:=cd "way_of" 579 580 581 152 1 299 181 300 301 302 303 583 584
def RK:Obj:=fu "way_of" 42 3 "roundmill.ways" 516 304
def RJ:Obj:=sqO ↥5 #[(vS "size" 591),(vS "way" 592),(vS "sign" 593),(vS "whole" 594),(vS "power" 595),(vS "rest" 596),(vS "chosen" 597),(vS "code" 598),(vS "end" 599),(vS "taken" 600)]
def U3:Obj:=fv "settled" 44
def RH:Obj:=cd "settled" 588 589 590 157 6 306 181 307 308 309 310 601 602
def RG:Obj:=fu "settled" 44 3 "roundmill.rounding" 586 311
def RE:Obj:=sqO ↥5 #[(vS "size" 607),(vS "code" 608),(vS "taken" 609),(vS "faint" 610)]
def U2:Obj:=fv "lost_flags" 45
def RD:Obj:=cd "lost_flags" 604 605 606 168 3 313 181 314 315 316 317 611 612
def RC:Obj:=fu "lost_flags" 45 3 "roundmill.rounding" 586 318
def RB:Obj:=sqO ↥5 #[(vS "size" 617),(vS "way" 618),(vS "sign" 619),(vS "top" 620),(vS "bottom" 621),(vS "parts" 622)]
def U1:Obj:=fv "rounded" 46
def Rz:Obj:=cd "rounded" 614 615 616 173 5 320 181 321 322 323 324 623 624
def Ry:Obj:=fu "rounded" 46 3 "roundmill.rounding" 586 325
def U0:Obj:=fv "total" 48
def Rx:Obj:=fiO (.type "code") #[(vS "total" 628),(vS "total" 629),(c 630),(z 178),(z 1),(z 0),(z 0),(z 3),(r 327),(.bool true),(z 181),(r 328),.none,.none,.none,(r 329),(z 631),(z 178),(c 632)]
def Rw:Obj:=fu "total" 48 3 "roundmill.totals" 626 330
def UZ (P:Params):Obj:=diO (.type "dict") #[(en P "__name__" 165 (vS "law_roundmill_k34_whole_deeds" 812)),(en P "__doc__" 166 .none),(en P "__package__" 167 .none),(en P "__loader__" 168 (.builtin "__main__.__loader__#opaque")),(en P "__spec__" 169 .none),(en P "__annotations__" 170 (r 6)),(en P "__builtins__" 171 (r 4)),(en P "__file__" 173 (c 172)),(en P "__cached__" 174 .none),(en P "MillError" 206 (r 24)),(en P "NoBits" 222 (r 37)),(en P "NoParts" 238 (r 49)),(en P "NotFinite" 254 (r 61)),(en P "NoWay" 270 (r 73)),(en P "NoFraction" 286 (r 85)),(en P "width" 295 (r 94)),(en P "bias" 302 (r 101)),(en P "low" 309 (r 108)),(en P "sign_bit" 316 (r 115)),(en P "last_field" 323 (r 122)),(en P "endless" 330 (r 129)),(en P "no_number" 337 (r 136)),(en P "check_fraction" 347 (r 143)),(en P "scaled" 356 (r 150)),(en P "height" 366 (r 157)),(en P "rest_by_middle" 375 (r 164)),(en P "rest_of" 383 (r 171)),(en P "cut" 394 (r 178)),(en P "whole_root" 402 (r 185)),(en P "root_rest" 412 (r 192)),(en P "root_cut" 425 (r 199)),(en P "INEXACT" 427 (vI 1 426)),(en P "SMALL" 429 (vI 2 428)),(en P "GREAT" 431 (vI 4 430)),(en P "POLE" 433 (vI 8 432)),(en P "WRONG" 435 (vI 16 434)),(en P "parted" 447 (r 206)),(en P "joined" 457 (r 213)),(en P "kind" 468 (r 220)),(en P "worth" 480 (r 227)),(en P "worth_fraction" 489 (r 234)),(en P "fraction" 497 (r 241)),(en P "signed" 506 (r 248)),(en P "negated" 515 (r 255)),(en P "NAMES" 523 (r 256)),(en P "Way" 578 (r 294)),(en P "way_of" 585 (r 305)),(en P "settled" 603 (r 312)),(en P "lost_flags" 613 (r 319)),(en P "rounded" 625 (r 326)),(en P "total" 633 (r 331)),(en P "nought_sign" 641 (r 338)),(en P "settled_total" 647 (r 343)),(en P "any_none" 655 (r 348)),(en P "number_term" 663 (r 355)),(en P "product_wrong" 673 (r 362)),(en P "product_term" 685 (r 369)),(en P "settled_terms" 691 (r 374)),(en P "settled_sum" 697 (r 379)),(en P "added" 709 (r 386)),(en P "taken" 719 (r 393)),(en P "multiplied" 729 (r 400)),(en P "fused" 740 (r 407)),(en P "divided" 753 (r 414)),(en P "quotient" 763 (r 421)),(en P "rooted" 774 (r 428)),(en P "whole_of" 789 (r 435)),(en P "whole_and_flags" 798 (r 442)),(en P "wholed" 811 (r 449)),(en P "_law_cell_at" 821 (r 456)),(en P "_law_whole" 828 (r 463)),(en P "_law_size_by" 837 (r 470)),(en P "_law_way_by" 844 (r 477)),(en P "_law_mixed" 852 (r 484)),(en P "_law_bits_by" 867 (r 491)),(en P "_law_odd_by" 880 (r 498)),(en P "_law_mate_by" 897 (r 505)),(en P "_law_third_by" 916 (r 512)),(en P "_law_two" 923 (r 519)),(en P "_law_value" 932 (r 526)),(en P "_law_near" 942 (r 533)),(en P "_law_far" 952 (r 540)),(en P "_law_fair" 971 (r 547)),(en P "_law_is" 980 (r 554)),(en P "_law_root_fair" 998 (r 561)),(en P "_law_fair_whole" 1011 (r 568)),(en P "_law_wholed_fair" 1028 (r 575)),(en P "_law_term" 1039 (r 582)),(en P "_law_product" 1052 (r 589))] 89
def UY:Obj:=fiO .none #[(z 2),(z 0),(r 20),(z 4),(z 0),(r 33),(z 6),(z 0),(r 45),(z 8),(z 0),(r 57),(z 10),(z 0),(r 69),(z 12),(z 0),(r 81),(z 15),(z 0),(r 93),(z 17),(z 0),(r 100),(z 19),(z 0),(r 107),(z 21),(z 0),(r 114),(z 23),(z 0),(r 121),(z 25),(z 0),(r 128),(z 27),(z 0),(r 135),(z 30),(z 0),(r 142),(z 33),(z 0),(r 149),(z 37),(z 0),(r 156),(z 41),(z 0),(r 163),(z 47),(z 0),(r 170),(z 49),(z 0),(r 177),(z 56),(z 0),(r 184),(z 63),(z 0),(r 191),(z 66),(z 0),(r 198),(z 81),(z 0),(r 205),(z 87),(z 0),(r 212),(z 95),(z 0),(r 219),(z 104),(z 0),(r 226),(z 114),(z 0),(r 233),(z 120),(z 0),(r 240),(z 122),(z 0),(r 247),(z 124),(z 0),(r 254),(z 129),(z 0),(r 262),(z 152),(z 0),(r 304),(z 157),(z 0),(r 311),(z 168),(z 0),(r 318),(z 173),(z 0),(r 325),(z 178),(z 0),(r 330),(z 185),(z 0),(r 337),(z 190),(z 0),(r 342),(z 197),(z 0),(r 347),(z 200),(z 0),(r 354),(z 204),(z 0),(r 361),(z 207),(z 0),(r 368),(z 214),(z 0),(r 373),(z 221),(z 0),(r 378),(z 233),(z 0),(r 385),(z 235),(z 0),(r 392),(z 238),(z 0),(r 399),(z 240),(z 0),(r 406),(z 242),(z 0),(r 413),(z 258),(z 0),(r 420),(z 260),(z 0),(r 427),(z 272),(z 0),(r 434),(z 278),(z 0),(r 441),(z 281),(z 0),(r 448),(z 293),(z 0),(r 455),(z 297),(z 0),(r 462),(z 299),(z 0),(r 469),(z 313),(z 0),(r 476),(z 315),(z 0),(r 483),(z 317),(z 0),(r 490),(z 337),(z 0),(r 497),(z 350),(z 0),(r 504),(z 372),(z 0),(r 511),(z 393),(z 0),(r 518),(z 397),(z 0),(r 525),(z 402),(z 0),(r 532),(z 408),(z 0),(r 539),(z 414),(z 0),(r 546),(z 441),(z 0),(r 553),(z 443),(z 0),(r 560),(z 464),(z 0),(r 567),(z 474),(z 0),(r 574),(z 493),(z 0),(r 581),(z 502),(z 0),(r 588)]
def Rv:Obj:=sqO ↥5 #[(vS "way" 637),(vS "signs" 638)]
def UX:Obj:=fv "nought_sign" 49
def Ru:Obj:=cd "nought_sign" 634 635 636 185 2 332 181 333 334 335 336 639 640
def Rt:Obj:=fu "nought_sign" 49 3 "roundmill.totals" 626 337
def UW:Obj:=fv "settled_total" 50
def Rr:Obj:=fiO (.type "code") #[(vS "settled_total" 642),(vS "settled_total" 643),(c 644),(z 190),(z 3),(z 0),(z 0),(z 3),(r 339),(.bool true),(z 181),(r 340),.none,.none,.none,(r 341),(z 645),(z 190),(c 646)]
def Rq:Obj:=fu "settled_total" 50 3 "roundmill.totals" 626 342
def UU:Obj:=fv "any_none" 52
def Rp:Obj:=fiO (.type "code") #[(vS "any_none" 650),(vS "any_none" 651),(c 652),(z 197),(z 2),(z 0),(z 0),(z 3),(r 344),(.bool true),(z 181),(r 345),.none,.none,.none,(r 346),(z 653),(z 197),(c 654)]
def Ro:Obj:=fu "any_none" 52 3 "roundmill.terms" 648 347
def Rn:Obj:=sqO ↥5 #[(vS "size" 659),(vS "bits" 660)]
def UT:Obj:=fv "number_term" 53
def Rm:Obj:=cd "number_term" 656 657 658 200 2 349 181 350 351 352 353 661 662
def Rl:Obj:=fu "number_term" 53 3 "roundmill.terms" 648 354
def Rk:Obj:=sqO ↥5 #[(vS "size" 667),(vS "a" 668),(vS "b" 669),(vS "kinds" 670)]
def US:Obj:=fv "product_wrong" 54
def Rj:Obj:=cd "product_wrong" 664 665 666 204 3 356 181 357 358 359 360 671 672
def Ri:Obj:=fu "product_wrong" 54 3 "roundmill.terms" 648 361
def Rh:Obj:=sqO ↥5 #[(vS "size" 677),(vS "a" 678),(vS "b" 679),(vS "left" 680),(vS "right" 681),(vS "sign" 682)]
def UR:Obj:=fv "product_term" 55
def Rg:Obj:=cd "product_term" 674 675 676 207 3 363 181 364 365 366 367 683 684
def Rf:Obj:=fu "product_term" 55 3 "roundmill.terms" 648 368
def UQ:Obj:=fv "settled_terms" 56
def Rc:Obj:=fiO (.type "code") #[(vS "settled_terms" 686),(vS "settled_terms" 687),(c 688),(z 214),(z 3),(z 0),(z 0),(z 3),(r 370),(.bool true),(z 181),(r 371),.none,.none,.none,(r 372),(z 689),(z 214),(c 690)]
def Rb:Obj:=fu "settled_terms" 56 3 "roundmill.terms" 648 373
def UP:Obj:=fv "settled_sum" 57
def Ra:Obj:=fiO (.type "code") #[(vS "settled_sum" 692),(vS "settled_sum" 693),(c 694),(z 221),(z 4),(z 0),(z 0),(z 3),(r 375),(.bool true),(z 181),(r 376),.none,.none,.none,(r 377),(z 695),(z 221),(c 696)]
def Q9:Obj:=fu "settled_sum" 57 3 "roundmill.terms" 648 378
def Q8:Obj:=sqO ↥5 #[(vS "size" 703),(vS "way" 704),(vS "a" 705),(vS "b" 706)]
def UO:Obj:=fv "added" 59
def Q7:Obj:=cd "added" 700 701 702 233 4 380 181 381 382 383 384 707 708
def Q6:Obj:=fu "added" 59 3 "roundmill.deeds" 698 385
def Q5:Obj:=sqO ↥5 #[(vS "size" 713),(vS "way" 714),(vS "a" 715),(vS "b" 716)]
def UN:Obj:=fv "taken" 60
def Q4:Obj:=cd "taken" 710 711 712 235 4 387 181 388 389 390 391 717 718
def Q3:Obj:=fu "taken" 60 3 "roundmill.deeds" 698 392
def Q2:Obj:=sqO ↥5 #[(vS "size" 723),(vS "way" 724),(vS "a" 725),(vS "b" 726)]
def UM:Obj:=fv "multiplied" 61
def Q1:Obj:=cd "multiplied" 720 721 722 238 4 394 181 395 396 397 398 727 728
def Q0:Obj:=fu "multiplied" 61 3 "roundmill.deeds" 698 399
def QZ:Obj:=sqO ↥5 #[(vS "size" 733),(vS "way" 734),(vS "a" 735),(vS "b" 736),(vS "c" 737)]
def UL:Obj:=fv "fused" 62
def QY:Obj:=cd "fused" 730 731 732 240 5 401 181 402 403 404 405 738 739
def QX:Obj:=fu "fused" 62 3 "roundmill.deeds" 698 406
def QW:Obj:=sqO ↥5 #[(vS "size" 744),(vS "way" 745),(vS "a" 746),(vS "b" 747),(vS "over" 748),(vS "under" 749),(vS "sign" 750)]
def UK:Obj:=fv "divided" 63
def QV:Obj:=cd "divided" 741 742 743 242 4 408 181 409 410 411 412 751 752
def QU:Obj:=fu "divided" 63 3 "roundmill.deeds" 698 413
def QT:Obj:=sqO ↥5 #[(vS "size" 757),(vS "way" 758),(vS "over" 759),(vS "under" 760)]
def UJ:Obj:=fv "quotient" 64
def QS:Obj:=cd "quotient" 754 755 756 258 4 415 181 416 417 418 419 761 762
def QR:Obj:=fu "quotient" 64 3 "roundmill.deeds" 698 420
def QQ:Obj:=sqO ↥5 #[(vS "size" 767),(vS "way" 768),(vS "a" 769),(vS "value" 770),(vS "parts" 771)]
def UI:Obj:=fv "rooted" 65
def QP:Obj:=cd "rooted" 764 765 766 260 3 422 181 423 424 425 426 772 773
def QO:Obj:=fu "rooted" 65 3 "roundmill.deeds" 698 427
def QN:Obj:=sqO ↥5 #[(vS "way" 780),(vS "sign" 781),(vS "top" 782),(vS "bottom" 783),(vS "chosen" 784),(vS "whole" 785),(vS "rest" 786)]
def UH:Obj:=fv "whole_of" 67
def QM:Obj:=cd "whole_of" 777 778 779 272 4 429 181 430 431 432 433 787 788
def QL:Obj:=fu "whole_of" 67 3 "roundmill.wholes" 775 434
def QK:Obj:=sqO ↥5 #[(vS "way" 793),(vS "value" 794),(vS "whole" 795)]
def UG:Obj:=fv "whole_and_flags" 68
def QJ:Obj:=cd "whole_and_flags" 790 791 792 278 2 436 181 437 438 439 440 796 797
def QI:Obj:=fu "whole_and_flags" 68 3 "roundmill.wholes" 775 441
def QH:Obj:=sqO ↥5 #[(vS "size" 802),(vS "way" 803),(vS "bits" 804),(vS "found" 805),(vS "value" 806),(vS "taken" 807),(vS "pair" 808)]
def UE:Obj:=fv "wholed" 69
def QG:Obj:=cd "wholed" 799 800 801 281 3 443 181 444 445 446 447 809 810
def QF:Obj:=fu "wholed" 69 3 "roundmill.wholes" 775 448
def QE:Obj:=sqO ↥5 #[(vS "_law_script" 817),(vS "_law_k" 818)]
def UD:Obj:=fv "_law_cell_at" 71
def QD:Obj:=cd "_law_cell_at" 814 815 816 293 2 450 181 451 452 453 454 819 820
def QC:Obj:=fu "_law_cell_at" 71 3 "law_roundmill_k34_whole_deeds" 812 455
def QB:Obj:=sqO ↥5 #[(vS "_law_found" 825)]
def UC:Obj:=fv "_law_whole" 72
def QA:Obj:=cd "_law_whole" 822 823 824 297 1 457 181 458 459 460 461 826 827
def Qz:Obj:=fu "_law_whole" 72 3 "law_roundmill_k34_whole_deeds" 812 462
def Qy:Obj:=sqO ↥5 #[(vS "_law_cell" 832),(vS "_law_way" 833),(vS "_law_rest" 834)]
def UB:Obj:=fv "_law_size_by" 73
def Qx:Obj:=cd "_law_size_by" 829 830 831 299 1 464 181 465 466 467 468 835 836
def Qw:Obj:=fu "_law_size_by" 73 3 "law_roundmill_k34_whole_deeds" 812 469
def Qv:Obj:=sqO ↥5 #[(vS "_law_cell" 841)]
def UA:Obj:=fv "_law_way_by" 74
def Qu:Obj:=cd "_law_way_by" 838 839 840 313 1 471 181 472 473 474 475 842 843
def Qt:Obj:=fu "_law_way_by" 74 3 "law_roundmill_k34_whole_deeds" 812 476
def Qs:Obj:=sqO ↥5 #[(vS "_law_cell" 848),(vS "_law_many" 849)]
def Uz:Obj:=fv "_law_mixed" 75
def Qr:Obj:=cd "_law_mixed" 845 846 847 315 2 478 181 479 480 481 482 850 851
def Qq:Obj:=fu "_law_mixed" 75 3 "law_roundmill_k34_whole_deeds" 812 483
def Qp:Obj:=sqO ↥5 #[(vS "_law_size" 856),(vS "_law_cell" 857),(vS "_law_top" 858),(vS "_law_last" 859),(vS "_law_way" 860),(vS "_law_rest" 861),(vS "_law_sign" 862),(vS "_law_code" 863),(vS "_law_field" 864)]
def Uy:Obj:=fv "_law_bits_by" 76
def Qo:Obj:=cd "_law_bits_by" 853 854 855 317 2 485 181 486 487 488 489 865 866
def Qn:Obj:=fu "_law_bits_by" 76 3 "law_roundmill_k34_whole_deeds" 812 490
def Qm:Obj:=sqO ↥5 #[(vS "_law_size" 871),(vS "_law_cell" 872),(vS "_law_top" 873),(vS "_law_last" 874),(vS "_law_way" 875),(vS "_law_rest" 876),(vS "_law_first" 877)]
def Ux:Obj:=fv "_law_odd_by" 77
def Ql:Obj:=cd "_law_odd_by" 868 869 870 337 2 492 181 493 494 495 496 878 879
def Qk:Obj:=fu "_law_odd_by" 77 3 "law_roundmill_k34_whole_deeds" 812 497
def Qj:Obj:=sqO ↥5 #[(vS "_law_size" 884),(vS "_law_bits" 885),(vS "_law_cell" 886),(vS "_law_turned" 887),(vS "_law_top" 888),(vS "_law_middle" 889),(vS "_law_way" 890),(vS "_law_rest" 891),(vS "_law_goal" 892),(vS "_law_field" 893),(vS "_law_figures" 894)]
def Uw:Obj:=fv "_law_mate_by" 78
def Qi:Obj:=cd "_law_mate_by" 881 882 883 350 4 499 181 500 501 502 503 895 896
def Qh:Obj:=fu "_law_mate_by" 78 3 "law_roundmill_k34_whole_deeds" 812 504
def Qg:Obj:=sqO ↥5 #[(vS "_law_size" 901),(vS "_law_a" 902),(vS "_law_b" 903),(vS "_law_cell" 904),(vS "_law_top" 905),(vS "_law_last" 906),(vS "_law_steps" 907),(vS "_law_way" 908),(vS "_law_rest" 909),(vS "_law_tall" 910),(vS "_law_code" 911),(vS "_law_more" 912),(vS "_law_sign" 913)]
def Uv:Obj:=fv "_law_third_by" 79
def Qe:Obj:=cd "_law_third_by" 898 899 900 372 4 506 181 507 508 509 510 914 915
def Qd:Obj:=fu "_law_third_by" 79 3 "law_roundmill_k34_whole_deeds" 812 511
def Qc:Obj:=sqO ↥5 #[(vS "_law_found" 920)]
def Uu:Obj:=fv "_law_two" 80
def Qb:Obj:=cd "_law_two" 917 918 919 393 1 513 181 514 515 516 517 921 922
def Qa:Obj:=fu "_law_two" 80 3 "law_roundmill_k34_whole_deeds" 812 518
def P9:Obj:=sqO ↥5 #[(vS "_law_size" 927),(vS "_law_code" 928),(vS "_law_field" 929)]
def Ut:Obj:=fv "_law_value" 81
def P8:Obj:=cd "_law_value" 924 925 926 397 2 520 181 521 522 523 524 930 931
def P7:Obj:=fu "_law_value" 81 3 "law_roundmill_k34_whole_deeds" 812 525
def P6:Obj:=sqO ↥5 #[(vS "_law_way" 936),(vS "_law_outward" 937),(vS "_law_lean" 938),(vS "_law_even" 939)]
def Us:Obj:=fv "_law_near" 82
def P5:Obj:=cd "_law_near" 933 934 935 402 4 527 181 528 529 530 531 940 941
def P2:Obj:=fu "_law_near" 82 3 "law_roundmill_k34_whole_deeds" 812 532
def P1:Obj:=sqO ↥5 #[(vS "_law_way" 946),(vS "_law_outward" 947),(vS "_law_lean" 948),(vS "_law_even" 949)]
def Ur:Obj:=fv "_law_far" 83
def P0:Obj:=cd "_law_far" 943 944 945 408 4 534 181 535 536 537 538 950 951
def PZ:Obj:=fu "_law_far" 83 3 "law_roundmill_k34_whole_deeds" 812 539
def PY:Obj:=sqO ↥5 #[(vS "_law_size" 956),(vS "_law_way" 957),(vS "_law_sign" 958),(vS "_law_tall" 959),(vS "_law_bottom" 960),(vS "_law_found" 961),(vS "_law_code" 962),(vS "_law_last" 963),(vS "_law_here" 964),(vS "_law_outward" 965),(vS "_law_due" 966),(vS "_law_beyond" 967),(vS "_law_before" 968)]
def Uq:Obj:=fv "_law_fair" 84
def PX:Obj:=cd "_law_fair" 953 954 955 414 6 541 181 542 543 544 545 969 970
def PV:Obj:=fu "_law_fair" 84 3 "law_roundmill_k34_whole_deeds" 812 546
def PU:Obj:=sqO ↥5 #[(vS "_law_found" 975),(vS "_law_bits" 976),(vS "_law_flags" 977)]
def Up:Obj:=fv "_law_is" 85
def PR:Obj:=cd "_law_is" 972 973 974 441 3 548 181 549 550 551 552 978 979
def PQ:Obj:=fu "_law_is" 85 3 "law_roundmill_k34_whole_deeds" 812 553
def PN:Obj:=sqO ↥5 #[(vS "_law_size" 984),(vS "_law_way" 985),(vS "_law_square" 986),(vS "_law_found" 987),(vS "_law_code" 988),(vS "_law_here" 989),(vS "_law_due" 990),(vS "_law_beyond" 991),(vS "_law_lean" 992),(vS "_law_near_here" 993),(vS "_law_before" 994),(vS "_law_far_here" 995)]
def Uo:Obj:=fv "_law_root_fair" 86
def PM:Obj:=cd "_law_root_fair" 981 982 983 443 4 555 181 556 557 558 559 996 997
def PL:Obj:=fu "_law_root_fair" 86 3 "law_roundmill_k34_whole_deeds" 812 560
def PK:Obj:=sqO ↥5 #[(vS "_law_way" 1002),(vS "_law_sign" 1003),(vS "_law_whole_here" 1004),(vS "_law_top" 1005),(vS "_law_bottom" 1006),(vS "_law_outward" 1007),(vS "_law_over" 1008)]
def Um:Obj:=fv "_law_fair_whole" 87
def PJ:Obj:=cd "_law_fair_whole" 999 1000 1001 464 5 562 181 563 564 565 566 1009 1010
def PH:Obj:=fu "_law_fair_whole" 87 3 "law_roundmill_k34_whole_deeds" 812 567
def PF:Obj:=sqO ↥5 #[(vS "_law_size" 1015),(vS "_law_way" 1016),(vS "_law_a" 1017),(vS "_law_found" 1018),(vS "_law_top" 1019),(vS "_law_last" 1020),(vS "_law_code" 1021),(vS "_law_told" 1022),(vS "_law_steps" 1023),(vS "_law_here" 1024),(vS "_law_tall" 1025)]
def Ul:Obj:=fv "_law_wholed_fair" 88
def PD:Obj:=cd "_law_wholed_fair" 1012 1013 1014 474 4 569 181 570 571 572 573 1026 1027
def PC:Obj:=fu "_law_wholed_fair" 88 3 "law_roundmill_k34_whole_deeds" 812 574
def PB:Obj:=sqO ↥5 #[(vS "_law_size" 1032),(vS "_law_bits" 1033),(vS "_law_top" 1034),(vS "_law_last" 1035),(vS "_law_steps" 1036)]
def Uk:Obj:=fv "_law_term" 89
def Pz:Obj:=cd "_law_term" 1029 1030 1031 493 2 576 181 577 578 579 580 1037 1038
def Py:Obj:=fu "_law_term" 89 3 "law_roundmill_k34_whole_deeds" 812 581
def Px:Obj:=sqO ↥5 #[(vS "_law_size" 1043),(vS "_law_a" 1044),(vS "_law_b" 1045),(vS "_law_steps" 1046),(vS "_law_one" 1047),(vS "_law_other" 1048),(vS "_law_sign" 1049)]
def Uj:Obj:=fv "_law_product" 90
def Pw:Obj:=cd "_law_product" 1040 1041 1042 502 3 583 181 584 585 586 587 1050 1051
def Pu:Obj:=fu "_law_product" 90 3 "law_roundmill_k34_whole_deeds" 812 588
def Pt (P:Params):Obj:=diO (.type "dict") #[(en P "__name__" 165 (vS "law_roundmill_k34_whole_deeds" 812)),(en P "__doc__" 166 .none),(en P "__package__" 167 .none),(en P "__loader__" 168 (.builtin "__main__.__loader__#opaque")),(en P "__spec__" 169 .none),(en P "__annotations__" 170 (r 6)),(en P "__builtins__" 171 (r 4)),(en P "__file__" 173 (c 172)),(en P "__cached__" 174 .none),(en P "MillError" 206 (r 24)),(en P "NoBits" 222 (r 37)),(en P "NoParts" 238 (r 49)),(en P "NotFinite" 254 (r 61)),(en P "NoWay" 270 (r 73)),(en P "NoFraction" 286 (r 85)),(en P "width" 295 (r 94)),(en P "bias" 302 (r 101)),(en P "low" 309 (r 108)),(en P "sign_bit" 316 (r 115)),(en P "last_field" 323 (r 122)),(en P "endless" 330 (r 129)),(en P "no_number" 337 (r 136)),(en P "check_fraction" 347 (r 143)),(en P "scaled" 356 (r 150)),(en P "height" 366 (r 157)),(en P "rest_by_middle" 375 (r 164)),(en P "rest_of" 383 (r 171)),(en P "cut" 394 (r 178)),(en P "whole_root" 402 (r 185)),(en P "root_rest" 412 (r 192)),(en P "root_cut" 425 (r 199)),(en P "INEXACT" 427 (vI 1 426)),(en P "SMALL" 429 (vI 2 428)),(en P "GREAT" 431 (vI 4 430)),(en P "POLE" 433 (vI 8 432)),(en P "WRONG" 435 (vI 16 434)),(en P "parted" 447 (r 206)),(en P "joined" 457 (r 213)),(en P "kind" 468 (r 220)),(en P "worth" 480 (r 227)),(en P "worth_fraction" 489 (r 234)),(en P "fraction" 497 (r 241)),(en P "signed" 506 (r 248)),(en P "negated" 515 (r 255)),(en P "NAMES" 523 (r 256)),(en P "Way" 578 (r 294)),(en P "way_of" 585 (r 305)),(en P "settled" 603 (r 312)),(en P "lost_flags" 613 (r 319)),(en P "rounded" 625 (r 326)),(en P "total" 633 (r 331)),(en P "nought_sign" 641 (r 338)),(en P "settled_total" 647 (r 343)),(en P "any_none" 655 (r 348)),(en P "number_term" 663 (r 355)),(en P "product_wrong" 673 (r 362)),(en P "product_term" 685 (r 369)),(en P "settled_terms" 691 (r 374)),(en P "settled_sum" 697 (r 379)),(en P "added" 709 (r 386)),(en P "taken" 719 (r 393)),(en P "multiplied" 729 (r 400)),(en P "fused" 740 (r 407)),(en P "divided" 753 (r 414)),(en P "quotient" 763 (r 421)),(en P "rooted" 774 (r 428)),(en P "whole_of" 789 (r 435)),(en P "whole_and_flags" 798 (r 442)),(en P "wholed" 811 (r 449)),(en P "_law_cell_at" 821 (r 456)),(en P "_law_whole" 828 (r 463)),(en P "_law_size_by" 837 (r 470)),(en P "_law_way_by" 844 (r 477)),(en P "_law_mixed" 852 (r 484)),(en P "_law_bits_by" 867 (r 491)),(en P "_law_odd_by" 880 (r 498)),(en P "_law_mate_by" 897 (r 505)),(en P "_law_third_by" 916 (r 512)),(en P "_law_two" 923 (r 519)),(en P "_law_value" 932 (r 526)),(en P "_law_near" 942 (r 533)),(en P "_law_far" 952 (r 540)),(en P "_law_fair" 971 (r 547)),(en P "_law_is" 980 (r 554)),(en P "_law_root_fair" 998 (r 561)),(en P "_law_fair_whole" 1011 (r 568)),(en P "_law_wholed_fair" 1028 (r 575)),(en P "_law_term" 1039 (r 582)),(en P "_law_product" 1052 (r 589)),(en P "_law_sum_good" 1058 (r 594)),(en P "_law_quotient_good" 1076 (r 601)),(en P "_law_root_good" 1089 (r 608)),(en P "_law_partner" 1101 (r 615)),(en P "_law_deed" 1115 (r 622)),(en P "law" 1133 (r 629))] 95
def Ui:Obj:=fiO .none #[(z 2),(z 0),(r 20),(z 4),(z 0),(r 33),(z 6),(z 0),(r 45),(z 8),(z 0),(r 57),(z 10),(z 0),(r 69),(z 12),(z 0),(r 81),(z 15),(z 0),(r 93),(z 17),(z 0),(r 100),(z 19),(z 0),(r 107),(z 21),(z 0),(r 114),(z 23),(z 0),(r 121),(z 25),(z 0),(r 128),(z 27),(z 0),(r 135),(z 30),(z 0),(r 142),(z 33),(z 0),(r 149),(z 37),(z 0),(r 156),(z 41),(z 0),(r 163),(z 47),(z 0),(r 170),(z 49),(z 0),(r 177),(z 56),(z 0),(r 184),(z 63),(z 0),(r 191),(z 66),(z 0),(r 198),(z 81),(z 0),(r 205),(z 87),(z 0),(r 212),(z 95),(z 0),(r 219),(z 104),(z 0),(r 226),(z 114),(z 0),(r 233),(z 120),(z 0),(r 240),(z 122),(z 0),(r 247),(z 124),(z 0),(r 254),(z 129),(z 0),(r 262),(z 152),(z 0),(r 304),(z 157),(z 0),(r 311),(z 168),(z 0),(r 318),(z 173),(z 0),(r 325),(z 178),(z 0),(r 330),(z 185),(z 0),(r 337),(z 190),(z 0),(r 342),(z 197),(z 0),(r 347),(z 200),(z 0),(r 354),(z 204),(z 0),(r 361),(z 207),(z 0),(r 368),(z 214),(z 0),(r 373),(z 221),(z 0),(r 378),(z 233),(z 0),(r 385),(z 235),(z 0),(r 392),(z 238),(z 0),(r 399),(z 240),(z 0),(r 406),(z 242),(z 0),(r 413),(z 258),(z 0),(r 420),(z 260),(z 0),(r 427),(z 272),(z 0),(r 434),(z 278),(z 0),(r 441),(z 281),(z 0),(r 448),(z 293),(z 0),(r 455),(z 297),(z 0),(r 462),(z 299),(z 0),(r 469),(z 313),(z 0),(r 476),(z 315),(z 0),(r 483),(z 317),(z 0),(r 490),(z 337),(z 0),(r 497),(z 350),(z 0),(r 504),(z 372),(z 0),(r 511),(z 393),(z 0),(r 518),(z 397),(z 0),(r 525),(z 402),(z 0),(r 532),(z 408),(z 0),(r 539),(z 414),(z 0),(r 546),(z 441),(z 0),(r 553),(z 443),(z 0),(r 560),(z 464),(z 0),(r 567),(z 474),(z 0),(r 574),(z 493),(z 0),(r 581),(z 502),(z 0),(r 588),(z 514),(z 0),(r 593),(z 532),(z 0),(r 600),(z 551),(z 0),(r 607),(z 562),(z 0),(r 614),(z 569),(z 0),(r 621),(z 591),(z 0),(r 628)]
def Uh:Obj:=fv "_law_sum_good" 91
def Pr:Obj:=fiO (.type "code") #[(vS "_law_sum_good" 1053),(vS "_law_sum_good" 1054),(c 1055),(z 514),(z 4),(z 0),(z 0),(z 3),(r 590),(.bool true),(z 181),(r 591),.none,.none,.none,(r 592),(z 1056),(z 514),(c 1057)]
def Pq:Obj:=fu "_law_sum_good" 91 3 "law_roundmill_k34_whole_deeds" 812 593
def Pp:Obj:=sqO ↥5 #[(vS "_law_size" 1062),(vS "_law_way" 1063),(vS "_law_a" 1064),(vS "_law_b" 1065),(vS "_law_found" 1066),(vS "_law_top" 1067),(vS "_law_last" 1068),(vS "_law_one" 1069),(vS "_law_other" 1070),(vS "_law_first" 1071),(vS "_law_steps" 1072),(vS "_law_tall" 1073)]
def Ug:Obj:=fv "_law_quotient_good" 92
def Po:Obj:=cd "_law_quotient_good" 1059 1060 1061 532 5 595 181 596 597 598 599 1074 1075
def Pn:Obj:=fu "_law_quotient_good" 92 3 "law_roundmill_k34_whole_deeds" 812 600
def Pm:Obj:=sqO ↥5 #[(vS "_law_size" 1080),(vS "_law_way" 1081),(vS "_law_a" 1082),(vS "_law_found" 1083),(vS "_law_top" 1084),(vS "_law_last" 1085),(vS "_law_steps" 1086)]
def Ue:Obj:=fv "_law_root_good" 93
def Pk:Obj:=cd "_law_root_good" 1077 1078 1079 551 4 602 181 603 604 605 606 1087 1088
def Pj:Obj:=fu "_law_root_good" 93 3 "law_roundmill_k34_whole_deeds" 812 607
def Ph:Obj:=sqO ↥5 #[(vS "_law_size" 1093),(vS "_law_row" 1094),(vS "_law_a" 1095),(vS "_law_which" 1096),(vS "_law_cell" 1097),(vS "_law_rest" 1098)]
def Ud:Obj:=fv "_law_partner" 94
def Pg:Obj:=cd "_law_partner" 1090 1091 1092 562 5 609 181 610 611 612 613 1099 1100
def Pf:Obj:=fu "_law_partner" 94 3 "law_roundmill_k34_whole_deeds" 812 614
def Pe:Obj:=sqO ↥5 #[(vS "_law_size" 1105),(vS "_law_way" 1106),(vS "_law_which" 1107),(vS "_law_a" 1108),(vS "_law_b" 1109),(vS "_law_c" 1110),(vS "_law_found" 1111),(vS "_law_turned" 1112)]
def Uc:Obj:=fv "_law_deed" 95
def Pd:Obj:=cd "_law_deed" 1102 1103 1104 569 6 616 181 617 618 619 620 1113 1114
def Pc:Obj:=fu "_law_deed" 95 3 "law_roundmill_k34_whole_deeds" 812 621
def Pb:Obj:=sqO ↥5 #[(vS "_law_script" 1119),(vS "_law_size" 1120),(vS "_law_row" 1121),(vS "_law_cell" 1122),(vS "_law_which" 1123),(vS "_law_rest" 1124),(vS "_law_way" 1125),(vS "_law_a" 1126),(vS "_law_b" 1127),(vS "_law_c" 1128),(vS "_law_good" 1129),(vS "_law_found" 1130)]
def Ub:Obj:=fv "law" 96
def Pa:Obj:=cd "law" 1116 1117 1118 591 1 623 181 624 625 626 627 1131 1132
def O9:Obj:=fu "law" 96 3 "law_roundmill_k34_whole_deeds" 812 628
def full (P:Params):BT:=(B (boot_o_0 P) (B (boot_o_1 P) (B (Pt P) (B (boot_o_7 P) (B o6 (B o0 (B o37 (B o75 (B R9 (L Qe) N) (L o0)) (B SM (B RC (L PC) N) (L UE))) (B o0 (B o1 (B RW (L PY) N) (L o0)) (B So (B Rn (L Pk) N) (L o1)))) (B o0 (B o0 (B o85 (B o0 (L o0) N) (L Q1)) (B o0 (B o0 (L o1) N) (L Qz))) (B o66 (B o0 (B U4 (L Uo) N) (L QN)) (B Vh (B UR (L o0) N) (L o0))))) (B (o11 P) (B o23 (B o0 (B o80 (B Vb (L Qa) N) (L UN)) (B SG (B o0 (L o0) N) (L QD))) (B o1 (B o98 (B RO (L o0) N) (L o1)) (B o0 (B o0 (L Pf) N) (L Qp)))) (B o0 (B o51 (B o0 (B o1 (L o1) N) (L QX)) (B o1 (B Rq (L Ug) N) (L o0))) (B o0 (B Vp (B RH (L PJ) N) (L o0)) (B Se (L o0) (L Uw)))))) (B o0 (B o1 (B o0 (B o0 (B o1 (B (Ve P) (L Qc) N) (L o0)) (B SJ (B o0 (L o0) N) (L o1))) (B o59 (B o96 (B RU (L PV) N) (L UJ)) (B Sm (B Rl (L Ph) N) (L Qr)))) (B o30 (B o0 (B o0 (B U9 (L Us) N) (L QZ)) (B Vl (B o0 (L o0) N) (L o0))) (B o69 (B o0 (B o1 (L o1) N) (L QL)) (B o1 (B o1 (L Ub) N) (L o0))))) (B o15 (B o0 (B o44 (B o82 (B o0 (L o0) N) (L o1)) (B o0 (B Rw (L Uj) N) (L QB))) (B o64 (B S6 (B o0 (L o0) N) (L QP)) (B o0 (B o0 (L o0) N) (L Qn)))) (B o0 (B o0 (B o91 (B RY (L P0) N) (L o0)) (B Sr (B Rp (L o1) N) (L UA))) (B o0 (B o1 (B RE (L PF) N) (L o0)) (B Sb (L Q9) (L o1))))))) (B (boot_o_5 P) (B (boot_o_9 P) (B (o8 P) (B o18 (B o7 (B o77 (B o0 (L o0) N) (L Q7)) (B o0 (B o1 (L o1) N) (L QF))) (B o58 (B o0 (B U7 (L Uq) N) (L QT)) (B Vj (B UT (L o0) N) (L o0)))) (B o28 (B o46 (B o1 (B R3 (L P6) N) (L o0)) (B Sw (B Ru (L Pr) N) (L o1))) (B o67 (B SY (B RK (L PL) N) (L UH)) (B Sg (B Rf (L Pb) N) (L Ql))))) (B o13 (B o7 (B o42 (B o0 (B o1 (L o1) N) (L Q3)) (B o1 (B U0 (L Px) N) (L o0))) (B o0 (B o99 (B U6 (L PR) N) (L o0)) (B Sk (B Rj (L o1) N) (L Uy)))) (B o32 (B o1 (B o90 (B o0 (L o0) N) (L o1)) (B o0 (B o1 (L Pn) N) (L Qv))) (B o72 (B SR (B o0 (L o0) N) (L QJ)) (B o0 (L UP) (L Qh)))))) (B o2 (B o10 (B o21 (B o39 (B o0 (B Vd (L Uu) N) (L Q5)) (B Vn (B Rz (L Pz) N) (L o0))) (B o61 (B o0 (B (RR P) (L o1) N) (L QR)) (B o1 (B o1 (L Ud) N) (L o0)))) (B o7 (B o49 (B o88 (B R0 (L P2) N) (L UL)) (B Su (B UW (L Pp) N) (L Qx))) (B o1 (B SV (B o0 (L o0) N) (L o1)) (B o0 (B Rc (L O9) N) (L Qj))))) (B o7 (B o25 (B o7 (B o83 (B R6 (L P8) N) (L o0)) (B SD (B o1 (L Pu) N) (L UC))) (B o0 (B o1 (B RM (L PN) N) (L o0)) (B Si (B Rh (L Pd) N) (L o1)))) (B o35 (B o54 (B o93 (B o0 (L o0) N) (L QV)) (B o0 (B o0 (L o0) N) (L Qt))) (B o74 (B o0 (B U2 (L Ul) N) (L QH)) (B Vf (L o1) (L o0)))))))) (B (boot_o_2 P) (B (boot_o_4 P) (B (boot_o_8 P) (B o7 (B o1 (B o16 (B o76 (B R8 (L Qd) N) (L UO)) (B SK (B o0 (L o0) N) (L QG))) (B o1 (B o94 (B o0 (L o0) N) (L o1)) (B o0 (B o0 (L Pj) N) (L Qs)))) (B (o27 P) (B o1 (B o0 (B o1 (L o1) N) (L Q0)) (B o1 (B UX (L Uh) N) (L o0))) (B o0 (B Vq (B RL (L PM) N) (L o0)) (B Sh (B Rg (L o1) N) (L Ux))))) (B o12 (B o16 (B (o41 P) (B o81 (B o0 (L o0) N) (L Q4)) (B o0 (B o1 (L o1) N) (L QC))) (B o62 (B o0 (B RN (L Up) N) (L QQ)) (B Vi (B US (L o0) N) (L o0)))) (B o1 (B o0 (B o1 (B RZ (L P1) N) (L o0)) (B Ss (B o0 (L Po) N) (L o1))) (B o71 (B SU (B RG (L PH) N) (L UG)) (B Sd (L o1) (L Qi)))))) (B Ui (B o9 (B (o20 P) (B o1 (B o78 (B o0 (L o0) N) (L o1)) (B o0 (B U1 (L Uk) N) (L QE))) (B o60 (B o97 (B RS (L o0) N) (L QS)) (B o0 (B o0 (L o0) N) (L Qq)))) (B o16 (B (o48 P) (B o87 (B R1 (L P5) N) (L o0)) (B Sv (B o1 (L o1) N) (L UB))) (B o0 (B o1 (B RJ (L PK) N) (L o0)) (B Sf (B UQ (L Pa) N) (L o1))))) (B o16 (B o1 (B o16 (B o0 (B Va (L Ut) N) (L Q2)) (B Vm (B o0 (L Pw) N) (L o0))) (B o65 (B o0 (B o1 (L o1) N) (L QO)) (B o1 (B o1 (L Uc) N) (L o0)))) (B (o34 P) (B o53 (B o92 (B RX (L PZ) N) (L UK)) (B Sq (B Ro (L Pm) N) (L Qu))) (B o1 (B SQ (B o0 (L o0) N) (L o1)) (B o0 (L o0) (L Qg))))))) (B (boot_o_6 P) (B (boot_o_10 P) (B o0 (B o19 (B (o38 P) (B o0 (B o7 (L o1) N) (L Q6)) (B o1 (B RB (L PB) N) (L o0))) (B o0 (B o95 (B RV (L PX) N) (L o0)) (B Sn (B Rm (L o1) N) (L Uz)))) (B o29 (B o47 (B o86 (B o0 (L o0) N) (L o1)) (B o0 (B Rt (L Pq) N) (L Qy))) (B o68 (B SX (B o0 (L o0) N) (L QM)) (B o0 (B o0 (L o0) N) (L Qk))))) (B o14 (B (o24 P) (B o43 (B o1 (B R7 (L P9) N) (L o0)) (B SF (B Rx (L o0) N) (L o1))) (B o63 (B S7 (B U5 (L PQ) N) (L UI)) (B Sj (B Ri (L Pe) N) (L Qo)))) (B o33 (B o52 (B o0 (B U8 (L Ur) N) (L QW)) (B Vk (B UU (L o0) N) (L o0))) (B o73 (B o0 (B o1 (L o1) N) (L QI)) (B o1 (L Ra) (L o0)))))) (B o3 (B o0 (B o22 (B o40 (B o79 (B Vc (L Qb) N) (L o0)) (B SH (B Ry (L Py) N) (L UD))) (B o0 (B o1 (B RP (L PU) N) (L o0)) (B Sl (B Rk (L Pg) N) (L o1)))) (B (o31 P) (B o50 (B o89 (B o0 (L o0) N) (L QY)) (B o0 (B Rr (L o0) N) (L Qw))) (B o70 (B o0 (B U3 (L Um) N) (L QK)) (B Vg (L Rb) (L o0))))) (B (o17 P) (B o26 (B (o45 P) (B o84 (B R5 (L P7) N) (L UM)) (B Sy (B Rv (L o0) N) (L QA))) (B o1 (B S5 (B o0 (L o0) N) (L o1)) (B o0 (B o0 (L Pc) N) (L Qm)))) (B o36 (B o55 (B o0 (B o1 (L o1) N) (L QU)) (B o1 (B o1 (L Ue) N) (L o0))) (B o0 (B Vo (B RD (L PD) N) (L o0)) (B Sa (L Q8) (L Uv)))))))))
def t_0 (P:Params):BT:=(((cut 15 (full P) 1 0).ins 3 (boot_o_3 P)).ins 12 (o1))
def t_1 (P:Params):BT:=(((cut 95 (full P) 1 0).ins 3 (o4 P)).ins 12 (o5))
def t_2 (P:Params):BT:=(((cut 332 (full P) 1 0).ins 3 (o56 P)).ins 12 (o57))
def t_3 (P:Params):BT:=(((cut 590 (full P) 1 0).ins 3 (UZ P)).ins 12 (UY))
def t_4 (P:Params):BT:=(cut 630 (full P) 1 0)
def ha (P:Params):Heap:=⟨⟨[boot_o_0 P,boot_o_1 P,boot_o_2 P,boot_o_3 P,boot_o_4 P,boot_o_5 P,boot_o_6 P,boot_o_7 P,boot_o_8 P,boot_o_9 P,boot_o_10 P,o0,o1,o2,o3]⟩,↥3⟩
def hf (P:Params):Heap:=absHeap (full P) 630 ↥3
def K (P:Params):Frag:=(nat_lit 2,boot_o_2 P)::(nat_lit 3,Pt P)::(nat_lit 15,o6)::(nat_lit 22,o0)::(nat_lit 23,o11 P)::(nat_lit 24,o12)::(nat_lit 25,o13)::(nat_lit 28,o16)::(nat_lit 35,o0)::(nat_lit 36,o20 P)::(nat_lit 37,o21)::(nat_lit 40,o16)::(nat_lit 47,o0)::(nat_lit 48,o27 P)::(nat_lit 49,o28)::(nat_lit 52,o16)::(nat_lit 59,o0)::(nat_lit 60,o34 P)::(nat_lit 61,o35)::(nat_lit 64,o16)::(nat_lit 71,o0)::(nat_lit 72,o41 P)::(nat_lit 73,o42)::(nat_lit 76,o16)::(nat_lit 83,o0)::(nat_lit 84,o48 P)::(nat_lit 85,o49)::(nat_lit 88,o0)::(nat_lit 90,o52)::(nat_lit 91,o0)::(nat_lit 93,o54)::(nat_lit 94,o55)::(nat_lit 95,o0)::(nat_lit 97,o58)::(nat_lit 98,o0)::(nat_lit 100,o60)::(nat_lit 101,o61)::(nat_lit 102,o0)::(nat_lit 104,o62)::(nat_lit 105,o0)::(nat_lit 107,o64)::(nat_lit 108,o65)::(nat_lit 109,o0)::(nat_lit 111,o66)::(nat_lit 112,o0)::(nat_lit 114,o68)::(nat_lit 115,o69)::(nat_lit 116,o0)::(nat_lit 118,o70)::(nat_lit 119,o0)::(nat_lit 121,o72)::(nat_lit 122,o73)::(nat_lit 123,o0)::(nat_lit 125,o74)::(nat_lit 126,o0)::(nat_lit 128,o76)::(nat_lit 129,o77)::(nat_lit 130,o0)::(nat_lit 132,o78)::(nat_lit 133,o0)::(nat_lit 135,o80)::(nat_lit 136,o81)::(nat_lit 137,o0)::(nat_lit 139,o82)::(nat_lit 140,o0)::(nat_lit 142,o84)::(nat_lit 143,o85)::(nat_lit 144,o0)::(nat_lit 146,o86)::(nat_lit 147,o0)::(nat_lit 149,o88)::(nat_lit 150,o89)::(nat_lit 151,o0)::(nat_lit 153,o90)::(nat_lit 154,o0)::(nat_lit 156,o92)::(nat_lit 157,o93)::(nat_lit 158,o0)::(nat_lit 160,o94)::(nat_lit 161,o0)::(nat_lit 163,o96)::(nat_lit 164,o97)::(nat_lit 165,o0)::(nat_lit 167,o98)::(nat_lit 168,o0)::(nat_lit 170,S7)::(nat_lit 171,S6)::(nat_lit 172,o0)::(nat_lit 174,S5)::(nat_lit 175,o0)::(nat_lit 177,SY)::(nat_lit 178,SX)::(nat_lit 179,o0)::(nat_lit 181,SV)::(nat_lit 182,o0)::(nat_lit 184,SU)::(nat_lit 185,SR)::(nat_lit 186,o0)::(nat_lit 188,SQ)::(nat_lit 189,o0)::(nat_lit 191,SM)::(nat_lit 192,SK)::(nat_lit 193,o0)::(nat_lit 195,SJ)::(nat_lit 196,o0)::(nat_lit 198,SH)::(nat_lit 199,SG)::(nat_lit 200,o0)::(nat_lit 202,SF)::(nat_lit 203,o0)::(nat_lit 205,SD)::(nat_lit 206,Sy)::(nat_lit 207,o0)::(nat_lit 209,Sw)::(nat_lit 210,o0)::(nat_lit 212,Sv)::(nat_lit 213,Su)::(nat_lit 214,o0)::(nat_lit 216,Ss)::(nat_lit 217,o0)::(nat_lit 219,Sr)::(nat_lit 220,Sq)::(nat_lit 221,o0)::(nat_lit 223,So)::(nat_lit 224,o0)::(nat_lit 226,Sn)::(nat_lit 227,Sm)::(nat_lit 228,o0)::(nat_lit 230,Sl)::(nat_lit 231,o0)::(nat_lit 233,Sk)::(nat_lit 234,Sj)::(nat_lit 235,o0)::(nat_lit 237,Si)::(nat_lit 238,o0)::(nat_lit 240,Sh)::(nat_lit 241,Sg)::(nat_lit 242,o0)::(nat_lit 244,Sf)::(nat_lit 245,o0)::(nat_lit 247,Se)::(nat_lit 248,Sd)::(nat_lit 249,o0)::(nat_lit 251,Sb)::(nat_lit 252,o0)::(nat_lit 254,Sa)::(nat_lit 255,R9)::(nat_lit 256,R8)::(nat_lit 264,o0)::(nat_lit 266,R7)::(nat_lit 267,o0)::(nat_lit 269,R6)::(nat_lit 270,R5)::(nat_lit 271,o0)::(nat_lit 273,R3)::(nat_lit 274,o0)::(nat_lit 276,R1)::(nat_lit 277,R0)::(nat_lit 278,o0)::(nat_lit 280,RZ)::(nat_lit 281,o0)::(nat_lit 283,RY)::(nat_lit 284,RX)::(nat_lit 285,o0)::(nat_lit 287,RW)::(nat_lit 288,o0)::(nat_lit 290,RV)::(nat_lit 291,RU)::(nat_lit 292,RS)::(nat_lit 293,RR P)::(nat_lit 294,RP)::(nat_lit 295,RO)::(nat_lit 296,RN)::(nat_lit 299,o0)::(nat_lit 301,RM)::(nat_lit 302,o0)::(nat_lit 304,RL)::(nat_lit 305,RK)::(nat_lit 306,o0)::(nat_lit 308,RJ)::(nat_lit 309,o0)::(nat_lit 311,RH)::(nat_lit 312,RG)::(nat_lit 313,o0)::(nat_lit 315,RE)::(nat_lit 316,o0)::(nat_lit 318,RD)::(nat_lit 319,RC)::(nat_lit 320,o0)::(nat_lit 322,RB)::(nat_lit 323,o0)::(nat_lit 325,Rz)::(nat_lit 326,Ry)::(nat_lit 327,o0)::(nat_lit 330,Rx)::(nat_lit 331,Rw)::(nat_lit 332,o0)::(nat_lit 334,Rv)::(nat_lit 335,o0)::(nat_lit 337,Ru)::(nat_lit 338,Rt)::(nat_lit 339,o0)::(nat_lit 342,Rr)::(nat_lit 343,Rq)::(nat_lit 344,o0)::(nat_lit 347,Rp)::(nat_lit 348,Ro)::(nat_lit 349,o0)::(nat_lit 351,Rn)::(nat_lit 352,o0)::(nat_lit 354,Rm)::(nat_lit 355,Rl)::(nat_lit 356,o0)::(nat_lit 358,Rk)::(nat_lit 359,o0)::(nat_lit 361,Rj)::(nat_lit 362,Ri)::(nat_lit 363,o0)::(nat_lit 365,Rh)::(nat_lit 366,o0)::(nat_lit 368,Rg)::(nat_lit 369,Rf)::(nat_lit 370,o0)::(nat_lit 373,Rc)::(nat_lit 374,Rb)::(nat_lit 375,o0)::(nat_lit 378,Ra)::(nat_lit 379,Q9)::(nat_lit 380,o0)::(nat_lit 382,Q8)::(nat_lit 383,o0)::(nat_lit 385,Q7)::(nat_lit 386,Q6)::(nat_lit 387,o0)::(nat_lit 389,Q5)::(nat_lit 390,o0)::(nat_lit 392,Q4)::(nat_lit 393,Q3)::(nat_lit 394,o0)::(nat_lit 396,Q2)::(nat_lit 397,o0)::(nat_lit 399,Q1)::(nat_lit 400,Q0)::(nat_lit 401,o0)::(nat_lit 403,QZ)::(nat_lit 404,o0)::(nat_lit 406,QY)::(nat_lit 407,QX)::(nat_lit 408,o0)::(nat_lit 410,QW)::(nat_lit 411,o0)::(nat_lit 413,QV)::(nat_lit 414,QU)::(nat_lit 415,o0)::(nat_lit 417,QT)::(nat_lit 418,o0)::(nat_lit 420,QS)::(nat_lit 421,QR)::(nat_lit 422,o0)::(nat_lit 424,QQ)::(nat_lit 425,o0)::(nat_lit 427,QP)::(nat_lit 428,QO)::(nat_lit 429,o0)::(nat_lit 431,QN)::(nat_lit 432,o0)::(nat_lit 434,QM)::(nat_lit 435,QL)::(nat_lit 436,o0)::(nat_lit 438,QK)::(nat_lit 439,o0)::(nat_lit 441,QJ)::(nat_lit 442,QI)::(nat_lit 443,o0)::(nat_lit 445,QH)::(nat_lit 446,o0)::(nat_lit 448,QG)::(nat_lit 449,QF)::(nat_lit 450,o0)::(nat_lit 452,QE)::(nat_lit 453,o0)::(nat_lit 455,QD)::(nat_lit 456,QC)::(nat_lit 457,o0)::(nat_lit 459,QB)::(nat_lit 460,o0)::(nat_lit 462,QA)::(nat_lit 463,Qz)::(nat_lit 464,o0)::(nat_lit 466,Qy)::(nat_lit 467,o0)::(nat_lit 469,Qx)::(nat_lit 470,Qw)::(nat_lit 471,o0)::(nat_lit 473,Qv)::(nat_lit 474,o0)::(nat_lit 476,Qu)::(nat_lit 477,Qt)::(nat_lit 478,o0)::(nat_lit 480,Qs)::(nat_lit 481,o0)::(nat_lit 483,Qr)::(nat_lit 484,Qq)::(nat_lit 485,o0)::(nat_lit 487,Qp)::(nat_lit 488,o0)::(nat_lit 490,Qo)::(nat_lit 491,Qn)::(nat_lit 492,o0)::(nat_lit 494,Qm)::(nat_lit 495,o0)::(nat_lit 497,Ql)::(nat_lit 498,Qk)::(nat_lit 499,o0)::(nat_lit 501,Qj)::(nat_lit 502,o0)::(nat_lit 504,Qi)::(nat_lit 505,Qh)::(nat_lit 506,o0)::(nat_lit 508,Qg)::(nat_lit 509,o0)::(nat_lit 511,Qe)::(nat_lit 512,Qd)::(nat_lit 513,o0)::(nat_lit 515,Qc)::(nat_lit 516,o0)::(nat_lit 518,Qb)::(nat_lit 519,Qa)::(nat_lit 520,o0)::(nat_lit 522,P9)::(nat_lit 523,o0)::(nat_lit 525,P8)::(nat_lit 526,P7)::(nat_lit 527,o0)::(nat_lit 529,P6)::(nat_lit 530,o0)::(nat_lit 532,P5)::(nat_lit 533,P2)::(nat_lit 534,o0)::(nat_lit 536,P1)::(nat_lit 537,o0)::(nat_lit 539,P0)::(nat_lit 540,PZ)::(nat_lit 541,o0)::(nat_lit 543,PY)::(nat_lit 544,o0)::(nat_lit 546,PX)::(nat_lit 547,PV)::(nat_lit 548,o0)::(nat_lit 550,PU)::(nat_lit 551,o0)::(nat_lit 553,PR)::(nat_lit 554,PQ)::(nat_lit 555,o0)::(nat_lit 557,PN)::(nat_lit 558,o0)::(nat_lit 560,PM)::(nat_lit 561,PL)::(nat_lit 562,o0)::(nat_lit 564,PK)::(nat_lit 565,o0)::(nat_lit 567,PJ)::(nat_lit 568,PH)::(nat_lit 569,o0)::(nat_lit 571,PF)::(nat_lit 572,o0)::(nat_lit 574,PD)::(nat_lit 575,PC)::(nat_lit 576,o0)::(nat_lit 578,PB)::(nat_lit 579,o0)::(nat_lit 581,Pz)::(nat_lit 582,Py)::(nat_lit 583,o0)::(nat_lit 585,Px)::(nat_lit 586,o0)::(nat_lit 588,Pw)::(nat_lit 589,Pu)::(nat_lit 590,o0)::(nat_lit 593,Pr)::(nat_lit 594,Pq)::(nat_lit 595,o0)::(nat_lit 597,Pp)::(nat_lit 598,o0)::(nat_lit 600,Po)::(nat_lit 601,Pn)::(nat_lit 602,o0)::(nat_lit 604,Pm)::(nat_lit 605,o0)::(nat_lit 607,Pk)::(nat_lit 608,Pj)::(nat_lit 609,o0)::(nat_lit 611,Ph)::(nat_lit 612,o0)::(nat_lit 614,Pg)::(nat_lit 615,Pf)::(nat_lit 616,o0)::(nat_lit 618,Pe)::(nat_lit 619,o0)::(nat_lit 621,Pd)::(nat_lit 622,Pc)::(nat_lit 623,o0)::(nat_lit 625,Pb)::(nat_lit 626,o0)::(nat_lit 628,Pa)::(nat_lit 629,O9)::[]
def as:List Addr:=[2,3,15,22,23,24,25,28,35,36,37,40,47,48,49,52,59,60,61,64,71,72,73,76,83,84,85,88,90,91,93,94,95,97,98,100,101,102,104,105,107,108,109,111,112,114,115,116,118,119,121,122,123,125,126,128,129,130,132,133,135,136,137,139,140,142,143,144,146,147,149,150,151,153,154,156,157,158,160,161,163,164,165,167,168,170,171,172,174,175,177,178,179,181,182,184,185,186,188,189,191,192,193,195,196,198,199,200,202,203,205,206,207,209,210,212,213,214,216,217,219,220,221,223,224,226,227,228,230,231,233,234,235,237,238,240,241,242,244,245,247,248,249,251,252,254,255,256,264,266,267,269,270,271,273,274,276,277,278,280,281,283,284,285,287,288,290,291,292,293,294,295,296,299,301,302,304,305,306,308,309,311,312,313,315,316,318,319,320,322,323,325,326,327,330,331,332,334,335,337,338,339,342,343,344,347,348,349,351,352,354,355,356,358,359,361,362,363,365,366,368,369,370,373,374,375,378,379,380,382,383,385,386,387,389,390,392,393,394,396,397,399,400,401,403,404,406,407,408,410,411,413,414,415,417,418,420,421,422,424,425,427,428,429,431,432,434,435,436,438,439,441,442,443,445,446,448,449,450,452,453,455,456,457,459,460,462,463,464,466,467,469,470,471,473,474,476,477,478,480,481,483,484,485,487,488,490,491,492,494,495,497,498,499,501,502,504,505,506,508,509,511,512,513,515,516,518,519,520,522,523,525,526,527,529,530,532,533,534,536,537,539,540,541,543,544,546,547,548,550,551,553,554,555,557,558,560,561,562,564,565,567,568,569,571,572,574,575,576,578,579,581,582,583,585,586,588,589,590,593,594,595,597,598,600,601,602,604,605,607,608,609,611,612,614,615,616,618,619,621,622,623,625,626,628,629]
def env:Env:={ scope:=PySem.Challenge.pw_roundmill_k34_whole_deeds.main.scope,locals:=mainNs,globals:=mainNs,cells:=[],code:=(.ref 13),frame:=some 14 }
def Hj:List Stmt:=[T.top 0,T.top 1,T.top 2,T.top 3,T.top 4,T.top 5,T.top 6,T.top 7,T.top 8]
def Hi:List Stmt:=[T.top 9,T.top 10,T.top 11,T.top 12,T.top 13,T.top 14,T.top 15,T.top 16,T.top 17,T.top 18,T.top 19,T.top 20,T.top 21,T.top 22,T.top 23,T.top 24,T.top 25,T.top 26,T.top 27,T.top 28,T.top 29,T.top 30,T.top 31,T.top 32,T.top 33,T.top 34,T.top 35,T.top 36,T.top 37,T.top 38,T.top 39,T.top 40,T.top 41,T.top 42,T.top 43,T.top 44,T.top 45,T.top 46,T.top 47,T.top 48]
def Hh:List Stmt:=[T.top 49,T.top 50,T.top 51,T.top 52,T.top 53,T.top 54,T.top 55,T.top 56,T.top 57,T.top 58,T.top 59,T.top 60,T.top 61,T.top 62,T.top 63,T.top 64,T.top 65,T.top 66,T.top 67,T.top 68,T.top 69,T.top 70,T.top 71,T.top 72,T.top 73,T.top 74,T.top 75,T.top 76,T.top 77,T.top 78,T.top 79,T.top 80,T.top 81,T.top 82,T.top 83,T.top 84,T.top 85,T.top 86,T.top 87,T.top 88,T.top 89,T.top 90]
def Hg:List Stmt:=[T.top 91,T.top 92,T.top 93,T.top 94,T.top 95,T.top 96]
def q:Program:=PySem.W.view PySem.Challenge.pw_roundmill_k34_whole_deeds [1,2,3,4,5,6,8,9,10,11,12,13,14,16,17,18,19,20,21,22,23,24,25,26,27,28,29,31,32,33,34,35,36,37,38,40,41,42,44,45,46,48,49,50,52,53,54,55,56,57,59,60,61,62,63,64,65,67,68,69,71,72,73,74,75,76,77,78,79,80,81,82,83,84,85,86,87,88,89,90,91,92,93,94,95,96]
end
end H
namespace H
open PySem PySem.W PySem.Calls PySem.Spec PyProof.Rows L2 EV ES
noncomputable section
def cB:Code:=Code.body (behindTheImports PySem.Challenge.pw_roundmill_k34_whole_deeds) env
def row:RowW:=OpenRow.toRowW (OpenLaw.row PySem.Challenge.rw_roundmill_k34_whole_deeds)
def Xt (s:Shared):Bool:=xlAt q [] s&&recOk (RowW.records row) s
end
theorem Th:(fun (_:Program) (_:Program) (_:Env) (_:Code) (_:Shared->Bool)=>true) PySem.Challenge.pw_roundmill_k34_whole_deeds q env cB Xt=true:=by k_qdec
set_option maxHeartbeats 0 in
theorem NK:∀ w:World,(fun os:OsState=>topGo treeTable PySem.Challenge.pw_roundmill_k34_whole_deeds w 11 (some (.ref 6)) 12 (Shared.mk (boot_heap w.params) (Array.mk []) boot_drawn boot_toks os) (topStub PySem.Challenge.pw_roundmill_k34_whole_deeds))=fun os:OsState=>some ((Shared.mk (ha w.params) ⟨[]⟩ (Drawn.mk 0 0 0 0) 187 os),Thread.mk (denote treeTable cB) cB (Pos.mk 0 0 0 0) [topFrame (Pos.mk 0 0 0 0)]):=by
 rewrite [PySem.W.Fast.te15667345088766844465,PySem.W.Fast.te14364793385576792824,PySem.W.Fast.te3445831011950531650,PySem.W.Fast.te11892475500146522536,PySem.W.Fast.te2060423359788512156]
 intro w
 kernel_rfl
set_option maxHeartbeats 0 in
theorem Hb:∀ w:World,(fun os:OsState=>segRun treeTable PySem.Challenge.pw_roundmill_k34_whole_deeds w 11 (some (.ref 6)) 1 1 (Shared.mk (ha w.params) ⟨[]⟩ (Drawn.mk 0 0 0 0) 187 os) (blockOf (behindTheImports PySem.Challenge.pw_roundmill_k34_whole_deeds) env cB (Pos.mk 0 0 0 0) [topFrame (Pos.mk 0 0 0 0)]))=fun os:OsState=>some (Flow.next,(SharedT.abs (SharedT.mk (t_0 w.params) 15 ↥3 ⟨[]⟩ (Drawn.mk 0 0 0 0) 187 os)),cB,(Pos.mk 0 0 0 0)):=by
 rewrite [PySem.W.Fast.te14374325043358763698,PySem.W.Fast.te14364793385576792824,PySem.W.Fast.te3445831011950531650,PySem.W.Fast.te2060423359788512156]
 intro w
 kernel_rfl
set_option maxHeartbeats 0 in
theorem Tz:∀ w:World,(fun os:OsState=>segRunT treeTable PySem.Challenge.pw_roundmill_k34_whole_deeds w 11 (some (.ref 6)) 1 1299 (SharedT.mk (t_0 w.params) 15 ↥3 ⟨[]⟩ (Drawn.mk 0 0 0 0) 187 os) (piecesOf Hj env cB (Pos.mk 0 0 0 0) [topFrame (Pos.mk 0 0 0 0)]))=fun os:OsState=>some (Flow.next,(SharedT.mk (t_1 w.params) 95 ↥3 ⟨[]⟩ (Drawn.mk 0 0 0 0) 296 os),cB,(Pos.mk 15 0 16 32)):=by
 rewrite [PySem.W.Fast.te10110043849684766642,PySem.W.Fast.te14364793385576792824,PySem.W.Fast.te3445831011950531650,PySem.W.Fast.te2060423359788512156]
 intro w
 kernel_rfl
set_option maxHeartbeats 0 in
theorem Tx:∀ w:World,(fun os:OsState=>segRunT treeTable PySem.Challenge.pw_roundmill_k34_whole_deeds w 11 (some (.ref 6)) 1 1297 (SharedT.mk (t_1 w.params) 95 ↥3 ⟨[]⟩ (Drawn.mk 0 0 0 0) 296 os) (piecesOf Hi env cB (Pos.mk 15 0 16 32) [topFrame (Pos.mk 0 0 0 0)]))=fun os:OsState=>some (Flow.next,(SharedT.mk (t_2 w.params) 332 ↥3 ⟨[]⟩ (Drawn.mk 0 0 0 0) 634 os),cB,(Pos.mk 178 0 184 53)):=by
 rewrite [PySem.W.Fast.te10110043849684766642,PySem.W.Fast.te14364793385576792824,PySem.W.Fast.te3445831011950531650,PySem.W.Fast.te2060423359788512156]
 intro w
 kernel_rfl
set_option maxHeartbeats 0 in
theorem Tw:∀ w:World,(fun os:OsState=>segRunT treeTable PySem.Challenge.pw_roundmill_k34_whole_deeds w 11 (some (.ref 6)) 1 1276 (SharedT.mk (t_2 w.params) 332 ↥3 ⟨[]⟩ (Drawn.mk 0 0 0 0) 634 os) (piecesOf Hh env cB (Pos.mk 178 0 184 53) [topFrame (Pos.mk 0 0 0 0)]))=fun os:OsState=>some (Flow.next,(SharedT.mk (t_3 w.params) 590 ↥3 ⟨[]⟩ (Drawn.mk 0 0 0 0) 1053 os),cB,(Pos.mk 502 0 513 36)):=by
 rewrite [PySem.W.Fast.te10110043849684766642,PySem.W.Fast.te14364793385576792824,PySem.W.Fast.te3445831011950531650,PySem.W.Fast.te2060423359788512156]
 intro w
 kernel_rfl
set_option maxHeartbeats 0 in
theorem Tv:∀ w:World,(fun os:OsState=>segRunT treeTable PySem.Challenge.pw_roundmill_k34_whole_deeds w 11 (some (.ref 6)) 1 212 (SharedT.mk (t_3 w.params) 590 ↥3 ⟨[]⟩ (Drawn.mk 0 0 0 0) 1053 os) (piecesOf Hg env cB (Pos.mk 502 0 513 36) [topFrame (Pos.mk 0 0 0 0)]))=fun os:OsState=>some (Flow.next,(SharedT.mk (t_4 w.params) 630 ↥3 ⟨[]⟩ (Drawn.mk 0 0 0 0) 1134 os),cB,(Pos.mk 591 0 610 15)):=by
 rewrite [PySem.W.Fast.te10110043849684766642,PySem.W.Fast.te14364793385576792824,PySem.W.Fast.te3445831011950531650,PySem.W.Fast.te2060423359788512156]
 intro w
 kernel_rfl
set_option maxHeartbeats 0 in
theorem NM:∀ w:World,(fun os:OsState=>topRun treeTable PySem.Challenge.pw_roundmill_k34_whole_deeds w 11 (some (.ref 6)) 2 (SharedT.abs (SharedT.mk (t_4 w.params) 630 ↥3 ⟨[]⟩ (Drawn.mk 0 0 0 0) 1134 os)) (Thread.mk (doneF Flow.next) cB (Pos.mk 591 0 610 15) [topFrame (Pos.mk 0 0 0 0)]))=fun os:OsState=>some ↥10:=by
 rewrite [PySem.W.Fast.te14082659384304107361,PySem.W.Fast.te14364793385576792824,PySem.W.Fast.te3445831011950531650,PySem.W.Fast.te2060423359788512156]
 intro w
 kernel_rfl
set_option maxHeartbeats 0 in
theorem KR:∀ w:World,((boot_heap w.params).isNs mainGlobals&&(Array.mk []:Array GenState).size == 0,(boot_heap w.params).objs.size,(boot_heap w.params).nsMap mainGlobals "__annotations__")=(true,11,(some (.ref 6))):=by
 rewrite [PySem.W.Fast.te8920871248978507458]
 intro w
 kernel_rfl
set_option maxHeartbeats 0 in
theorem l_1:∀ w:World,(fun os:OsState=>staticsOk ↥11 (boot_heap w.params) (hf w.params)&&namesBound PySem.Challenge.pw_roundmill_k34_whole_deeds (hf w.params)&&gensDone ↥10&&laidKept (boot_heap w.params) (hf w.params))=fun os:OsState=>true:=by
 rewrite [PySem.W.Fast.te5923862056798008813,PySem.W.Fast.te3445831011950531650]
 intro w
 kernel_rfl
set_option maxHeartbeats 0 in
theorem VB:∀ w:World,(fun os:OsState=>(openSeen q [] ↥11 Xt true ↥10).1)=fun os:OsState=>(openGood q []).1:=by
 unfold openSeen openGood
 dsimp only
 rewrite [PySem.W.Fast.te5160383126252970620,PySem.W.R.mapR_eq,PySem.W.Fast.te3399658132070893891,PySem.W.Fast.te5991557255702980513]
 intro w
 kernel_rfl
set_option maxHeartbeats 0 in
theorem VA:∀ w:World,(fun os:OsState=>(openSeen q [] ↥11 Xt true ↥10).2.1)=fun os:OsState=>(openGood q []).2.1:=by
 unfold openSeen openGood
 dsimp only
 intro w
 kernel_rfl
set_option maxHeartbeats 0 in
theorem Vz:∀ w:World,(fun os:OsState=>(openSeen q [] ↥11 Xt true ↥10).2.2.1)=fun os:OsState=>(openGood q []).2.2.1:=by
 unfold openSeen openGood
 dsimp only
 rewrite [PySem.W.Fast.te10880121769531294198,PySem.W.Fast.te821141287760084731,PySem.W.R.mapR_eq,PySem.W.Fast.te3399658132070893891,PySem.W.Fast.te7409074990110511671,PySem.W.Fast.te13664370479719496447,PySem.W.Fast.te14722251495701143533,PySem.W.Fast.te5923862056798008813,PySem.W.Fast.te3445831011950531650,PySem.W.Fast.te10994771534591457954,PySem.W.Fast.te18408535023408442824]
 intro w
 kernel_rfl
set_option maxHeartbeats 0 in
theorem Vy:∀ w:World,(fun os:OsState=>(openSeen q [] ↥11 Xt true ↥10).2.2.2.1)=fun os:OsState=>(openGood q []).2.2.2.1:=by
 unfold openSeen openGood
 dsimp only
 rewrite [PySem.W.Fast.te479339242167458305]
 intro w
 kernel_rfl
set_option maxHeartbeats 0 in
theorem Vx:∀ w:World,(fun os:OsState=>(openSeen q [] ↥11 Xt true ↥10).2.2.2.2.1)=fun os:OsState=>(openGood q []).2.2.2.2.1:=by
 unfold openSeen openGood
 dsimp only
 rewrite [PySem.W.Fast.te16090120013241838585,PySem.W.Fast.te3247288618530077131]
 intro w
 kernel_rfl
set_option maxHeartbeats 0 in
theorem Vw:∀ w:World,(fun os:OsState=>(openSeen q [] ↥11 Xt true ↥10).2.2.2.2.2.1)=fun os:OsState=>(openGood q []).2.2.2.2.2.1:=by
 unfold openSeen openGood
 dsimp only
 rewrite [PySem.W.Fast.te2386780881361962483,PySem.W.Fast.te821141287760084731]
 intro w
 kernel_rfl
set_option maxHeartbeats 0 in
theorem Vv:∀ w:World,(fun os:OsState=>(openSeen q [] ↥11 Xt true ↥10).2.2.2.2.2.2.1)=fun os:OsState=>(openGood q []).2.2.2.2.2.2.1:=by
 unfold openSeen openGood
 dsimp only
 rewrite [PySem.W.Fast.te11698064438423848299]
 intro w
 kernel_rfl
set_option maxHeartbeats 0 in
theorem Vu:∀ w:World,(fun os:OsState=>(openSeen q [] ↥11 Xt true ↥10).2.2.2.2.2.2.2.1)=fun os:OsState=>(openGood q []).2.2.2.2.2.2.2.1:=by
 unfold openSeen openGood
 dsimp only
 rewrite [PySem.W.Fast.te7317090234206586261]
 intro w
 kernel_rfl
set_option maxHeartbeats 0 in
theorem Vt:∀ w:World,(fun os:OsState=>(openSeen q [] ↥11 Xt true ↥10).2.2.2.2.2.2.2.2)=fun os:OsState=>(openGood q []).2.2.2.2.2.2.2.2:=by
 unfold openSeen openGood
 dsimp only
 rewrite [PySem.W.Fast.te7369524293546568484]
 intro w
 kernel_rfl
set_option maxHeartbeats 0 in
theorem l_k:∀ w:World,(fun os:OsState=>as.map (Shared.heap ↥10).get?)=fun os:OsState=>(K w.params).map fun x=>some x.2:=by
 rewrite [PySem.W.R.mapR_eq]
 intro w
 kernel_rfl
theorem h_b:behindTheImports PySem.Challenge.pw_roundmill_k34_whole_deeds=Hj++(Hi++(Hh++(Hg++[]))):=by kernel_rfl
theorem NZ (w:World) (os:OsState):topRun treeTable PySem.Challenge.pw_roundmill_k34_whole_deeds w 11 (some (.ref 6)) (1299+(1297+(1276+(212+(2))))) (SharedT.abs (SharedT.mk (t_0 w.params) 15 ↥3 ⟨[]⟩ (Drawn.mk 0 0 0 0) 187 os)) (restOf (Hj++(Hi++(Hh++(Hg++[])))) env cB (Pos.mk 0 0 0 0) [topFrame (Pos.mk 0 0 0 0)])=some ↥10 :=
 piece_app (segRun_of (congrFun (Tz w) os)) (piece_app (segRun_of (congrFun (Tx w) os)) (piece_app (segRun_of (congrFun (Tw w) os)) (piece_app (segRun_of (congrFun (Tv w) os)) (piece_nil (congrFun (NM w) os)))))
theorem run (w:World) (os:OsState):topRun treeTable PySem.Challenge.pw_roundmill_k34_whole_deeds w 11 (some (.ref 6)) (12+(1+(1299+(1297+(1276+(212+(2))))))) (Shared.mk (boot_heap w.params) (Array.mk []) boot_drawn boot_toks os) (topStub PySem.Challenge.pw_roundmill_k34_whole_deeds)=some ↥10 :=
 go_top (congrFun (NK w) os) (piece_block (congrFun (Hb w) os) ((congrArg (fun b=>topRun treeTable PySem.Challenge.pw_roundmill_k34_whole_deeds w 11 (some (.ref 6)) (1299+(1297+(1276+(212+(2))))) (SharedT.abs (SharedT.mk (t_0 w.params) 15 ↥3 ⟨[]⟩ (Drawn.mk 0 0 0 0) 187 os)) (restOf b env cB (Pos.mk 0 0 0 0) [topFrame (Pos.mk 0 0 0 0)])) h_b).trans (NZ w os)))
theorem opened:∀ w:World,(fencedOpening treeTable PySem.Challenge.pw_roundmill_k34_whole_deeds w 8286).map (fun s=>(s.heap,s.gens,s.drawn,s.toks))=some (boot_heap w.params,Array.mk [],boot_drawn,boot_toks):=boot_open (by kernel_rfl) ↥1 (fun s=>by kernel_rfl)
theorem he:∀ P,as=(K P).map (·.1):=fun _=>by kernel_rfl
theorem left:LeftO PySem.Challenge.pw_roundmill_k34_whole_deeds q [] Xt (kHook K as he).obs (kHook K as he).val 8286 :=
 LeftO.of_pieces opened KR run ↥1 fun w=>funext fun os=>Prod.ext (congrFun (l_1 w) os) (Prod.ext (Prod.ext (congrFun (VB w) os) (Prod.ext (congrFun (VA w) os) (Prod.ext (congrFun (Vz w) os) (Prod.ext (congrFun (Vy w) os) (Prod.ext (congrFun (Vx w) os) (Prod.ext (congrFun (Vw w) os) (Prod.ext (congrFun (Vv w) os) (Prod.ext (congrFun (Vu w) os) (congrFun (Vt w) os))))))))) (congrFun (l_k w) os))
end H
namespace EV
open PySem (Str)
theorem ah (k:Int):0<pw k:=Int.pow_pos ↥1
theorem aY (ha:0<=a) (hb:0<=b):pw (a+b)=pw a*pw b:=by
 unfold pw
 rw [Int.toNat_add ha hb,Int.pow_add]
theorem gz (ha:0<=a):pw (a+1)=2*pw a:=by
 rw [aY ha ↥1,Int.mul_comm]
 rfl
theorem ip (h:a<=b):pw a<=pw b:=by
 unfold pw
 have e1:((2^a.toNat:Nat):Int)=(2:Int)^a.toNat:=by simp
 have e2:((2^b.toNat:Nat):Int)=(2:Int)^b.toNat:=by simp
 rw [<- e1,<-e2]
 exact Int.ofNat_le.mpr (Nat.pow_le_pow_right ↥1 ⋯)
theorem mD:nb i<=k↔i.natAbs<2^k:=by
 unfold nb
 by_cases h:i=0
 ·subst h
  simp
  exact Nat.two_pow_pos k
 ·rw [if_neg h]
  have h0:i.natAbs≠0:=⋯
  rw [<- Nat.log2_lt h0]
  omega
theorem pZ (i:Int):i.natAbs<2^nb i:=mD.mp ↥38
theorem ef (h:i.natAbs<=j.natAbs):nb i<=nb j:=mD.mpr (Nat.lt_of_le_of_lt h (pZ j))
theorem xr (hi:nb i<=a) (hj:nb j<=b):nb (i+j)<=max a b+1:=by
 rw [mD] at hi hj ⊢
 have h1:2^a<=2^max a b:=Nat.pow_le_pow_right ↥1 (Nat.le_max_left a b)
 have h2:2^b<=2^max a b:=Nat.pow_le_pow_right ↥1 (Nat.le_max_right a b)
 rw [Nat.pow_succ]
 omega
theorem xq (i:Int):nb (-i)=nb i:=Nat.le_antisymm (ef ⋯) (ef ⋯)
theorem Me (hi:nb i<=a) (hj:nb j<=b):nb (i - j)<=max a b+1:=by
 rw [Int.sub_eq_add_neg]
 exact xr hi (by rw [xq];exact hj)
theorem cD (hi:nb i<=a) (hj:nb j<=b):nb (i*j)<=a+b:=by
 rw [mD] at hi hj ⊢
 rw [Int.natAbs_mul,Nat.pow_add]
 rcases Nat.eq_zero_or_pos i.natAbs with h0 | h0
 ·rw [h0,Nat.zero_mul];exact Nat.mul_pos (Nat.two_pow_pos a) (Nat.two_pow_pos b)
 ·exact Nat.lt_of_lt_of_le (Nat.mul_lt_mul_of_pos_left hj h0) (Nat.mul_le_mul_right _ (Nat.le_of_lt hi))
theorem Bd (h:0<j) (hj:nb j<=b):nb (i%j)<=b:=by
 refine Nat.le_trans (ef ?_) hj
 have h1:=Int.emod_nonneg i (by omega:j≠0)
 have h2:=Int.emod_lt_of_pos i h
 omega
theorem yN {i j:Int} (h:0<j):(i / j).natAbs<=i.natAbs:=by
 have h3:i=j*(i / j)+i%j:=(Int.mul_ediv_add_emod i j).symm
 have h1:=Int.emod_nonneg i (by omega:j≠0)
 have h2:=Int.emod_lt_of_pos i h
 by_cases hi:0<=i
 ·have:=Int.ediv_nonneg hi (by omega:(0:Int)<=j)
  have:=Int.ediv_le_self j hi
  omega
 ·have h4:i / j<0:=Int.ediv_neg_of_neg_of_pos ⋯ h
  have h5:(j - 1)*(i / j)<=(j - 1)*(-1):=Int.mul_le_mul_of_nonneg_left ⋯ ⋯
  rw [Int.sub_mul,Int.one_mul] at h5
  generalize j*(i / j)=z at *
  omega
theorem gO {i j:Int} {a:Nat} (h:0<j) (hi:nb i<=a):nb (i / j)<=a:=Nat.le_trans (ef (yN h)) hi
theorem cX {k:Int} {c:Nat} (hk:k<=c):nb (pw k)<=c+1:=by
 rw [mD]
 unfold pw
 rw [Int.natAbs_pow]
 exact Nat.pow_lt_pow_right (a:=2) ↥1 ⋯
theorem lN (h0:0<=i):i<pw (nb i):=by
 have:=pZ i
 unfold pw
 have e:((2^((nb i:Int)).toNat:Nat):Int)=(2:Int)^((nb i:Int)).toNat:=by simp
 rw [<- e,show ((nb i:Int)).toNat=nb i by omega]
 omega
theorem MulOk.of (hi:nb i<=a) (hj:nb j<=b) (h:a+b<=134217728):MulOk i j:=by
 unfold MulOk
 omega
theorem fP.small (h:0<j) (hj:nb j<=9000):fP i j:=⟨h,.inl hj⟩
theorem IG:nb i<=nb i:=Nat.le_refl _
theorem Ef (h:nb i<=a) (h2:a<=b):nb i<=b:=Nat.le_trans h h2
theorem ak (h:MulOk i j):cW (.int i) (.int j)=.ok (.int (i*j)):=by unfold cW;simp only;rw [if_pos h]
theorem cb (h:fP i j):oDiv (.int i) (.int j)=.ok (.int (i / j)):=by unfold oDiv;simp only;rw [if_pos h]
theorem Ir {i j:Int} (h:0<j):oMod (.int i) (.int j)=.ok (.int (i%j)):=by unfold oMod;simp only;rw [if_pos h]
theorem DY {i j:Int} (h:0<j) (h2:j<18446744073709551616):oDiv (.int i) (.int j)=.ok (.int (i / j)):=cb (fP.small h (by
 have:nb j<=64:=mD.mpr ⋯
 omega))
theorem av (h:0<=j) (h2:(nb i:Int)+j<=134217728):bH (.int i) (.int j)=.ok (.int (i*pw j)):=by unfold bH;simp only;rw [if_pos ⟨h,h2⟩]
theorem gA {i j:Int} (h:0<=j):tY (.int i) (.int j)=.ok (.int (i / pw j)):=by unfold tY;simp only;rw [if_pos h]
theorem Il (h:0<=j) (h2:(nb i:Int)*j<=134217728):AN (.int i) (.int j)=.ok (.int (i^j.toNat)):=by unfold AN;simp only;rw [if_pos ⟨h,h2⟩]
section
variable {α β:Type} {d d':D} {δ:Dt} {C:String} {f:α->R β} {c:Option D}
theorem JE (a:α):(R.ok a).bind f=f a:=rfl
theorem JF:(R.ex C:R α).bind f=.ex C:=rfl
theorem EK:(R.bad:R α).bind f=.bad:=rfl
theorem EJ {p:Prop} [Decidable p] (x y:R α):(if p then x else y).bind f=if p then x.bind f else y.bind f:=by split<;>rfl
theorem GY {s:S}:(O.nx δ).then s=s δ:=rfl
theorem GX {s:S}:(O.rt d).then s=.rt d:=rfl
theorem G6 {s:S}:(O.ex C δ).then s=.ex C δ:=rfl
theorem GZ {s:S}:(O.mk C δ).then s=.mk C δ:=rfl
theorem G5 {s:S}:(O.hx C δ).then s=.hx C δ:=rfl
theorem G8 {s:S}:(O.bk δ).then s=.bk δ:=rfl
theorem G7 {s:S}:(O.ct δ).then s=.ct δ:=rfl
theorem Dd {s:S}:(O.bad).then s=.bad:=rfl
theorem Dc {p:Prop} [Decidable p] (x y:O) {s:S}:(if p then x else y).then s=if p then x.then s else y.then s:=by split<;>rfl
theorem Lg:(O.rt d).res=.ok d:=rfl
theorem Lh:(O.nx δ).res=.ok .non:=rfl
theorem Lk:(O.ex C δ).res=.ex C:=rfl
theorem Li:(O.mk C δ).res=.ex C:=rfl
theorem Lj:(O.hx C δ).res=.ex C:=rfl
theorem HC:O.bad.res=.bad:=rfl
theorem HB {p:Prop} [Decidable p] (x y:O):(if p then x else y).res=if p then x.res else y.res:=by split<;>rfl
theorem MV {i:Nat}:asg i δ (.ok d)=.nx (δ.set i (some d)):=rfl
theorem MW {i:Nat}:asg i δ (.ex C)=.ex C (noOwn δ):=rfl
theorem JT {i:Nat} {p:Prop} [Decidable p] (x y:R D):asg i δ (if p then x else y)=if p then asg i δ x else asg i δ y:=by split<;>rfl
theorem Kf:xpr δ (.ok d)=.nx δ:=rfl
theorem Kg:xpr δ (.ex C)=.ex C (noOwn δ):=rfl
theorem Gu {p:Prop} [Decidable p] (x y:R D):xpr δ (if p then x else y)=if p then xpr δ x else xpr δ y:=by split<;>rfl
theorem Ld:rtn δ (.ok d)=.rt d:=rfl
theorem Le:rtn δ (.ex C)=.ex C (noOwn δ):=rfl
theorem Hw {p:Prop} [Decidable p] (x y:R D):rtn δ (if p then x else y)=if p then rtn δ x else rtn δ y:=by split<;>rfl
theorem Mx {b:Bool} {x y:O}:ifO δ (.ok (.bl b)) x y=if b=true then x else y:=by cases b<;>rfl
theorem Mw {x y:O}:ifO δ (.ex C) x y=.ex C (noOwn δ):=rfl
theorem IY {p:Prop} [Decidable p] (u v:R D) {x y:O}:ifO δ (if p then u else v) x y=if p then ifO δ u x y else ifO δ v x y:=by split<;>rfl
theorem C9 {b:Bool} {x y:R β}:truth (.bl b) x y=if b=true then x else y:=by cases b<;>rfl
theorem Mp {p:Prop} [Decidable p] {a b:Bool}:(if p then R.ok (D.bl a) else R.ok (D.bl b))=R.ok (D.bl (if p then a else b)):=by split<;>rfl
theorem ite_int {p:Prop} [Decidable p] {a b:Int}:(if p then R.ok (D.int a) else R.ok (D.int b))=R.ok (D.int (if p then a else b)):=by split<;>rfl
theorem Ms {p:Prop} [Decidable p] {b:Bool}:((if p then b else false)=true)=(p/\b=true):=by by_cases h:p<;>simp [h]
theorem Mr {p:Prop} [Decidable p] {b:Bool}:((if p then true else b)=true)=(p\/b=true):=by by_cases h:p<;>simp [h]
theorem Mq {p:Prop} [Decidable p]:((if p then false else true)=true)=¬ p:=by by_cases h:p<;>simp [h]
theorem Km:var 0 (none::δ)=.bad:=rfl
theorem GF {i:Int}:var 0 (some (.int i)::δ)=.ok (.int i):=rfl
theorem Kl {b:Bool}:var 0 (some (.bl b)::δ)=.ok (.bl b):=rfl
theorem Gz {x:PySem.Str}:var 0 (some (.str x)::δ)=.ok (.str x):=rfl
theorem GB:var 0 (some .non::δ)=.ok .non:=rfl
theorem Gy {ds:List D}:var 0 (some (.tup ds)::δ)=.ok (.tup ds):=rfl
theorem GD {ds:List D}:var 0 (some (.lst ds)::δ)=.ok (.lst ds):=rfl
theorem GA {ds:List D}:var 0 (some (.own ds)::δ)=.bad:=rfl
theorem GI:var 0 (some (.exc C)::δ)=.ok (.exc C):=rfl
theorem GJ:var 0 (some (.cls C)::δ)=.ok (.cls C):=rfl
theorem GH {fs:List (String×D)}:var 0 (some (.ins C fs)::δ)=.ok (.ins C fs):=rfl
theorem CZ {n:Nat}:var (n+1) (c::δ)=var n δ:=rfl
theorem Jk:evs [] δ=.ok []:=rfl
theorem EB {e:E} {es:List E}:evs (e::es) δ=(e δ).bind fun d=>(evs es δ).bind fun ds=>.ok (d::ds):=rfl
theorem Ea {i j:Int}:bx (.int i) (.int j)=.ok (.int (i+j)):=rfl
theorem DK {i j:Int}:bT (.int i) (.int j)=.ok (.int (i - j)):=rfl
theorem DL {i:Int}:Im (.int i)=.ok (.int (-i)):=rfl
theorem Iu {i j:Int}:oLt (.int i) (.int j)=.ok (.bl (decide (i<j))):=rfl
theorem Iv {i j:Int}:oLe (.int i) (.int j)=.ok (.bl (decide (i<=j))):=rfl
theorem Iw {i j:Int}:oGt (.int i) (.int j)=.ok (.bl (decide (j<i))):=rfl
theorem Iz {i j:Int}:oGe (.int i) (.int j)=.ok (.bl (decide (j<=i))):=rfl
theorem IB {i j:Int}:oEq (.int i) (.int j)=.ok (.bl (decide (i=j))):=by simp [oEq,D.cmp,D.sc,D.beq,Bool.beq_eq_decide_eq]
theorem Iq {i j:Int}:oNe (.int i) (.int j)=.ok (.bl (decide (i≠j))):=by simp [oNe,D.cmp,D.sc,D.beq,Bool.beq_eq_decide_eq]
theorem IA {i j:PySem.Str}:oEq (.str i) (.str j)=.ok (.bl (decide (i=j))):=by simp [oEq,D.cmp,D.sc,D.beq,Bool.beq_eq_decide_eq]
theorem Io {i j:PySem.Str}:oNe (.str i) (.str j)=.ok (.bl (decide (i≠j))):=by simp [oNe,D.cmp,D.sc,D.beq,Bool.beq_eq_decide_eq]
theorem L6 {i j:Bool}:oEq (.bl i) (.bl j)=.ok (.bl (decide (i=j))):=by simp [oEq,D.cmp,D.sc,D.beq,Bool.beq_eq_decide_eq]
theorem DR:vE .non=.ok ↥26:=rfl
theorem AR:vC .non=.ok ↥35:=rfl
theorem DU:vE (.exc C)=.ok ↥35:=rfl
theorem AV:vC (.exc C)=.ok ↥26:=rfl
theorem DT {i:Int}:vE (.int i)=.ok ↥35:=rfl
theorem AU {i:Int}:vC (.int i)=.ok ↥26:=rfl
theorem E3 {i j:Int}:B8 [.int i,.int j]=.ok (.int (max i j)):=by
 unfold B8;simp only;congr 2;omega
theorem EZ {i j:Int}:E1 [.int i,.int j]=.ok (.int (min i j)):=by
 unfold E1;simp only;congr 2;omega
theorem E8 {i:Int}:FW [.int i]=.ok (.int (if i<0 then -i else i)):=rfl
theorem E6 {ds:List D}:zu [.lst ds]=.ok (.int ds.length):=rfl
theorem E5 {ds:List D}:zu [.tup ds]=.ok (.int ds.length):=rfl
theorem E7 {i:Int}:CC [.int i]=.ok (.int i):=rfl
theorem JP {k:Bool}:CC [.bl k]=.ok (.int (if k then 1 else 0)):=rfl
theorem wA {i:Int}:iW [.int i]=.ok (.int (nb i)):=rfl
theorem Cb {ds:List D}:MU [.lst ds]=.ok (.lst ds):=rfl
theorem B9 {ds:List D}:MU [.tup ds]=.ok (.lst ds):=rfl
theorem vX {i:Int}:pR [.int i,.ty "int"]=.ok ↥26:=rfl
theorem t6 {i:Int}:pR [.int i,.ty "bool"]=.ok ↥35:=rfl
theorem vT {ds:List D}:pR [.tup ds,.ty "tuple"]=.ok ↥26:=rfl
theorem vW {ds:List D}:pR [.lst ds,.ty "list"]=.ok ↥26:=rfl
theorem yU:pR [.exc C,.ty "ValueError"]=if ax.contains C then .ok ↥26 else .bad:=by
 show (if (ax.contains C&&("ValueError" == "ValueError"))=true then _ else _)=_
 rw [show ("ValueError" == "ValueError")=true from rfl,Bool.and_true]
theorem vY {B:String}:pR [.exc C,.cls B]=if ax.contains C&&ax.contains B then .ok (.bl (C == B||B == "MillError")) else .bad:=rfl
theorem vV {B:String}:pR [.non,.cls B]=if ax.contains B then .ok ↥35 else .bad:=rfl
theorem KI {k:S}:trn (.nx δ) k=k δ:=rfl
theorem KP {k:S}:trn (.ct δ) k=k δ:=rfl
theorem KQ {k:S}:trn (.bk δ) k=.nx δ:=rfl
theorem KH {k:S}:trn (.rt d) k=.rt d:=rfl
theorem KO {k:S}:trn (.ex C δ) k=.ex C δ:=rfl
theorem KJ {k:S}:trn (.mk C δ) k=.mk C δ:=rfl
theorem KN {k:S}:trn (.hx C δ) k=.hx C δ:=rfl
theorem GW {p:Prop} [Decidable p] (x y:O) {k:S}:trn (if p then x else y) k=if p then trn x k else trn y k:=by split<;>rfl
theorem xE:forL i b [] δ=.nx δ:=rfl
theorem kM:forL i b (d::ds) δ=trn (b (δ.set i (some d))) (forL i b ds):=rfl
theorem LN {ds:List D} {k:List D->O}:ovL δ (.ok (.lst ds)) k=k ds:=rfl
theorem LM {ds:List D} {k:List D->O}:ovT δ (.ok (.tup ds)) k=k ds:=rfl
theorem GS {B:String} {i:Nat} {s:S}:GV (.nx δ) B i s=.nx δ:=rfl
theorem GU {B:String} {i:Nat} {s:S}:GV (.ex C δ) B i s=if EA C B then forget i (s ((noOwn δ).set i (some (.exc C)))) else .bad:=rfl
theorem C8 {p:Prop} [Decidable p] (x y:O) {B:String} {i:Nat} {s:S}:GV (if p then x else y) B i s=if p then GV x B i s else GV y B i s:=by split<;>rfl
theorem BC {i:Nat}:forget i (.nx δ)=.nx (δ.set i none):=rfl
theorem A6:noOwn []=[]:=rfl
theorem yK:noOwn (none::δ)=none::noOwn δ:=rfl
theorem A8 {i:Int}:noOwn (some (.int i)::δ)=some (.int i)::noOwn δ:=rfl
theorem Ed {i:Bool}:noOwn (some (.bl i)::δ)=some (.bl i)::noOwn δ:=rfl
theorem A3 {i:PySem.Str}:noOwn (some (.str i)::δ)=some (.str i)::noOwn δ:=rfl
theorem A5:noOwn (some .non::δ)=some .non::noOwn δ:=rfl
theorem A2 {ds:List D}:noOwn (some (.tup ds)::δ)=some (.tup ds)::noOwn δ:=rfl
theorem A7 {ds:List D}:noOwn (some (.lst ds)::δ)=some (.lst ds)::noOwn δ:=rfl
theorem Ba:noOwn (some (.exc C)::δ)=some (.exc C)::noOwn δ:=rfl
theorem zd {C:String}:EA C "MillError"=ax.contains C:=by simp [EA]
end
theorem p5 {ds:List D} {k:Nat} {d:D} (h:ds[k]? = some d):oIx (.tup ds) (.int k)=.ok d:=by
 obtain ⟨hk,he⟩:=List.getElem?_eq_some_iff.mp h
 unfold oIx ixN
 simp [he,hk]
theorem oG {k:Nat} (h:ds[k]? = some d):oIx (.lst ds) (.int k)=.ok d:=by
 obtain ⟨hk,he⟩:=List.getElem?_eq_some_iff.mp h
 unfold oIx ixN
 simp [he,hk]
section
variable {a b c d e:D} {r:List D}
theorem ix0:oIx (.tup (a::r)) (.int 0)=.ok a:=p5 (k:=0) rfl
theorem ix1:oIx (.tup (a::b::r)) (.int 1)=.ok b:=p5 (k:=1) rfl
theorem ix2:oIx (.tup (a::b::c::r)) (.int 2)=.ok c:=p5 (k:=2) rfl
theorem ix3:oIx (.tup (a::b::c::d::r)) (.int 3)=.ok d:=p5 (k:=3) rfl
theorem Td:oIx (.lst (a::r)) (.int 0)=.ok a:=oG (k:=0) rfl
theorem VG:oIx (.lst (a::b::r)) (.int 1)=.ok b:=oG (k:=1) rfl
theorem VF:oIx (.lst (a::b::c::r)) (.int 2)=.ok c:=oG (k:=2) rfl
end
theorem VZ {m:Nat} {gg:S}:fn 0 m gg []=(gg (List.replicate m none)).res:=rfl
theorem VY {m:Nat} {gg:S} {a:D}:fn 1 m gg [a]=(gg (some a::List.replicate (m - 1) none)).res:=rfl
theorem VX {m:Nat} {gg:S} {a b:D}:fn 2 m gg [a,b]=(gg (some a::some b::List.replicate (m - 2) none)).res:=rfl
theorem VW {m:Nat} {gg:S} {a b c:D}:fn 3 m gg [a,b,c]=(gg (some a::some b::some c::List.replicate (m - 3) none)).res:=rfl
theorem VV {m:Nat} {gg:S} {a b c d:D}:fn 4 m gg [a,b,c,d]=(gg (some a::some b::some c::some d::List.replicate (m - 4) none)).res:=rfl
theorem VU {m:Nat} {gg:S} {a b c d e:D}:fn 5 m gg [a,b,c,d,e]=(gg (some a::some b::some c::some d::some e::List.replicate (m - 5) none)).res:=rfl
theorem VT {m:Nat} {gg:S} {a b c d e f:D}:fn 6 m gg [a,b,c,d,e,f]=(gg (some a::some b::some c::some d::some e::some f::List.replicate (m - 6) none)).res:=rfl
theorem VS {m:Nat} {gg:S} {a b c d e f g:D}:fn 7 m gg [a,b,c,d,e,f,g]=(gg (some a::some b::some c::some d::some e::some f::some g::List.replicate (m - 7) none)).res:=rfl
theorem VR {m:Nat} {gg:S} {a b c d e f g h:D}:fn 8 m gg [a,b,c,d,e,f,g,h]=(gg (some a::some b::some c::some d::some e::some f::some g::some h::List.replicate (m - 8) none)).res:=rfl
section
variable {α β:Type} {a:α} {l:List α} {n:Nat} {p:Prop} {x y:α}
theorem yj:(a::l).length=l.length+1:=rfl
theorem zC:([]:List α).length=0:=rfl
theorem zD {f:α->β}:(l.map f).length=l.length:=List.length_map f
theorem yi {f:α->β}:(a::l).map f=f a::l.map f:=rfl
theorem zB {f:α->β}:([]:List α).map f=[]:=rfl
theorem Ga:(a::l).set 0 x=x::l:=rfl
theorem F9:(a::l).set (n+1) x=a::l.set n x:=rfl
theorem Ge:List.replicate 0 a=[]:=rfl
theorem Gd:List.replicate (n+1) a=a::List.replicate n a:=rfl
theorem Ka:0+n=n:=Nat.zero_add n
theorem J7:(if True then x else y)=x:=if_pos trivial
theorem J8:(if False then x else y)=y:=if_neg id
theorem Tq:(false=true)=False:=by simp
theorem Tn:(true=true)=True:=by simp
theorem Gf:(!true)=false:=rfl
theorem Gg:(!false)=true:=rfl
theorem Nl [Decidable p]:(decide p=true)=p:=decide_eq_true_eq
theorem Gi [Decidable True]:decide True=true:=by simp
theorem Gj [Decidable False]:decide False=false:=by simp
theorem Gk:(p/\True)=p:=by simp
theorem F8:(True/\p)=p:=by simp
theorem Gm:(p/\False)=False:=by simp
theorem Gh:(False/\p)=False:=by simp
theorem J5:(p\/True)=True:=by simp
theorem J4:(True\/p)=True:=by simp
theorem J6:(p\/False)=p:=by simp
theorem J9:(False\/p)=p:=by simp
theorem To:(¬ True)=False:=by simp
theorem Tp:(¬ False)=True:=by simp
end
section
variable {a b c:E} {s t:S} {δ:Dt} {i:Nat} {f h:D->D->R D} {k:D->R D} {es:List E} {F:List D->R D} {d:D} {C:String}
theorem Nu:seq s t δ=(s δ).then t:=rfl
theorem C6:assign i a δ=asg i δ (a δ):=rfl
theorem Nv:ret a δ=rtn δ (a δ):=rfl
theorem Kp:T2 a δ=rtn δ (a (view δ)):=rfl
theorem ND:ifs a s t δ=ifO δ (a δ) (s δ) (t δ):=rfl
theorem KA:expr a δ=xpr δ (a δ):=rfl
theorem GL:raise C δ=.mk C δ:=rfl
theorem Ks:aq δ=.nx δ:=rfl
theorem Kq:T3 δ=.rt .non:=rfl
theorem NH:brk δ=.bk δ:=rfl
theorem KC:cont δ=.ct δ:=rfl
theorem NG:con d δ=.ok d:=rfl
theorem NI:bin f a b δ=(a δ).bind fun x=>(b δ).bind fun y=>f x y:=rfl
theorem Tr:un k a δ=(a δ).bind k:=rfl
theorem NJ:eB a b δ=(a δ).bind fun d=>truth d (b δ) (.ok ↥35):=rfl
theorem Ts:or_ a b δ=(a δ).bind fun d=>truth d (.ok ↥26) (b δ):=rfl
theorem Nw:uY a δ=(a δ).bind fun d=>truth d (.ok ↥35) (.ok ↥26):=rfl
theorem NF:ife c a b δ=(c δ).bind fun d=>truth d (a δ) (b δ):=rfl
theorem GQ:chain f h a b c δ=(a δ).bind fun x=>(b δ).bind fun y=>(f x y).bind fun d=>truth d ((c δ).bind fun z=>h y z) (.ok ↥35):=rfl
theorem Nq:cF es δ=(evs es δ).bind fun ds=>.ok (.tup ds):=rfl
theorem Ny:rG es δ=(evs es δ).bind fun ds=>.ok (.lst ds):=rfl
theorem KG:call F es δ=(evs es δ).bind F:=rfl
theorem Nr:Tu s C i t δ=GV (s δ) C i t:=rfl
theorem GO:OK i a s δ=ovL δ (a δ) fun ds=>forL i s ds δ:=rfl
theorem GN:OJ i a s δ=ovT δ (a δ) fun ds=>forL i s ds δ:=rfl
theorem GP:OL i a s δ=ovR δ (a δ) fun ds=>forL i s ds δ:=rfl
end
theorem sM:ax.contains "MillError"=true:=by decide
theorem zH:ax.contains "NoSize"=true:=by decide
theorem zL:ax.contains "NoBits"=true:=by decide
theorem ym:ax.contains "NoParts"=true:=by decide
theorem zI:ax.contains "NoRank"=true:=by decide
theorem sL:ax.contains "NotFinite"=true:=by decide
theorem CG:ax.contains "NoWay"=true:=by decide
theorem yn:ax.contains "NoFlags"=true:=by decide
theorem qD:ax.contains "NoFraction"=true:=by decide
theorem zF:ax.contains "Unlike"=true:=by decide
theorem CI:ax.contains "Empty"=true:=by decide
theorem zK:ax.contains "NoLeft"=true:=by decide
theorem zG:ax.contains "NoText"=true:=by decide
theorem CH:ax.contains "NoRow"=true:=by decide
theorem zJ:ax.contains "NoName"=true:=by decide
theorem yk:ax.contains "Stopped"=true:=by decide
section
variable {α:Type} {b:Bool} {ds es:List D} {i:Nat} {it:IT} {g h:E} {s:S} {δ:Dt} {C:String} {ks:List Nat} {k:List D->O} {x:D} {fs:List (String×D)} {F:List D->R D} {gs:List E} {cn m f:String}
theorem Gq:(b&&true)=b:=by simp
theorem Gn:(true&&b)=b:=by simp
theorem Gp:(false&&b)=false:=by simp
theorem Gr:(b&&false)=false:=by simp
theorem Kd:(b||false)=b:=by simp
theorem Ke:(false||b)=b:=by simp
theorem Kb:(true||b)=true:=by simp
theorem Kc:(b||true)=true:=by simp
theorem Kz:J2 i it s δ=ovI δ (it δ) fun ds=>forL i s ds δ:=rfl
theorem LO:ovI δ (.ok ds) k=k ds:=rfl
theorem LP:ovI δ (.ex C) k=.ex C (noOwn δ):=rfl
theorem NA:itL g δ=(g δ).bind asL:=rfl
theorem Nz:itT g δ=(g δ).bind asT:=rfl
theorem Kx:VM g δ=(g δ).bind Nh:=rfl
theorem Kw:VJ g h δ=(evs [g,h] δ).bind Ng:=rfl
theorem JV:asL (.lst ds)=.ok ds:=rfl
theorem JU:asT (.tup ds)=.ok ds:=rfl
theorem Ff {n:Int} (h0 : -4611686018427387904<=n) (h1:n<4611686018427387904):Nh (.int n)=.ok (Lf 0 n):=by unfold Nh;simp only;rw [if_pos ⟨h0,h1⟩]
theorem Fe {n m:Int} (h0 : -4611686018427387904<=n) (h1:n<4611686018427387904) (h2 : -4611686018427387904<=m) (h3:m<4611686018427387904):Ng [.int n,.int m]=.ok (Lf n m):=by unfold Ng;simp only;rw [if_pos ⟨h0,h1,h2,h3⟩]
theorem KD:comp it ks g δ=(it δ).bind fun ds=>if ds.length<=100000 then (runC (stC (con ↥26) g ks δ) ds).bind dC else .bad:=rfl
theorem C5:gw it ks g h δ=(it δ).bind fun ds=>if ds.length<=100000 then (runC (stC g h ks δ) ds).bind dC else .bad:=rfl
theorem Kt:IK cn m F g gs δ=(g δ).bind fun d=>if f9 cn m d then (evs gs δ).bind fun ds=>F (d::ds) else .bad:=rfl
theorem Nx:mk1 cn f [x]=.ok (.ins cn [(f,x)]):=rfl
theorem V0:zy cn f (.ins cn ((f,x)::fs))=.ok x:=by simp [zy]
theorem im1:f9 cn m (.ins cn [(f,x)])=(m != f):=by
 have:f9 cn m (.ins cn [(f,x)])=((cn == cn)&&(List.lookup m [(f,x)]).isNone):=rfl
 rw [this,List.lookup_cons]
 cases e:(m == f)<;>simp [e,bne]
theorem A9:noOwn (some (.ins C fs)::δ)=some (.ins C fs)::noOwn δ:=rfl
theorem Cd {d:D}:O2 [d,.tup ds]=p7 d ds:=rfl
theorem yV {d:D}:p7 d []=.ok ↥35:=rfl
theorem vZ {d c:D}:p7 d (c::ds)=(pR [d,c]).bind fun x=>truth x (.ok ↥26) (p7 d ds):=rfl
theorem yT {n:String}:pR [.non,.ty n]=if ["int","bool","str","tuple","list","ValueError"].contains n then .ok ↥35 else .bad:=rfl
theorem DP:vE (.tup ds)=.ok ↥35:=rfl
theorem AO:vC (.tup ds)=.ok ↥26:=rfl
theorem DS:vE (.lst ds)=.ok ↥35:=rfl
theorem AS:vC (.lst ds)=.ok ↥26:=rfl
theorem DQ {z:PySem.Str}:vE (.str z)=.ok ↥35:=rfl
theorem AQ {z:PySem.Str}:vC (.str z)=.ok ↥26:=rfl
end
theorem ou {x y:String} (h:(PySem.Str.ofString x)=PySem.Str.ofString y):x=y:=by
 rw [PySem.Str.ofString_eq_toList,PySem.Str.ofString_eq_toList] at h
 have h1:(x.toList.map Char.toNat).toArray=(y.toList.map Char.toNat).toArray:=congrArg PySem.Str.cps h
 have h2:x.toList.map Char.toNat=y.toList.map Char.toNat:=by simpa using h1
 have h3:∀ (l m:List Char),l.map Char.toNat=m.map Char.toNat->l=m:=by
  intro l
  induction l with
  | nil=>intro m e;cases m with | nil=>rfl | cons _ _=>cases e
  | cons c r ih =>
   intro m e
   cases m with
   | nil=>cases e
   | cons c' r' =>
    rw [List.map_cons,List.map_cons,List.cons.injEq] at e
    rw [Char.ext (UInt32.toNat_inj.mp e.1),ih r' e.2]
 exact String.toList_inj.mp (h3 _ _ h2)
theorem DJ {x y:String}:((PySem.Str.ofString x)=PySem.Str.ofString y)=(x=y):=propext ⟨ou,fun e=>by rw [e]⟩
theorem DX {a b c d:Int}:oEq (.tup [.int a,.int b]) (.tup [.int c,.int d])=.ok (.bl (decide (a=c/\b=d))):=by
 simp [oEq,D.cmp,D.sc,D.pl,D.beq,D.beqs,Bool.beq_eq_decide_eq]
theorem DO {a b c d:Int}:oNe (.tup [.int a,.int b]) (.tup [.int c,.int d])=.ok (.bl (!decide (a=c/\b=d))):=by
 simp [oNe,D.cmp,D.sc,D.pl,D.beq,D.beqs,Bool.beq_eq_decide_eq]
theorem DW {a b c d e f:Int}:oEq (.tup [.int a,.int b,.int e]) (.tup [.int c,.int d,.int f])=.ok (.bl (decide (a=c/\b=d/\e=f))):=by
 simp [oEq,D.cmp,D.sc,D.pl,D.beq,D.beqs,Bool.beq_eq_decide_eq]
theorem DN {a b c d e f:Int}:oNe (.tup [.int a,.int b,.int e]) (.tup [.int c,.int d,.int f])=.ok (.bl (!decide (a=c/\b=d/\e=f))):=by
 simp [oNe,D.cmp,D.sc,D.pl,D.beq,D.beqs,Bool.beq_eq_decide_eq]
theorem IE {p:Prop} [Decidable p]:((!decide p)=true)=¬ p:=by simp
theorem NC {g:E} {δ:Dt}:itA g δ=(g δ).bind asA:=rfl
theorem JX {ds:List D}:asA (.lst ds)=.ok ds:=rfl
theorem JW {ds:List D}:asA (.tup ds)=.ok ds:=rfl
theorem Nt {a:E} {lo hi:Option E} {δ:Dt}:slc a lo hi δ=(a δ).bind fun d=>(part lo δ).bind fun l=>(part hi δ).bind fun h=>oSl d l h:=rfl
theorem AK {δ:Dt}:part none δ=.ok none:=rfl
theorem DF {i:Int} {δ:Dt}:part (some (con (.int i))) δ=.ok (some i):=rfl
theorem Ik {ds:List D} {lo hi:Option Int}:oSl (.lst ds) lo hi=.ok (.lst (cut ds lo hi)):=rfl
theorem vU {x:PySem.Str}:pR [.str x,.ty "str"]=.ok ↥26:=rfl
theorem DM {a b c x y z:Int}:oNe (.tup [.int a,.int b,.int c]) (.tup [.int x,.int y,.int z])=.ok (.bl (decide (¬ (a=x/\b=y/\c=z)))):=by
 unfold oNe
 rw [if_pos (show D.cmp _ _=true from rfl)]
 congr 2
 simp only [D.beq,D.beqs]
 by_cases h1:a=x<;>by_cases h2:b=y<;>by_cases h3:c=z<;>simp [h1,h2,h3]
theorem DV {a b c x y z:Int}:oEq (.tup [.int a,.int b,.int c]) (.tup [.int x,.int y,.int z])=.ok (.bl (decide (a=x/\b=y/\c=z))):=by
 unfold oEq
 rw [if_pos (show D.cmp _ _=true from rfl)]
 congr 2
 simp only [D.beq,D.beqs]
 by_cases h1:a=x<;>by_cases h2:b=y<;>by_cases h3:c=z<;>simp [h1,h2,h3]
theorem Ij {a b:String}:(PySem.Str.ofString a=PySem.Str.ofString b)=(a=b):=by
 apply propext
 constructor
 ·intro h
  rw [PySem.Str.ofString_eq_toList,PySem.Str.ofString_eq_toList] at h
  have h1:a.toList.map Char.toNat=b.toList.map Char.toNat:=by
   have:=congrArg (fun z:PySem.Str=>z.cps.toList) h
   simpa using this
  have h2:a.toList=b.toList:=by
   refine List.map_inj_right (f:=Char.toNat) (fun x y e => ?_) |>.mp h1
   exact Char.toNat_inj.mp e
  exact String.toList_inj.mp h2
 ·intro h;rw [h]
theorem LZ {cn f:String} {d:D}:zy cn f (.ins cn [(f,d)])=.ok d:=by simp [zy,List.lookup]
theorem Em {cn m f:String} {d:D}:f9 cn m (.ins cn [(f,d)]) = !(m == f):=by
 unfold f9
 cases h:m == f<;>simp [List.lookup,h]
theorem Mg {cn f:String} {d:D}:mk1 cn f [d]=.ok (.ins cn [(f,d)]):=rfl
theorem El:(!false)=true:=rfl
theorem Kv {g h k:E}:VI g h k δ=(evs [g,h,k] δ).bind Nf:=rfl
theorem Fd {n m c:Int} (h : -1099511627776<=n/\n<1099511627776 /\ -1099511627776<=m/\m<1099511627776) (h0:0<c) (h1:c<1048576):Nf [.int n,.int m,.int c]=.ok (O7 n m c):=by unfold Nf;simp only;rw [if_pos ⟨h,h0,h1⟩]
theorem C2 {i:Nat}:LL i δ=.nx (δ.set i (some (.own []))):=rfl
theorem C4 {i:Nat} {g:E}:tM i g δ=lL i δ fun ds=>JZ i δ ds (g (view δ)):=rfl
theorem C1 {i:Nat}:LK i δ=lL i δ fun ds=>.nx (δ.set i (some (.own ds.reverse))):=rfl
theorem Ih {ds:List D} {l:Dt} {f:List D->O}:lL 0 (some (.own ds)::l) f=f ds:=rfl
theorem Ig {i:Nat} {c:Option D} {l:Dt} {f:List D->O}:lL (i+1) (c::l) f=lL i l f:=rfl
theorem sI {i:Nat} {ds:List D} {d:D} (h:D.flat d=true) (h2:ds.length<100000):JZ i δ ds (.ok d)=.nx (δ.set i (some (.own (ds++[d])))):=by unfold JZ;simp only;rw [if_pos ⟨h,h2⟩]
theorem JY {i:Nat} {ds:List D}:JZ i δ ds (.ex C)=.ex C (noOwn δ):=rfl
theorem Kr {i:Nat} {s:S}:AE i s δ=s (pub i δ):=rfl
theorem N7 {ds:List D} {l:Dt}:pub 0 (some (.own ds)::l)=some (.lst ds)::l:=rfl
theorem N6 {i:Nat} {c:Option D} {l:Dt}:pub (i+1) (c::l)=c::pub i l:=by
 unfold pub
 rw [List.getElem?_cons_succ]
 split<;>rename_i q
 ·rw [q];rfl
 ·rfl
theorem A4 {ds:List D}:noOwn (some (.own ds)::δ)=none::noOwn δ:=rfl
theorem CT:view []=[]:=rfl
theorem zW:view (none::δ)=none::view δ:=rfl
theorem CQ {ds:List D}:view (some (.own ds)::δ)=some (.lst ds)::view δ:=rfl
theorem CV {i:Int}:view (some (.int i)::δ)=some (.int i)::view δ:=rfl
theorem Gx {i:Bool}:view (some (.bl i)::δ)=some (.bl i)::view δ:=rfl
theorem CP {i:PySem.Str}:view (some (.str i)::δ)=some (.str i)::view δ:=rfl
theorem CS  : view (some (.non)::δ)=some (.non)::view δ:=rfl
theorem CO {ds:List D}:view (some (.tup ds)::δ)=some (.tup ds)::view δ:=rfl
theorem CU {ds:List D}:view (some (.lst ds)::δ)=some (.lst ds)::view δ:=rfl
theorem CY  : view (some (.exc C)::δ)=some (.exc C)::view δ:=rfl
theorem CW {fs:List (String×D)}:view (some (.ins C fs)::δ)=some (.ins C fs)::view δ:=rfl
theorem Aa {i:Nat} {g:E}:jY i g δ=MX i δ (g (view δ)):=rfl
theorem Fc {i:Nat} {n:Int}:MX i δ (.ok (.int n))=.nx (δ.set i (some (.int n))):=rfl
theorem Ky {c:E} {a b:S}:OG c a b δ=ifO δ (c (view δ)) (a δ) (b δ):=rfl
theorem zZ {i:Nat} {g:E}:dI i g δ=Cy i δ (g (view δ)):=rfl
theorem Df {i:Nat} {rs:List D}:Cy i δ (.ok (.lst rs))=.nx (δ.set i (some (.own rs))):=rfl
theorem C0 {i:Nat} {a b:E}:LJ i a b δ=lL i δ fun ds=>M6 i δ ds (b (view δ)) (a (view δ)):=rfl
theorem Hs {i:Nat} {ds:List D} {d:D} {k:Int} (h:D.flat d=true) (h0:0<=k) (h1:k<ds.length):M6 i δ ds (.ok d) (.ok (.int k))=.nx (δ.set i (some (.own (ds.set k.toNat d)))):=by unfold M6;simp only;rw [if_pos ⟨h,h0,h1⟩]
theorem zY {i:Nat} {g:E}:ot i g δ=Cy i δ (g δ):=rfl
theorem aI {a b:Prop} (x:a) (y:b):a/\b:=⟨x,y⟩
def EvS:=aI @Ir<|aI @DY<|aI @gA<|aI @JF<|aI @EK<|aI @EJ<|aI @GY<|aI @GX<|aI @G6<|aI @GZ<|aI @G5<|aI @G8<|aI @G7<|aI @Dd<|aI @Dc<|aI @Lg<|aI @Lh<|aI @Lk<|aI @Li<|aI @Lj<|aI @HC<|aI @HB<|aI @MW<|aI @JT<|aI @Kf<|aI @Kg<|aI @Gu<|aI @Ld<|aI @Le<|aI @Hw<|aI @Mx<|aI @Mw<|aI @IY<|aI @C9<|aI @Mp<|aI @ite_int<|aI @Ms<|aI @Mr<|aI @Mq<|aI @Km<|aI @GA<|aI @GI<|aI @GJ<|aI @GH<|aI @Ea<|aI @DK<|aI @DL<|aI @Iu<|aI @Iv<|aI @Iw<|aI @Iz<|aI @IB<|aI @Iq<|aI @IA<|aI @Io<|aI @L6<|aI @DR<|aI @AR<|aI @DU<|aI @AV<|aI @DT<|aI @AU<|aI @E3<|aI @EZ<|aI @E8<|aI @E6<|aI @E5<|aI @E7<|aI @JP<|aI @wA<|aI @Cb<|aI @B9<|aI @vX<|aI @t6<|aI @vT<|aI @vW<|aI @yU<|aI @vY<|aI @vV<|aI @KI<|aI @KP<|aI @KQ<|aI @KH<|aI @KO<|aI @KJ<|aI @KN<|aI @GW<|aI @LN<|aI @LM<|aI @GS<|aI @GU<|aI @C8<|aI @BC<|aI @A6<|aI @yK<|aI @A8<|aI @Ed<|aI @A3<|aI @A5<|aI @A2<|aI @A7<|aI @Ba<|aI @zd<|aI @ix0<|aI @ix1<|aI @ix2<|aI @ix3<|aI @Td<|aI @VG<|aI @VF<|aI @yj<|aI @zC<|aI @zD<|aI @Ge<|aI @Gd<|aI @Ka<|aI @J7<|aI @J8<|aI @Tq<|aI @Tn<|aI @Gf<|aI @Gg<|aI @Nl<|aI @Gi<|aI @Gj<|aI @Gk<|aI @F8<|aI @Gm<|aI @Gh<|aI @J5<|aI @J4<|aI @J6<|aI @J9<|aI @To<|aI @Tp<|aI @Nv<|aI @Kp<|aI @ND<|aI @KA<|aI @GL<|aI @Ks<|aI @Kq<|aI @NH<|aI @KC<|aI @NJ<|aI @Ts<|aI @Nw<|aI @NF<|aI @GQ<|aI @Nq<|aI @Ny<|aI @KG<|aI @Nr<|aI @GO<|aI @GN<|aI @GP<|aI @sM<|aI @zH<|aI @zL<|aI @ym<|aI @zI<|aI @sL<|aI @CG<|aI @yn<|aI @qD<|aI @zF<|aI @CI<|aI @zK<|aI @zG<|aI @CH<|aI @zJ<|aI @yk<|aI @Gq<|aI @Gn<|aI @Gp<|aI @Gr<|aI @Kd<|aI @Ke<|aI @Kb<|aI @Kc<|aI @Kz<|aI @LO<|aI @LP<|aI @NA<|aI @Nz<|aI @Kx<|aI @Kw<|aI @JV<|aI @JU<|aI @Ff<|aI @Fe<|aI @KD<|aI @C5<|aI @Kt<|aI @Nx<|aI @V0<|aI @im1<|aI @A9<|aI @Cd<|aI @yV<|aI @vZ<|aI @yT<|aI @DP<|aI @AO<|aI @DS<|aI @AS<|aI @DQ<|aI @AQ<|aI @DJ<|aI @DX<|aI @DO<|aI @DW<|aI @DN<|aI @IE<|aI @NC<|aI @JX<|aI @JW<|aI @Nt<|aI @AK<|aI @DF<|aI @Ik<|aI @vU<|aI @DM<|aI @DV<|aI @Ij<|aI @LZ<|aI @Em<|aI @Mg<|aI @El<|aI @Kv<|aI @Fd<|aI @C2<|aI @C4<|aI @C1<|aI @Ih<|aI @Ig<|aI @sI<|aI @JY<|aI @Kr<|aI @N7<|aI @N6<|aI @A4<|aI @CT<|aI @zW<|aI @CQ<|aI @CV<|aI @Gx<|aI @CP<|aI @CS<|aI @CO<|aI @CU<|aI @CY<|aI @CW<|aI @Aa<|aI @Fc<|aI @Ky<|aI @zZ<|aI @Df<|aI @C0<|aI @Hs<|@zY
theorem wZ:∀ {ds:List D},(∀ d∈ds,st d=.ok (some (f d)))->runC st ds=.ok (ds.map f)
 | [],_=>rfl
 | d::ds,h=>by
  unfold runC
  rw [h d (.head _),wZ fun d hd=>h d (.tail _ hd)]
  rfl
theorem DZ (h:xs.length+ys.length<=100000):bx (.lst xs) (.lst ys)=.ok (.lst (xs++ys)):=by unfold bx;simp only;rw [if_pos h]
theorem bI {c:E} {b:S}:∀ {n:Nat} {δ:Dt},bU c b n δ ≠ .bad->∀ k,bU c b (n+k) δ=bU c b n δ
 | 0,δ,h,_=>absurd rfl h
 | n+1,δ,h,k=>by
  rw [show n+1+k=(n+k)+1 by omega]
  unfold bU at h ⊢
  split
  ·rename_i q
   rw [q] at h
   simp only at h
   unfold trn at h ⊢
   split
   ·rename_i q2;rw [q2] at h;exact bI h k
   ·rename_i q2;rw [q2] at h;exact bI h k
   ·rfl
   ·rfl
  ·rfl
  ·rfl
theorem wJ {c:E} {b:S} {n:Nat} {δ:Dt} {o:O} (h:bU c b n δ=o) (ho:o ≠ .bad):lU c b δ=o:=by
 have hx:∃ n,bU c b n δ ≠ .bad:=⟨n,by rw [h];exact ho⟩
 unfold lU
 rw [dif_pos hx]
 have h1:=bI hx.choose_spec n
 have h2:=bI (show bU c b n δ ≠ .bad by rw [h];exact ho) hx.choose
 rw [Nat.add_comm] at h1
 rw [<- h1,h2,h]
theorem wK {c:E} {b:S} (I:Dt->Prop) (μ:Dt->Nat) (hs:∀ δ,I δ->(c δ=.ok ↥35)\/(c δ=.ok ↥26/\∃ δ',b δ=.nx δ'/\I δ'/\μ δ'<μ δ)) (δ:Dt) (h:I δ) :
  ∃ δ',lU c b δ=.nx δ'/\I δ'/\c δ'=.ok ↥35:=by
 have key:∀ (n:Nat) (δ:Dt),I δ->μ δ<n->∃ δ',bU c b n δ=.nx δ'/\I δ'/\c δ'=.ok ↥35:=by
  intro n
  induction n with
  | zero=>intro δ _ h;omega
  | succ n ih =>
   intro δ h hn
   rcases hs δ h with e | ⟨e,δ1,e1,i1,m1⟩
   ·exact ⟨δ,by unfold bU;rw [e],h,e⟩
   ·obtain ⟨δ2,e2,i2,c2⟩:=ih δ1 i1 ⋯
    exact ⟨δ2,by unfold bU;rw [e];simp only;rw [e1];exact e2,i2,c2⟩
 obtain ⟨δ',e,i,c'⟩:=key (μ δ+1) δ h (Nat.lt_succ_self _)
 exact ⟨δ',wJ e (fun z=>nomatch z),i,c'⟩
end EV
local macro_rules | `(tactic| walk_at "pos")=>`(tactic| first | (with_reducible assumption) | decide +kernel | (with_reducible exact EV.ah _) | omega)
local macro_rules | `(tactic| walk_at "nb")=>`(tactic| first
 | (with_reducible assumption)
 | ((with_reducible apply EV.xr)<;>walk_at "nb")
 | ((with_reducible apply EV.Me)<;>walk_at "nb")
 | ((with_reducible apply EV.cD)<;>walk_at "nb")
 | ((with_reducible apply EV.nb_neg_le)<;>walk_at "nb")
 | ((with_reducible apply EV.Bd);(walk_at "pos");(walk_at "nb"))
 | ((with_reducible apply EV.gO);(walk_at "pos");(walk_at "nb"))
 | ((with_reducible apply EV.nb_max)<;>walk_at "nb")
 | ((with_reducible apply EV.nb_min)<;>walk_at "nb")
 | ((with_reducible apply EV.nb_ite)<;>walk_at "nb")
 | exact EV.IG)
/- nb e<=a number -/
local macro_rules | `(tactic| walk_at "nbk")=>`(tactic| exact EV.Ef (by walk_at "nb") (by decide +kernel))
local macro_rules | `(tactic| walk_at "mul")=>`(tactic| exact EV.MulOk.of (by walk_at "nb") (by walk_at "nb") (by decide +kernel))
local macro_rules | `(tactic| simp_arith [$ls,*])=>`(tactic| simp only [EV.EvS,EV.CZ,EV.F9,EV.GF,EV.Kl,EV.Gz,EV.GB,EV.Gy,EV.GD,EV.Ga,EV.NG,EV.Jk,EV.EB,EV.NI,EV.Tr,EV.JE,EV.Nu,EV.C6,EV.MV,EV.yi,EV.zB,EV.VZ,EV.VY,EV.VX,EV.VW,EV.VV,EV.VU,EV.VT,EV.VS,EV.VR,reduceIte,Nat.reduceAdd,Nat.reduceSub,Int.reduceAdd,Int.reduceSub,Int.reduceMul,Int.reduceNeg,Int.reducePow,Int.reduceLT,Int.reduceLE,Int.reduceGT,Int.reduceGE,Int.reduceEq,Int.reduceNe,Int.reduceDiv,Int.reduceMod,Int.reduceToNat,String.reduceEq,String.reduceBEq,Nat.reduceLeDiff,Int.cast_ofNat_Int,Int.natCast_one,Int.natCast_zero,List.cons_append,List.nil_append,ne_eq,$ls,*])
namespace EV
open PySem (Str)
def Sz (E F:Int):Prop:=2<=E/\E<=15/\1<=F/\F<=112
def szE (c:Int):Int:=if c%8<4 then [5,8,11,15].getD (c%8).toNat 0 else if c%8<6 then 2+c / 8%14 else 2+c / 8%4
def szF (c:Int):Int:=if c%8<4 then [10,23,52,112].getD (c%8).toNat 0 else if c%8<6 then 1+c / 8 / 14%112 else 1+c / 8 / 4%5
theorem four {r:Int} (h0:0<=r) (h1:r<4):r=0\/r=1\/r=2\/r=3:=⋯
theorem NV (c:Int):Sz (szE c) (szF c):=by
 unfold Sz szE szF
 by_cases h:c%8<4
 ·rw [if_pos h,if_pos h]
  rcases four (Int.emod_nonneg c ↥1) h with e | e | e | e<;>rw [e]<;>decide
 ·rw [if_neg h,if_neg h]
  by_cases h2:c%8<6
  ·rw [if_pos h2,if_pos h2];omega
  ·rw [if_neg h2,if_neg h2];omega
theorem jH {F:Int} (h:1<=F):2<=pw F:=ip (a:=1) h
theorem rj {E:Int} (h:2<=E):4<=pw E:=ip (a:=2) h
theorem lJ {F:Int} (h:1<=F):pw F=2*pw (F - 1):=by
 have:=gz (a:=F - 1) ⋯
 rw [show F - 1+1=F by omega] at this
 exact this
theorem Ho {r h:Int} (h0:0<=h):0<=r%2*h/\r%2*h<=h:=by
 rcases (by omega:r%2=0\/r%2=1) with e | e<;>rw [e]<;>omega
theorem part0 {P Q b:Int} (hP:0<P) (hQ:0<Q):b / (P*Q)=b / P / Q:=(Int.ediv_ediv_of_nonneg (Int.le_of_lt hP)).symm
theorem part1 {P Q b:Int} (hP:0<P) (hQ:0<Q):b%(P*Q) / Q=b / Q%P:=by
 have e1:=Int.emod_def b (P*Q)
 have e2:b - P*Q*(b / (P*Q))=b+Q*(-(P*(b / (P*Q)))):=by
  rw [Int.mul_neg,<-Int.sub_eq_add_neg,<-Int.mul_assoc,Int.mul_comm Q P]
 rw [e1,e2,Int.add_mul_ediv_left _ _ ⋯,Int.emod_def]
 have e3:b / (P*Q)=b / Q / P:=by rw [Int.mul_comm,Int.ediv_ediv_of_nonneg (Int.le_of_lt hQ)]
 rw [e3]
 omega
theorem part2 {P Q b:Int}:b%(P*Q)%Q=b%Q:=Int.emod_emod_of_dvd b (Int.dvd_mul_left P Q)
theorem DE {P Q b:Int} (hP:0<P) (hQ:0<Q) (h0:0<=b) (h1:b<2*(P*Q)) :
  (0<=b / P / Q/\b / P / Q<=1)/\(0<=b / Q%P/\b / Q%P<P)/\(0<=b%Q/\b%Q<Q):=by
 refine ⟨⟨?_,?_⟩,⟨Int.emod_nonneg _ ⋯,Int.emod_lt_of_pos _ hP⟩,⟨Int.emod_nonneg _ ⋯,Int.emod_lt_of_pos _ hQ⟩⟩
 ·exact Int.ediv_nonneg (Int.ediv_nonneg h0 (Int.le_of_lt hP)) (Int.le_of_lt hQ)
 ·rw [<- part0 hP hQ]
  have:b / (P*Q)<2:=Int.ediv_lt_of_lt_mul (Int.mul_pos hP hQ) h1
  omega
theorem Er {ns:List Int} {j:Int} (h0:0<=j) (h:¬ j<(ns.length:Int)):ns.getD j.toNat 0=0:=by
 rw [List.getD_eq_getElem?_getD,List.getElem?_eq_none ⋯]
 rfl
theorem VE:oIx (.lst (a::b::c::d::r)) (.int 3)=.ok d:=oG (k:=3) rfl
theorem VD:oIx (.lst (a::b::c::d::e::r)) (.int 4)=.ok e:=oG (k:=4) rfl
def sgn (E F b:Int):Int:=b / pw E / pw F
def fld (E F b:Int):Int:=b / pw F%pw E
def fig (F b:Int):Int:=b%pw F
def In (E F b:Int):Prop:=0<=b/\b<pw (E+F+1)
theorem In.parts {E F b:Int} (h:Sz E F) (hb:In E F b):(0<=sgn E F b/\sgn E F b<=1)/\(0<=fld E F b/\fld E F b<pw E)/\(0<=fig F b/\fig F b<pw F):=by
 obtain ⟨h1,h2,h3,h4⟩:=h
 have eW:pw (E+F+1)=2*(pw E*pw F):=by rw [gz ⋯,aY ⋯ ⋯]
 exact DE (P:=pw E) (Q:=pw F) (b:=b) (ah _) (ah _) hb.1 (by rw [<- eW];exact hb.2)
def jn (E F s f g:Int):Int:=s*pw ↥0+f*pw F+g
def kindS (E f g:Int):Str:=if f=0 then (if g=0 then "nought" else "faint") else if f=pw E - 1 then (if g=0 then "endless" else "none") else "plain"
def wh (F f g:Int):Int:=if f=0 then g else pw F+g
def lo (E F:Int):Int:=2 - pw (E - 1) - F
def po (E F f:Int):Int:=if f=0 then lo E F else lo E F+f - 1
def frT (w p:Int):Int:=if 0<=p then w*pw p else w
def frB (p:Int):Int:=if 0<=p then 1 else pw (-p)
theorem cT {E F:Int} (h:Sz E F):pw E<=32768:=ip h.2.1
theorem AD {E F:Int} (h:Sz E F):pw F<=5192296858534827628530496329220096:=ip h.2.2.2
theorem rl {E F:Int} (h:Sz E F):pw (E - 1)<=16384:=ip (b:=14) (by have:=h.2.1;omega)
theorem bP {i:Int} {k:Nat} (h0:0<=i) (h:i<2^k):nb i<=k:=mD.mpr (by
 have:((i.natAbs:Nat):Int)<((2^k:Nat):Int):=by rw [Int.natAbs_of_nonneg h0];simpa using h
 exact Int.ofNat_lt.mp this)
theorem dq {s t:Int} (h0:0<=s) (h1:s<=1) (ht:nb t<=100000):MulOk s t:=by
 have:nb s<=1:=bP h0 ⋯
 unfold MulOk;omega
theorem dH {k:Int} (h0:0<=k) (h1:k<=1000000):bH (.int 1) (.int k)=.ok (.int (pw k)):=by
 have:nb (1:Int)=1:=by decide
 rw [av h0 ⋯,Int.one_mul]
theorem Jb {ns:List Int} (hb:∀ m∈ns,nb m<=2^20) (k:Nat):nb (ns.getD k 0)<=2^20:=by
 rw [List.getD_eq_getElem?_getD]
 cases h:ns[k]? with
 | none=>exact Nat.zero_le _
 | some v=>exact hb v (List.mem_of_getElem? h)
theorem zQ {E F b:Int} (h:Sz E F) (hb:In E F b):nb (wh F (fld E F b) (fig F b))<=128:=by
 obtain ⟨_,_,i3⟩:=hb.parts h
 have:=AD h
 have:=ah F
 unfold wh
 split
 ·exact bP i3.1 ⋯
 ·exact bP ⋯ ⋯
theorem HK {E F b:Int} (h:Sz E F) (hb:In E F b) : -100000<=po E F (fld E F b)/\po E F (fld E F b)<=100000:=by
 obtain ⟨_,i2,_⟩:=hb.parts h
 have:=cT h
 have:=rl h
 have:=ah (E - 1)
 obtain ⟨h1,h2,h3,h4⟩:=h
 unfold po lo
 split<;>omega
theorem Jx {α:Type} {xs:List α} {lo hi:Option Int} {d:α} (h:d∈EV.cut xs lo hi):d∈xs:=List.mem_of_mem_drop (List.mem_of_mem_take h)
end EV
namespace EV
def cd (E F b:Int):Int:=b%pw ↥0
def rk (E F b:Int):Int:=if pw ↥0<=b then -(cd E F b) else cd E F b
def vl (F c:Int):Int:=if c / pw F=0 then c else (pw F+c%pw F)*pw (c / pw F - 1)
def nn (E F b:Int):Prop:=pw ↥0 - pw F<cd E F b
noncomputable instance {E F b:Int}:Decidable (nn E F b):=inferInstanceAs (Decidable (_<_))
section
variable {E F a b c c':Int}
theorem FU (h:Sz E F):cd E F b / pw F=fld E F b:=by
 obtain ⟨h1,h2,h3,h4⟩:=h
 unfold cd fld;rw [aY ⋯ ⋯,part1 (ah _) (ah _)]
theorem FR (h:Sz E F):cd E F b%pw F=fig F b:=by
 obtain ⟨h1,h2,h3,h4⟩:=h
 unfold cd fig;rw [aY ⋯ ⋯,part2]
theorem EG (h:Sz E F):cd E F b=fld E F b*pw F+fig F b:=by
 have:=Int.mul_ediv_add_emod (cd E F b) (pw F)
 rw [FU h,FR h,Int.mul_comm] at this
 exact this.symm
theorem ay (h:Sz E F):4*pw F<=pw ↥0:=by
 obtain ⟨h1,h2,h3,h4⟩:=h
 have:=ah F
 rw [aY ⋯ ⋯];exact Int.mul_le_mul_of_nonneg_right (rj h1) ⋯
theorem lA (h:Sz E F):pw (E+F+1)=2*pw ↥0:=by
 obtain ⟨h1,h2,h3,h4⟩:=h
 exact gz ⋯
theorem FH (F b:Int):0<=fig F b/\fig F b<pw F:=⟨Int.emod_nonneg _ (by have:=ah F;omega),Int.emod_lt_of_pos _ (ah F)⟩
theorem Fp (h:Sz E F) (hb:In E F b):sgn E F b=if pw ↥0<=b then 1 else 0:=by
 obtain ⟨h1,h2,h3,h4⟩:=id h
 have e0:sgn E F b=b / pw ↥0:=by unfold sgn;rw [aY ⋯ ⋯,part0 (ah _) (ah _)]
 have hw:=lA h
 have hp:=ah ↥0
 obtain ⟨b0,b1⟩:=hb
 rw [e0]
 split
 ·rename_i z
  have l:1<=b / pw ↥0:=Int.le_ediv_of_mul_le hp ⋯
  have u:b / pw ↥0<2:=Int.ediv_lt_of_lt_mul hp ⋯
  omega
 ·rename_i z
  exact Int.ediv_eq_zero_of_lt b0 ⋯
theorem qG:vl F 0=0:=by unfold vl;simp
theorem nL (h0:0<=c) (h:c<c'):vl F c<vl F c':=by
 have hQ:=ah F
 have hm:c / pw F<=c' / pw F:=Int.ediv_le_ediv hQ ⋯
 have hf0:0<=c / pw F:=Int.ediv_nonneg h0 ⋯
 have e:=Int.mul_ediv_add_emod c (pw F)
 have e':=Int.mul_ediv_add_emod c' (pw F)
 have r0:=Int.emod_nonneg c (show pw F≠0 by omega)
 have r1:=Int.emod_lt_of_pos c hQ
 have s0:=Int.emod_nonneg c' (show pw F≠0 by omega)
 have s1:=Int.emod_lt_of_pos c' hQ
 unfold vl
 generalize c / pw F=f at *
 generalize c' / pw F=f' at *
 generalize c%pw F=r at *
 generalize c'%pw F=r' at *
 by_cases z:f=0
 ·rw [if_pos z]
  subst z
  by_cases z':f'=0
  ·rw [if_pos z'];exact h
  ·rw [if_neg z']
   have p1:1<=pw (f' - 1):=ah _
   have:(pw F+r')*1<=(pw F+r')*pw (f' - 1):=Int.mul_le_mul_of_nonneg_left p1 ⋯
   rw [Int.mul_zero] at e
   omega
 ·rw [if_neg z,if_neg ⋯]
  by_cases q:f=f'
  ·subst q
   exact Int.mul_lt_mul_of_pos_right ⋯ (ah _)
  ·have e1:pw f=2*pw (f - 1):=lJ ⋯
   have e2:pw f<=pw (f' - 1):=ip ⋯
   have k1:(pw F+r)*pw (f - 1)<(2*pw F)*pw (f - 1):=Int.mul_lt_mul_of_pos_right ⋯ (ah _)
   have k2:(2*pw F)*pw (f - 1)=pw F*pw f:=by rw [e1,Int.mul_comm 2,Int.mul_assoc]
   have k3:pw F*pw f<=pw F*pw (f' - 1):=Int.mul_le_mul_of_nonneg_left e2 ⋯
   have k4:pw F*pw (f' - 1)<=(pw F+r')*pw (f' - 1):=Int.mul_le_mul_of_nonneg_right ⋯ (Int.le_of_lt (ah _))
   omega
theorem zV (h0:0<=c) (h1:0<=c'):(vl F c<vl F c'↔c<c')/\(vl F c=vl F c'↔c=c'):=by
 rcases Int.lt_trichotomy c c' with q | q | q
 ·have:=nL (F:=F) h0 q;omega
 ·subst q;omega
 ·have:=nL (F:=F) h1 q;omega
theorem bB (h0:0<=c):0<=vl F c/\(vl F c=0↔c=0):=by
 have:=zV (F:=F) (Int.le_refl 0) h0
 have:=zV (F:=F) h0 (Int.le_refl 0)
 rw [qG] at *
 omega
theorem zU (h:Sz E F) (h0:0<=c) (h1:c<pw ↥0):c / pw F<pw E/\0<=c / pw F:=by
 obtain ⟨k1,k2,k3,k4⟩:=h
 refine ⟨Int.ediv_lt_of_lt_mul (ah _) ?_,Int.ediv_nonneg h0 (Int.le_of_lt (ah _))⟩
 rw [<- aY ⋯ ⋯];exact h1
def ng (E F b:Int):Int:=if pw ↥0<=b then b - pw ↥0 else b+pw ↥0
theorem V3 (h:Sz E F) (hb:In E F b):b=(if pw ↥0<=b then 1 else 0)*pw ↥0+cd E F b:=by
 have hw:=lA h
 obtain ⟨b0,b1⟩:=hb
 unfold cd
 split
 ·have:b%pw ↥0=b - pw ↥0:=by rw [<- Int.sub_emod_right,Int.emod_eq_of_lt ⋯ ⋯]
  omega
 ·rw [Int.emod_eq_of_lt b0 ⋯];omega
theorem OF (h:Sz E F) (hb:In E F b):jn E F (1 - sgn E F b) (fld E F b) (fig F b)=ng E F b:=by
 have e:=V3 h hb
 have e2:=EG (b:=b) h
 unfold jn ng
 rw [Fp h hb]
 split
 ·rename_i z
  rw [if_pos z] at e
  omega
 ·rename_i z
  rw [if_neg z] at e
  omega
def ab (E F b:Int):Int:=if rk E F b=pw ↥0 - pw F then b else if rk E F b<0 then pw ↥0 - (rk E F b+1) else rk E F b+1
def be (E F b:Int):Int:=if rk E F b = -(pw ↥0 - pw F) then b else if 0<rk E F b then rk E F b - 1 else pw ↥0 - (rk E F b - 1)
theorem end_is (h:Sz E F):(pw E - 1)*pw F=pw ↥0 - pw F:=by
 obtain ⟨h1,h2,h3,h4⟩:=h
 rw [aY ⋯ ⋯,Int.sub_mul,Int.one_mul]
theorem Gw (h0:0<=c):vl F (c+1) - vl F c=pw (max (c / pw F - 1) 0):=by
 have hQ:=ah F
 have f0:0<=c / pw F:=Int.ediv_nonneg h0 ⋯
 have e:=Int.mul_ediv_add_emod c (pw F)
 have r0:=Int.emod_nonneg c (show pw F≠0 by omega)
 have r1:=Int.emod_lt_of_pos c hQ
 by_cases q:c%pw F+1<pw F
 ·have e1:(c+1) / pw F=c / pw F:=by
   rw [show c+1=(c%pw F+1)+pw F*↥20 by omega,Int.add_mul_ediv_left _ _ ⋯,Int.ediv_eq_zero_of_lt ⋯ q];omega
  have e2:(c+1)%pw F=c%pw F+1:=by
   rw [show c+1=(c%pw F+1)+pw F*↥20 by omega,Int.add_mul_emod_self_left,Int.emod_eq_of_lt ⋯ q]
  unfold vl
  rw [e1,e2]
  by_cases z:c / pw F=0
  ·rw [if_pos z,if_pos z,z]
   have:pw (max (0 - 1) 0)=1:=rfl
   omega
  ·rw [if_neg z,if_neg z,show max (c / pw F - 1) 0=c / pw F - 1 by omega,<-Int.sub_mul]
   rw [show pw F+(c%pw F+1) - (pw F+c%pw F)=1 by omega,Int.one_mul]
 ·have e1:(c+1) / pw F=c / pw F+1:=by
   rw [show c+1=0+pw F*(c / pw F+1) by rw [Int.mul_add];omega,Int.add_mul_ediv_left _ _ ⋯];simp
  have e2:(c+1)%pw F=0:=by
   rw [show c+1=0+pw F*(c / pw F+1) by rw [Int.mul_add];omega,Int.add_mul_emod_self_left];simp
  unfold vl
  rw [e1,e2,if_neg ⋯]
  by_cases z:c / pw F=0
  ·rw [if_pos z,z]
   have k1:pw (max (0 - 1) 0)=1:=rfl
   have k2:pw ((0:Int)+1 - 1)=1:=rfl
   rw [k1,k2]
   rw [z,Int.mul_zero] at e
   omega
  ·rw [if_neg z,show max (c / pw F - 1) 0=c / pw F - 1 by omega,show c / pw F+1 - 1=c / pw F by omega,lJ (F:=c / pw F) ⋯]
   generalize pw (c / pw F - 1)=m
   rw [show pw F+0=pw F by omega,show pw F+c%pw F=2*pw F - 1 by omega,Int.sub_mul,Int.one_mul,<-Int.mul_assoc,Int.mul_comm (pw F) 2]
   omega
theorem Kh (hn:0<=n) (h0:0<=b) (h1:b<pw n) (k0:0<=k) (k1:k<n):0<=((b.toNat ^^^ (pw k).toNat:Nat):Int)/\((b.toNat ^^^ (pw k).toNat:Nat):Int)<pw n:=by
 have c1:pw n=((2^n.toNat:Nat):Int):=by unfold pw;simp
 have c2:(pw k).toNat=2^k.toNat:=by
  have:pw k=((2^k.toNat:Nat):Int):=by unfold pw;simp
  rw [this];exact Int.toNat_natCast _
 have g1:b.toNat<2^n.toNat:=by rw [c1] at h1;omega
 have g2:(pw k).toNat<2^n.toNat:=by rw [c2];exact Nat.pow_lt_pow_right ↥1 ⋯
 have:=Nat.xor_lt_two_pow g1 g2
 rw [c1]
 omega
theorem ku (h0:0<=i) (h1:0<=j):eZ (.int i) (.int j)=.ok (.int ((i.toNat ^^^ j.toNat:Nat):Int)):=by
 unfold eZ;simp only;rw [if_pos ⟨h0,h1⟩]
theorem kr {x a b:PySem.Str}:oIn (.str x) (.tup [.str a,.str b])=.ok (.bl (decide (a=x\/b=x))):=by
 unfold oIn isIn
 simp only [D.sc,List.all_cons,List.all_nil,Bool.and_self,Bool.and_true,if_true,List.any_cons,List.any_nil,D.beq,Bool.or_false]
 by_cases h1:a=x<;>by_cases h2:b=x<;>simp [h1,h2]
end
end EV
namespace EV
section
variable {t n p k a b c:Int}
theorem bC (h:p<=0):pw p=1:=by unfold pw;rw [Int.toNat_of_nonpos h];rfl
theorem dM (hc:0<c):a*c<b*c↔a<b:=⟨fun h=>Int.lt_of_mul_lt_mul_right h (Int.le_of_lt hc),fun h=>Int.mul_lt_mul_of_pos_right h hc⟩
theorem ri (hk:0<=k):pw (p+k)*pw (-p)=pw k*pw p*pw (-(p+k)):=by
 by_cases h1:0<=p
 ·rw [bC (p := -p) ⋯,bC (p := -(p+k)) ⋯,aY h1 hk,Int.mul_one,Int.mul_one,Int.mul_comm]
 ·by_cases h2:0<=p+k
  ·rw [bC (p:=p) ⋯,bC (p := -(p+k)) ⋯,<-aY h2 ⋯,show p+k + -p=k by omega];omega
  ·rw [bC (p:=p) ⋯,bC (p:=p+k) ⋯,Int.one_mul,Int.mul_one,<-aY hk ⋯,show k + -(p+k) = -p by omega]
def Lt (t n p:Int):Prop:=t*pw (-p)<n*pw p
noncomputable instance:Decidable (Lt t n p):=inferInstanceAs (Decidable (_<_))
theorem kz (hk:0<=k):t*pw (-p)<pw k*(n*pw p)↔Lt t n (p+k):=by
 have z1:=ah (-(p+k))
 have z2:=ah (-p)
 unfold Lt
 rw [<- dM z1,<-dM (a:=t*pw (-(p+k))) z2]
 have e1:pw k*(n*pw p)*pw (-(p+k))=n*pw (p+k)*pw (-p):=by
  rw [Int.mul_assoc n,ri hk,<-Int.mul_assoc (pw k),Int.mul_comm (pw k) n]
  simp only [Int.mul_assoc]
 have e2:t*pw (-p)*pw (-(p+k))=t*pw (-(p+k))*pw (-p):=Int.mul_right_comm ..
 rw [e1,e2]
theorem Mf (h:0<t):pw ((nb t:Int) - 1)<=t:=by
 have h1:¬ nb t<=nb t - 1:=by
  have:nb t≠0:=fun z=>by
   have:=mD.mp (Nat.le_of_eq z)
   omega
  omega
 rw [mD] at h1
 have h2:((2^(nb t - 1):Nat):Int)<=t:=⋯
 unfold pw
 rw [show ((nb t:Int) - 1).toNat=nb t - 1 by omega]
 simpa using h2
theorem tZ (h:0<t):1<=nb t:=by
 rcases Nat.eq_zero_or_pos (nb t) with z | z
 ·have:=mD.mp (Nat.le_of_eq z)
  omega
 ·exact z
def hgt (t n:Int):Int:=if Lt t n (nb t - nb n) then (nb t - nb n:Int) else nb t - nb n+1
theorem OE (ht:0<t) (hn:0<n):Lt t n ((nb t:Int) - nb n+1):=by
 have l1:=lN (i:=t) ⋯
 have l2:=Mf hn
 have l3:=tZ hn
 unfold Lt
 generalize hp:(nb t:Int) - nb n+1=p
 have e:=ri (p:=p) (k:=(nb n:Int) - 1) ⋯
 rw [show p+((nb n:Int) - 1)=nb t by omega,bC (p := -(nb t:Int)) ⋯,Int.mul_one] at e
 have k1:t*pw (-p)<pw (nb t)*pw (-p):=Int.mul_lt_mul_of_pos_right l1 (ah _)
 have k2:pw ((nb n:Int) - 1)*pw p<=n*pw p:=Int.mul_le_mul_of_nonneg_right l2 (Int.le_of_lt (ah _))
 omega
theorem IL (ht:0<t) (hn:0<n):¬ Lt t n ((nb t:Int) - nb n - 1):=by
 have l1:=Mf ht
 have l2:=lN (i:=n) ⋯
 have l3:=tZ ht
 unfold Lt
 generalize hp:(nb t:Int) - nb n - 1=p
 have e:=ri (p:=p) (k:=(nb n:Int)) ⋯
 rw [show p+(nb n:Int)=(nb t:Int) - 1 by omega,bC (p := -((nb t:Int) - 1)) ⋯,Int.mul_one] at e
 have k1:pw ((nb t:Int) - 1)*pw (-p)<=t*pw (-p):=Int.mul_le_mul_of_nonneg_right l1 (Int.le_of_lt (ah _))
 have k2:n*pw p<pw (nb n)*pw p:=Int.mul_lt_mul_of_pos_right l2 (ah _)
 omega
theorem Bw (ht:0<t) (hn:0<n):Lt t n (hgt t n)/\¬ Lt t n (hgt t n - 1)/\hgt t n<=nb t /\ -(nb n:Int)<=hgt t n:=by
 have l1:=tZ ht
 have l2:=tZ hn
 unfold hgt
 by_cases g:Lt t n (nb t - nb n)
 ·rw [if_pos g]
  exact ⟨g,IL ht hn,⋯,⋯⟩
 ·rw [if_neg g]
  refine ⟨OE ht hn,?_,⋯,⋯⟩
  rw [show (nb t:Int) - nb n+1 - 1=nb t - nb n by omega]
  exact g
theorem vO (hn:0<n) (h:Lt t n p) (hq:p<=q):Lt t n q:=by
 have:=(kz (t:=t) (n:=n) (p:=p) (k:=q - p) ⋯).mp (by
  have z:1<=pw (q - p):=ah _
  have y:0<n*pw p:=Int.mul_pos hn (ah _)
  have:=Int.mul_le_mul_of_nonneg_right z (Int.le_of_lt y)
  unfold Lt at h
  omega)
 rw [show p+(q - p)=q by omega] at this
 exact this
def qe (E F t n:Int):Int:=max (lo E F) (hgt t n - F - 1)
def d8 (p t:Int):Int:=t*pw (-p)
def dE (p n:Int):Int:=n*pw p
def rst (l s:Int):Int:=if l=0 then 0 else if 2*l<s then 1 else if 2*l=s then 2 else 3
theorem jB (hn:0<n):0<dE p n:=Int.mul_pos hn (ah _)
theorem rY (ht:0<=t):0<=d8 p t:=Int.mul_nonneg ht (Int.le_of_lt (ah _))
variable {E F:Int}
theorem dN (h:Sz E F) : -20000<=lo E F/\lo E F <= -1:=by
 have:=rl h
 have:2<=pw (E - 1):=jH (by have:=h.1;omega)
 obtain ⟨h1,h2,h3,h4⟩:=h
 unfold lo
 omega
theorem rX (h:Sz E F) (ht:0<t) (hn:0<n) :
  lo E F<=qe E F t n/\qe E F t n<=nb t/\d8 ↥32 t<2*pw F*dE ↥32 n/\(lo E F<qe E F t n->pw F*dE ↥32 n<=d8 ↥32 t):=by
 obtain ⟨g1,g2,g3,g4⟩:=Bw ht hn
 have l:=dN h
 obtain ⟨h1,h2,h3,h4⟩:=h
 have e:2*pw F=pw (F+1):=(gz ⋯).symm
 refine ⟨by unfold qe;omega,by unfold qe;omega,?_,fun q => ?_⟩
 ·rw [e]
  unfold d8 dE
  rw [kz ⋯]
  exact vO hn g1 (by unfold qe;omega)
 ·have hP:qe E F t n=hgt t n - F - 1:=by unfold qe at q ⊢;omega
  have:=fun z=>g2 (by
   have:=(kz (t:=t) (n:=n) (p:=qe E F t n) (k:=F) ⋯).mp z
   rw [hP,show hgt t n - F - 1+F=hgt t n - 1 by omega] at this
   exact this)
  have:=Int.not_lt.mp this
  unfold d8 dE
  omega
theorem IH (hA:0<=A) (hB:0<B) (hK:nb K<=m) (hm:m<=4000) (hw:A<K*B):fP A B:=by
 refine ⟨hB,.inr ?_⟩
 have n2:=cD hK (Nat.le_refl (nb B))
 have n3:nb A<=nb (K*B):=ef ⋯
 omega
def cG (E F t n:Int):Int:=max (lo E F) ((hgt t n+1) / 2 - F - 1)
theorem nY (h:Sz E F) (ht:0<t) (hn:0<n) :
  lo E F<=cG E F t n/\cG E F t n<=nb t/\d8 ↥12 t<(2*pw F)*(2*pw F)*dE ↥12 n/\(lo E F<cG E F t n->pw F*pw F*dE ↥12 n<=d8 ↥12 t):=by
 obtain ⟨g1,g2,g3,g4⟩:=Bw ht hn
 have l:=dN h
 have nt:=tZ ht
 obtain ⟨h1,h2,h3,h4⟩:=h
 have e:(2*pw F)*(2*pw F)=pw (2*F+2):=by
  rw [show 2*pw F=pw (F+1) from (gz ⋯).symm,<-aY ⋯ ⋯];congr 1;omega
 have e2:pw F*pw F=pw (2*F):=by rw [<- aY ⋯ ⋯];congr 1;omega
 refine ⟨by unfold cG;omega,by unfold cG;omega,?_,fun q => ?_⟩
 ·rw [e]
  unfold d8 dE
  rw [kz ⋯]
  exact vO hn g1 (by unfold cG;omega)
 ·rw [e2]
  have:=fun z=>g2 (by
   have:=(kz (t:=t) (n:=n) (p:=2*cG E F t n) (k:=2*F) ⋯).mp z
   exact vO hn this (by unfold cG at q ⊢;omega))
  have:=Int.not_lt.mp this
  unfold d8 dE
  omega
def J1 (r A B:Int):Int:=if r*r*B=A then 0 else if 4*A<(2*r+1)*(2*r+1)*B then 1 else if 4*A=(2*r+1)*(2*r+1)*B then 2 else 3
theorem K3 {r s:Int} (hr:0<=r) (hs:0<=s) (h:r*r<s*s):r<s:=by
 refine Classical.byContradiction fun z => ?_
 have:=Int.mul_le_mul (show s<=r by omega) (show s<=r by omega) hs hr
 omega
theorem FD (h:Sz E F) (hA:0<=A) (hB:0<B) (hw:A<2*pw F*B):fP A B:=by
 refine ⟨hB,.inr ?_⟩
 have n1:nb (2*pw F)<=2+113:=cD ↥1 (cX (c:=112) h.2.2.2)
 have n2:=cD n1 (Nat.le_refl (nb B))
 have n3:nb A<=nb (2*pw F*B):=ef ⋯
 omega
end
def Cp (n r:Int):Prop:=0<=r/\r*r<=n/\n<(r+1)*(r+1)
end EV
namespace EV
section
variable {E F t n P w l A B K D:Int}
theorem GK (h:Sz E F) (hP:lo E F<=P):t*pw ↥15*dE P n=d8 P t*(n*pw (P - lo E F)):=by
 have l:=dN h
 have e:=ri (p := -P) (k:=P - lo E F) ⋯
 rw [show -P+(P - lo E F) = -(lo E F) by omega,Int.neg_neg,Int.neg_neg,bC (p:=lo E F) ⋯,Int.mul_one] at e
 unfold d8 dE
 have e2:t*pw ↥15*(n*pw P)=t*n*(pw ↥15*pw P):=by
  rw [Int.mul_assoc,Int.mul_assoc,<-Int.mul_assoc (pw ↥15),Int.mul_comm (pw ↥15) n,Int.mul_assoc]
 have e3:t*pw (-P)*(n*pw (P - lo E F))=t*n*(pw (P - lo E F)*pw (-P)):=by
  rw [Int.mul_assoc,Int.mul_assoc,<-Int.mul_assoc (pw (-P)),Int.mul_comm (pw (-P)) n,Int.mul_assoc,Int.mul_comm (pw (-P))]
 rw [e2,e3,e]
def codeOf (E F P w:Int):Int:=(P - lo E F)*pw F+w
theorem kO (h:Sz E F) (hP:lo E F<=P) (w0:0<=w) (w1:w<2*pw F) (w2:lo E F<P->pw F<=w):0<=codeOf E F P w /\
  ((w<pw F/\P=lo E F/\codeOf E F P w=w)\/(pw F<=w/\codeOf E F P w / pw F=P - lo E F+1/\codeOf E F P w%pw F=w - pw F)):=by
 have hQ:=ah F
 have z:0<=(P - lo E F)*pw F:=Int.mul_nonneg ⋯ ⋯
 refine ⟨by unfold codeOf;omega,?_⟩
 by_cases g:w<pw F
 ·have e:P=lo E F:=by
   refine Classical.byContradiction fun q => ?_
   have:=w2 ⋯
   omega
  refine .inl ⟨g,e,?_⟩
  unfold codeOf
  rw [e,Int.sub_self,Int.zero_mul,Int.zero_add]
 ·refine .inr ⟨⋯,?_,?_⟩
  ·have e:codeOf E F P w=(w - pw F)+pw F*(P - lo E F+1):=by
    unfold codeOf;rw [Int.mul_add,Int.mul_comm (pw F) (P - lo E F)];omega
   rw [e,Int.add_mul_ediv_left _ _ ⋯,Int.ediv_eq_zero_of_lt ⋯ ⋯];omega
  ·have e:codeOf E F P w=(w - pw F)+pw F*(P - lo E F+1):=by
    unfold codeOf;rw [Int.mul_add,Int.mul_comm (pw F) (P - lo E F)];omega
   rw [e,Int.add_mul_emod_self_left,Int.emod_eq_of_lt ⋯ ⋯]
theorem rZ (h:Sz E F) (hP:lo E F<=P) (w0:0<=w) (w1:w<2*pw F) (w2:lo E F<P->pw F<=w) :
  vl F (codeOf E F P w)=w*pw (P - lo E F)/\vl F (codeOf E F P w+1)=(w+1)*pw (P - lo E F):=by
 have hQ:=ah F
 obtain ⟨c0,c⟩:=kO h hP w0 w1 w2
 have s:=Gw (F:=F) c0
 have e1:vl F (codeOf E F P w)=w*pw (P - lo E F):=by
  rcases c with ⟨c1,c2,c3⟩ | ⟨c1,c2,c3⟩
  ·unfold vl
   rw [c3,c2,if_pos (Int.ediv_eq_zero_of_lt w0 c1),Int.sub_self,show pw 0=1 from rfl,Int.mul_one]
  ·unfold vl
   rw [c2,c3,if_neg ⋯,show P - lo E F+1 - 1=P - lo E F by omega,show pw F+(w - pw F)=w by omega]
 refine ⟨e1,?_⟩
 have e2:max (codeOf E F P w / pw F - 1) 0=P - lo E F:=by
  rcases c with ⟨c1,c2,c3⟩ | ⟨c1,c2,c3⟩
  ·rw [c3,Int.ediv_eq_zero_of_lt w0 c1,c2];omega
  ·rw [c2];omega
 rw [e2] at s
 rw [Int.add_mul,Int.one_mul,<-e1]
 omega
theorem Hk (hB:0<B) (hK:0<K) (l0:0<=l) (l1:l<B) (e:D*B=l*K):0<=D/\D<K/\(D=0↔l=0)/\(2*D<K↔2*l<B)/\(2*D=K↔2*l=B):=by
 have k0:0<=l*K:=Int.mul_nonneg l0 (Int.le_of_lt hK)
 have d0:0<=D:=by
  refine Classical.byContradiction fun q => ?_
  have:=Int.mul_neg_of_neg_of_pos (show D<0 by omega) hB
  omega
 have d1:D<K:=by
  rw [<- dM hB,e,Int.mul_comm K]
  exact Int.mul_lt_mul_of_pos_right l1 hK
 have e2:2*D*B=2*l*K:=by rw [Int.mul_assoc,e,Int.mul_assoc]
 refine ⟨d0,d1,⟨fun q => ?_,fun q => ?_⟩,?_,?_⟩
 ·rw [q,Int.zero_mul] at e
  rcases Int.mul_eq_zero.mp e.symm with z | z
  ·exact z
  ·omega
 ·rw [q,Int.zero_mul] at e
  rcases Int.mul_eq_zero.mp e with z | z
  ·exact z
  ·omega
 ·rw [<- dM hB,e2,Int.mul_comm K,dM hK]
 ·constructor
  ·intro q
   rw [q,Int.mul_comm] at e2
   exact (Int.eq_of_mul_eq_mul_right ⋯ e2).symm
  ·intro q
   rw [q,Int.mul_comm B] at e2
   exact Int.eq_of_mul_eq_mul_right ⋯ e2
theorem between (h:Sz E F) (hn:0<n) (hP:lo E F<=P) (w0:0<=w) (w1:w<2*pw F) (w2:lo E F<P->pw F<=w) (l0:0<=l) (l1:l<dE P n) (e:d8 P t=w*dE P n+l) :
  vl F (codeOf E F P w)*n<=t*pw ↥15/\t*pw ↥15<vl F (codeOf E F P w+1)*n/\(t*pw ↥15=vl F (codeOf E F P w)*n↔l=0) /\
  (2*(t*pw ↥15) - vl F (codeOf E F P w)*n - vl F (codeOf E F P w+1)*n<0↔2*l<dE P n) /\
  (2*(t*pw ↥15) - vl F (codeOf E F P w)*n - vl F (codeOf E F P w+1)*n=0↔2*l=dE P n):=by
 obtain ⟨v1,v2⟩:=rZ h hP w0 w1 w2
 have u:=GK (t:=t) (n:=n) h hP
 have hB:=jB (p:=P) hn
 have hK:0<n*pw (P - lo E F):=Int.mul_pos hn (ah _)
 rw [v1,v2]
 have x1:w*pw (P - lo E F)*n=w*(n*pw (P - lo E F)):=by rw [Int.mul_assoc,Int.mul_comm (pw _) n]
 have x2:(w+1)*pw (P - lo E F)*n=w*(n*pw (P - lo E F))+n*pw (P - lo E F):=by rw [Int.add_mul,Int.one_mul,Int.add_mul,x1,Int.mul_comm (pw _) n]
 rw [x1,x2]
 generalize n*pw (P - lo E F)=K at *
 generalize t*pw ↥15=T at *
 rw [e,Int.add_mul] at u
 have s:=Hk (D:=T - w*K) hB hK l0 l1 (by
  rw [Int.sub_mul,u,Int.mul_right_comm w K];omega)
 omega
end
theorem cI {E F x:Int} (h:Sz E F) (x0:0<=x) (x1:x<pw ↥0):nb (vl F x)<=40000:=by
 obtain ⟨k1,k2,k3,k4⟩:=id h
 obtain ⟨v1,v2⟩:=zU h x0 x1
 have v3:=cT h
 have v4:=AD h
 obtain ⟨r0,r1⟩:=FH F x
 unfold fig at r0 r1
 unfold vl
 split
 ·exact Nat.le_trans (bP (k:=200) x0 (by
   have:pw ↥0<=pw 127:=ip ⋯
   have e:pw 127=170141183460469231731687303715884105728:=rfl
   omega)) ↥1
 ·have:=cD (bP (k:=128) (i:=pw F+x%pw F) ⋯ ⋯) (cX (k:=x / pw F - 1) (c:=32768) ⋯)
  omega
theorem lV {E F x n:Int} (h:Sz E F) (x0:0<=x) (x1:x<pw ↥0) (nn:nb n<=10000000):MulOk (vl F x) n:=by
 have:=cI h x0 x1
 unfold MulOk;omega
theorem ft (hn:0<n) (x0:0<=x) (hxy:x<y):vl F x*n<vl F y*n:=Int.mul_lt_mul_of_pos_right (nL x0 hxy) hn
section
variable {E F T n c:Int}
theorem Bk (h:Sz E F) (hn:0<n) (c0:0<=c) (h1:vl F c*n<=T) (h2:T<vl F (c+1)*n):T<n*pw F↔c<pw F:=by
 have hQ:=ah F
 have vQ:vl F (pw F)=pw F:=by
  unfold vl
  rw [Int.ediv_self ⋯,Int.emod_self,if_neg ↥1,Int.add_zero,show pw ((1:Int) - 1)=1 from rfl,Int.mul_one]
 constructor
 ·intro q
  refine Classical.byContradiction fun z => ?_
  have:vl F (pw F)*n<=vl F c*n:=by
   rcases Int.lt_or_eq_of_le (show pw F<=c by omega) with y | y
   ·exact Int.le_of_lt (ft hn ⋯ y)
   ·rw [y];exact Int.le_refl _
  rw [vQ,Int.mul_comm] at this
  omega
 ·intro q
  have:vl F (c+1)*n<=vl F (pw F)*n:=by
   rcases Int.lt_or_eq_of_le (show c+1<=pw F by omega) with y | y
   ·exact Int.le_of_lt (ft hn ⋯ y)
   ·rw [y];exact Int.le_refl _
  rw [vQ,Int.mul_comm (pw F)] at this
  omega
def mK (F T n c r:Int):Prop:=(r=0/\T=vl F c*n)\/(vl F c*n<T/\((r=1/\2*T - vl F c*n - vl F (c+1)*n<0)\/(r=2/\2*T - vl F c*n - vl F (c+1)*n=0)\/(r=3/\0<2*T - vl F c*n - vl F (c+1)*n)))
theorem Ei (b:vl F c*n<=T/\T<vl F (c+1)*n/\(T=vl F c*n↔l=0)/\(2*T - vl F c*n - vl F (c+1)*n<0↔2*l<B)/\(2*T - vl F c*n - vl F (c+1)*n=0↔2*l=B)) (l0:0<=l):mK F T n c (rst l B):=by
 obtain ⟨b1,b2,b3,b4,b5⟩:=b
 unfold mK rst
 generalize vl F c*n=u at *
 generalize vl F (c+1)*n=v at *
 by_cases g0:l=0
 ·rw [if_pos g0];left;omega
 rw [if_neg g0]
 by_cases g1:2*l<B
 ·rw [if_pos g1];right;omega
 rw [if_neg g1]
 by_cases g2:2*l=B
 ·rw [if_pos g2];right;omega
 rw [if_neg g2];right;omega
end
section
variable {E F T n c c' r r' s t w p:Int}
theorem BO (hn:0<n) (c0:0<=c) (d0:0<=c') (h1:vl F c*n<=T) (h2:T<vl F (c+1)*n) (h3:vl F c'*n<=T) (h4:T<vl F (c'+1)*n):c=c':=by
 have up:∀ x y:Int,0<=x->x<=y->vl F x*n<=vl F y*n:=fun x y x0 q=>by
  rcases Int.lt_or_eq_of_le q with z | z
  ·exact Int.le_of_lt (ft hn x0 z)
  ·rw [z];exact Int.le_refl _
 rcases Int.lt_trichotomy c c' with q | q | q
 ·have:=up (c+1) c' ⋯ ⋯;omega
 ·exact q
 ·have:=up (c'+1) c ⋯ ⋯;omega
theorem yS (h1:mK F T n c r) (h2:mK F T n c r'):r=r':=by
 unfold mK at h1 h2
 omega
theorem aA (h:Sz E F) (hs:0<=s/\s<=1) (c0:0<=c) (c1:c<pw ↥0):In E F ↥13/\sgn E F ↥13=s/\fld E F ↥13=c / pw F/\fig F ↥13=c%pw F:=by
 obtain ⟨k1,k2,k3,k4⟩:=id h
 have e1:cd E F ↥13=c:=by
  unfold cd
  rw [Int.add_comm,Int.add_mul_emod_self_right,Int.emod_eq_of_lt c0 c1]
 have e2:pw (E+F+1)=2*pw ↥0:=gz ⋯
 have hb:In E F ↥13:=by
  unfold In
  rw [e2]
  rcases (by omega:s=0\/s=1) with e | e<;>subst e<;>omega
 refine ⟨hb,?_,?_,?_⟩
 ·rw [Fp h hb]
  rcases (by omega:s=0\/s=1) with e | e<;>subst e
  ·rw [if_neg ⋯]
  ·rw [if_pos ⋯]
 ·have:=FU (b:=s*pw ↥0+c) h
  rw [e1] at this
  exact this.symm
 ·have:=FR (b:=s*pw ↥0+c) h
  rw [e1] at this
  exact this.symm
theorem je:wh F ↥20 (c%pw F)*pw (po E F ↥20 - lo E F)=vl F c:=by
 unfold wh po vl
 split
 ·rename_i g
  rw [Int.sub_self,show pw 0=1 from rfl,Int.mul_one]
  have e:=Int.ediv_mul_add_emod c (pw F)
  rw [g] at e
  omega
 ·rw [show lo E F+c / pw F - 1 - lo E F=c / pw F - 1 by omega]
theorem vz (c0:0<=c):lo E F<=po E F ↥20:=by
 have:=Int.ediv_nonneg c0 (Int.le_of_lt (ah F))
 unfold po
 split<;>omega
theorem v7 (h:Sz E F) (hp:lo E F<=p):frT w p*pw ↥15=w*pw (p - lo E F)*frB p:=by
 have l:=dN h
 unfold frT frB
 split
 ·rw [Int.mul_assoc,<-aY ⋯ ⋯,Int.mul_one,show p + -lo E F=p - lo E F by omega]
 ·rw [Int.mul_assoc,<-aY ⋯ ⋯,show p - lo E F + -p = -lo E F by omega]
end
end EV
namespace EV
inductive Wy where
 | even | away | nought | up | down
def Wy.s:Wy->PySem.Str
 | .even=>"even" | .away=>"away" | .nought=>"nought" | .up=>"up" | .down=>"down"
def Wy.out:Wy->Int->Bool
 | .up,s=>decide (s=0)
 | .down,s=>decide (s=1)
 | _,_=>false
def Wy.brs:Wy->Int->Bool
 | .even,_=>true
 | .away,_=>true
 | w,s=>w.out s
def Wy.grw:Wy->Int->Bool->Int->Bool
 | .even,_,odd,r=>decide (r=3)||(decide (r=2)&&odd)
 | .away,_,_,r=>decide (2<=r)
 | w,s,_,_=>w.out s
def sJ (w:Wy):D:=.ins "Way" [("name",.str w.s)]
def CM:List PySem.Str:=["even","away","nought","up","down"]
def Wy.near (w:Wy) (o:Bool) (l:Int) (e:Bool):Bool:=match w with
 | .even=>decide (l<0)||(decide (l=0)&&e)
 | .away=>decide (l<0)
 | _ => !o
def Wy.far (w:Wy) (o:Bool) (l:Int) (e:Bool):Bool:=match w with
 | .even=>decide (0<l)||(decide (l=0)&&e)
 | .away=>decide (0<=l)
 | _=>o
def stK (w:Wy) (E F s c r:Int):Int:=if pw ↥0 - pw F<=c then (if w.brs s then pw ↥0 - pw F else pw ↥0 - pw F - 1) else if r=0 then c else if w.grw s (decide (c%2=1)) r then c+1 else c
def stF (w:Wy) (E F s c r:Int):Int:=if pw ↥0 - pw F<=c then 5 else if r=0 then 0 else if stK w E F s c r=pw ↥0 - pw F then 5 else if c<pw F then 3 else 1
theorem iS (h:0<=i):rq (.int i) (.int 1)=.ok (.int (i%2)):=by
 unfold rq
 simp only
 rw [if_pos ⟨h,by decide⟩]
 congr 2
 rw [show (1:Int).toNat=1 from rfl,Nat.and_one_is_mod]
 omega
theorem vD {x:PySem.Str} {ys:List PySem.Str}:eC (.str x) (.tup (ys.map D.str))=.ok (.bl (decide (x∉ys))):=by
 have h1:∀ ys:List PySem.Str,(ys.map D.str).all D.sc=true:=fun ys=>by induction ys with
  | nil=>rfl
  | cons a l ih=>simp only [List.map_cons,List.all_cons,ih,D.sc,Bool.and_self]
 have h2:∀ ys:List PySem.Str,((ys.map D.str).any fun y=>D.beq y (.str x))=decide (x∈ys):=fun ys=>by induction ys with
  | nil=>rfl
  | cons a l ih =>
   simp only [List.map_cons,List.any_cons,ih,D.beq]
   by_cases h:a=x
   ·subst h;simp
   ·have:¬ x=a:=fun z=>h z.symm
    simp [h,this]
 unfold eC oIn isIn
 simp only [D.sc,h1,Bool.and_self,if_true,h2,R.bind]
 by_cases h:x∈ys<;>simp [h]
theorem vK {w:Wy} {s c r l:Int} (h:(r=1/\l<0)\/(r=2/\l=0)\/(r=3/\0<l)) (g:w.grw s (decide (c%2=1)) r=false):w.near (w.out s) l (decide (c%2=0))=true:=by
 cases w<;>simp [Wy.near,Wy.grw,Wy.out] at g ⊢<;>first | exact g | omega
theorem BG {w:Wy} {s c r l:Int} (h:(r=1/\l<0)\/(r=2/\l=0)\/(r=3/\0<l)) (g:w.grw s (decide (c%2=1)) r=true):w.far (w.out s) l (decide ((c+1)%2=0))=true:=by
 cases w<;>simp [Wy.far,Wy.grw,Wy.out] at g ⊢<;>first | exact g | omega
theorem j2 {E F s c:Int} (h:c<pw ↥0 - pw F):stK w E F s c 0=c/\stF w E F s c 0=0:=by
 unfold stF stK
 rw [if_neg ⋯,if_pos rfl,if_neg ⋯,if_pos rfl]
 exact ⟨rfl,rfl⟩
section
variable {E F s T T' n k c c' r r':Int} {w:Wy}
theorem Ag (h:Sz E F) (c0:0<=c):0<=stK w E F s c r/\stK w E F s c r<=pw ↥0 - pw F:=by
 have h5:=ay h
 have hQ:=ah F
 unfold stK
 repeat' split
 all_goals omega
theorem Ja (h:w.brs s=false):w.grw s o r=false:=by
 cases w<;>simp [Wy.brs,Wy.grw,Wy.out] at h ⊢<;>exact h
theorem E9 (hk:0<k) (h1:vl F c*n<=T) (h2:T<vl F (c+1)*n) (h3:mK F T n c r):vl F c*(n*k)<=T*k/\T*k<vl F (c+1)*(n*k)/\mK F (T*k) (n*k) c r:=by
 unfold mK at h3 ⊢
 rw [<- Int.mul_assoc,<-Int.mul_assoc]
 generalize vl F c*n=A at *
 generalize vl F (c+1)*n=B at *
 have e1:∀ x:Int,x<0->x*k<0:=fun x hx=>Int.mul_neg_of_neg_of_pos hx hk
 have e2:∀ x:Int,0<x->0<x*k:=fun x hx=>Int.mul_pos hx hk
 have e3:2*(T*k) - A*k - B*k=(2*T - A - B)*k:=by rw [Int.sub_mul,Int.sub_mul,Int.mul_assoc]
 have e4:∀ x y:Int,x<y->x*k<y*k:=fun x y q=>Int.mul_lt_mul_of_pos_right q hk
 refine ⟨Int.mul_le_mul_of_nonneg_right h1 (Int.le_of_lt hk),e4 _ _ h2,?_⟩
 rw [e3]
 rcases h3 with ⟨a,b⟩ | ⟨a,⟨b,d⟩ | ⟨b,d⟩ | ⟨b,d⟩⟩
 ·exact .inl ⟨a,by rw [b]⟩
 ·exact .inr ⟨e4 _ _ a,.inl ⟨b,e1 _ d⟩⟩
 ·exact .inr ⟨e4 _ _ a,.inr (.inl ⟨b,by rw [d,Int.zero_mul]⟩)⟩
 ·exact .inr ⟨e4 _ _ a,.inr (.inr ⟨b,e2 _ d⟩)⟩
theorem KY (g:pw ↥0 - pw F<=c):stK w E F s c r=if w.brs s then pw ↥0 - pw F else pw ↥0 - pw F - 1:=by
 unfold stK
 rw [if_pos g]
end
def At (F T n c r:Int):Prop:=0<=c/\vl F c*n<=T/\T<vl F (c+1)*n/\mK F T n c r
section
variable {E F s T T' n n' k c c' r r' b W P:Int} {w:Wy}
theorem FY (hk:0<k) (h:At F T n c r):At F (T*k) (n*k) c r:=⟨h.1,E9 hk h.2.1 h.2.2.1 h.2.2.2⟩
theorem FZ (hk:0<k) (h:At F (T*k) (n*k) c r):At F T n c r:=by
 obtain ⟨h0,h1,h2,h3⟩:=h
 unfold mK at h3
 have q1:vl F c*(n*k)=vl F c*n*k:=(Int.mul_assoc _ _ _).symm
 have q2:vl F (c+1)*(n*k)=vl F (c+1)*n*k:=(Int.mul_assoc _ _ _).symm
 rw [q1] at h1
 rw [q2] at h2
 rw [q1,q2] at h3
 have e4:∀ x y:Int,x*k<y*k->x<y:=fun x y q=>Int.lt_of_mul_lt_mul_right q (Int.le_of_lt hk)
 have e3:2*(T*k) - vl F c*n*k - vl F (c+1)*n*k=(2*T - vl F c*n - vl F (c+1)*n)*k:=by rw [Int.sub_mul,Int.sub_mul,Int.mul_assoc 2]
 rw [e3] at h3
 have e1:∀ x:Int,x*k<0->x<0:=fun x hx=>e4 x 0 (by rw [Int.zero_mul];exact hx)
 have e2:∀ x:Int,0<x*k->0<x:=fun x hx=>e4 0 x (by rw [Int.zero_mul];exact hx)
 have e5:∀ x y:Int,x*k=y*k->x=y:=fun x y q=>Int.eq_of_mul_eq_mul_right ⋯ q
 refine ⟨h0,Int.le_of_mul_le_mul_right h1 hk,e4 _ _ h2,?_⟩
 rcases h3 with ⟨a,b⟩ | ⟨a,⟨b,d⟩ | ⟨b,d⟩ | ⟨b,d⟩⟩
 ·exact .inl ⟨a,e5 _ _ b⟩
 ·exact .inr ⟨e4 _ _ a,.inl ⟨b,e1 _ d⟩⟩
 ·exact .inr ⟨e4 _ _ a,.inr (.inl ⟨b,e5 _ 0 (by rw [d,Int.zero_mul])⟩)⟩
 ·exact .inr ⟨e4 _ _ a,.inr (.inr ⟨b,e2 _ d⟩)⟩
theorem Ce (hn:0<n) (hn':0<n') (e:T'*n=T*n') (h:At F T n c r):At F T' n' c r:=by
 have:=FY hn' h
 rw [<- e,Int.mul_comm n n'] at this
 exact FZ hn this
theorem JS (hn:0<n) (h:At F T n c r) (h':At F T n c' r'):c=c'/\r=r':=by
 have e:=BO hn h.1 h'.1 h.2.1 h.2.2.1 h'.2.1 h'.2.2.1
 subst e
 exact ⟨rfl,yS h.2.2.2 h'.2.2.2⟩
theorem Fb (hn:0<n) (c0:0<=c) (e:T=vl F c*n):At F T n c 0:=⟨c0,Int.le_of_eq e.symm,by rw [e];exact ft hn c0 ⋯,.inl ⟨rfl,e⟩⟩
theorem gZ (h:Sz E F) (hb:In E F b):∃ s c,(0<=s/\s<=1)/\0<=c/\c<pw ↥0/\b=s*pw ↥0+c:=by
 have hw:=lA h
 have hH:=ah ↥0
 obtain ⟨b0,b1⟩:=hb
 by_cases g:b<pw ↥0
 ·exact ⟨0,b,by decide,b0,g,⋯⟩
 ·exact ⟨1,b - pw ↥0,by decide,⋯,⋯,⋯⟩
theorem fD (hs:0<=s/\s<=1) (c0:0<=c) (c1:c<pw ↥0):↥13%pw ↥0=c/\↥13 / pw ↥0=s:=by
 have hH:=ah ↥0
 rw [Int.add_comm,Int.add_mul_emod_self_right,Int.emod_eq_of_lt c0 c1,Int.add_mul_ediv_right _ _ ⋯,Int.ediv_eq_zero_of_lt c0 c1]
 omega
theorem mZ (h:Sz E F) (c0:0<=c) (c1:c<pw ↥0):c / pw F=pw E - 1↔pw ↥0 - pw F<=c:=by
 have hQ:=ah F
 have eM:=end_is h
 constructor
 ·intro z
  have:=Int.ediv_mul_le c (show pw F≠0 by omega)
  rw [z,eM] at this
  exact this
 ·intro z
  have a:=Int.le_ediv_of_mul_le (a:=pw E - 1) (b:=c) hQ (by rw [eM];exact z)
  have b:=(zU h c0 c1).1
  omega
theorem d6 (h:Sz E F) (c0:0<=c) (c1:c<pw ↥0) :
  (pw ↥0 - pw F<c->kindS E ↥20 (c%pw F)=PySem.Str.ofString "none")/\(c=pw ↥0 - pw F->kindS E ↥20 (c%pw F)=PySem.Str.ofString "endless")/\(c=0->kindS E ↥20 (c%pw F)=PySem.Str.ofString "nought") /\
  (0<c->c<pw ↥0 - pw F->kindS E ↥20 (c%pw F)=PySem.Str.ofString "faint"\/kindS E ↥20 (c%pw F)=PySem.Str.ofString "plain"):=by
 have hQ:=ah F
 have h5:=ay h
 have eM:=end_is h
 have hE:=rj h.1
 have l:=mZ h c0 c1
 have e:=Int.ediv_mul_add_emod c (pw F)
 have r0:=Int.emod_nonneg c (show pw F≠0 by omega)
 unfold kindS
 refine ⟨fun q => ?_,fun q => ?_,fun q => ?_,fun q q2 => ?_⟩
 ·have f:=l.mpr ⋯
  rw [f,eM] at e
  rw [f,if_neg ⋯,if_pos rfl,if_neg ⋯]
 ·have f:=l.mpr ⋯
  rw [f,eM] at e
  rw [f,if_neg ⋯,if_pos rfl,if_pos ⋯]
 ·rw [q,Int.zero_ediv,Int.zero_emod,if_pos rfl,if_pos rfl]
 ·have f:¬ c / pw F=pw E - 1:=fun z=>by have:=l.mp z;omega
  by_cases g:c / pw F=0
  ·rw [g] at e
   rw [if_pos g,if_neg ⋯]
   exact .inl rfl
  ·rw [if_neg g,if_neg f]
   exact .inr rfl
theorem jW (h:Sz E F) (c0:0<=c) (c1:c<pw ↥0 - pw F) :
  0<=frT (wh F ↥20 (c%pw F)) ↥6/\0<frB ↥6/\nb (frT (wh F ↥20 (c%pw F)) ↥6)<=200000/\nb (frB ↥6)<=200000:=by
 have hQ:=ah F
 have hb:=(aA (s:=0) (c:=c) h ↥1 c0 ⋯)
 have nw:=zQ h hb.1
 have np:=HK h hb.1
 rw [hb.2.2.1,hb.2.2.2] at nw
 rw [hb.2.2.1] at np
 have w0:0<=wh F ↥20 (c%pw F):=by
  have:=Int.emod_nonneg c (show pw F≠0 by omega)
  unfold wh
  split<;>omega
 generalize wh F ↥20 (c%pw F)=W at *
 generalize po E F ↥20=P at *
 refine ⟨?_,?_,?_,?_⟩
 ·unfold frT;split
  ·exact Int.mul_nonneg w0 (Int.le_of_lt (ah _))
  ·exact w0
 ·unfold frB;split
  ·decide
  ·exact ah _
 ·unfold frT;split
  ·have:=cD nw (cX (k:=P) (c:=100000) ⋯);omega
  ·omega
 ·unfold frB;split
  ·decide
  ·exact Nat.le_trans (cX (c:=100000) ⋯) ↥1
end
section
variable {E F E2 F2 c:Int}
theorem rep (h:Sz E F):∀ (p:Nat) (W:Int),0<=W->W<2*pw F->∃ c,0<=c/\vl F c=W*pw p
 | 0,W,w0,w1=>by
  have:=rZ (P:=lo E F) h (Int.le_refl _) w0 w1 (fun q=>⋯)
  rw [Int.sub_self] at this
  exact ⟨_,(kO h (Int.le_refl _) w0 w1 (fun q=>⋯)).1,this.1⟩
 | p+1,W,w0,w1=>by
  by_cases g:pw F<=W
  ·have:=rZ (P:=lo E F+(p+1:Nat)) h ⋯ w0 w1 (fun q=>g)
   rw [show lo E F+(p+1:Nat) - lo E F=(p+1:Nat) by omega] at this
   exact ⟨_,(kO (P:=lo E F+(p+1:Nat)) h ⋯ w0 w1 (fun q=>g)).1,this.1⟩
  ·obtain ⟨c,c0,e⟩:=rep h p (2*W) ⋯ ⋯
   refine ⟨c,c0,?_⟩
   rw [e,show ((p+1:Nat):Int)=(p:Int)+1 by omega,gz ⋯,Int.mul_assoc,Int.mul_left_comm]
theorem Fj (h:Sz E F):vl F (pw ↥0 - pw F)=pw (pw (E - 1) + -(lo E F)):=by
 obtain ⟨h1,h2,h3,h4⟩:=id h
 have hQ:=ah F
 have hE:=rj h1
 have e2:pw E=2*pw (E - 1):=by
  have:=gz (a:=E - 1) ⋯
  rw [show E - 1+1=E by omega] at this
  exact this
 unfold vl
 rw [<- end_is h,Int.mul_ediv_cancel _ ⋯,Int.mul_emod_left,if_neg ⋯,Int.add_zero,<-aY ⋯ ⋯]
 congr 1
 unfold lo
 omega
end
def whW (w:Wy) (s t n:Int):Int:=if rst (t%n) n=0 then t / n else if w.grw s (decide (t / n%2=1)) (rst (t%n) n) then t / n+1 else t / n
section
variable {E F s t n c T Z:Int} {w:Wy}
theorem mW:rst t n=0↔t=0:=by
 unfold rst
 constructor
 ·intro h
  repeat' split at h
  all_goals first | assumption | omega
 ·intro h
  rw [if_pos h]
theorem wL (ht:0<=t) (hn:0<n):0<=whW w s t n/\t / n<=whW w s t n/\whW w s t n<=t / n+1:=by
 have:=Int.ediv_nonneg ht (Int.le_of_lt hn)
 unfold whW
 repeat' split
 all_goals omega
theorem wM (hn:0<n) (hZ:0<Z) (e:t*Z=T*n) :
  (T - whW w s t n*Z=0/\whW w s t n=t / n) \/
  (0<T - whW w s t n*Z/\T - whW w s t n*Z<Z/\whW w s t n=t / n/\w.near (w.out s) (2*(T - whW w s t n*Z) - Z) (decide (whW w s t n%2=0))=true) \/
  (T - whW w s t n*Z<0 /\ -Z<T - whW w s t n*Z/\whW w s t n=t / n+1/\w.brs s=true/\w.far (w.out s) (2*(T - whW w s t n*Z)+Z) (decide (whW w s t n%2=0))=true):=by
 have l0:=Int.emod_nonneg t (show n≠0 by omega)
 have l1:=Int.emod_lt_of_pos t hn
 have q:=Int.ediv_mul_add_emod t n
 have st:=Hk (D:=T - t / n*Z) hn hZ l0 l1 (by
  rw [Int.sub_mul,<-e]
  have:t / n*Z*n=t / n*n*Z:=Int.mul_right_comm _ _ _
  rw [this,<-Int.sub_mul]
  congr 1
  omega)
 obtain ⟨d0,d1,d2,d3,d4⟩:=st
 generalize hD:T - t / n*Z=D at *
 by_cases g:rst (t%n) n=0
 ·left
  have e1:whW w s t n=t / n:=by unfold whW;rw [if_pos g]
  rw [e1,hD]
  exact ⟨d2.mpr (mW.mp g),rfl⟩
 have D0:0<D:=by
  have:¬ D=0:=fun z=>g (mW.mpr (d2.mp z))
  omega
 have hr:(rst (t%n) n=1/\2*D - Z<0)\/(rst (t%n) n=2/\2*D - Z=0)\/(rst (t%n) n=3/\0<2*D - Z):=by
  have g0:¬ t%n=0:=fun z=>g (mW.mpr z)
  unfold rst
  rw [if_neg g0]
  by_cases g1:2*(t%n)<n
  ·rw [if_pos g1];omega
  rw [if_neg g1]
  by_cases g2:2*(t%n)=n
  ·rw [if_pos g2];omega
  rw [if_neg g2];omega
 right
 cases gg:w.grw s (decide (t / n%2=1)) (rst (t%n) n)
 ·left
  have e1:whW w s t n=t / n:=by unfold whW;rw [if_neg g,gg];rfl
  rw [e1,hD]
  exact ⟨D0,d1,rfl,vK hr gg⟩
 ·right
  have e1:whW w s t n=t / n+1:=by unfold whW;rw [if_neg g,gg];rfl
  rw [e1,Int.add_mul,Int.one_mul,show T - (t / n*Z+Z)=D - Z by omega]
  refine ⟨⋯,⋯,rfl,?_,BG (l:=2*(D - Z)+Z) ⋯ gg⟩
  cases gb:w.brs s
  ·rw [Ja gb] at gg;cases gg
  ·rfl
end
theorem yo {E F s c:Int} (h:Sz E F) (c0:0<=c) (c1:c<pw ↥0 - pw F) :
  ∃ d,0<=d/\d<=pw ↥0 - pw F/\vl F d=whW w s (frT (wh F ↥20 (c%pw F)) ↥6) (frB ↥6)*pw ↥15/\(d=pw ↥0 - pw F->w.brs s=true):=by
 have hQ:=ah F
 have h5:=ay h
 have l:=dN h
 obtain ⟨f1,f2,f3,f4⟩:=jW h c0 c1
 have e:=v7 (w:=wh F ↥20 (c%pw F)) h (vz (E:=E) (F:=F) c0)
 rw [je] at e
 have r0:=Int.emod_nonneg c (show pw F≠0 by omega)
 have r1:=Int.emod_lt_of_pos c hQ
 have w0:0<=wh F ↥20 (c%pw F)/\wh F ↥20 (c%pw F)<2*pw F:=by
  unfold wh
  split<;>omega
 have hZ:=ah ↥15
 have wn:=wL (w:=w) (s:=s) f1 f2
 have lies:=wM (w:=w) (s:=s) f2 hZ e
 have vc:=nL (F:=F) c0 c1
 have hp1:=ah (E - 1)
 have ex:∃ d,0<=d/\vl F d=whW w s (frT (wh F ↥20 (c%pw F)) ↥6) (frB ↥6)*pw ↥15:=by
  by_cases g:0<=po E F ↥20
  ·refine ⟨c,c0,?_⟩
   have en:frB ↥6=1:=by unfold frB;rw [if_pos g]
   rw [en] at e lies wn ⊢
   rw [Int.mul_one] at e
   rcases lies with ⟨a,b⟩ | ⟨a,a2,b,_⟩ | ⟨a,a2,b,_⟩
   ·omega
   ·rw [Int.ediv_one] at b
    rw [b,e] at a
    omega
   ·rw [Int.ediv_one] at b
    unfold whW at b
    rw [Int.emod_one,if_pos (mW.mpr rfl),Int.ediv_one] at b
    omega
  ·have et:frT (wh F ↥20 (c%pw F)) ↥6=wh F ↥20 (c%pw F):=by unfold frT;rw [if_neg g]
   have en:frB ↥6=pw (-↥6):=by unfold frB;rw [if_neg g]
   have n2:=jH (F := -↥6) ⋯
   rw [et] at wn ⊢
   have q:wh F ↥20 (c%pw F) / frB ↥6<=pw F - 1:=by
    have:wh F ↥20 (c%pw F) / frB ↥6<pw F:=Int.ediv_lt_of_lt_mul f2 (by
     have:=Int.mul_le_mul_of_nonneg_left (show 2<=frB ↥6 by omega) (show 0<=pw F by omega)
     omega)
    omega
   obtain ⟨d,d0,ed⟩:=rep h (-(lo E F)).toNat (whW w s (wh F ↥20 (c%pw F)) (frB ↥6)) wn.1 ⋯
   rw [show (((-(lo E F)).toNat:Nat):Int) = -(lo E F) by omega] at ed
   exact ⟨d,d0,ed⟩
 obtain ⟨d,d0,ed⟩:=ex
 have vt:=Fj h
 have vt2:pw (pw (E - 1) + -(lo E F))=pw (pw (E - 1))*pw ↥15:=aY ⋯ ⋯
 rw [vt2] at vt
 have tl:frT (wh F ↥20 (c%pw F)) ↥6<pw (pw (E - 1))*frB ↥6:=by
  have a:vl F c*frB ↥6<pw (pw (E - 1))*pw ↥15*frB ↥6:=Int.mul_lt_mul_of_pos_right ⋯ f2
  rw [<- e,Int.mul_right_comm] at a
  exact Int.lt_of_mul_lt_mul_right a (Int.le_of_lt hZ)
 have tq:=Int.ediv_lt_of_lt_mul f2 tl
 have wl:=Int.mul_le_mul_of_nonneg_right (show whW w s (frT (wh F ↥20 (c%pw F)) ↥6) (frB ↥6)<=pw (pw (E - 1)) by omega) (Int.le_of_lt hZ)
 refine ⟨d,d0,?_,ed,fun q => ?_⟩
 ·refine Classical.byContradiction fun q => ?_
  have:=nL (F:=F) (c:=pw ↥0 - pw F) (c':=d) ⋯ ⋯
  omega
 ·rw [q] at ed
  rcases lies with ⟨a,b⟩ | ⟨a,_⟩ | ⟨a,a2,b,b2,_⟩
  ·omega
  ·omega
  ·exact b2
section
variable {E F P S A B G X t n r c:Int}
theorem Ax (h:Sz E F) (hP:lo E F<=P):pw ↥15*pw ↥15*pw (2*P)=pw (-(2*P))*(pw (P - lo E F)*pw (P - lo E F)):=by
 have l:=dN h
 by_cases g:0<=P
 ·rw [bC (p := -(2*P)) ⋯,Int.one_mul,show P - lo E F=P + -(lo E F) by omega,aY (a:=P) ⋯ ⋯,show 2*P=P+P by omega,aY (a:=P) ⋯ ⋯]
  generalize pw P=x
  generalize pw ↥15=z
  rw [Int.mul_assoc z z,Int.mul_left_comm z x,Int.mul_left_comm z x,Int.mul_assoc x z,Int.mul_comm z x]
 ·have e:pw ↥15=pw (-P)*pw (P - lo E F):=by rw [<- aY ⋯ ⋯];congr 1;omega
  rw [bC (p:=2*P) ⋯,Int.mul_one,show -(2*P) = -P + -P by omega,aY (a := -P) ⋯ ⋯,e]
  generalize pw (-P)=x
  generalize pw (P - lo E F)=z
  rw [Int.mul_assoc,Int.mul_assoc,Int.mul_left_comm z x]
theorem Ay (h:Sz E F) (hP:lo E F<=P) (e:S*n=t*(pw ↥15*pw ↥15)):S*dE (2*P) n=d8 (2*P) t*(pw (P - lo E F)*pw (P - lo E F)):=by
 unfold d8 dE
 rw [<- Int.mul_assoc,e,Int.mul_assoc t,Ax h hP,Int.mul_assoc t]
theorem r9 (hB:0<B) (hG:0<G) (e:S*B=A*G):(X*G<=S↔X*B<=A)/\(X*G<S↔X*B<A)/\(X*G=S↔X*B=A):=by
 have q:X*G*B=X*B*G:=Int.mul_right_comm _ _ _
 have a1:X*G<S↔X*B<A:=by rw [<- dM hB,q,e,dM hG]
 have a2:X*G=S↔X*B=A:=by
  constructor
  ·intro z
   rw [z,e] at q
   exact (Int.eq_of_mul_eq_mul_right ⋯ q).symm
  ·intro z
   rw [z,<-e] at q
   exact Int.eq_of_mul_eq_mul_right ⋯ q
 omega
def RAt (F S c r:Int):Prop:=0<=c/\vl F c*vl F c<=S/\S<vl F (c+1)*vl F (c+1)/\((r=0/\vl F c*vl F c=S)\/(vl F c*vl F c<S/\((r=1/\4*S - (vl F c+vl F (c+1))*(vl F c+vl F (c+1))<0)\/(r=2/\4*S - (vl F c+vl F (c+1))*(vl F c+vl F (c+1))=0)\/(r=3/\0<4*S - (vl F c+vl F (c+1))*(vl F c+vl F (c+1))))))
theorem HA (h:Sz E F) (ht:0<t) (hn:0<n) (e:S*n=t*(pw ↥15*pw ↥15)) (hr:Cp (d8 ↥12 t / dE ↥12 n) r) :
  RAt F S (codeOf E F (cG E F t n) r) (J1 r (d8 ↥12 t) (dE ↥12 n)):=by
 obtain ⟨s1,s2,s3,s4⟩:=nY h ht hn
 have hB:=jB (p:=2*cG E F t n) hn
 have es:=Ay h s1 e
 obtain ⟨r0,r1,r2⟩:=hr
 have qF:=ah F
 have w1:r<2*pw F:=K3 r0 ⋯ (by
  have:d8 ↥12 t / dE ↥12 n<2*pw F*(2*pw F):=Int.ediv_lt_of_lt_mul hB s3
  omega)
 have w2:lo E F<cG E F t n->pw F<=r:=fun q=>by
  have y1:pw F*pw F<=d8 ↥12 t / dE ↥12 n:=Int.le_ediv_of_mul_le hB (s4 q)
  have:=K3 (r:=pw F) (s:=r+1) ⋯ ⋯ ⋯
  omega
 have f1:r*r*dE ↥12 n<=d8 ↥12 t:=by
  have:=Int.mul_le_mul_of_nonneg_right r1 (Int.le_of_lt hB)
  have:=Int.ediv_mul_le (d8 ↥12 t) (show dE ↥12 n≠0 by omega)
  omega
 have f2:d8 ↥12 t<(r+1)*(r+1)*dE ↥12 n:=by
  have:=Int.lt_ediv_add_one_mul_self (d8 ↥12 t) hB
  have:=Int.mul_le_mul_of_nonneg_right (show d8 ↥12 t / dE ↥12 n+1<=(r+1)*(r+1) by omega) (Int.le_of_lt hB)
  omega
 obtain ⟨v1,v2⟩:=rZ h s1 r0 w1 w2
 have hG:=ah (cG E F t n - lo E F)
 have hGG:0<pw (cG E F t n - lo E F)*pw (cG E F t n - lo E F):=Int.mul_pos hG hG
 have q1:∀ x,x*pw (cG E F t n - lo E F)*(x*pw (cG E F t n - lo E F))=x*x*(pw (cG E F t n - lo E F)*pw (cG E F t n - lo E F)):=fun x=>by
  generalize pw (cG E F t n - lo E F)=g
  rw [Int.mul_assoc,Int.mul_left_comm g x,Int.mul_assoc]
 have q2:r*pw (cG E F t n - lo E F)+(r+1)*pw (cG E F t n - lo E F)=(2*r+1)*pw (cG E F t n - lo E F):=by
  rw [<- Int.add_mul];congr 1;omega
 unfold RAt
 rw [v1,v2,q2,q1,q1,q1]
 have c1:=r9 (X:=r*r) hB hGG es
 have c2:=r9 (X:=(r+1)*(r+1)) hB hGG es
 have c3:=r9 (S:=4*S) (A:=4*d8 ↥12 t) (X:=(2*r+1)*(2*r+1)) hB hGG (by rw [Int.mul_assoc,es,Int.mul_assoc])
 refine ⟨(kO h s1 r0 w1 w2).1,⋯,⋯,?_⟩
 unfold J1
 by_cases g0:r*r*dE ↥12 n=d8 ↥12 t
 ·rw [if_pos g0];left;omega
 rw [if_neg g0]
 right
 refine ⟨⋯,?_⟩
 by_cases g1:4*d8 ↥12 t<(2*r+1)*(2*r+1)*dE ↥12 n
 ·rw [if_pos g1];omega
 rw [if_neg g1]
 by_cases g2:4*d8 ↥12 t=(2*r+1)*(2*r+1)*dE ↥12 n
 ·rw [if_pos g2];omega
 rw [if_neg g2];omega
theorem qJ {a b:Int} (ha:0<=a) (h:a<=b):a*a<=b*b:=Int.mul_le_mul h h ha ⋯
theorem Kk (hF:1<=F):vl F 1=1:=by
 have:=jH hF
 unfold vl
 rw [Int.ediv_eq_zero_of_lt ↥1 ⋯,if_pos rfl]
theorem zT:vl F (pw F)=pw F:=by
 have hQ:=ah F
 unfold vl
 rw [Int.ediv_self ⋯,Int.emod_self,if_neg ↥1,Int.add_zero,show pw ((1:Int) - 1)=1 from rfl,Int.mul_one]
theorem Hz (h:Sz E F) (c0:0<c) (c1:c<pw ↥0 - pw F) {d:Int} (a:RAt F (vl F c*pw ↥15) d r):1<=d/\d+1<pw ↥0 - pw F/\(vl F c*pw ↥15<pw F*pw F↔d<pw F):=by
 obtain ⟨k1,k2,k3,k4⟩:=id h
 obtain ⟨d0,a1,a2,a3⟩:=a
 have hQ:=jH k3
 have h5:=ay h
 have l:=dN h
 have hZ:=ah ↥15
 have hH:=jH (F:=E - 1) ⋯
 have vc:=bB (F:=F) (Int.le_of_lt c0)
 have S1:1<=vl F c*pw ↥15:=Int.mul_pos ⋯ hZ
 have vd:=bB (F:=F) d0
 refine ⟨?_,?_,?_,?_⟩
 ·refine Classical.byContradiction fun q => ?_
  have e:d=0:=⋯
  rw [e,show (0:Int)+1=1 from rfl,Kk k3] at a2
  omega
 ·have e2:pw E=2*pw (E - 1):=by
   have:=gz (a:=E - 1) ⋯
   rw [show E - 1+1=E by omega] at this
   exact this
  have eM:=end_is h
  have vm:vl F (pw ↥0 - pw F - pw F)=pw (pw (E - 1) - 1 + -(lo E F)):=by
   unfold vl
   rw [<- eM,show (pw E - 1)*pw F - pw F=(pw E - 2)*pw F by rw [show pw E - 2=pw E - 1 - 1 by omega,Int.sub_mul (pw E - 1),Int.one_mul],Int.mul_ediv_cancel _ ⋯,Int.mul_emod_left,if_neg ⋯,Int.add_zero,<-aY ⋯ ⋯]
   congr 1
   unfold lo
   omega
  have lt:d<pw ↥0 - pw F - pw F:=by
   refine Classical.byContradiction fun q => ?_
   have b1:pw (pw (E - 1) - 1 + -(lo E F))<=vl F d:=by
    rw [<- vm]
    rcases Int.lt_or_eq_of_le (show pw ↥0 - pw F - pw F<=d by omega) with z | z
    ·exact Int.le_of_lt (nL ⋯ z)
    ·rw [z];exact Int.le_refl _
   have b2:=qJ (Int.le_of_lt (ah _)) b1
   have b3:=nL (F:=F) (Int.le_of_lt c0) c1
   rw [Fj h] at b3
   have b4:=Int.mul_lt_mul_of_pos_right b3 hZ
   rw [<- aY ⋯ ⋯] at b2 b4
   have:=ip (a:=pw (E - 1) + -(lo E F) + -(lo E F)) (b:=pw (E - 1) - 1 + -(lo E F)+(pw (E - 1) - 1 + -(lo E F))) ⋯
   omega
  omega
 ·intro q
  refine Classical.byContradiction fun z => ?_
  have:pw F<=vl F d:=by
   rw [<- zT (F:=F)]
   rcases Int.lt_or_eq_of_le (show pw F<=d by omega) with y | y
   ·rw [zT]
    have:=nL (F:=F) (c:=pw F) ⋯ y
    rw [zT] at this
    omega
   ·rw [y];exact Int.le_refl _
  have:=qJ (show 0<=pw F by omega) this
  omega
 ·intro q
  have:vl F (d+1)<=pw F:=by
   rcases Int.lt_or_eq_of_le (show d+1<=pw F by omega) with y | y
   ·have:=nL (F:=F) (c:=d+1) ⋯ y
    rw [zT] at this
    omega
   ·rw [y,zT];exact Int.le_refl _
  have v1:=(bB (F:=F) (c:=d+1) ⋯).1
  have:=qJ v1 this
  omega
end
section
variable {E F s c r:Int}
theorem KZ (g:pw ↥0 - pw F<=c):stF w E F s c r=5:=by
 unfold stF
 rw [if_pos g]
end
end EV
namespace EV
open PySem
variable {E F s s' c c':Int}
def sx (s s':Int):Int:=if s=s' then 0 else 1
theorem nM:0<=sx s s'/\sx s s'<=1:=by unfold sx;split<;>decide
theorem He (hs:0<=s/\s<=1) (hs':0<=s'/\s'<=1):eZ (.int s) (.int s')=.ok (.int (sx s s')):=by
 rcases (by omega:s=0\/s=1) with e | e<;>rcases (by omega:s'=0\/s'=1) with e' | e'<;>subst e e'<;>rfl
theorem Fi (hn:0<=n) (hs:0<=s/\s<=1) (hs':0<=s'/\s'<=1) (c0:0<=c) (c1:c<pw n) (d0:0<=c') (d1:c'<pw n) :
  ∃ x,eZ (.int (s*pw n+c)) (.int (s'*pw n+c'))=.ok (.int x)/\x / pw n=sx s s':=by
 have hp:=ah n
 have a0:0<=s*pw n:=Int.mul_nonneg hs.1 (Int.le_of_lt hp)
 have b0:0<=s'*pw n:=Int.mul_nonneg hs'.1 (Int.le_of_lt hp)
 refine ⟨_,ku ⋯ ⋯,?_⟩
 have q1:(s*pw n+c) / pw n=s:=by
  rw [Int.add_comm,Int.add_mul_ediv_right _ _ ⋯,Int.ediv_eq_zero_of_lt c0 c1];omega
 have q2:(s'*pw n+c') / pw n=s':=by
  rw [Int.add_comm,Int.add_mul_ediv_right _ _ ⋯,Int.ediv_eq_zero_of_lt d0 d1];omega
 have e:pw n=((2^n.toNat:Nat):Int):=by unfold pw;simp
 generalize hA:(s*pw n+c).toNat=A
 generalize hB:(s'*pw n+c').toNat=B
 have hA':s*pw n+c=(A:Int):=⋯
 have hB':s'*pw n+c'=(B:Int):=⋯
 rw [hA',e] at q1
 rw [hB',e] at q2
 rw [e,<-Int.natCast_ediv]
 rw [<- Int.natCast_ediv] at q1 q2
 rw [<- Nat.shiftRight_eq_div_pow,Nat.shiftRight_xor_distrib,Nat.shiftRight_eq_div_pow,Nat.shiftRight_eq_div_pow]
 generalize A / 2^n.toNat=u at *
 generalize B / 2^n.toNat=v at *
 rcases (by omega:u=0\/u=1) with g | g<;>rcases (by omega:v=0\/v=1) with g' | g'<;>subst g g'<;>subst q1 q2<;>rfl
theorem fZ (h:Sz E F) (c0:0<=c) (c1:c<pw ↥0):(kindS E ↥20 (c%pw F)=Str.ofString "none"↔pw ↥0 - pw F<c)/\(kindS E ↥20 (c%pw F)=Str.ofString "endless"↔c=pw ↥0 - pw F)/\(kindS E ↥20 (c%pw F)=Str.ofString "nought"↔c=0):=by
 have h5:=ay h
 have hQ:=ah F
 obtain ⟨a,b,d,f⟩:=d6 h c0 c1
 have n1:Str.ofString "none"≠Str.ofString "endless":=by decide
 have n2:Str.ofString "none"≠Str.ofString "nought":=by decide
 have n3:Str.ofString "endless"≠Str.ofString "nought":=by decide
 have n4:Str.ofString "faint"≠Str.ofString "none"/\Str.ofString "faint"≠Str.ofString "endless"/\Str.ofString "faint"≠Str.ofString "nought":=by decide
 have n5:Str.ofString "plain"≠Str.ofString "none"/\Str.ofString "plain"≠Str.ofString "endless"/\Str.ofString "plain"≠Str.ofString "nought":=by decide
 by_cases g1:pw ↥0 - pw F<c
 ·rw [a g1];exact ⟨⟨fun _=>g1,fun _=>rfl⟩,⟨fun z=>absurd z n1,fun z=>⋯⟩,⟨fun z=>absurd z n2,fun z=>⋯⟩⟩
 by_cases g2:c=pw ↥0 - pw F
 ·rw [b g2];exact ⟨⟨fun z=>absurd z.symm n1,fun z=>⋯⟩,⟨fun _=>g2,fun _=>rfl⟩,⟨fun z=>absurd z n3,fun z=>⋯⟩⟩
 by_cases g3:c=0
 ·rw [d g3];exact ⟨⟨fun z=>absurd z.symm n2,fun z=>⋯⟩,⟨fun z=>absurd z.symm n3,fun z=>⋯⟩,⟨fun _=>g3,fun _=>rfl⟩⟩
 ·rcases f ⋯ ⋯ with e | e<;>rw [e]
  ·exact ⟨⟨fun z=>absurd z n4.1,fun z=>⋯⟩,⟨fun z=>absurd z n4.2.1,fun z=>⋯⟩,⟨fun z=>absurd z n4.2.2,fun z=>⋯⟩⟩
  ·exact ⟨⟨fun z=>absurd z n5.1,fun z=>⋯⟩,⟨fun z=>absurd z n5.2.1,fun z=>⋯⟩,⟨fun z=>absurd z n5.2.2,fun z=>⋯⟩⟩
theorem zE (a0:0<=a) (a1:a<pw n) (b0:0<=b) (b1:b<pw n):∃ x,eZ (.int a) (.int b)=.ok (.int x)/\0<=x/\x<pw n:=by
 refine ⟨_,ku a0 b0,⋯,?_⟩
 have e:pw n=((2^n.toNat:Nat):Int):=by unfold pw;simp
 rw [e] at a1 b1 ⊢
 have:=Nat.xor_lt_two_pow (x:=a.toNat) (y:=b.toNat) (n:=n.toNat) ⋯ ⋯
 omega
theorem Du {t n t' n' U V W:Int} (h1:t*U=V*n) (h2:t'*U=W*n'):V*U*(n*t')=t*n'*U*W:=by
 have e1:V*U*(n*t')=V*n*(t'*U):=by ac_rfl
 have e2:t*n'*U*W=t*U*(W*n'):=by ac_rfl
 rw [e1,e2,h1,h2]
theorem kL (h:Sz E F) (c0:0<=c):frT (wh F ↥20 (c%pw F)) ↥6*pw ↥15=vl F c*frB ↥6:=by
 have fu:=v7 (w:=wh F ↥20 (c%pw F)) h (vz (E:=E) (F:=F) c0)
 rw [je] at fu
 exact fu
theorem Ew (h:Sz E F) (c0:0<c) (c1:c<pw ↥0 - pw F):0<frT (wh F ↥20 (c%pw F)) ↥6:=by
 obtain ⟨f1,f2,f3,f4⟩:=jW h (Int.le_of_lt c0) c1
 have fu:=kL h (Int.le_of_lt c0)
 have vc:=bB (F:=F) (Int.le_of_lt c0)
 refine Classical.byContradiction fun q => ?_
 have z:frT (wh F ↥20 (c%pw F)) ↥6=0:=⋯
 rw [z,Int.zero_mul] at fu
 have:=Int.mul_pos (show 0<vl F c by omega) f2
 omega
end EV
namespace EV
theorem lP:∀ bs:List Int,D.flats (bs.map D.int)=true
 | []=>rfl
 | b::bs=>by
  rw [List.map_cons]
  unfold D.flats
  rw [lP bs]
  rfl
theorem cC {bs:List Int}:dC (bs.map D.int)=.ok (.lst (bs.map D.int)):=by
 unfold dC
 rw [if_pos (lP bs)]
theorem Jy (f:α->β) (xs:List α) (lo hi:Option Int):EV.cut (xs.map f) lo hi=(EV.cut xs lo hi).map f:=by
 unfold EV.cut
 rw [List.length_map,List.map_take,List.map_drop]
theorem Jz (xs:List α) (lo hi:Option Int):(EV.cut xs lo hi).length<=xs.length:=by
 unfold EV.cut
 rw [List.length_take,List.length_drop]
 omega
theorem As:∀ bs:List Int,(bs.map D.int).all D.sc=true
 | []=>rfl
 | b::bs=>by rw [List.map_cons,List.all_cons,As bs];rfl
theorem any_ints (x:Int):∀ bs:List Int,((bs.map D.int).any fun y=>D.beq y (.int x))=decide (x∈bs)
 | []=>rfl
 | b::bs=>by
  rw [List.map_cons,List.any_cons,any_ints x bs]
  unfold D.beq
  by_cases h:b=x
  ·subst h;simp
  ·have:¬ x=b:=fun z=>h z.symm
   simp [h,this]
theorem cN {x:Int} {bs:List Int}:oIn (.int x) (.lst (bs.map D.int))=.ok (.bl (decide (x∈bs))):=by
 unfold oIn isIn
 simp only [D.sc,As,Bool.and_self,if_true,any_ints]
theorem ro {bs:List Int} {k:Int} (h0:0<=k) (h1:k<bs.length):oIx (.lst (bs.map D.int)) (.int k)=.ok (.int (bs.getD k.toNat 0)):=by
 obtain ⟨j,rfl⟩:=Int.eq_ofNat_of_zero_le h0
 have hj:j<bs.length:=⋯
 refine oG ?_
 simp [List.getElem?_map,List.getElem?_eq_getElem hj,List.getD_eq_getElem?_getD]
theorem nU:∀ {ds:List D},(∀ d∈ds,st d=.ok (o d))->runC st ds=.ok (ds.filterMap o)
 | [],_=>rfl
 | d::ds,h=>by
  unfold runC
  rw [h d (.head _),nU fun d hd=>h d (.tail _ hd),List.filterMap_cons]
  cases o d<;>rfl
end EV
namespace EV
open PySem
abbrev Tm:=Int×Int×Int
def tD (t:Tm):D:=.tup [.int t.1,.int t.2.1,.int t.2.2]
def tv (q:Int) (t:Tm):Int:=if t.1=1 then -(t.2.1*pw (t.2.2 - q)) else t.2.1*pw (t.2.2 - q)
def gY (q:Int):List Tm->Int
 | []=>0
 | t::r=>tv q t+gY q r
def oz:List Tm->Int
 | []=>0
 | t::r=>(r.map (·.2.2)).foldl min t.2.2
def F0 (t:Tm):Prop:=0<=t.2.1/\nb t.2.1<=1000 /\ -200000<=t.2.2/\t.2.2<=200000
theorem fold_min:∀ (l:List Int) (a:Int),l.foldl min a<=a/\(∀ x∈l,l.foldl min a<=x)/\(l.foldl min a=a\/l.foldl min a∈l)
 | [],a=>⟨Int.le_refl _,fun x hx=>(nomatch hx),.inl rfl⟩
 | b::l,a=>by
  obtain ⟨h1,h2,h3⟩:=fold_min l (min a b)
  rw [List.foldl_cons]
  refine ⟨⋯,fun x hx => ?_,?_⟩
  ·rcases List.mem_cons.mp hx with e | hx
   ·subst e;omega
   ·exact h2 x hx
  ·rcases h3 with e | e
   ·rw [e]
    by_cases g:a<=b
    ·exact .inl ⋯
    ·exact .inr (List.mem_cons.mpr (.inl ⋯))
   ·exact .inr (.tail _ e)
theorem vM (h:t∈ts):oz ts<=t.2.2:=by
 cases ts with
 | nil=>cases h
 | cons a r =>
  obtain ⟨h1,h2,_⟩:=fold_min (r.map (·.2.2)) a.2.2
  rcases List.mem_cons.mp h with e | h
  ·subst e;exact h1
  ·exact h2 _ (List.mem_map.mpr ⟨t,h,rfl⟩)
theorem xu (hn:ts≠[]):∃ t∈ts,oz ts=t.2.2:=by
 cases ts with
 | nil=>exact absurd rfl hn
 | cons x r =>
  obtain ⟨_,_,h3⟩:=fold_min (r.map (·.2.2)) x.2.2
  rcases h3 with e | e
  ·exact ⟨x,.head _,e⟩
  ·obtain ⟨t,ht,e'⟩:=List.mem_map.mp e
   exact ⟨t,.tail _ ht,e'.symm⟩
theorem vN (h0:a<=0/\0<=b) (h:∀ t∈ts,a<=t.2.2/\t.2.2<=b):a<=oz ts/\oz ts<=b:=by
 by_cases g:ts=[]
 ·subst g;exact h0
 ·obtain ⟨t,ht,e⟩:=xu g
  rw [e]
  exact h t ht
theorem Bg (hn:ts≠[]) (h:∀ t∈ts,a<=t.2.2):a<=oz ts:=by
 obtain ⟨t,ht,e⟩:=xu hn
 rw [e]
 exact h t ht
theorem wN (hq:q<=p) (hp:p<=t.2.2):tv q t=tv p t*pw (p - q):=by
 have e:pw (t.2.2 - q)=pw (t.2.2 - p)*pw (p - q):=by rw [<- aY ⋯ ⋯];congr 1;omega
 unfold tv
 split
 ·rw [e,Int.neg_mul,Int.mul_assoc]
 ·rw [e,Int.mul_assoc]
theorem sR (hq:q<=p):∀ {ts:List Tm},(∀ t∈ts,p<=t.2.2)->gY q ts=gY p ts*pw (p - q)
 | [],_=>by unfold gY;rw [Int.zero_mul]
 | t::r,h=>by
  unfold gY
  rw [wN hq (h t (.head _)),sR hq fun t ht=>h t (.tail _ ht),Int.add_mul]
theorem Ac (h:∀ t∈ts,q<=t.2.2):gY q ts=gY (oz ts) ts*pw (oz ts - q):=by
 cases ts with
 | nil=>unfold gY;rw [Int.zero_mul]
 | cons t r=>exact sR (Bg (by simp) h) fun t ht=>vM ht
theorem ints_of:∀ ns:List Int,intsOf (ns.map D.int)=some ns
 | []=>rfl
 | n::r=>by
  rw [List.map_cons]
  show (intsOf (r.map D.int)).map (n::·)=_
  rw [ints_of r]
  rfl
theorem Bh:sG 0 [.lst ((ts.map (·.2.2)).map D.int)]=.ok (.int (oz ts)):=by
 unfold sG
 simp only [ints_of]
 cases ts with
 | nil=>rfl
 | cons t r=>rfl
theorem qZ {st:D->R (Option D)} {f:Tm->Int} {ts:List Tm} (h:∀ t∈ts,st (tD t)=.ok (some (.int (f t)))):runC st (ts.map tD)=.ok ((ts.map f).map D.int):=by
 induction ts with
 | nil=>rfl
 | cons t r ih =>
  rw [List.map_cons]
  unfold runC
  rw [h t (.head _),ih fun t ht=>h t (.tail _ ht)]
  rfl
theorem Ex (hq:q<=0) (hp:q<=p):frT w p*pw (-q)=w*pw (p - q)*frB p:=by
 unfold frT frB
 split
 ·rw [Int.mul_one,Int.mul_assoc,<-aY ⋯ ⋯]
  congr 2
 ·rw [Int.mul_assoc,<-aY ⋯ ⋯]
  congr 2
  omega
theorem OD [Decidable P]:nb (if P then -x else x)=nb x:=by
 split
 ·exact xq x
 ·rfl
theorem Fo:∀ {ts:List Tm},(∀ t∈ts,F0 t/\p<=t.2.2/\t.2.2 - p<=450000)->nb (gY p ts)<=451001+ts.length
 | [],_=>by unfold gY;decide
 | t::r,h=>by
  obtain ⟨⟨a1,a2,a3,a4⟩,a5,a6⟩:=h t (.head _)
  have ih:=Fo (p:=p) (ts:=r) fun t ht=>h t (.tail _ ht)
  have b1:nb (t.2.1*pw (t.2.2 - p))<=451001:=by
   have:=cD a2 (cX (k:=t.2.2 - p) (c:=450000) ⋯)
   omega
  have b2:nb (tv p t)<=451001:=by
   unfold tv
   split
   ·rw [xq];exact b1
   ·exact b1
  unfold gY
  rw [List.length_cons]
  exact Nat.le_trans (xr b2 ih) ⋯
def wt (E F s c:Int):Tm:=(s,wh F ↥20 (c%pw F),po E F ↥20)
theorem zP {E F s c:Int} (h:Sz E F) (c0:0<=c) (c1:c<pw ↥0 - pw F):F0 (wt E F s c)/\lo E F<=(wt E F s c).2.2/\(wt E F s c).2.2<=20000:=by
 have hQ:=ah F
 obtain ⟨b1,b2,b3,b4⟩:=aA (s:=0) (c:=c) h ↥1 c0 ⋯
 have n:=zQ h b1
 have i:=HK h b1
 rw [b3] at n i
 rw [b4] at n
 have g:=vz (E:=E) (F:=F) c0
 have r0:=Int.emod_nonneg c (show pw F≠0 by omega)
 have d1:=(zU h c0 ⋯).1
 have hE:=cT h
 have l:=dN h
 obtain ⟨k1,k2,k3,k4⟩:=id h
 have hp1:=ah (E - 1)
 have x1 : -200000<=po E F ↥20:=⋯
 have x2:po E F ↥20<=200000:=⋯
 refine ⟨⟨?_,Nat.le_trans n ↥1,x1,x2⟩,g,?_⟩
 ·show 0<=wh F ↥20 (c%pw F)
  unfold wh
  split<;>omega
 ·show po E F ↥20<=20000
  have:=(zU h c0 (show c<pw ↥0 by omega)).2
  unfold po lo
  have hE1:=lJ (F:=E) (by have:=h.1;omega)
  have hE2:=rl h
  split<;>omega
theorem Nn {E F s c:Int} (c0:0<=c):tv (lo E F) (wt E F s c)=if s=1 then -(vl F c) else vl F c:=by
 unfold tv wt
 simp only
 rw [je]
def xD:Tm ⊕ Int->D
 | .inl t=>tD t
 | .inr s=>.tup [.int s,.non,.int 0]
def lQ (xs:List (Tm ⊕ Int)):List Int:=xs.filterMap fun x=>match x with | .inl _=>none | .inr s=>some s
def nI (E F:Int) (x:Int×Int):Int:=x.1*pw ↥0+x.2
def uW (E F:Int) (x:Int×Int):Prop:=(0<=x.1/\x.1<=1)/\0<=x.2/\x.2<pw ↥0
def xt (E F:Int) (x:Int×Int):Tm ⊕ Int:=if x.2=pw ↥0 - pw F then .inr x.1 else .inl (wt E F x.1 x.2)
theorem wH {xs:List (Tm ⊕ Int)}:D.flats (xs.map xD)=true:=by
 induction xs with
 | nil=>rfl
 | cons x r ih =>
  rw [List.map_cons]
  show (D.flat (xD x)&&D.flats (r.map xD))=true
  rw [ih]
  cases x<;>rfl
def pm (E F:Int) (x y:Int×Int):Tm:=(sx x.1 y.1,wh F (x.2 / pw F) (x.2%pw F)*wh F (y.2 / pw F) (y.2%pw F),po E F (x.2 / pw F)+po E F (y.2 / pw F))
def pt (E F:Int) (x y:Int×Int):Tm ⊕ Int:=if x.2=pw ↥0 - pw F\/y.2=pw ↥0 - pw F then .inr (sx x.1 y.1) else .inl (pm E F x y)
theorem N9 {E F:Int} (h:Sz E F) (c0:0<=x.2) (c1:x.2<pw ↥0 - pw F) (d0:0<=y.2) (d1:y.2<pw ↥0 - pw F):F0 (pm E F x y)/\2*lo E F<=(pm E F x y).2.2/\(pm E F x y).2.2<=40000:=by
 obtain ⟨⟨a1,a2,a3,a4⟩,a5,a6⟩:=zP (s:=0) h c0 c1
 obtain ⟨⟨b1,b2,b3,b4⟩,b5,b6⟩:=zP (s:=0) h d0 d1
 have hQ:=ah F
 obtain ⟨x1,x2,x3,x4⟩:=aA (s:=0) (c:=x.2) h ↥1 c0 ⋯
 have n:=zQ h x1
 rw [x3,x4] at n
 obtain ⟨y1,y2,y3,y4⟩:=aA (s:=0) (c:=y.2) h ↥1 d0 ⋯
 have n':=zQ h y1
 rw [y3,y4] at n'
 have l:=dN h
 unfold wt at *
 simp only at *
 unfold pm
 refine ⟨⟨Int.mul_nonneg a1 b1,Nat.le_trans (cD n n') ↥1,?_,?_⟩,?_,?_⟩<;>simp only<;>omega
theorem Lw {E F:Int} (c0:0<=x.2) (d0:0<=y.2):tv (2*lo E F) (pm E F x y)=if sx x.1 y.1=1 then -(vl F x.2*vl F y.2) else vl F x.2*vl F y.2:=by
 have a:=je (E:=E) (F:=F) (c:=x.2)
 have b:=je (E:=E) (F:=F) (c:=y.2)
 have g1:=vz (E:=E) (F:=F) c0
 have g2:=vz (E:=E) (F:=F) d0
 have e:pw (po E F (x.2 / pw F)+po E F (y.2 / pw F) - 2*lo E F)=pw (po E F (x.2 / pw F) - lo E F)*pw (po E F (y.2 / pw F) - lo E F):=by
  rw [<- aY ⋯ ⋯]
  congr 1
  omega
 have e2:wh F (x.2 / pw F) (x.2%pw F)*wh F (y.2 / pw F) (y.2%pw F)*pw (po E F (x.2 / pw F)+po E F (y.2 / pw F) - 2*lo E F)=vl F x.2*vl F y.2:=by
  rw [e,<-a,<-b]
  ac_rfl
 unfold tv pm
 simp only
 rw [e2]
def pD (E F:Int) (p:(Int×Int)×(Int×Int)):D:=.tup [.int (nI E F p.1),.int (nI E F p.2)]
def F7 (w:Wy) (E F X U sg x y:Int):Prop:=(X=0->x=sg*pw ↥0/\y=0)/\(X≠0->∃ k r,x=(if X<0 then 1 else 0)*pw ↥0+stK w E F (if X<0 then 1 else 0) k r/\y=stF w E F (if X<0 then 1 else 0) k r/\At F (if X<0 then -X else X) U k r)
theorem vH {X V:Int} (hV:0<V):(X*V<0↔X<0):=by
 constructor
 ·intro g
  refine Classical.byContradiction fun g' => ?_
  have:=Int.mul_nonneg (show 0<=X by omega) (Int.le_of_lt hV)
  omega
 ·exact fun g=>Int.mul_neg_of_neg_of_pos g hV
def fl (ps:List ((Int×Int)×(Int×Int))):List (Int×Int):=ps.flatMap fun p=>[p.1,p.2]
theorem qc:z∈fl ps↔∃ p∈ps,z=p.1\/z=p.2:=by
 unfold fl
 rw [List.mem_flatMap]
 constructor
 ·rintro ⟨p,m,hz⟩
  refine ⟨p,m,?_⟩
  simpa using hz
 ·rintro ⟨p,m,hz⟩
  exact ⟨p,m,by simpa using hz⟩
theorem xG:∀ ps:List ((Int×Int)×(Int×Int)),(fl ps).length=2*ps.length
 | []=>rfl
 | p::r=>by
  show ([p.1,p.2]++fl r).length=_
  rw [List.length_append,xG r,List.length_cons]
  simp
  omega
def ptp (E F:Int) (p:(Int×Int)×(Int×Int)):Tm ⊕ Int:=pt E F p.1 p.2
def fts (E F:Int) (ps:List ((Int×Int)×(Int×Int))) (xs:List (Int×Int)):List Tm:=ps.map (fun p=>pm E F p.1 p.2)++xs.map (fun x=>wt E F x.1 x.2)
section
variable {E F:Int} {ps:List ((Int×Int)×(Int×Int))} {xs:List (Int×Int)}
theorem Nc (m:p∈ps):p.1∈xs++fl ps:=List.mem_append.mpr (.inr (qc.mpr ⟨p,m,.inl rfl⟩))
theorem Nb (m:p∈ps):p.2∈xs++fl ps:=List.mem_append.mpr (.inr (qc.mpr ⟨p,m,.inr rfl⟩))
theorem MC (h:Sz E F) (hx:∀ x∈xs++fl ps,uW E F x) (hf:∀ x∈xs++fl ps,x.2<pw ↥0 - pw F):∀ t∈fts E F ps xs,F0 t/\2*lo E F<=t.2.2:=fun t ht=>by
 have l:=dN h
 rcases List.mem_append.mp ht with m | m
 ·obtain ⟨p,m',rfl⟩:=List.mem_map.mp m
  clear m
  rename p∈ps=>m
  obtain ⟨a,b,c⟩:=N9 (x:=p.1) (y:=p.2) h (hx _ (Nc m)).2.1 (hf _ (Nc m)) (hx _ (Nb m)).2.1 (hf _ (Nb m))
  exact ⟨a,b⟩
 ·obtain ⟨x,m',rfl⟩:=List.mem_map.mp m
  clear m
  rename x∈xs=>m
  have mm:x∈xs++fl ps:=List.mem_append.mpr (.inl m)
  obtain ⟨a,b,c⟩:=zP (s:=x.1) h (hx _ mm).2.1 (hf _ mm)
  exact ⟨a,⋯⟩
theorem MB (hf:∀ x∈xs++fl ps,x.2<pw ↥0 - pw F):(ps.map (ptp E F)++xs.map (xt E F)).map xD=(fts E F ps xs).map tD:=by
 unfold fts
 rw [List.map_append,List.map_append,List.map_map,List.map_map,List.map_map,List.map_map]
 congr 1
 ·refine List.map_congr_left fun p m => ?_
  have a:=hf _ (Nc m)
  have b:=hf _ (Nb m)
  show xD (ptp E F p)=tD (pm E F p.1 p.2)
  unfold ptp pt
  rw [if_neg ⋯]
  rfl
 ·refine List.map_congr_left fun x m => ?_
  have a:=hf _ (List.mem_append.mpr (.inl m))
  show xD (xt E F x)=tD (wt E F x.1 x.2)
  unfold xt
  rw [if_neg ⋯]
  rfl
theorem BB:(fts E F ps xs).length=ps.length+xs.length:=by
 unfold fts
 rw [List.length_append,List.length_map,List.length_map]
theorem zO (h:Sz E F) (c0:0<=c):tv (2*lo E F) (wt E F s c)=(if s=1 then -(vl F c) else vl F c)*pw ↥15:=by
 have l:=dN h
 have g:lo E F<=(wt E F s c).2.2:=vz (E:=E) (F:=F) c0
 rw [wN (p:=lo E F) (q:=2*lo E F) ⋯ g,Nn c0]
 congr 2
 omega
theorem AB (h:Sz E F):pw (-(2*lo E F))=pw ↥15*pw ↥15:=by
 have l:=dN h
 rw [<- aY ⋯ ⋯]
 congr 1
 omega
end
def nsg (w:Wy) (bs:List Int):Int:=if 0∈bs/\1∈bs then (if w.s=PySem.Str.ofString "down" then 1 else 0) else if 1∈bs then 1 else 0
theorem Mc (w:Wy) (bs:List Int):0<=nsg w bs/\nsg w bs<=1:=by
 unfold nsg
 split
 ·split<;>decide
 ·split<;>decide
theorem AZ (hs:0<=s/\s<=1) (hs':0<=s'/\s'<=1):nsg w [s,s']=if s'=s then s else if w.s=PySem.Str.ofString "down" then 1 else 0:=by
 unfold nsg
 rcases (by omega:s=0\/s=1) with g | g<;>rcases (by omega:s'=0\/s'=1) with g' | g'<;>subst g g'<;>simp
theorem ID (hs:0<=s/\s<=1):nsg w [s]=s:=by
 unfold nsg
 rcases (by omega:s=0\/s=1) with g | g<;>subst g<;>simp
def Nk (w:Wy) (E F s c s' c' x y:Int):Prop :=
 if pw ↥0 - pw F<c\/pw ↥0 - pw F<c' then x=pw ↥0 - pw F+pw (F - 1)/\y=0
 else if c=pw ↥0 - pw F then (if c'=pw ↥0 - pw F/\¬ s=s' then x=pw ↥0 - pw F+pw (F - 1)/\y=16 else x=s*pw ↥0+(pw ↥0 - pw F)/\y=0)
 else if c'=pw ↥0 - pw F then x=s'*pw ↥0+(pw ↥0 - pw F)/\y=0
 else F7 w E F ((if s=1 then -(vl F c) else vl F c)+(if s'=1 then -(vl F c') else vl F c')) 1 (if s'=s then s else if w.s=PySem.Str.ofString "down" then 1 else 0) x y
def Ni (w:Wy) (E F s c s' c' x y:Int):Prop :=
 if pw ↥0 - pw F<c\/pw ↥0 - pw F<c' then x=pw ↥0 - pw F+pw (F - 1)/\y=0
 else if (c=0\/c'=0)/\(c=pw ↥0 - pw F\/c'=pw ↥0 - pw F) then x=pw ↥0 - pw F+pw (F - 1)/\y=16
 else if c=pw ↥0 - pw F\/c'=pw ↥0 - pw F then x=sx s s'*pw ↥0+(pw ↥0 - pw F)/\y=0
 else F7 w E F (if sx s s'=1 then -(vl F c*vl F c') else vl F c*vl F c') (pw ↥15) (sx s s') x y
def Nj (w:Wy) (E F s c s' c' t d x y:Int):Prop :=
 if pw ↥0 - pw F<c\/pw ↥0 - pw F<c'\/pw ↥0 - pw F<d then x=pw ↥0 - pw F+pw (F - 1)/\y=0
 else if (c=0\/c'=0)/\(c=pw ↥0 - pw F\/c'=pw ↥0 - pw F) then x=pw ↥0 - pw F+pw (F - 1)/\y=16
 else if c=pw ↥0 - pw F\/c'=pw ↥0 - pw F then (if d=pw ↥0 - pw F/\¬ sx s s'=t then x=pw ↥0 - pw F+pw (F - 1)/\y=16 else x=sx s s'*pw ↥0+(pw ↥0 - pw F)/\y=0)
 else if d=pw ↥0 - pw F then x=t*pw ↥0+(pw ↥0 - pw F)/\y=0
 else F7 w E F ((if sx s s'=1 then -(vl F c*vl F c') else vl F c*vl F c')+(if t=1 then -(vl F d) else vl F d)*pw ↥15) (pw ↥15) (if t=sx s s' then sx s s' else if w.s=PySem.Str.ofString "down" then 1 else 0) x y
theorem Ee {E F s c:Int} (hs:0<=s/\s<=1) (c0:0<=c) (c1:c<pw ↥0):ng E F ↥13=(1 - s)*pw ↥0+c:=by
 unfold ng
 rcases (by omega:s=0\/s=1) with e | e<;>subst e
 ·rw [Int.zero_mul,Int.zero_add,if_neg ⋯,Int.sub_zero,Int.one_mul,Int.add_comm]
 ·rw [Int.one_mul,if_pos ⋯,Int.sub_self,Int.zero_mul]
  omega
theorem Gv (hn:0<=n) (hs:0<=s/\s<=1) (c0:0<=c) (c1:c<pw n):eZ (.int (s*pw n+c)) (.int (pw n))=.ok (.int ((1 - s)*pw n+c)):=by
 have hp:=ah n
 have a0:0<=s*pw n:=Int.mul_nonneg hs.1 (Int.le_of_lt hp)
 rw [ku ⋯ ⋯]
 congr 2
 have e:pw n=((2^n.toNat:Nat):Int):=by unfold pw;simp
 generalize n.toNat=m at e
 rw [e] at c1 hp ⊢
 obtain ⟨u,rfl⟩:=Int.eq_ofNat_of_zero_le hs.1
 obtain ⟨v,rfl⟩:=Int.eq_ofNat_of_zero_le c0
 have h1:v<2^m:=⋯
 have e1:((u:Int)*((2^m:Nat):Int)+(v:Int)).toNat=2^m*u+v:=by
  rw [<- Int.natCast_mul,<-Int.natCast_add,Int.toNat_natCast,Nat.mul_comm]
 rw [e1,Int.toNat_natCast]
 have d1:(2^m*u+v) / 2^m=u:=by rw [Nat.mul_add_div (Nat.two_pow_pos m),Nat.div_eq_of_lt h1,Nat.add_zero]
 have d2:(2^m*u+v)%2^m=v:=by rw [Nat.mul_add_mod,Nat.mod_eq_of_lt h1]
 have q1:((2^m*u+v) ^^^ 2^m) / 2^m=u ^^^ 1:=by
  rw [<- Nat.shiftRight_eq_div_pow,Nat.shiftRight_xor_distrib,Nat.shiftRight_eq_div_pow,Nat.shiftRight_eq_div_pow,d1,Nat.div_self (Nat.two_pow_pos m)]
 have q2:((2^m*u+v) ^^^ 2^m)%2^m=v:=by
  rw [Nat.xor_mod_two_pow,d2,Nat.mod_self,Nat.xor_zero]
 have q:=Nat.div_add_mod ((2^m*u+v) ^^^ 2^m) (2^m)
 rw [q1,q2] at q
 rw [<- q]
 rcases (by omega:u=0\/u=1) with g | g<;>subst g<;>simp
end EV
namespace EV
open PySem
def Wy.m:Wy->Wy
 | .up=>.down
 | .down=>.up
 | w=>w
noncomputable instance wyDec:DecidableEq Wy:=fun a b=>by cases a<;>cases b<;>first | exact isTrue rfl | exact isFalse (by intro h;cases h)
section
variable {w:Wy} {E F s c r:Int}
end
section
variable {w:Wy} {E F X U sg sg' x y x' y':Int} {u:Prop}
end
end EV
namespace T
open EV
theorem Hn (c:Int):dk [.int c]=.ok (.tup [.int (szE c),.int (szF c)]):=by
 unfold dk fi
 by_cases h:c%8<4
 ·rcases four (Int.emod_nonneg c ↥1) h with e | e | e | e<;>(simp_arith [e];unfold szE szF;rw [e];rfl)
 ·by_cases h2:c%8<6
  ·simp_arith [h2,show ¬ c%8=0 by omega,show ¬ c%8=1 by omega,show ¬ c%8=2 by omega,show ¬ c%8=3 by omega]
   unfold szE szF
   rw [if_neg h,if_pos h2,if_neg h,if_pos h2]
  ·simp_arith [h2,show ¬ c%8=0 by omega,show ¬ c%8=1 by omega,show ¬ c%8=2 by omega,show ¬ c%8=3 by omega]
   unfold szE szF
   rw [if_neg h,if_neg h2,if_neg h,if_neg h2]
theorem BR {ns:List Int} {j:Int} (h0:0<=j):cx [.lst (ns.map .int),.int j]=.ok (.int (ns.getD j.toNat 0)):=by
 unfold cx fo
 by_cases h:j<(ns.length:Int)
 ·have e:oIx (.lst (ns.map D.int)) (.int j)=.ok (.int (ns.getD j.toNat 0)):=by
   obtain ⟨k,rfl⟩:=Int.eq_ofNat_of_zero_le h0
   have hk:k<ns.length:=⋯
   refine oG ?_
   simp [List.getElem?_map,List.getElem?_eq_getElem hk,List.getD_eq_getElem?_getD]
  simp_arith [h,e]
 ·simp_arith [h,Er h0 h]
theorem rF {c m:Int} (hc:nb c<=2^20) (hm:0<m):b8 [.int c,.int m]=.ok (.int (c*73846150927364518273645509182736455091827%m)):=by
 have n:nb c<=1048576:=hc
 have m1:MulOk c 73846150927364518273645509182736455091827:=by walk_at "mul"
 unfold b8 iC
 simp_arith [ak m1,hm]
theorem oP {E F c:Int} (h:Sz E F) (hc:nb c<=2^20):∃ b,aH [.tup [.int E,.int F],.int c]=.ok (.int b)/\In E F b:=by
 obtain ⟨k1,k2,k3,k4⟩:=id h
 have hh:=ay h
 have hQ:=jH k3
 have eM:=end_is h
 have eW:=lA h
 have hE:=cT h
 have hE0:=rj k1
 have nE:nb (pw E - 1)<=15:=bP ⋯ ⋯
 have n1:nb (pw ↥0)<=128:=cX (c:=127) ⋯
 have m1:MulOk (c / 10%2) (pw ↥0):=dq ⋯ ⋯ (Nat.le_trans n1 ↥1)
 have m2:MulOk 2 (pw ↥0):=by walk_at "mul"
 have c10:nb (c / 10)<=2^20:=gO ↥1 hc
 have c20:nb (c / 10 / 2 / 9)<=2^20:=gO ↥1 (gO ↥1 c10)
 have s1:=dH (k:=E+F) ⋯ ⋯
 have s2:=dH (k:=E) ⋯ ⋯
 have s3:=av (i:=pw E - 1) (j:=F) ⋯ ⋯
 have s4:=dH (k:=F) ⋯ ⋯
 have s5:=dH (k:=E - 1) ⋯ ⋯
 have nb2:nb (2:Int)=2:=by decide
 have s6:bH (.int 2) (.int F)=.ok (.int (2*pw F)):=av ⋯ ⋯
 have fin:∀ x,0<=x->x<pw ↥0->In E F (c / 10%2*pw ↥0+x):=fun x x0 x1=>(aA (s:=c / 10%2) (c:=x) h ⋯ x0 x1).1
 unfold aH fq
 by_cases g0:c%10<3
 ·refine ⟨c / 10*73846150927364518273645509182736455091827%(2*pw ↥0),by simp_arith [s1,s2,s3,eM,g0,ak m2,rF c10 (show 0<2*pw ↥0 by omega)],?_⟩
  unfold In
  rw [eW]
  exact ⟨Int.emod_nonneg _ ⋯,Int.emod_lt_of_pos _ ⋯⟩
 by_cases g1:c%10=3
 ·have r0:=Int.emod_nonneg (c / 10 / 2) (show 2*pw F≠0 by omega)
  have r1:=Int.emod_lt_of_pos (c / 10 / 2) (show 0<2*pw F by omega)
  exact ⟨_,by simp_arith [s1,s2,s3,eM,g1,s6,show 0<2*pw F by omega,ak m1],fin (c / 10 / 2%(2*pw F)) r0 ⋯⟩
 by_cases g2:c%10=4
 ·exact ⟨_,by simp_arith [s1,s2,s3,eM,g2,ak m1],fin (pw ↥0 - pw F+1 - c / 10 / 2%5) ⋯ ⋯⟩
 by_cases g3:c%10=5
 ·obtain ⟨x,ex,x0,x1⟩:∃ x,oIx (.lst [.int 0,.int 1,.int (pw F - 1),.int (pw F),.int (pw ↥0 - pw F - 1),.int (pw ↥0 - pw F)]) (.int (c / 10 / 2%6))=.ok (.int x)/\0<=x/\x<pw ↥0:=by
   rcases (by omega:c / 10 / 2%6=0\/c / 10 / 2%6=1\/c / 10 / 2%6=2\/c / 10 / 2%6=3\/c / 10 / 2%6=4\/c / 10 / 2%6=5) with e | e | e | e | e | e<;>rw [e]<;>exact ⟨_,rfl,⋯,⋯⟩
  exact ⟨_,by simp_arith [s1,s2,s3,s4,eM,g3,ex,ak m1],fin x x0 x1⟩
 ·generalize hf:max 0 (min (pw (E - 1) - 5+c / 10 / 2%9) (pw E - 1))=f
  have f0:0<=f/\f<=pw E - 1:=⋯
  have nf:nb f<=16:=bP f0.1 ⋯
  have r0:=Int.emod_nonneg (c / 10 / 2 / 9*73846150927364518273645509182736455091827) (show pw F≠0 by omega)
  have r1:=Int.emod_lt_of_pos (c / 10 / 2 / 9*73846150927364518273645509182736455091827) (show 0<pw F by omega)
  have f1:0<=f*pw F:=Int.mul_nonneg f0.1 ⋯
  have f2:f*pw F<=(pw E - 1)*pw F:=Int.mul_le_mul_of_nonneg_right f0.2 ⋯
  rw [eM] at f2
  exact ⟨_,by simp_arith [s1,s2,s3,s4,s5,eM,g0,g1,g2,g3,hf,av (i:=f) (j:=F) ⋯ ⋯,rF c20 (show 0<pw F by omega),ak m1],fin (f*pw F+c / 10 / 2 / 9*73846150927364518273645509182736455091827%pw F) ⋯ ⋯⟩
theorem zR (c:Int):∃ w:Wy,d5 [.int c]=.ok (.str w.s):=by
 unfold d5 gj
 rcases (by omega:c%5=0\/c%5=1\/c%5=2\/c%5=3\/c%5=4) with e | e | e | e | e
 ·exact ⟨.even,by simp_arith [e];rfl⟩
 ·exact ⟨.away,by simp_arith [e];rfl⟩
 ·exact ⟨.nought,by simp_arith [e];rfl⟩
 ·exact ⟨.up,by simp_arith [e,VE];rfl⟩
 ·exact ⟨.down,by simp_arith [e,VD];rfl⟩
theorem tW {E F c:Int} (h:Sz E F) (hc:nb c<=2^20):∃ b,b7 [.tup [.int E,.int F],.int c]=.ok (.int b)/\In E F b:=by
 obtain ⟨k1,k2,k3,k4⟩:=id h
 have hh:=ay h
 have hQ:=jH k3
 have eM:=end_is h
 have eW:=lA h
 have nE:nb (pw E - 1)<=15:=bP (by have:=ah E;omega) (by have:=cT h;omega)
 have n1:nb (pw ↥0)<=128:=cX (c:=127) ⋯
 have m1:MulOk (c / 5%2) (pw ↥0):=dq ⋯ ⋯ (Nat.le_trans n1 ↥1)
 have sd:=Ho (r:=c / 5) (h:=pw ↥0) ⋯
 have r0:=Int.emod_nonneg (c / 5 / 2) (show pw F - 1≠0 by omega)
 have r1:=Int.emod_lt_of_pos (c / 5 / 2) (show 0<pw F - 1 by omega)
 have s1:=dH (k:=E+F) ⋯ ⋯
 have s2:=dH (k:=E) ⋯ ⋯
 have s3:=av (i:=pw E - 1) (j:=F) ⋯ ⋯
 have s4:=dH (k:=F) ⋯ ⋯
 unfold b7 gm In
 rw [eW]
 by_cases g0:c%5=0
 ·exact ⟨c / 5%2*pw ↥0+(pw ↥0 - pw F)+1+c / 5 / 2%(pw F - 1),by simp_arith [s1,s2,s3,s4,eM,g0,ak m1,show 0<pw F - 1 by omega],⋯,⋯⟩
 by_cases g1:c%5=1
 ·exact ⟨c / 5%2*pw ↥0+(pw ↥0 - pw F),by simp_arith [s1,s2,s3,s4,eM,g1,ak m1],⋯,⋯⟩
 by_cases g2:c%5=2
 ·exact ⟨c / 5%2*pw ↥0,by simp_arith [s1,s2,s3,s4,eM,g2,ak m1],⋯,⋯⟩
 ·obtain ⟨b,eb,hb⟩:=oP (c:=c / 5) h (gO ↥1 hc)
  unfold In at hb
  rw [eW] at hb
  exact ⟨b,by simp_arith [s1,s2,s3,s4,eM,g0,g1,g2,ak m1,eb],hb⟩
theorem yP {E F b c:Int} {t:Bool} (h:Sz E F) (hb:In E F b) (hc:nb c<=2^20):∃ x,dm [.tup [.int E,.int F],.int b,.int c,.bl t]=.ok (.int x)/\In E F x:=by
 obtain ⟨k1,k2,k3,k4⟩:=id h
 have hh:=ay h
 have hQ:=jH k3
 have hE1:=jH (F:=E - 1) ⋯
 have eE:=lJ (F:=E) ⋯
 have eF:=lJ (F:=F) k3
 have eM:=end_is h
 have eW:=lA h
 have hH:=ah ↥0
 have c9:nb (c / 9)<=2^20:=gO ↥1 hc
 have s1:=dH (k:=E+F) ⋯ ⋯
 have s2:=dH (k:=E - 1) ⋯ ⋯
 have s3:=dH (k:=E) ⋯ ⋯
 have s4:=dH (k:=F) ⋯ ⋯
 have s5:=dH (k:=F - 1) ⋯ ⋯
 have n1:nb (pw ↥0)<=128:=cX (c:=127) ⋯
 have hE1':=rl h
 have m2:MulOk 2 (pw (E - 1) - 1):=by
  have:nb (pw (E - 1) - 1)<=15:=bP ⋯ ⋯
  walk_at "mul"
 have m3:MulOk (c / 9 / 5%2) (pw ↥0):=dq ⋯ ⋯ (Nat.le_trans n1 ↥1)
 have m4:MulOk (c / 9%2) (pw ↥0):=dq ⋯ ⋯ (Nat.le_trans n1 ↥1)
 unfold dm fm
 by_cases g:c%9<5
 ·have sr:=gA (i:=b%pw ↥0) (j:=F) ⋯
  generalize b%pw ↥0 / pw F=f at *
  have r0:=Int.emod_nonneg (c / 9*73846150927364518273645509182736455091827) (show pw F≠0 by omega)
  have r1:=Int.emod_lt_of_pos (c / 9*73846150927364518273645509182736455091827) (show 0<pw F by omega)
  obtain ⟨x,ex,x0,x1⟩:∃ x,oIx (.lst [.int 0,.int (pw (F - 1)),.int (pw F - 1),.int (c / 9*73846150927364518273645509182736455091827%pw F)]) (.int (c / 9 / 3%4))=.ok (.int x)/\0<=x/\x<pw F:=by
   rcases (by omega:c / 9 / 3%4=0\/c / 9 / 3%4=1\/c / 9 / 3%4=2\/c / 9 / 3%4=3) with e | e | e | e<;>rw [e]<;>exact ⟨_,rfl,⋯,⋯⟩
  have fin:∀ v,In E F (c / 9 / 5%2*pw ↥0+max 0 (min v (2*(pw (E - 1) - 1)))*pw F+x)/\bH (.int (max 0 (min v (2*(pw (E - 1) - 1))))) (.int F)=.ok (.int (max 0 (min v (2*(pw (E - 1) - 1)))*pw F)):=fun v=>by
   generalize hy:max 0 (min v (2*(pw (E - 1) - 1)))=y
   have y0:0<=y/\y<=pw E - 2:=⋯
   have ny:nb y<=16:=bP y0.1 (by have:=cT h;omega)
   have f1:0<=y*pw F:=Int.mul_nonneg y0.1 ⋯
   have f2:y*pw F<=(pw E - 2)*pw F:=Int.mul_le_mul_of_nonneg_right y0.2 ⋯
   have f3:(pw E - 2)*pw F=(pw E - 1)*pw F - pw F:=by rw [show pw E - 1=pw E - 2+1 by omega,Int.add_mul];omega
   rw [Int.add_assoc]
   exact ⟨(aA (s:=c / 9 / 5%2) (c:=y*pw F+x) h ⋯ ⋯ ⋯).1,av ⋯ ⋯⟩
  have md:=rF c9 (show 0<pw F by omega)
  by_cases g2:c%9<2
  ·cases t
   ·have z:=fin (pw (E - 1) - 1+(pw E - 5+c / 9%7 - f))
    exact ⟨_,by simp_arith [s1,s2,s3,s4,s5,hH,g,g2,sr,ak m2,md,ex,ak m3,z.2,show 0<F+8 by omega],z.1⟩
   ·have z:=fin (pw (E - 1) - 1+(f - (pw E - 5+c / 9%7)))
    exact ⟨_,by simp_arith [s1,s2,s3,s4,s5,hH,g,g2,sr,ak m2,md,ex,ak m3,z.2,show 0<F+8 by omega],z.1⟩
  ·cases t
   ·have z:=fin (pw (E - 1) - 1+(c / 9%(F+8) - F - 4 - f))
    exact ⟨_,by simp_arith [s1,s2,s3,s4,s5,hH,g,g2,sr,ak m2,md,ex,ak m3,z.2,show 0<F+8 by omega],z.1⟩
   ·have z:=fin (pw (E - 1) - 1+(f - (c / 9%(F+8) - F - 4)))
    exact ⟨_,by simp_arith [s1,s2,s3,s4,s5,hH,g,g2,sr,ak m2,md,ex,ak m3,z.2,show 0<F+8 by omega],z.1⟩
 by_cases g5:c%9=5
 ·rcases (by omega:c / 9%2=0\/c / 9%2=1) with e | e
  ·exact ⟨b,by simp_arith [s1,s2,hH,g5,e,ak (show MulOk 0 (pw ↥0) by rw [<- e];exact m4),ku hb.1 (show (0:Int)<=0*pw ↥0 by omega),show ((b.toNat ^^^ (0*pw ↥0).toNat:Nat):Int)=b by rw [Int.zero_mul];have:=hb.1;simp;omega],hb⟩
  ·have x:=Kh (n:=E+F+1) (k:=E+F) ⋯ hb.1 hb.2 ⋯ ⋯
   exact ⟨((b.toNat ^^^ (pw ↥0).toNat:Nat):Int),by simp_arith [s1,s2,hH,g5,e,ak (show MulOk 1 (pw ↥0) by rw [<- e];exact m4),ku hb.1 (Int.le_of_lt hH),Int.one_mul],x⟩
 by_cases g6:c%9=6
 ·obtain ⟨x,ex,hx⟩:=tW h c9
  exact ⟨x,by simp_arith [s1,s2,g6,ex],hx⟩
 ·obtain ⟨x,ex,hx⟩:=oP h c9
  exact ⟨x,by simp_arith [s1,s2,g,g5,g6,ex],hx⟩
theorem aB {E F c:Int} (h:Sz E F) (h0:0<=c) (h1:c<pw ↥0):au [.tup [.int E,.int F],.int c]=.ok (.int (vl F c)):=by
 obtain ⟨k1,k2,k3,k4⟩:=id h
 obtain ⟨v1,v2⟩:=zU h h0 h1
 have v3:=cT h
 have v4:=AD h
 obtain ⟨r0,r1⟩:=FH F c
 unfold fig at r0 r1
 have n1:nb (pw F+c%pw F)<=128:=bP ⋯ ⋯
 unfold au iB vl
 by_cases g:c / pw F=0
 ·simp_arith [show (0:Int)<=F by omega,eq_true g]
 ·simp_arith [show (0:Int)<=F by omega,g,dH (k:=F) ⋯ ⋯,ah,av (i:=pw F+c%pw F) (j:=c / pw F - 1) ⋯ ⋯]
theorem uZ {E F a b c:Int} (h:Sz E F) (ha:In E F a) (hb:In E F b) (hc:nb c<=2^20):∃ x,bS [.tup [.int E,.int F],.int a,.int b,.int c]=.ok (.int x)/\In E F x:=by
 obtain ⟨k1,k2,k3,k4⟩:=id h
 have hh:=ay h
 have hQ:=ah F
 have hH:=ah ↥0
 have l:=dN h
 have e1:pw (E - 1) - 2+F = -(lo E F):=by unfold lo;omega
 have c6:nb (c / 6)<=2^20:=gO ↥1 hc
 have nE:nb (pw E - 1)<=15:=bP (by have:=ah E;omega) (by have:=cT h;omega)
 have s1:=dH (k:=E+F) ⋯ ⋯
 have s2:=dH (k:=E) ⋯ ⋯
 have s3:=av (i:=pw E - 1) (j:=F) ⋯ ⋯
 have s9:=dH (k:=E - 1) ⋯ ⋯
 rw [end_is h] at s3
 have n1:nb (pw ↥0)<=128:=cX (c:=127) ⋯
 have dv:∀ i,oDiv (.int i) (.int (pw ↥0))=.ok (.int (i / pw ↥0)):=fun i=>cb (fP.small hH ⋯)
 obtain ⟨s,u,hs,u0,u1,rfl⟩:=gZ h ha
 obtain ⟨s',v,hs',v0,v1,rfl⟩:=gZ h hb
 obtain ⟨q1,q2⟩:=fD (E:=E) (F:=F) hs u0 u1
 obtain ⟨r1,r2⟩:=fD (E:=E) (F:=F) hs' v0 v1
 obtain ⟨y,ey,hy⟩:=Fi (n:=E+F) ⋯ hs hs' u0 u1 v0 v1
 have b1:=aB h u0 u1
 have b2:=aB h v0 v1
 have nv:=cI h u0 u1
 have nv':=cI h v0 v1
 have w1:=bB (F:=F) u0
 have w2:=bB (F:=F) v0
 have nS:nb (vl F u*vl F v)<=80000:=cD nv nv'
 have S0:0<=vl F u*vl F v:=Int.mul_nonneg w1.1 w2.1
 have mu:=ak (MulOk.of nv nv' ↥1)
 have sr:=gA (i:=vl F u*vl F v) (j := -(lo E F)) ⋯
 have T0:=Int.ediv_nonneg S0 (Int.le_of_lt (ah ↥15))
 have nT:nb (vl F u*vl F v / pw ↥15)<=80000:=gO (ah _) nS
 unfold bS dW
 by_cases g1:3<c%6
 ·obtain ⟨x,ex,hx⟩:=oP h c6
  exact ⟨x,by simp_arith [s1,s2,s3,s9,g1,ex],hx⟩
 by_cases g2:c%6=3
 ·obtain ⟨x,ex,hx⟩:=tW h c6
  exact ⟨x,by simp_arith [s1,s2,s3,s9,g1,eq_true g2,ex],hx⟩
 generalize vl F u*vl F v / pw ↥15=T at *
 have fin:∀ g v:Int,0<=g/\g<=1->In E F (g*pw ↥0+max 0 (min v (pw ↥0 - pw F - 1)))/\cW (.int g) (.int (pw ↥0))=.ok (.int (g*pw ↥0)):=fun g v hg =>
  ⟨(aA (s:=g) (c:=max 0 (min v (pw ↥0 - pw F - 1))) h hg ⋯ ⋯).1,ak (dq hg.1 hg.2 (Nat.le_trans n1 ↥1))⟩
 have md:0<=(sx s s'+1)%2/\(sx s s'+1)%2<=1:=⋯
 have me:0<=c / 6 / 3%2/\c / 6 / 3%2<=1:=⋯
 have sF:=gA (i:=T) (j:=F) ⋯
 have nf:nb (F+c / 6 / 6%3)<=16:=bP ⋯ ⋯
 have sf:=av (i:=F+c / 6 / 6%3) (j:=F) ⋯ ⋯
 by_cases g3:0<T / pw F
 ·have lb:F+1<=(nb T:Int):=by
   refine Classical.byContradiction fun q => ?_
   have le:nb T<=F.toNat:=⋯
   rw [mD] at le
   have e:((2^F.toNat:Nat):Int)=pw F:=by unfold pw;simp
   have:T<pw F:=⋯
   rw [Int.ediv_eq_zero_of_lt T0 this] at g3
   omega
  have nm:nb ((nb T:Int) - F - 1)<=100:=bP ⋯ ⋯
  have sm:=av (i:=(nb T:Int) - F - 1) (j:=F) ⋯ ⋯
  have st:=gA (i:=T) (j:=(nb T:Int) - F - 1) ⋯
  by_cases g4:c%6=2
  ·have z:=fin (c / 6 / 3%2) (((nb T:Int) - F - 1)*pw F+T / pw ((nb T:Int) - F - 1) - (F+c / 6 / 6%3)*pw F+c / 6%3 - 1) me
   exact ⟨_,by simp_arith [s1,s2,s3,s9,g1,g2,e1,q1,r1,hH,b1,b2,mu,sr,sF,eq_true g3,sm,st,ey,dv,hy,eq_true g4,sf,z.2],z.1⟩
  ·have z:=fin ((sx s s'+1)%2) (((nb T:Int) - F - 1)*pw F+T / pw ((nb T:Int) - F - 1)+c / 6%3 - 1) md
   exact ⟨_,by simp_arith [s1,s2,s3,s9,g1,g2,e1,q1,r1,hH,b1,b2,mu,sr,sF,eq_true g3,sm,st,ey,dv,hy,g4,z.2],z.1⟩
 ·by_cases g4:c%6=2
  ·have z:=fin (c / 6 / 3%2) (T - (F+c / 6 / 6%3)*pw F+c / 6%3 - 1) me
   exact ⟨_,by simp_arith [s1,s2,s3,s9,g1,g2,e1,q1,r1,hH,b1,b2,mu,sr,sF,g3,ey,dv,hy,eq_true g4,sf,z.2],z.1⟩
  ·have z:=fin ((sx s s'+1)%2) (T+c / 6%3 - 1) md
   exact ⟨_,by simp_arith [s1,s2,s3,s9,g1,g2,e1,q1,r1,hH,b1,b2,mu,sr,sF,g3,ey,dv,hy,g4,z.2],z.1⟩
theorem aM (w:Wy):aQ [.str w.s]=.ok (sJ w):=by
 have h:eC (.str w.s) (.tup [.str "even",.str "away",.str "nought",.str "up",.str "down"])=.ok ↥35:=by
  show eC (.str w.s) (.tup (CM.map D.str))=_
  rw [vD]
  cases w<;>rfl
 unfold aQ nc
 simp_arith [h]
 rfl
theorem jQ {E F:Int} (h:Sz E F):bQ [.tup [.int E,.int F]]=.ok (.int (pw ↥0)):=by
 obtain ⟨h1,h2,h3,h4⟩:=h
 unfold bQ ju
 simp_arith [dH (k:=E+F) ⋯ ⋯]
theorem CL {E F:Int}:om [.tup [.int E,.int F]]=.ok (.int (E+F+1)):=by
 unfold om rP
 simp_arith []
theorem fE {E F b:Int} (h:Sz E F) (hb:In E F b):br [.tup [.int E,.int F],.int b]=.ok (.tup [.int (sgn E F b),.int (fld E F b),.int (fig F b)]):=by
 obtain ⟨h1,h2,h3,h4⟩:=id h
 obtain ⟨hb0,hb1⟩:=hb
 have d1:fP b (pw ↥0):=⟨ah _,.inl (Nat.le_trans (cX (c:=127) ⋯) ↥1)⟩
 have d2:fP (b%pw ↥0) (pw F):=⟨ah _,.inl (Nat.le_trans (cX (c:=127) ⋯) ↥1)⟩
 have e0:b / pw ↥0=sgn E F b:=by unfold sgn;rw [aY ⋯ ⋯,part0 (ah _) (ah _)]
 have e1:b%pw ↥0 / pw F=fld E F b:=by unfold fld;rw [aY ⋯ ⋯,part1 (ah _) (ah _)]
 have e2:b%pw ↥0%pw F=fig F b:=by unfold fig;rw [aY ⋯ ⋯,part2]
 unfold br nq
 simp_arith [CL,jQ h,dH (k:=E+F+1) ⋯ ⋯,dH (k:=F) ⋯ ⋯,show ¬ b<0 by omega,show ¬ pw (E+F+1)<=b by omega,cb d1,cb d2,ah,e0,e1,e2]
theorem fc {E F:Int} (h:Sz E F):aT [.tup [.int E,.int F]]=.ok (.int (pw E - 1)):=by
 obtain ⟨h1,h2,h3,h4⟩:=h
 unfold aT gq
 simp_arith [dH (k:=E) ⋯ ⋯]
theorem rJ {E F b:Int} (h:Sz E F) (hb:In E F b):bf [.tup [.int E,.int F],.int b]=.ok (.str (kindS E (fld E F b) (fig F b))):=by
 unfold bf xA
 simp_arith [fE h hb,fc h]
 unfold kindS
 (repeat' split)<;>first | rfl | contradiction
theorem dG {s w p:Int} (hw:nb w<=1000000) (hp : -1000000<=p/\p<=1000000):aW [.tup [.int s,.int w,.int p]]=.ok (.tup [.int s,.int (frT w p),.int (frB p)]):=by
 unfold aW cO
 by_cases g:0<=p
 ·simp_arith [g,av (i:=w) (j:=p) g ⋯,frT,frB]
 ·simp_arith [g,dH (k := -p) ⋯ ⋯,frT,frB]
theorem JH {E F:Int} (h:Sz E F):tL [.tup [.int E,.int F]]=.ok (.int (pw (E - 1) - 1)):=by
 obtain ⟨h1,h2,h3,h4⟩:=h
 unfold tL xB
 simp_arith [dH (k:=E - 1) ⋯ ⋯]
theorem kA {E F:Int} (h:Sz E F):ko [.tup [.int E,.int F]]=.ok (.int (lo E F)):=by
 have e:1 - (pw (E - 1) - 1) - F=lo E F:=by unfold lo;omega
 unfold ko Es
 simp_arith [JH h,e]
theorem wI {E F b:Int} (h:Sz E F) (hb:In E F b) (hf:¬ fld E F b=pw E - 1):jU [.tup [.int E,.int F],.int b]=.ok (.tup [.int (sgn E F b),.int (wh F (fld E F b) (fig F b)),.int (po E F (fld E F b))]):=by
 obtain ⟨h1,h2,h3,h4⟩:=id h
 unfold jU rO
 simp_arith [fE h hb,fc h,kA h,hf,dH (k:=F) ⋯ ⋯]
 unfold wh po
 by_cases g:fld E F b=0
 ·simp only [if_pos g]
 ·simp only [if_neg g]
theorem oK {E F b:Int} (h:Sz E F) (hb:In E F b) (hf:¬ fld E F b=pw E - 1):bG [.tup [.int E,.int F],.int b]=.ok (.tup [.int (sgn E F b),.int (frT (wh F (fld E F b) (fig F b)) (po E F (fld E F b))),.int (frB (po E F (fld E F b)))]):=by
 have h1:=zQ h hb
 have h2:=HK h hb
 unfold bG jA
 simp_arith [wI h hb hf,dG (s:=sgn E F b) (w:=wh F (fld E F b) (fig F b)) (p:=po E F (fld E F b)) ⋯ ⋯]
theorem jC {t n:Int} (ht:0<=t) (hn:0<n):aJ [.int t,.int n]=.ok .non:=by
 unfold aJ cR
 simp_arith [show ¬ t<0 by omega,show ¬ n<1 by omega]
theorem oa {o a m:Int}:aX [.int o,.int a,.int m]=.ok (.int (if o=0 then 0 else if a<m then 1 else if a=m then 2 else 3)):=by
 unfold aX cP
 simp_arith []
theorem rest_of_ok {o s:Int} (h:nb o<=100000000):fH [.int o,.int s]=.ok (.int (rst o s)):=by
 have m:MulOk 2 o:=by walk_at "mul"
 unfold fH kF
 simp_arith [ak m,oa]
 rfl
theorem xF (w:Wy) (s:Int):aV [sJ w,.int s]=.ok (.bl (w.out s)):=by
 unfold aV bw sJ
 cases w<;>simp_arith [Wy.s,Wy.out]
theorem m9 (w:Wy) (s r:Int) (o:Bool) (h:¬ r=0):b9 [sJ w,.int s,.bl o,.int r]=.ok (.bl (w.grw s o r)):=by
 have f:=xF w s
 have hm:f9 "Way" "flees_nought" (sJ w)=true:=rfl
 unfold b9 dO
 have nm:("flees_nought" != "name")=true:=by decide
 have e1:zy "Way" "name" (sJ w)=.ok (.str w.s):=rfl
 unfold sJ at *
 cases w
 ·by_cases g:r=3
  ·simp_arith [h,Wy.s,eq_true g]
   simp [Wy.grw,g]
  ·by_cases g2:r=2
   ·simp_arith [h,Wy.s,g,eq_true g2]
    simp [Wy.grw,g2]
   ·simp_arith [h,Wy.s,g,g2]
    simp [Wy.grw,g,g2]
 ·simp_arith [h,Wy.s]
  rfl
 ·simp only [Wy.s] at f
  simp_arith [h,Wy.s,nm,f]
  rfl
 ·simp only [Wy.s] at f
  simp_arith [h,Wy.s,nm,f]
  rfl
 ·simp only [Wy.s] at f
  simp_arith [h,Wy.s,nm,f]
  rfl
theorem yW (w:Wy) (s:Int) (o:Bool):b9 [sJ w,.int s,.bl o,.int 0]=.ok ↥35:=by
 unfold b9 dO
 unfold sJ
 simp_arith []
theorem nK {s t n:Int} (w:Wy) (ht:0<=t) (hn:0<n) (n2:nb n<=1000000) (d:fP t n):gH [.str w.s,.int s,.int t,.int n]=.ok (.int (whW w s t n)):=by
 have q0:=Int.ediv_nonneg ht (Int.le_of_lt hn)
 have nr:nb (t%n)<=1000000:=Bd hn n2
 have mg:f9 "Way" "grows" (sJ w)=true:=rfl
 have vw:∀ (a b c d:Option D) (l:Dt),var 4 (a::b::c::d::some (sJ w)::l)=.ok (sJ w):=fun _ _ _ _ _=>rfl
 unfold gH jt whW
 by_cases g:rst (t%n) n=0
 ·have e:=rest_of_ok (o:=t%n) (s:=n) ⋯
  rw [g] at e
  simp_arith [aM w,jC ht hn,cb d,hn,e,vw,mg,iS q0,yW w s,eq_true g]
 ·cases gg:w.grw s (decide (t / n%2=1)) (rst (t%n) n)
  ·simp_arith [aM w,jC ht hn,cb d,hn,rest_of_ok (o:=t%n) (s:=n) ⋯,vw,mg,iS q0,m9 w s _ _ g,gg,g]
  ·simp_arith [aM w,jC ht hn,cb d,hn,rest_of_ok (o:=t%n) (s:=n) ⋯,vw,mg,iS q0,m9 w s _ _ g,gg,g]
theorem Kj {s t n:Int} (w:Wy) (ht:0<=t) (hn:0<n) (n1:nb t<=1000000) (n2:nb n<=1000000) (d:fP t n):bD [.str w.s,.tup [.int s,.int t,.int n]]=.ok (.tup [.int (whW w s t n),.int (if whW w s t n*n=t then 0 else 1)]):=by
 have q:=wL (w:=w) (s:=s) ht hn
 have nw:nb (whW w s t n)<=1000002:=by
  have a:nb (t / n)<=1000000:=gO hn n1
  have b:nb (t / n+1)<=1000001:=by walk_at "nbk"
  exact Nat.le_trans (ef (j:=t / n+1) ⋯) ⋯
 have m:MulOk (whW w s t n) n:=by walk_at "mul"
 unfold bD cy
 by_cases g:whW w s t n*n=t
 ·simp_arith [nK w ht hn n2 d,ak m,eq_true g]
 ·simp_arith [nK w ht hn n2 d,ak m,g]
theorem j5 {t n p:Int} (h1:nb t<=10000000) (h2:nb n<=10000000) (h3 : -10000000<=p) (h4:p<=10000000):eY [.int t,.int n,.int p]=.ok (.tup [.int (d8 p t),.int (dE p n)]):=by
 unfold eY nj d8 dE
 by_cases g:0<=p
 ·simp_arith [g,av (i:=n) (j:=p) g ⋯,bC (p := -p) ⋯,Int.mul_one]
 ·simp_arith [g,av (i:=t) (j := -p) ⋯ ⋯,bC (p:=p) ⋯,Int.mul_one]
theorem t8 {t n:Int} (h1:nb t<=1000000) (h2:nb n<=1000000):iq [.int t,.int n]=.ok (.int (hgt t n)):=by
 have e:(d8 ((nb t:Int) - nb n) t<dE ((nb t:Int) - nb n) n)=Lt t n ((nb t:Int) - nb n):=rfl
 unfold iq nC hgt
 by_cases g:Lt t n ((nb t:Int) - nb n)
 ·simp_arith [j5 (t:=t) (n:=n) (p:=(nb t:Int) - nb n) ⋯ ⋯ ⋯ ⋯,e,g]
 ·simp_arith [j5 (t:=t) (n:=n) (p:=(nb t:Int) - nb n) ⋯ ⋯ ⋯ ⋯,e,g]
theorem EE {E F n:Int} (h:Sz E F) (hn:0<n):vB [.tup [.int E,.int F],.int 0,.int n]=.ok (.tup [.int 0,.int (lo E F),.int 0]):=by
 unfold vB BA
 simp_arith [jC (Int.le_refl 0) hn,kA h]
theorem MP {E F t n:Int} (h:Sz E F) (ht:0<t) (hn:0<n) (h1:nb t<=1000000) (h2:nb n<=1000000) :
  vB [.tup [.int E,.int F],.int t,.int n]=.ok (.tup [.int (d8 ↥32 t / dE ↥32 n),.int ↥32,.int (rst (d8 ↥32 t%dE ↥32 n) (dE ↥32 n))]):=by
 obtain ⟨s1,s2,s3,s4⟩:=rX h ht hn
 have l:=dN h
 have hB:=jB (p:=qe E F t n) hn
 have hA:=rY (p:=qe E F t n) (Int.le_of_lt ht)
 have d:=FD h hA hB s3
 have eP:max (lo E F) (hgt t n - F - 1)=qe E F t n:=rfl
 have nB:nb (dE ↥32 n)<=3000000:=by
  have:=cD h2 (cX (k:=qe E F t n) (c:=1000000) ⋯)
  unfold dE;omega
 have nr:nb (d8 ↥32 t%dE ↥32 n)<=3000000:=Bd hB nB
 unfold vB BA
 simp_arith [jC (Int.le_of_lt ht) hn,show ¬ t=0 by omega,kA h,t8 h1 h2,eP,j5 (t:=t) (n:=n) (p:=qe E F t n) ⋯ ⋯ ⋯ ⋯,cb d,hB,rest_of_ok (o:=d8 ↥32 t%dE ↥32 n) (s:=dE ↥32 n) ⋯]
theorem bu {E F:Int} (h:Sz E F):aZ [.tup [.int E,.int F]]=.ok (.int ((pw E - 1)*pw F)):=by
 obtain ⟨h1,h2,h3,h4⟩:=id h
 have hb:nb (pw E)<=16:=cX (c:=15) ⋯
 have hb2:nb (pw E - 1)<=17:=by walk_at "nbk"
 unfold aZ kJ
 simp_arith [fc h,av (i:=pw E - 1) (j:=F) ⋯ ⋯]
theorem cY {E F s c:Int} (h:Sz E F) (hs:0<=s/\s<=1):bK [.tup [.int E,.int F],.int s,.int c]=.ok (.int ↥13):=by
 have n1:nb (pw ↥0)<=128:=cX (c:=127) (by have:=h.2.1;have:=h.2.2.2;omega)
 unfold bK nh
 simp_arith [jQ h,ak (dq hs.1 hs.2 (Nat.le_trans n1 ↥1))]
theorem Bl {E F c k:Int} (h:Sz E F):dZ [.tup [.int E,.int F],.int c,.int k]=.ok (.int (if k=pw ↥0 - pw F then 5 else if c<pw F then 3 else 1)):=by
 obtain ⟨h1,h2,h3,h4⟩:=id h
 unfold dZ gi
 simp_arith [bu h,end_is h,dH (k:=F) ⋯ ⋯]
theorem um (w:Wy) (s:Int):fY [sJ w,.int s]=.ok (.bl (w.brs s)):=by
 have f:=xF w s
 have nm:("flees_nought" != "name")=true:=by decide
 have e2:∀ x:PySem.Str,oIn (.str x) (.tup [.str "even",.str "away"])=.ok (.bl (decide ((PySem.Str.ofString "even")=x\/(PySem.Str.ofString "away")=x))):=fun x=>kr
 unfold fY d7
 unfold sJ at *
 cases w
 ·simp_arith [Wy.s,e2]
  rfl
 ·simp_arith [Wy.s,e2]
  rfl
 ·simp only [Wy.s] at f
  simp_arith [Wy.s,e2,nm,f]
  rfl
 ·simp only [Wy.s] at f
  simp_arith [Wy.s,e2,nm,f]
  rfl
 ·simp only [Wy.s] at f
  simp_arith [Wy.s,e2,nm,f]
  rfl
theorem lE {E F s x P r:Int} (w:Wy) (h:Sz E F) (hs:0<=s/\s<=1) (hP:lo E F<=P) (hP2:P<=10000000) (hx:0<=x) :
  fF [.tup [.int E,.int F],.str w.s,.int s,.int x,.int P,.int r]=.ok (.tup [.int (s*pw ↥0+stK w E F s (codeOf E F P x) r),.int (stF w E F s (codeOf E F P x) r)]):=by
 obtain ⟨h1,h2,h3,h4⟩:=id h
 have l:=dN h
 have n1:nb (P - lo E F)<=64:=bP ⋯ ⋯
 have c0:0<=codeOf E F P x:=by
  have:=Int.mul_nonneg (show 0<=P - lo E F by omega) (Int.le_of_lt (ah F))
  unfold codeOf;omega
 have ec:(P - lo E F)*pw F+x=codeOf E F P x:=rfl
 have mb:f9 "Way" "bursts" (sJ w)=true:=rfl
 have mg:f9 "Way" "grows" (sJ w)=true:=rfl
 have vw:∀ (a b c d e f:Option D) (l:Dt),var 6 (a::b::c::d::e::f::some (sJ w)::l)=.ok (sJ w):=fun _ _ _ _ _ _ _=>rfl
 unfold fF kE stF stK
 by_cases g:pw ↥0 - pw F<=codeOf E F P x
 ·cases gb:w.brs s
  ·simp_arith [aM w,kA h,av (i:=P - lo E F) (j:=F) ⋯ ⋯,ec,bu h,end_is h,g,vw,mb,um w s,gb,cY h hs]
  ·simp_arith [aM w,kA h,av (i:=P - lo E F) (j:=F) ⋯ ⋯,ec,bu h,end_is h,g,vw,mb,um w s,gb,cY h hs]
 ·by_cases gr:r=0
  ·simp_arith [aM w,kA h,av (i:=P - lo E F) (j:=F) ⋯ ⋯,ec,bu h,end_is h,g,eq_true gr,cY h hs]
  ·cases gg:w.grw s (decide (codeOf E F P x%2=1)) r
   ·simp_arith [aM w,kA h,av (i:=P - lo E F) (j:=F) ⋯ ⋯,ec,bu h,end_is h,g,gr,vw,mg,iS c0,m9 w s r _ gr,gg,cY h hs,Bl h]
   ·simp_arith [aM w,kA h,av (i:=P - lo E F) (j:=F) ⋯ ⋯,ec,bu h,end_is h,g,gr,vw,mg,iS c0,m9 w s r _ gr,gg,cY h hs,Bl h]
theorem yE {E F s t n:Int} (w:Wy) (h:Sz E F) (hs:0<=s/\s<=1) (ht:0<t) (hn:0<n) (h1:nb t<=1000000) (h2:nb n<=1000000) :
  bE [.tup [.int E,.int F],.str w.s,.int s,.int t,.int n]=.ok (.tup [.int (s*pw ↥0+stK w E F s (codeOf E F ↥32 (d8 ↥32 t / dE ↥32 n)) (rst (d8 ↥32 t%dE ↥32 n) (dE ↥32 n))),.int (stF w E F s (codeOf E F ↥32 (d8 ↥32 t / dE ↥32 n)) (rst (d8 ↥32 t%dE ↥32 n) (dE ↥32 n)))]):=by
 obtain ⟨s1,s2,s3,s4⟩:=rX h ht hn
 unfold bE iU
 simp_arith [aM w,MP h ht hn h1 h2,lE w h hs s1 ⋯ (Int.ediv_nonneg (rY (p:=qe E F t n) (Int.le_of_lt ht)) (Int.le_of_lt (jB (p:=qe E F t n) hn)))]
theorem tj {E F s n:Int} (w:Wy) (h:Sz E F) (hs:0<=s/\s<=1) (hn:0<n):bE [.tup [.int E,.int F],.str w.s,.int s,.int 0,.int n]=.ok (.tup [.int (s*pw ↥0),.int 0]):=by
 have l:=dN h
 have h5:=ay h
 have hQ:=ah F
 have e0:codeOf E F (lo E F) 0=0:=by unfold codeOf;rw [Int.sub_self,Int.zero_mul];rfl
 have e:=lE (s:=s) (x:=0) (P:=lo E F) (r:=0) w h hs (Int.le_refl _) ⋯ (Int.le_refl 0)
 rw [e0,show stK w E F s 0 0=0 by unfold stK;rw [if_neg ⋯,if_pos rfl],show stF w E F s 0 0=0 by unfold stF;rw [if_neg ⋯,if_pos rfl],Int.add_zero] at e
 unfold bE iU
 simp_arith [aM w,EE h hn,e]
theorem yF {E F t n:Int} (h:Sz E F) (ht:0<=t) (hn:0<n) (n1:nb t<=1000000) (n2:nb n<=1000000) :
  ∃ c r,(∀ (w:Wy) (s:Int),0<=s/\s<=1->bE [.tup [.int E,.int F],.str w.s,.int s,.int t,.int n]=.ok (.tup [.int (s*pw ↥0+stK w E F s c r),.int (stF w E F s c r)]))/\0<=c/\vl F c*n<=t*pw ↥15/\t*pw ↥15<vl F (c+1)*n/\mK F (t*pw ↥15) n c r:=by
 have l:=dN h
 have h5:=ay h
 have hQ:=ah F
 by_cases g:t=0
 ·subst g
  refine ⟨0,0,fun w s hs => ?_,Int.le_refl 0,?_,?_,.inl ⟨rfl,?_⟩⟩
  ·rw [tj w h hs hn,show stK w E F s 0 0=0 by unfold stK;rw [if_neg ⋯,if_pos rfl],show stF w E F s 0 0=0 by unfold stF;rw [if_neg ⋯,if_pos rfl],Int.add_zero]
  ·rw [qG,Int.zero_mul,Int.zero_mul];exact Int.le_refl 0
  ·rw [Int.zero_mul]
   have:=nL (F:=F) (c:=0) (c':=0+1) (Int.le_refl 0) ↥1
   rw [qG] at this
   exact Int.mul_pos this hn
  ·rw [qG,Int.zero_mul,Int.zero_mul]
 have ht':0<t:=⋯
 obtain ⟨s1,s2,s3,s4⟩:=rX h ht' hn
 have hB:=jB (p:=qe E F t n) hn
 have hA:=rY (p:=qe E F t n) ht
 have w0:0<=d8 ↥32 t / dE ↥32 n:=Int.ediv_nonneg hA (Int.le_of_lt hB)
 have w1:d8 ↥32 t / dE ↥32 n<2*pw F:=Int.ediv_lt_of_lt_mul hB s3
 have w2:lo E F<qe E F t n->pw F<=d8 ↥32 t / dE ↥32 n:=fun q=>Int.le_ediv_of_mul_le hB (s4 q)
 have l0:=Int.emod_nonneg (d8 ↥32 t) (show dE ↥32 n≠0 by omega)
 have l1:=Int.emod_lt_of_pos (d8 ↥32 t) hB
 have b:=between h hn s1 w0 w1 w2 l0 l1 (Int.ediv_mul_add_emod _ _).symm
 have c0:=(kO h s1 w0 w1 w2).1
 exact ⟨_,_,fun w s hs=>yE w h hs ht' hn n1 n2,c0,b.1,b.2.1,Ei b l0⟩
theorem nV {E F t n:Int} (h:Sz E F) (ht:0<=t) (hn:0<n) (n1:nb t<=1000000) (n2:nb n<=1000000) :
  ∃ c r,(∀ (w:Wy) (s:Int),0<=s/\s<=1->bE [.tup [.int E,.int F],.str w.s,.int s,.int t,.int n]=.ok (.tup [.int (s*pw ↥0+stK w E F s c r),.int (stF w E F s c r)]))/\At F (t*pw ↥15) n c r:=by
 obtain ⟨c,r,e,x⟩:=yF h ht hn n1 n2
 exact ⟨c,r,e,x⟩
theorem cc {E F:Int} (h:Sz E F):aE [.tup [.int E,.int F]]=.ok (.int ((pw E - 1)*pw F+pw (F - 1))):=by
 obtain ⟨h1,h2,h3,h4⟩:=id h
 unfold aE iz
 simp_arith [bu h,dH (k:=F - 1) ⋯ ⋯]
theorem jD {E F B:Int} {z b:D} {K:PySem.Str} (ek:bf [z,b]=.ok (.str K)) (hz:z=.tup [.int E,.int F]) (hb:b=.int B):bg [z,.lst [b]]=.ok (.bl (decide (K=PySem.Str.ofString "none"))):=by
 subst hz hb
 have st:stC (con ↥26) (call bf [var 1,var 0]) [0] [some (.tup [.int E,.int F]),some (.lst [.int B]),none] (.int B)=.ok (some (.str K)):=by
  unfold stC inC
  simp_arith [List.getD_cons_zero,ek]
  unfold lM
  simp_arith []
 have rc:runC (stC (con ↥26) (call bf [var 1,var 0]) [0] [some (.tup [.int E,.int F]),some (.lst [.int B]),none]) [.int B]=.ok [.str K]:=by
  rw [wZ (f:=fun _=>.str K) (fun d hd=>by
   rw [List.mem_singleton] at hd
   rw [hd]
   exact st)]
  rfl
 have fr:dC [.str K]=.ok (.lst [.str K]):=rfl
 have i1:oIn (.str (PySem.Str.ofString "none")) (.lst [.str K])=.ok (.bl (decide (K=PySem.Str.ofString "none"))):=by
  unfold oIn isIn
  simp only [List.all_cons,List.all_nil,D.sc,Bool.and_self,if_true,List.any_cons,List.any_nil,D.beq,Bool.or_false]
  by_cases g:K=PySem.Str.ofString "none"
  ·rw [g];simp
  ·simp [g]
 have pb:∀ (a c:Option D) (ds:List D),pub 2 [a,c,some (.own ds)]=[a,c,some (.lst ds)]:=fun _ _ _=>rfl
 unfold bg fB
 simp_arith [rc,fr,i1,dI,Cy,AE,pb,view]
theorem zv {E F B B':Int} {K K':PySem.Str} (ek:bf [.tup [.int E,.int F],.int B]=.ok (.str K)) (ek':bf [.tup [.int E,.int F],.int B']=.ok (.str K')) :
  bg [.tup [.int E,.int F],.lst [.int B,.int B']]=.ok (.bl (decide (K=PySem.Str.ofString "none"\/K'=PySem.Str.ofString "none"))):=by
 have st:stC (con ↥26) (call bf [var 1,var 0]) [0] [some (.tup [.int E,.int F]),some (.lst [.int B,.int B']),none] (.int B)=.ok (some (.str K)):=by
  unfold stC inC
  simp_arith [List.getD_cons_zero,ek]
  unfold lM
  simp_arith []
 have st':stC (con ↥26) (call bf [var 1,var 0]) [0] [some (.tup [.int E,.int F]),some (.lst [.int B,.int B']),none] (.int B')=.ok (some (.str K')):=by
  unfold stC inC
  simp_arith [List.getD_cons_zero,ek']
  unfold lM
  simp_arith []
 have rc:runC (stC (con ↥26) (call bf [var 1,var 0]) [0] [some (.tup [.int E,.int F]),some (.lst [.int B,.int B']),none]) [.int B,.int B']=.ok [.str K,.str K']:=by
  simp only [runC,st,st',R.bind]
 have fr:dC [.str K,.str K']=.ok (.lst [.str K,.str K']):=rfl
 have i1:oIn (.str (PySem.Str.ofString "none")) (.lst [.str K,.str K'])=.ok (.bl (decide (K=PySem.Str.ofString "none"\/K'=PySem.Str.ofString "none"))):=by
  unfold oIn isIn
  simp only [List.all_cons,List.all_nil,D.sc,Bool.and_self,if_true,List.any_cons,List.any_nil,D.beq,Bool.or_false]
  by_cases g:K=PySem.Str.ofString "none"<;>by_cases g':K'=PySem.Str.ofString "none"<;>simp [g,g']
 have pb:∀ (a c:Option D) (ds:List D),pub 2 [a,c,some (.own ds)]=[a,c,some (.lst ds)]:=fun _ _ _=>rfl
 unfold bg fB
 simp_arith [rc,fr,i1,dI,Cy,AE,pb,view]
theorem wF {E F:Int} {bs:List Int} {f:Int->PySem.Str} (hl:bs.length<=1000) (hf:∀ b∈bs,bf [.tup [.int E,.int F],.int b]=.ok (.str (f b))) :
  bg [.tup [.int E,.int F],.lst (bs.map .int)]=.ok (.bl (decide (PySem.Str.ofString "none"∈bs.map f))):=by
 have st:∀ b∈bs,stC (con ↥26) (call bf [var 1,var 0]) [0] [some (.tup [.int E,.int F]),some (.lst (bs.map .int)),none] (.int b)=.ok (some (.str (f b))):=fun b hb=>by
  unfold stC inC
  simp_arith [List.getD_cons_zero,hf b hb]
  unfold lM
  simp_arith []
 have rc:∀ (l:List Int),(∀ b∈l,b∈bs)->runC (stC (con ↥26) (call bf [var 1,var 0]) [0] [some (.tup [.int E,.int F]),some (.lst (bs.map .int)),none]) (l.map .int)=.ok ((l.map f).map D.str):=fun l=>by
  induction l with
  | nil=>exact fun _=>rfl
  | cons b r ih =>
   intro h
   rw [List.map_cons]
   unfold runC
   rw [st b (h b (.head _)),ih fun x hx=>h x (.tail _ hx)]
   rfl
 have fr:∀ l:List PySem.Str,D.flats (l.map D.str)=true:=fun l=>by
  induction l with
  | nil=>rfl
  | cons a r ih =>
   rw [List.map_cons]
   show (D.flat (.str a)&&D.flats (r.map D.str))=true
   rw [ih]
   rfl
 have fr':dC ((bs.map f).map D.str)=.ok (.lst ((bs.map f).map D.str)):=by unfold dC;rw [if_pos (fr _)]
 have i1:oIn (.str (PySem.Str.ofString "none")) (.lst ((bs.map f).map D.str))=.ok (.bl (decide (PySem.Str.ofString "none"∈bs.map f))):=by
  have sc:∀ l:List PySem.Str,(l.map D.str).all D.sc=true:=fun l=>by
   induction l with
   | nil=>rfl
   | cons a r ih=>rw [List.map_cons,List.all_cons,ih];rfl
  have an:∀ l:List PySem.Str,((l.map D.str).any fun y=>D.beq y (.str (PySem.Str.ofString "none")))=decide (PySem.Str.ofString "none"∈l):=fun l=>by
   induction l with
   | nil=>rfl
   | cons a r ih =>
    rw [List.map_cons,List.any_cons,ih]
    show (decide (a=PySem.Str.ofString "none")||_)=_
    by_cases g:a=PySem.Str.ofString "none"
    ·rw [g];simp
    ·by_cases g':PySem.Str.ofString "none"∈r
     ·simp [g,g']
     ·simp [g,g',Ne.symm g,eq_comm]
  unfold oIn isIn
  simp only [D.sc,sc,Bool.and_self,if_true,an]
 have pb:∀ (a c:Option D) (ds:List D),pub 2 [a,c,some (.own ds)]=[a,c,some (.lst ds)]:=fun _ _ _=>rfl
 unfold bg fB
 simp_arith [List.length_map,show bs.length<=100000 by omega,rc bs (fun _ h=>h),fr',i1,dI,Cy,AE,pb,view]
theorem lB {l:List D} {p:Int}:∀ {ts:List Tm} {acc:Int} {z3 z4:Option D},(∀ t∈ts,F0 t/\p<=t.2.2/\t.2.2 - p<=450000) ->
  ∃ z3' z4',forL 3 (seq (assign 4 (bin bH (bin oIx (var 3) ⇑1) (bin bT (bin oIx (var 3) ⇑2) (var 1)))) (assign 2 (ife (bin oEq (bin oIx (var 3) ⇑0) ⇑1) (bin bT (var 2) (var 4)) (bin bx (var 2) (var 4))))) (ts.map tD) [some (.lst l),some (.int p),some (.int acc),z3,z4]=.nx [some (.lst l),some (.int p),some (.int (acc+gY p ts)),z3',z4']
 | [],acc,z3,z4,_=>⟨z3,z4,by rw [List.map_nil,xE,show gY p []=0 from rfl,Int.add_zero]⟩
 | t::r,acc,z3,z4,h=>by
  obtain ⟨⟨a1,a2,a3,a4⟩,a5,a6⟩:=h t (.head _)
  have sh:=av (i:=t.2.1) (j:=t.2.2 - p) ⋯ ⋯
  by_cases g:t.1=1
  ·obtain ⟨z3',z4',ih⟩:=lB (l:=l) (p:=p) (ts:=r) (acc:=acc - t.2.1*pw (t.2.2 - p)) (z3:=some (tD t)) (z4:=some (.int (t.2.1*pw (t.2.2 - p)))) fun t ht=>h t (.tail _ ht)
   refine ⟨z3',z4',?_⟩
   have e:gY p (t::r) = -(t.2.1*pw (t.2.2 - p))+gY p r:=by
    show tv p t+_=_
    unfold tv
    rw [if_pos g]
   rw [e,List.map_cons,kM]
   unfold tD at ih ⊢
   simp_arith [sh,eq_true g,ih]
   rw [Int.sub_eq_add_neg,Int.add_assoc]
  ·obtain ⟨z3',z4',ih⟩:=lB (l:=l) (p:=p) (ts:=r) (acc:=acc+t.2.1*pw (t.2.2 - p)) (z3:=some (tD t)) (z4:=some (.int (t.2.1*pw (t.2.2 - p)))) fun t ht=>h t (.tail _ ht)
   refine ⟨z3',z4',?_⟩
   have e:gY p (t::r)=t.2.1*pw (t.2.2 - p)+gY p r:=by
    show tv p t+_=_
    unfold tv
    rw [if_neg g]
   rw [e,List.map_cons,kM]
   unfold tD at ih ⊢
   simp_arith [sh,g,ih]
   rw [Int.add_assoc]
theorem wO {ts:List Tm} (hl:ts.length<=100000) (h:∀ t∈ts,F0 t):oo [.lst (ts.map tD)]=.ok (.tup [.int (if gY (oz ts) ts<0 then 1 else 0),.int (if gY (oz ts) ts<0 then -(gY (oz ts) ts) else gY (oz ts) ts),.int (oz ts)]):=by
 have st:∀ δ,∀ t∈ts,stC (con ↥26) (bin oIx (var 0) ⇑2) [] δ (tD t)=.ok (some (.int t.2.2)):=fun δ t _=>by
  unfold stC inC tD
  simp_arith [List.map_nil]
  unfold lM
  simp_arith []
 have hb:=vN (ts:=ts) (a := -200000) (b:=200000) ↥1 fun t ht=>⟨(h t ht).2.2.1,(h t ht).2.2.2⟩
 obtain ⟨z3',z4',e⟩:=lB (l:=ts.map tD) (p:=oz ts) (ts:=ts) (acc:=0) (z3:=none) (z4:=none) fun t ht=>⟨h t ht,vM ht,by have:=(h t ht).2.2.2;omega⟩
 rw [Int.zero_add] at e
 unfold oo rQ
 by_cases g:gY (oz ts) ts<0
 ·simp_arith [List.length_map,hl,qZ (st _),cC,Bh,e,g]
 ·simp_arith [List.length_map,hl,qZ (st _),cC,Bh,e,g]
theorem A1 (w:Wy) (bs:List Int):dj [.str w.s,.lst (bs.map .int)]=.ok (.int (nsg w bs)):=by
 unfold dj fh nsg
 by_cases g0:(0:Int)∈bs
 ·by_cases g1:(1:Int)∈bs
  ·by_cases gd:w.s=PySem.Str.ofString "down"
   ·simp_arith [aM w,cN,g0,g1,eq_true gd]
   ·simp_arith [aM w,cN,g0,g1,gd]
  ·simp_arith [aM w,cN,g0,g1]
 ·by_cases g1:(1:Int)∈bs
  ·simp_arith [aM w,cN,g0,g1]
  ·simp_arith [aM w,cN,g0,g1]
theorem Dg {δ:Dt} {ts:List Tm}:∀ t∈ts,stC (con ↥26) ↥7 [] δ (tD t)=.ok (some (.int t.1)):=fun t _=>by
 unfold stC inC tD
 simp_arith [List.map_nil]
 unfold lM
 simp_arith []
theorem j4 {E F:Int} {ts:List Tm} (w:Wy) (h:Sz E F) (hl:ts.length<=1000) (hts:∀ t∈ts,F0 t) (z:gY (oz ts) ts=0) :
  aF [.tup [.int E,.int F],.str w.s,.lst (ts.map tD)]=.ok (.tup [.int (nsg w (ts.map (·.1))*pw ↥0),.int 0]):=by
 have hb:=vN (ts:=ts) (a := -200000) (b:=200000) ↥1 fun t ht=>⟨(hts t ht).2.2.1,(hts t ht).2.2.2⟩
 have to:=wO ⋯ hts
 rw [z,if_neg ↥1,if_neg ↥1] at to
 have wf:=dG (s:=0) (w:=0) (p:=oz ts) ↥1 ⟨⋯,⋯⟩
 have f0:frT 0 (oz ts)=0:=by
  unfold frT
  split
  ·exact Int.zero_mul _
  ·rfl
 rw [f0] at wf
 have sg:=cY (c:=0) h (Mc w (ts.map (·.1)))
 rw [Int.add_zero] at sg
 unfold aF cf
 simp_arith [to,wf,List.length_map,show ts.length<=100000 by omega,qZ Dg,cC,A1,sg]
theorem mw {E F q:Int} {ts:List Tm} (h:Sz E F) (hl:ts.length<=1000) (hts:∀ t∈ts,F0 t) (hq:q<=0) (hp:∀ t∈ts,q<=t.2.2) (z:gY q ts≠0) :
  ∃ c r,(∀ w:Wy,aF [.tup [.int E,.int F],.str w.s,.lst (ts.map tD)]=.ok (.tup [.int ((if gY q ts<0 then 1 else 0)*pw ↥0+stK w E F (if gY q ts<0 then 1 else 0) c r),.int (stF w E F (if gY q ts<0 then 1 else 0) c r)]))/\At F ((if gY q ts<0 then -(gY q ts) else gY q ts)*pw ↥15) (pw (-q)) c r:=by
 have hb:=vN (ts:=ts) (a := -200000) (b:=200000) ↥1 fun t ht=>⟨(hts t ht).2.2.1,(hts t ht).2.2.2⟩
 have to:=wO ⋯ hts
 have es:=Ac hp
 have hq':q<=oz ts:=by
  cases ts with
  | nil=>exact absurd rfl z
  | cons t r=>exact Bg (by simp) hp
 have nS:=Fo (p:=oz ts) fun t ht=>⟨hts t ht,vM ht,by have:=(hts t ht).2.2.2;omega⟩
 generalize oz ts=p at *
 have pp:=ah (p - q)
 generalize hS:gY p ts=S at *
 have ez:(gY q ts<0↔S<0):=by
  rw [es]
  constructor
  ·intro g
   refine Classical.byContradiction fun g' => ?_
   have:=Int.mul_nonneg (show 0<=S by omega) (Int.le_of_lt pp)
   omega
  ·exact fun g=>Int.mul_neg_of_neg_of_pos g pp
 have ea:(if gY q ts<0 then -(gY q ts) else gY q ts)=(if S<0 then -S else S)*pw (p - q):=by
  by_cases g:S<0
  ·rw [if_pos (ez.mpr g),if_pos g,es,Int.neg_mul]
  ·rw [if_neg (fun y=>g (ez.mp y)),if_neg g,es]
 have eg:(if gY q ts<0 then (1:Int) else 0)=if S<0 then 1 else 0:=by
  by_cases g:S<0
  ·rw [if_pos (ez.mpr g),if_pos g]
  ·rw [if_neg (fun y=>g (ez.mp y)),if_neg g]
 rw [ea,eg]
 have S0:S≠0:=fun y=>z (by rw [es,y,Int.zero_mul])
 have hg:(0:Int)<=(if S<0 then 1 else 0)/\(if S<0 then (1:Int) else 0)<=1:=by split<;>decide
 have nA:nb (if S<0 then -S else S)<=460000:=by
  split
  ·rw [xq];omega
  ·omega
 have A0:0<(if S<0 then -S else S):=by split<;>omega
 generalize (if S<0 then -S else S)=A at *
 generalize (if S<0 then (1:Int) else 0)=g at *
 have wf:=dG (s:=g) (w:=A) (p:=p) ⋯ ⟨⋯,⋯⟩
 have hn:0<frB p:=by
  unfold frB
  split
  ·decide
  ·exact ah _
 have ht:0<frT A p:=by
  unfold frT
  split
  ·exact Int.mul_pos A0 (ah _)
  ·exact A0
 have n1:nb (frT A p)<=1000000:=by
  unfold frT
  split
  ·have:=cD nA (cX (k:=p) (c:=200000) ⋯)
   omega
  ·omega
 have n2:nb (frB p)<=1000000:=by
  unfold frB
  split
  ·decide
  ·exact Nat.le_trans (cX (c:=200000) ⋯) ↥1
 obtain ⟨c,r,e,a⟩:=nV h (Int.le_of_lt ht) hn n1 n2
 refine ⟨c,r,fun w => ?_,Ce hn (ah _) ?_ a⟩
 ·unfold aF cf
  simp_arith [to,wf,show ¬ frT A p=0 by omega,e w g hg]
 ·have u:=Ex (w:=A) hq hq'
  have e1:A*pw (p - q)*pw ↥15*frB p=A*pw (p - q)*frB p*pw ↥15:=by ac_rfl
  have e2:frT A p*pw ↥15*pw (-q)=frT A p*pw (-q)*pw ↥15:=by ac_rfl
  rw [e1,e2,u]
theorem wR {δ:Dt} (x:Tm ⊕ Int):stC (un vE ↥2) ↥7 [] δ (xD x)=.ok (match x with | .inl _=>none | .inr s=>some (.int s)):=by
 cases x with
 | inl t =>
  unfold stC inC xD tD
  simp_arith [List.map_nil]
  unfold lM
  simp_arith []
 | inr s =>
  unfold stC inC xD
  simp_arith [List.map_nil]
  unfold lM
  simp_arith []
theorem lD {E F:Int} {ts:List Tm} (w:Wy) (hl:ts.length<=1000):aS [.tup [.int E,.int F],.str w.s,.lst (ts.map tD)]=aF [.tup [.int E,.int F],.str w.s,.lst (ts.map tD)]:=by
 have rc:∀ δ,runC (stC (un vE ↥2) ↥7 [] δ) (ts.map tD)=.ok []:=fun δ=>by
  rw [nU (o:=fun _=>none) fun d hd=>by
   obtain ⟨t,_,rfl⟩:=List.mem_map.mp hd
   exact wR (.inl t)]
  rw [List.filterMap_eq_nil_iff.mpr fun _ _=>rfl]
 have fr:dC []=.ok (.lst []):=rfl
 have pb:∀ (a b c:Option D) (ds:List D),pub 3 [a,b,c,some (.own ds)]=[a,b,c,some (.lst ds)]:=fun _ _ _ _=>rfl
 have i0:∀ x:Int,oIn (.int x) (.lst [])=.ok ↥35:=fun _=>rfl
 unfold aS cg
 generalize hr:aF [.tup [.int E,.int F],.str w.s,.lst (ts.map tD)]=r
 cases r with
 | ok d=>simp_arith [List.length_map,show ts.length<=100000 by omega,rc,fr,pb,i0,hr]
 | ex C=>simp_arith [List.length_map,show ts.length<=100000 by omega,rc,fr,pb,i0,hr]
 | bad =>
  simp_arith [List.length_map,show ts.length<=100000 by omega,rc,fr,pb,i0,hr]
  rfl
theorem lC {E F:Int} {xs:List (Tm ⊕ Int)} (w:Wy) (h:Sz E F) (hl:xs.length<=1000) (hs:∀ s∈lQ xs,0<=s/\s<=1) (hn:lQ xs≠[]) :
  aS [.tup [.int E,.int F],.str w.s,.lst (xs.map xD)]=.ok (if 0∈lQ xs/\1∈lQ xs then .tup [.int (pw ↥0 - pw F+pw (F - 1)),.int 16] else .tup [.int ((lQ xs).getD 0 0*pw ↥0+(pw ↥0 - pw F)),.int 0]):=by
 have rc:∀ δ,runC (stC (un vE ↥2) ↥7 [] δ) (xs.map xD)=.ok ((lQ xs).map D.int):=fun δ=>by
  clear hs hn hl
  induction xs with
  | nil=>rfl
  | cons x r ih =>
   rw [List.map_cons]
   unfold runC
   rw [wR,ih]
   cases x<;>rfl
 have pb:∀ (a b c:Option D) (ds:List D),pub 3 [a,b,c,some (.own ds)]=[a,b,c,some (.lst ds)]:=fun _ _ _ _=>rfl
 have l1:xs.length<=100000:=⋯
 have ee:=bu h
 have e2:=cc h
 rw [end_is h] at ee e2
 generalize lQ xs=es at *
 have lp:0<(es.length:Int):=by
  cases es with
  | nil=>exact absurd rfl hn
  | cons a r=>simp only [List.length_cons];omega
 have ix:=ro (bs:=es) (k:=0) (Int.le_refl 0) lp
 have hm:es.getD (0:Int).toNat 0∈es:=by
  have lt:0<es.length:=⋯
  show es.getD 0 0∈es
  rw [List.getD_eq_getElem?_getD,List.getElem?_eq_getElem lt]
  exact List.getElem_mem lt
 have sg:=cY (c:=pw ↥0 - pw F) h (hs _ hm)
 have e0:es.getD (0:Int).toNat 0=es.getD 0 0:=rfl
 rw [e0] at ix sg
 unfold aS cg
 by_cases g:0∈es/\1∈es
 ·rw [if_pos g]
  simp_arith [List.length_map,l1,rc,cC,pb,cN,eq_true g,eq_true g.1,eq_true g.2,e2]
 ·rw [if_neg g]
  by_cases g0:0∈es
  ·have g1:¬ 1∈es:=fun z=>g ⟨g0,z⟩
   simp_arith [List.length_map,l1,rc,cC,pb,cN,eq_true g0,g1,lp,ix,ee,sg]
  ·simp_arith [List.length_map,l1,rc,cC,pb,cN,g0,lp,ix,ee,sg]
theorem rz {E F s c:Int} (h:Sz E F) (hs:0<=s/\s<=1) (c0:0<=c) (c1:c<pw ↥0):bf [.tup [.int E,.int F],.int ↥13]=.ok (.str (kindS E ↥20 (c%pw F))):=by
 obtain ⟨b1,b2,b3,b4⟩:=aA h hs c0 c1
 have:=rJ h b1
 rw [b3,b4] at this
 exact this
theorem AY {E F s c:Int} (h:Sz E F) (hs:0<=s/\s<=1) (c0:0<=c) (c1:c<pw ↥0):br [.tup [.int E,.int F],.int ↥13]=.ok (.tup [.int s,.int ↥20,.int (c%pw F)]):=by
 obtain ⟨b1,b2,b3,b4⟩:=aA h hs c0 c1
 have:=fE h b1
 rw [b2,b3,b4] at this
 exact this
theorem ow {E F s c:Int} (h:Sz E F) (hs:0<=s/\s<=1) (c0:0<=c) (c1:c<pw ↥0 - pw F):aG [.tup [.int E,.int F],.int ↥13]=.ok (tD (wt E F s c)):=by
 have hQ:=ah F
 obtain ⟨b1,b2,b3,b4⟩:=aA (c:=c) h hs c0 ⋯
 have wo:=wI h b1 (by rw [b3];intro z;have:=(mZ h c0 ⋯).mp z;omega)
 rw [b2,b3,b4] at wo
 have k:=(fZ (c:=c) h c0 ⋯).2.1
 have kk:=rz (c:=c) h hs c0 ⋯
 have g:¬ kindS E ↥20 (c%pw F)=PySem.Str.ofString "endless":=fun z=>by have:=k.mp z;omega
 unfold aG dz tD wt
 simp_arith [kk,g,wo]
theorem ox {E F s c:Int} (h:Sz E F) (hs:0<=s/\s<=1) (c0:c=pw ↥0 - pw F):aG [.tup [.int E,.int F],.int ↥13]=.ok (.tup [.int s,.non,.int 0]):=by
 have hQ:=ah F
 have h5:=ay h
 have k:=(fZ (c:=c) h ⋯ ⋯).2.1
 have kk:=rz (c:=c) h hs ⋯ ⋯
 have pp:=AY (c:=c) h hs ⋯ ⋯
 unfold aG dz
 simp_arith [kk,eq_true (k.mpr c0),pp]
theorem Gs {E F:Int} {x:Int×Int} (h:Sz E F) (hx:uW E F x) (hn:x.2<=pw ↥0 - pw F):aG [.tup [.int E,.int F],.int (nI E F x)]=.ok (xD (xt E F x)):=by
 obtain ⟨a,b,c⟩:=hx
 unfold xt nI
 by_cases g:x.2=pw ↥0 - pw F
 ·rw [if_pos g]
  exact ox h a g
 ·rw [if_neg g]
  exact ow h a b ⋯
theorem og {E F:Int} {x y:Int×Int} (h:Sz E F) (hx:uW E F x) (hy:uW E F y) (nx:x.2<=pw ↥0 - pw F) (ny:y.2<=pw ↥0 - pw F):bR [.tup [.int E,.int F],.int (nI E F x),.int (nI E F y)]=.ok (xD (pt E F x y)):=by
 have tx:=Gs h hx nx
 have ty:=Gs h hy ny
 have so:=He hx.1 hy.1
 unfold xt at tx ty
 unfold pt
 unfold bR dU
 by_cases g:x.2=pw ↥0 - pw F
 ·rw [if_pos g] at tx
  rw [if_pos (.inl g)]
  by_cases g':y.2=pw ↥0 - pw F
  ·rw [if_pos g'] at ty
   unfold xD at *
   simp_arith [tx,ty,so]
  ·rw [if_neg g'] at ty
   unfold xD tD wt at *
   simp_arith [tx,ty,so]
 ·rw [if_neg g] at tx
  by_cases g':y.2=pw ↥0 - pw F
  ·rw [if_pos g'] at ty
   rw [if_pos (.inr g')]
   unfold xD tD wt at *
   simp_arith [tx,ty,so]
  ·rw [if_neg g'] at ty
   rw [if_neg (fun z=>z.elim g g')]
   obtain ⟨⟨_,a2,_,_⟩,_,_⟩:=zP (s:=0) h hx.2.1 (show x.2<_ by omega)
   obtain ⟨⟨_,b2,_,_⟩,_,_⟩:=zP (s:=0) h hy.2.1 (show y.2<_ by omega)
   have mu:=ak (MulOk.of (i:=wh F (x.2 / pw F) (x.2%pw F)) (j:=wh F (y.2 / pw F) (y.2%pw F)) a2 b2 ↥1)
   unfold xD tD wt pm at *
   simp_arith [tx,ty,so,mu]
theorem iE {E F:Int} {x y:Int×Int} (h:Sz E F) (hx:uW E F x) (hy:uW E F y):bo [.tup [.int E,.int F],.int (nI E F x),.int (nI E F y)]=.ok (.bl (decide ((x.2=0\/y.2=0)/\(x.2=pw ↥0 - pw F\/y.2=pw ↥0 - pw F)))):=by
 obtain ⟨kn,ke,k0⟩:=fZ (c:=x.2) h hx.2.1 hx.2.2
 obtain ⟨ln,le,l0⟩:=fZ (c:=y.2) h hy.2.1 hy.2.2
 have kk:=rz (c:=x.2) h hx.1 hx.2.1 hx.2.2
 have kl:=rz (c:=y.2) h hy.1 hy.2.1 hy.2.2
 simp only [<- ke,<-le,<-k0,<-l0]
 generalize kindS E (x.2 / pw F) (x.2%pw F)=K at *
 generalize kindS E (y.2 / pw F) (y.2%pw F)=L at *
 unfold nI bo du
 by_cases g:K=PySem.Str.ofString "nought"\/L=PySem.Str.ofString "nought"
 ·simp_arith [kk,kl,kr,eq_true g,true_and]
 ·simp_arith [kk,kl,kr,g,false_and]
theorem rA {E F:Int} {xs:List (Int×Int)} (h:Sz E F) (hx:∀ x∈xs,uW E F x) :
  PySem.Str.ofString "none"∈(xs.map (nI E F)).map (fun b=>kindS E (fld E F b) (fig F b))↔∃ x∈xs,pw ↥0 - pw F<x.2:=by
 rw [List.map_map,List.mem_map]
 constructor
 ·rintro ⟨x,m,e⟩
  obtain ⟨a,b,c⟩:=hx x m
  obtain ⟨b1,b2,b3,b4⟩:=aA h a b c
  refine ⟨x,m,(fZ h b c).1.mp ?_⟩
  rw [<- b3,<-b4]
  exact e
 ·rintro ⟨x,m,e⟩
  obtain ⟨a,b,c⟩:=hx x m
  obtain ⟨b1,b2,b3,b4⟩:=aA h a b c
  refine ⟨x,m,?_⟩
  have:=(fZ h b c).1.mpr e
  rw [<- b3,<-b4] at this
  exact this
theorem vL {E F:Int} {xs:List (Int×Int)} (h:Sz E F) (hx:∀ x∈xs,uW E F x):∀ b∈xs.map (nI E F),bf [.tup [.int E,.int F],.int b]=.ok (.str (kindS E (fld E F b) (fig F b))):=fun b hb=>by
 obtain ⟨x,m,rfl⟩:=List.mem_map.mp hb
 obtain ⟨a,b,c⟩:=hx x m
 exact rJ h (aA h a b c).1
theorem u7 {E F:Int} {st:D->R (Option D)} {xs:List (Int×Int)} (hst:∀ x∈xs,st (.int (nI E F x))=.ok (some (xD (xt E F x)))):runC st ((xs.map (nI E F)).map D.int)=.ok ((xs.map (xt E F)).map xD):=by
 induction xs with
 | nil=>rfl
 | cons x r ih =>
  rw [List.map_cons,List.map_cons]
  unfold runC
  rw [hst x (.head _),ih fun x hx=>hst x (.tail _ hx)]
  rfl
theorem nD {E F:Int} {a0 a1 a2 a3 a6:Option D}:∀ {ps:List ((Int×Int)×(Int×Int))} {bs:List Int} {z5:Option D},(bs.length+2*ps.length<=100000)->∃ z5',forL 5 (lX 4 (var 5)) (ps.map (pD E F)) [a0,a1,a2,a3,some (.own (bs.map .int)),z5,a6]=.nx [a0,a1,a2,a3,some (.own ((bs++(fl ps).map (nI E F)).map .int)),z5',a6]
 | [],bs,z5,_=>⟨z5,by rw [List.map_nil,xE];show _=O.nx [a0,a1,a2,a3,some (D.own ((bs++[]).map .int)),z5,a6];rw [List.append_nil]⟩
 | p::r,bs,z5,hl=>by
  rw [List.length_cons] at hl
  obtain ⟨z5',ih⟩:=nD (E:=E) (F:=F) (a0:=a0) (a1:=a1) (a2:=a2) (a3:=a3) (a6:=a6) (ps:=r) (bs:=bs++[nI E F p.1,nI E F p.2]) (z5:=some (pD E F p)) (by rw [List.length_append];simp;omega)
  refine ⟨z5',?_⟩
  have e:(bs++(fl (p::r)).map (nI E F))=bs++[nI E F p.1,nI E F p.2]++(fl r).map (nI E F):=by
   show bs++([nI E F p.1,nI E F p.2]++(fl r).map (nI E F))=_
   rw [List.append_assoc]
  rw [e,List.map_cons,kM,<-ih]
  have x:J3 4 [a0,a1,a2,a3,some (.own (bs.map .int)),some (pD E F p),a6] (bs.map .int) (.ok (pD E F p))=.nx [a0,a1,a2,a3,some (.own ((bs++[nI E F p.1,nI E F p.2]).map .int)),some (pD E F p),a6]:=by
   unfold J3 pD
   simp only
   rw [if_pos ⟨rfl,by simp;omega⟩,List.map_append]
   rfl
  have y:lX 4 (var 5) [a0,a1,a2,a3,some (.own (bs.map .int)),some (pD E F p),a6]=.nx [a0,a1,a2,a3,some (.own ((bs++[nI E F p.1,nI E F p.2]).map .int)),some (pD E F p),a6]:=by
   rw [C3,<-x]
   rfl
  show trn (lX 4 (var 5) [a0,a1,a2,a3,some (.own (bs.map .int)),some (pD E F p),a6]) (forL 5 (lX 4 (var 5)) (r.map (pD E F)))=_
  rw [y]
  rfl
theorem oi {E F:Int} {st:D->R (Option D)} {f:(Int×Int)×(Int×Int)->D} {ps:List ((Int×Int)×(Int×Int))} (hst:∀ p∈ps,st (pD E F p)=.ok (some (f p))):runC st (ps.map (pD E F))=.ok (ps.map f):=by
 induction ps with
 | nil=>rfl
 | cons p r ih =>
  rw [List.map_cons]
  unfold runC
  rw [hst p (.head _),ih fun x hx=>hst x (.tail _ hx)]
  rfl
theorem any_map {α:Type} {f:α->Bool} {ps:List α}:JQ [.lst (ps.map fun p=>.bl (f p))]=.ok (.bl (ps.any f)):=by
 have:boolsOf (ps.map fun p=>.bl (f p))=some (ps.map f):=by
  induction ps with
  | nil=>rfl
  | cons a r ih =>
   rw [List.map_cons,List.map_cons]
   show (boolsOf _).map _=_
   rw [ih]
   rfl
 unfold JQ
 simp only [this]
 rw [List.any_map]
 rfl
theorem qh {α:Type} {f:α->Bool} {ps:List α}:dC (ps.map fun p=>.bl (f p))=.ok (.lst (ps.map fun p=>.bl (f p))):=by
 unfold dC
 rw [if_pos]
 induction ps with
 | nil=>rfl
 | cons a r ih =>
  rw [List.map_cons]
  show (D.flat (.bl (f a))&&D.flats _)=true
  rw [ih]
  rfl
def wrP (E F:Int) (p:(Int×Int)×(Int×Int)):Prop:=(p.1.2=0\/p.2.2=0)/\(p.1.2=pw ↥0 - pw F\/p.2.2=pw ↥0 - pw F)
noncomputable instance (E F:Int) (p:(Int×Int)×(Int×Int)):Decidable (wrP E F p):=by unfold wrP;exact inferInstance
section
variable {E F:Int} {ps:List ((Int×Int)×(Int×Int))} {xs:List (Int×Int)}
theorem rN (w:Wy) (h:Sz E F) (hl:xs.length<=400) (hl2:ps.length<=300) (hx:∀ x∈xs++fl ps,uW E F x) (hn:∃ x∈xs++fl ps,pw ↥0 - pw F<x.2) :
  ao [.tup [.int E,.int F],.str w.s,.lst (ps.map (pD E F)),.lst ((xs.map (nI E F)).map .int)]=.ok (.tup [.int (pw ↥0 - pw F+pw (F - 1)),.int 0]):=by
 have fll:=xG ps
 have an:=wF (E:=E) (F:=F) (bs:=(xs++fl ps).map (nI E F)) (by rw [List.length_map,List.length_append];omega) (vL h hx)
 rw [decide_eq_true ((rA h hx).mpr hn),List.map_append] at an
 have e2:=cc h
 rw [end_is h] at e2
 have bl:uE [.lst ((xs.map (nI E F)).map D.int)]=.ok (.lst ((xs.map (nI E F)).map D.int)):=cC
 obtain ⟨z5,lo⟩:=nD (E:=E) (F:=F) (a0:=some (.tup [.int E,.int F])) (a1:=some (.str w.s)) (a2:=some (.lst (ps.map (pD E F)))) (a3:=some (.lst ((xs.map (nI E F)).map .int))) (a6:=none) (ps:=ps) (bs:=xs.map (nI E F)) (z5:=none) (by rw [List.length_map];omega)
 unfold ao cz
 simp_arith [aM w,bl,lo,List.length_map,show ps.length<=100000 by omega,an,e2]
theorem By (w:Wy) (h:Sz E F) (hl:xs.length<=400) (hl2:ps.length<=300) (hx:∀ x∈xs++fl ps,uW E F x) (hn:∀ x∈xs++fl ps,x.2<=pw ↥0 - pw F) :
  (∃ p∈ps,wrP E F p)->ao [.tup [.int E,.int F],.str w.s,.lst (ps.map (pD E F)),.lst ((xs.map (nI E F)).map .int)]=.ok (.tup [.int (pw ↥0 - pw F+pw (F - 1)),.int 16]):=by
 intro hw
 have fll:=xG ps
 have an:=wF (E:=E) (F:=F) (bs:=(xs++fl ps).map (nI E F)) (by rw [List.length_map,List.length_append];omega) (vL h hx)
 rw [decide_eq_false (fun z=>by obtain ⟨x,m,y⟩:=(rA h hx).mp z;have:=hn x m;omega),List.map_append] at an
 have e2:=cc h
 rw [end_is h] at e2
 have bl:uE [.lst ((xs.map (nI E F)).map D.int)]=.ok (.lst ((xs.map (nI E F)).map D.int)):=cC
 obtain ⟨z5,lo⟩:=nD (E:=E) (F:=F) (a0:=some (.tup [.int E,.int F])) (a1:=some (.str w.s)) (a2:=some (.lst (ps.map (pD E F)))) (a3:=some (.lst ((xs.map (nI E F)).map .int))) (a6:=none) (ps:=ps) (bs:=xs.map (nI E F)) (z5:=none) (by rw [List.length_map];omega)
 have st:∀ δ:Dt,∀ p∈ps,stC (con ↥26) (call bo [var 1,bin oIx (var 0) ⇑0,bin oIx (var 0) ⇑1]) [0] (some (.tup [.int E,.int F])::δ) (pD E F p)=.ok (some (.bl (decide (wrP E F p)))):=fun δ p m=>by
  have e:=iE h (hx p.1 (List.mem_append.mpr (.inr (qc.mpr ⟨p,m,.inl rfl⟩)))) (hx p.2 (List.mem_append.mpr (.inr (qc.mpr ⟨p,m,.inr rfl⟩))))
  unfold stC inC pD wrP
  simp_arith [List.getD_cons_zero,e]
  unfold lM
  simp_arith []
 have aw:ps.any (fun p=>decide (wrP E F p))=true:=by
  obtain ⟨p,m,q⟩:=hw
  exact List.any_eq_true.mpr ⟨p,m,decide_eq_true q⟩
 unfold ao cz
 simp_arith [aM w,bl,lo,List.length_map,show ps.length<=100000 by omega,an,e2,oi (st _),qh,any_map,aw]
theorem t9 {d:D} (w:Wy) (h:Sz E F) (hl:xs.length<=400) (hl2:ps.length<=300) (hx:∀ x∈xs++fl ps,uW E F x) (hn:∀ x∈xs++fl ps,x.2<=pw ↥0 - pw F) (hw:∀ p∈ps,¬ wrP E F p) (hd:aS [.tup [.int E,.int F],.str w.s,.lst ((ps.map (ptp E F)++xs.map (xt E F)).map xD)]=.ok d) :
  ao [.tup [.int E,.int F],.str w.s,.lst (ps.map (pD E F)),.lst ((xs.map (nI E F)).map .int)]=.ok d:=by
 have fll:=xG ps
 have an:=wF (E:=E) (F:=F) (bs:=(xs++fl ps).map (nI E F)) (by rw [List.length_map,List.length_append];omega) (vL h hx)
 rw [decide_eq_false (fun z=>by obtain ⟨x,m,y⟩:=(rA h hx).mp z;have:=hn x m;omega),List.map_append] at an
 have bl:uE [.lst ((xs.map (nI E F)).map D.int)]=.ok (.lst ((xs.map (nI E F)).map D.int)):=cC
 obtain ⟨z5,lo⟩:=nD (E:=E) (F:=F) (a0:=some (.tup [.int E,.int F])) (a1:=some (.str w.s)) (a2:=some (.lst (ps.map (pD E F)))) (a3:=some (.lst ((xs.map (nI E F)).map .int))) (a6:=none) (ps:=ps) (bs:=xs.map (nI E F)) (z5:=none) (by rw [List.length_map];omega)
 have mem1:∀ p∈ps,p.1∈xs++fl ps:=fun p m=>List.mem_append.mpr (.inr (qc.mpr ⟨p,m,.inl rfl⟩))
 have mem2:∀ p∈ps,p.2∈xs++fl ps:=fun p m=>List.mem_append.mpr (.inr (qc.mpr ⟨p,m,.inr rfl⟩))
 have st:∀ δ:Dt,∀ p∈ps,stC (con ↥26) (call bo [var 1,bin oIx (var 0) ⇑0,bin oIx (var 0) ⇑1]) [0] (some (.tup [.int E,.int F])::δ) (pD E F p)=.ok (some (.bl (decide (wrP E F p)))):=fun δ p m=>by
  have e:=iE h (hx p.1 (mem1 p m)) (hx p.2 (mem2 p m))
  unfold stC inC pD wrP
  simp_arith [List.getD_cons_zero,e]
  unfold lM
  simp_arith []
 have aw:ps.any (fun p=>decide (wrP E F p))=false:=by
  rw [List.any_eq_false]
  exact fun p m=>by rw [decide_eq_true_iff];exact hw p m
 have st2:∀ δ:Dt,∀ p∈ps,stC (con ↥26) (call bR [var 1,bin oIx (var 0) ⇑0,bin oIx (var 0) ⇑1]) [0] (some (.tup [.int E,.int F])::δ) (pD E F p)=.ok (some (xD (ptp E F p))):=fun δ p m=>by
  have e:=og h (hx p.1 (mem1 p m)) (hx p.2 (mem2 p m)) (hn p.1 (mem1 p m)) (hn p.2 (mem2 p m))
  unfold stC inC pD ptp
  simp_arith [List.getD_cons_zero,e]
  unfold lM
  simp_arith []
 have st3:∀ δ:Dt,∀ x∈xs,stC (con ↥26) (call aG [var 1,var 0]) [0] (some (.tup [.int E,.int F])::δ) (.int (nI E F x))=.ok (some (xD (xt E F x))):=fun δ x m=>by
  have e:=Gs h (hx x (List.mem_append.mpr (.inl m))) (hn x (List.mem_append.mpr (.inl m)))
  unfold stC inC
  simp_arith [List.getD_cons_zero,e]
  unfold lM
  simp_arith []
 have f1:dC (ps.map fun p=>xD (ptp E F p))=.ok (.lst (ps.map fun p=>xD (ptp E F p))):=by
  have:=wH (xs:=ps.map (ptp E F))
  rw [List.map_map] at this
  unfold dC
  exact if_pos this
 have f2:dC ((xs.map (xt E F)).map xD)=.ok (.lst ((xs.map (xt E F)).map xD)):=by unfold dC;rw [if_pos wH]
 have pb:∀ (a2 a3 a4 a5 a6 a7:Option D) (ds:List D),pub 6 [a2,a3,a4,a5,a6,a7,some (.own ds)]=[a2,a3,a4,a5,a6,a7,some (.lst ds)]:=fun _ _ _ _ _ _ _=>rfl
 have ad:bx (.lst (ps.map fun p=>xD (ptp E F p))) (.lst ((xs.map (xt E F)).map xD))=.ok (.lst ((ps.map (ptp E F)++xs.map (xt E F)).map xD)):=by
  rw [DZ (by simp;omega),List.map_append,List.map_map (f:=ptp E F)]
  rfl
 unfold ao cz
 simp_arith [aM w,bl,lo,List.length_map,show ps.length<=100000 by omega,show xs.length<=100000 by omega,an,oi (st _),qh,any_map,aw,oi (st2 _),f1,pb,u7 (st3 _),f2,ad,hd]
theorem u4 {V U X:Int} (h:Sz E F) (hl:xs.length<=400) (hl2:ps.length<=300) (hx:∀ x∈xs++fl ps,uW E F x) (hf:∀ x∈xs++fl ps,x.2<pw ↥0 - pw F) (hV:0<V) (eX:gY (2*lo E F) (fts E F ps xs)=X*V) (eU:pw (-(2*lo E F))=U*(V*pw ↥15)) (w:Wy) :
  ∃ x y,ao [.tup [.int E,.int F],.str w.s,.lst (ps.map (pD E F)),.lst ((xs.map (nI E F)).map .int)]=.ok (.tup [.int x,.int y])/\F7 w E F X U (nsg w ((fts E F ps xs).map (·.1))) x y:=by
 have hQ:=ah F
 have l:=dN h
 have key:∀ d,aF [.tup [.int E,.int F],.str w.s,.lst ((fts E F ps xs).map tD)]=.ok d->ao [.tup [.int E,.int F],.str w.s,.lst (ps.map (pD E F)),.lst ((xs.map (nI E F)).map .int)]=.ok d:=fun d hd=>by
  refine t9 w h hl hl2 hx (fun x m=>Int.le_of_lt (hf x m)) (fun p m z => ?_) ?_
  ·have a:=hf _ (Nc (xs:=xs) m)
   have b:=hf _ (Nb (xs:=xs) m)
   unfold wrP at z
   omega
  ·rw [MB hf,lD w (by rw [BB];omega)]
   exact hd
 have ok:=MC h hx hf
 have len:(fts E F ps xs).length<=1000:=by rw [BB];omega
 generalize fts E F ps xs=ts at *
 by_cases z:X=0
 ·have zz:gY (oz ts) ts=0:=by
   have:=Ac (q:=2*lo E F) (ts:=ts) fun t ht=>(ok t ht).2
   rw [eX,z,Int.zero_mul] at this
   rcases Int.mul_eq_zero.mp this.symm with e | e
   ·exact e
   ·have:=ah (oz ts - 2*lo E F);omega
  exact ⟨_,_,key _ (j4 w h len (fun t ht=>(ok t ht).1) zz),fun _=>⟨rfl,rfl⟩,fun y=>absurd z y⟩
 ·have z':gY (2*lo E F) ts≠0:=by
   rw [eX]
   intro y
   rcases Int.mul_eq_zero.mp y with e | e
   ·exact z e
   ·omega
  obtain ⟨k,r,e,a⟩:=mw (ts:=ts) h len (fun t ht=>(ok t ht).1) (show 2*lo E F<=0 by omega) (fun t ht=>(ok t ht).2) z'
  rw [eX] at e a
  have ni:=vH (X:=X) hV
  have e1:(if X*V<0 then (1:Int) else 0)=if X<0 then 1 else 0:=by
   by_cases g:X<0
   ·rw [if_pos (ni.mpr g),if_pos g]
   ·rw [if_neg (fun y=>g (ni.mp y)),if_neg g]
  have e2:(if X*V<0 then -(X*V) else X*V)=(if X<0 then -X else X)*V:=by
   by_cases g:X<0
   ·rw [if_pos (ni.mpr g),if_pos g,Int.neg_mul]
   ·rw [if_neg (fun y=>g (ni.mp y)),if_neg g]
  rw [e1] at e
  rw [e2,eU,Int.mul_assoc] at a
  exact ⟨_,_,key _ (e w),fun y=>absurd y z,fun _=>⟨k,r,rfl,rfl,FZ (Int.mul_pos hV (ah _)) a⟩⟩
theorem u3 {b:Int} (w:Wy) (h:Sz E F) (hl:xs.length<=400) (hl2:ps.length<=300) (hx:∀ x∈xs++fl ps,uW E F x) (hn:∀ x∈xs++fl ps,x.2<=pw ↥0 - pw F) (hw:∀ p∈ps,¬ wrP E F p) (hs:∀ s∈lQ (ps.map (ptp E F)++xs.map (xt E F)),0<=s/\s<=1) (hb:b∈lQ (ps.map (ptp E F)++xs.map (xt E F))) :
  ao [.tup [.int E,.int F],.str w.s,.lst (ps.map (pD E F)),.lst ((xs.map (nI E F)).map .int)]=.ok (if 0∈lQ (ps.map (ptp E F)++xs.map (xt E F))/\1∈lQ (ps.map (ptp E F)++xs.map (xt E F)) then .tup [.int (pw ↥0 - pw F+pw (F - 1)),.int 16] else .tup [.int (b*pw ↥0+(pw ↥0 - pw F)),.int 0]):=by
 refine t9 w h hl hl2 hx hn hw ?_
 have hne:lQ (ps.map (ptp E F)++xs.map (xt E F))≠[]:=fun z=>by rw [z] at hb;cases hb
 rw [lC w h (by rw [List.length_append,List.length_map,List.length_map];omega) hs hne]
 generalize lQ (ps.map (ptp E F)++xs.map (xt E F))=es at *
 by_cases g:0∈es/\1∈es
 ·rw [if_pos g,if_pos g]
 ·rw [if_neg g,if_neg g]
  have hm:es.getD 0 0∈es:=by
   cases es with
   | nil=>exact absurd rfl hne
   | cons a r=>exact .head _
  have q1:=hs _ hm
  have q2:=hs _ hb
  have:es.getD 0 0=b:=by
   rcases (by omega:es.getD 0 0=0\/es.getD 0 0=1) with u | u<;>rcases (by omega:b=0\/b=1) with v | v
   ·omega
   ·exact absurd ⟨u▸hm,v▸hb⟩ g
   ·exact absurd ⟨v▸hb,u▸hm⟩ g
   ·omega
  rw [this]
theorem Jl (hx:∀ x∈xs++fl ps,uW E F x):∀ s∈lQ (ps.map (ptp E F)++xs.map (xt E F)),0<=s/\s<=1:=fun s hs=>by
 unfold lQ at hs
 obtain ⟨t,m,e⟩:=List.mem_filterMap.mp hs
 rcases List.mem_append.mp m with m | m
 ·obtain ⟨p,m',rfl⟩:=List.mem_map.mp m
  unfold ptp pt at e
  split at e
  ·rename_i g
   split at g
   ·cases g
   ·cases g;cases e
  ·rename_i g
   split at g
   ·cases g;cases e;exact nM
   ·cases g
 ·obtain ⟨x,m',rfl⟩:=List.mem_map.mp m
  unfold xt at e
  split at e
  ·rename_i g
   split at g
   ·cases g
   ·cases g;cases e
  ·rename_i g
   split at g
   ·cases g;cases e;exact (hx x (List.mem_append.mpr (.inl m'))).1
   ·cases g
end
theorem xP {E F s s' c c':Int} (w:Wy) (h:Sz E F) (hs:0<=s/\s<=1) (hs':0<=s'/\s'<=1) (c0:0<=c) (c1:c<pw ↥0) (d0:0<=c') (d1:c'<pw ↥0) :
  ∃ x y,iR [.tup [.int E,.int F],.str w.s,.int ↥13,.int ↥37]=.ok (.tup [.int x,.int y])/\Nk w E F s c s' c' x y:=by
 have hQ:=ah F
 have hL:=ah ↥15
 have key:∀ d,ao [.tup [.int E,.int F],.str w.s,.lst (([]:List ((Int×Int)×(Int×Int))).map (pD E F)),.lst (([(s,c),(s',c')].map (nI E F)).map .int)]=.ok d->iR [.tup [.int E,.int F],.str w.s,.int ↥13,.int ↥37]=.ok d:=fun d hd=>by
  have e:ao [.tup [.int E,.int F],.str w.s,.lst [],.lst [.int ↥13,.int ↥37]]=.ok d:=hd
  unfold iR oJ
  simp_arith [e]
 have hx:∀ x∈[(s,c),(s',c')]++fl [],uW E F x:=fun x hx=>by
  rcases List.mem_cons.mp hx with e | hx
  ·subst e;exact ⟨hs,c0,c1⟩
  ·rcases List.mem_cons.mp hx with e | hx
   ·subst e;exact ⟨hs',d0,d1⟩
   ·cases hx
 have all:∀ {P:Int×Int->Prop},P (s,c)->P (s',c')->∀ x∈[(s,c),(s',c')]++fl [],P x:=fun a b x hx=>by
  rcases List.mem_cons.mp hx with e | hx
  ·subst e;exact a
  ·rcases List.mem_cons.mp hx with e | hx
   ·subst e;exact b
   ·cases hx
 unfold Nk
 by_cases g1:pw ↥0 - pw F<c\/pw ↥0 - pw F<c'
 ·simp only [if_pos g1]
  refine ⟨_,_,key _ (rN (ps:=[]) (xs:=[(s,c),(s',c')]) w h (show 2<=400 by decide) (show 0<=300 by decide) hx ?_),rfl,rfl⟩
  rcases g1 with g | g
  ·exact ⟨(s,c),.head _,g⟩
  ·exact ⟨(s',c'),.tail _ (.head _),g⟩
 simp only [if_neg g1]
 have hn:∀ x∈[(s,c),(s',c')]++fl [],x.2<=pw ↥0 - pw F:=all (show c<=_ by omega) (show c'<=_ by omega)
 have inf:=fun b hb=>u3 (ps:=[]) (xs:=[(s,c),(s',c')]) (b:=b) w h (show 2<=400 by decide) (show 0<=300 by decide) hx hn (fun p hp=>nomatch hp) (Jl hx) hb
 have ec:c=pw ↥0 - pw F->xt E F (s,c)=.inr s:=fun g=>if_pos g
 have ec':¬ c=pw ↥0 - pw F->xt E F (s,c)=.inl (wt E F s c):=fun g=>if_neg g
 have ed:c'=pw ↥0 - pw F->xt E F (s',c')=.inr s':=fun g=>if_pos g
 have ed':¬ c'=pw ↥0 - pw F->xt E F (s',c')=.inl (wt E F s' c'):=fun g=>if_neg g
 have es:lQ ((([]:List ((Int×Int)×(Int×Int))).map (ptp E F))++[(s,c),(s',c')].map (xt E F))=lQ [xt E F (s,c),xt E F (s',c')]:=rfl
 rw [es] at inf
 by_cases g2:c=pw ↥0 - pw F
 ·simp only [if_pos g2]
  rw [ec g2] at inf
  by_cases g3:c'=pw ↥0 - pw F
  ·rw [ed g3] at inf
   have ee:lQ [.inr s,.inr s']=[s,s']:=rfl
   rw [ee] at inf
   have q:=inf s (.head _)
   by_cases g4:s=s'
   ·simp only [if_neg (show ¬ (c'=pw ↥0 - pw F/\¬ s=s') from fun z=>z.2 g4)]
    rw [if_neg (by rw [<- g4];simp only [List.mem_cons,List.not_mem_nil,or_false,or_self];omega)] at q
    exact ⟨_,_,key _ q,rfl,rfl⟩
   ·simp only [if_pos (show c'=pw ↥0 - pw F/\¬ s=s' from ⟨g3,g4⟩)]
    rw [if_pos (by simp only [List.mem_cons,List.not_mem_nil,or_false];omega)] at q
    exact ⟨_,_,key _ q,rfl,rfl⟩
  ·rw [ed' g3] at inf
   have ee:lQ [.inr s,.inl (wt E F s' c')]=[s]:=rfl
   rw [ee] at inf
   have q:=inf s (.head _)
   rw [if_neg (by simp only [List.mem_cons,List.not_mem_nil,or_false];omega)] at q
   simp only [if_neg (show ¬ (c'=pw ↥0 - pw F/\¬ s=s') from fun z=>g3 z.1)]
   exact ⟨_,_,key _ q,rfl,rfl⟩
 simp only [if_neg g2]
 rw [ec' g2] at inf
 by_cases g3:c'=pw ↥0 - pw F
 ·simp only [if_pos g3]
  rw [ed g3] at inf
  have ee:lQ [.inl (wt E F s c),.inr s']=[s']:=rfl
  rw [ee] at inf
  have q:=inf s' (.head _)
  rw [if_neg (by simp only [List.mem_cons,List.not_mem_nil,or_false];omega)] at q
  exact ⟨_,_,key _ q,rfl,rfl⟩
 simp only [if_neg g3]
 have hf:∀ x∈[(s,c),(s',c')]++fl [],x.2<pw ↥0 - pw F:=all (show c<_ by omega) (show c'<_ by omega)
 obtain ⟨x,y,e,o⟩:=u4 (ps:=[]) (xs:=[(s,c),(s',c')]) (U:=1) (V:=pw ↥15) (X:=(if s=1 then -(vl F c) else vl F c)+(if s'=1 then -(vl F c') else vl F c')) h (show 2<=400 by decide) (show 0<=300 by decide) hx hf hL (by
  show tv _ (wt E F s c)+(tv _ (wt E F s' c')+0)=_
  rw [zO h c0,zO h d0,Int.add_zero,Int.add_mul]) (by rw [AB h,Int.one_mul]) w
 have en:(fts E F [] [(s,c),(s',c')]).map (·.1)=[s,s']:=rfl
 rw [en,AZ hs hs'] at o
 exact ⟨x,y,key _ e,o⟩
theorem Fg {E F a b:Int} {W:PySem.Str}:iR [.tup [.int E,.int F],.str W,.int a,.int b]=ao [.tup [.int E,.int F],.str W,.lst [],.lst [.int a,.int b]]:=by
 unfold iR oJ
 generalize hr:ao [.tup [.int E,.int F],.str W,.lst [],.lst [.int a,.int b]]=r
 cases r with
 | ok d=>simp_arith [hr]
 | ex C=>simp_arith [hr]
 | bad =>
  simp_arith [hr]
  rfl
theorem Bq {E F s f g:Int} (h:Sz E F) (hs:0<=s/\s<=1) (hf:0<=f/\f<pw E) (hg:0<=g/\g<pw F):kq [.tup [.int E,.int F],.int s,.int f,.int g]=.ok (.int (jn E F s f g)):=by
 obtain ⟨h1,h2,h3,h4⟩:=id h
 have n1:nb (pw ↥0)<=128:=cX (c:=127) ⋯
 have n2:nb f<=15:=bP hf.1 (by have:=cT h;omega)
 unfold kq nz
 simp_arith [fc h,jQ h,dH (k:=F) ⋯ ⋯,show ¬ s<0 by omega,show ¬ 1<s by omega,show ¬ f<0 by omega,show ¬ pw E - 1<f by omega,show ¬ g<0 by omega,show ¬ pw F<=g by omega,
  ak (dq hs.1 hs.2 (Nat.le_trans n1 ↥1)),av (i:=f) (j:=F) ⋯ ⋯,jn]
theorem yL {E F b:Int} (h:Sz E F) (hb:In E F b):iQ [.tup [.int E,.int F],.int b]=.ok (.int (ng E F b)):=by
 obtain ⟨i1,i2,i3⟩:=hb.parts h
 unfold iQ kG
 simp_arith [fE h hb,Bq (s:=1 - sgn E F b) h ⋯ i2 i3,OF h hb]
theorem De {E F a s' c':Int} (w:Wy) (h:Sz E F) (hs':0<=s'/\s'<=1) (d0:0<=c') (d1:c'<pw ↥0):oq [.tup [.int E,.int F],.str w.s,.int a,.int ↥37]=ao [.tup [.int E,.int F],.str w.s,.lst [],.lst [.int a,.int ((1 - s')*pw ↥0+c')]]:=by
 have n:=yL h (aA h hs' d0 d1).1
 rw [Ee hs' d0 d1] at n
 unfold oq rR
 generalize hr:ao [.tup [.int E,.int F],.str w.s,.lst [],.lst [.int a,.int ((1 - s')*pw ↥0+c')]]=r
 cases r with
 | ok d=>simp_arith [aM w,n,hr]
 | ex C=>simp_arith [aM w,n,hr]
 | bad =>
  simp_arith [aM w,n,hr]
  rfl
theorem rB {E F s s' c c':Int} (w:Wy) (h:Sz E F) (hs:0<=s/\s<=1) (hs':0<=s'/\s'<=1) (c0:0<=c) (c1:c<pw ↥0) (d0:0<=c') (d1:c'<pw ↥0) :
  ∃ x y,cU [.tup [.int E,.int F],.str w.s,.int ↥13,.int ↥37]=.ok (.tup [.int x,.int y])/\Ni w E F s c s' c' x y:=by
 have hQ:=ah F
 have h5:=ay h
 have key:∀ d,ao [.tup [.int E,.int F],.str w.s,.lst ([↥34].map (pD E F)),.lst ((([]:List (Int×Int)).map (nI E F)).map .int)]=.ok d->cU [.tup [.int E,.int F],.str w.s,.int ↥13,.int ↥37]=.ok d:=fun d hd=>by
  have e:ao [.tup [.int E,.int F],.str w.s,.lst [.tup [.int ↥13,.int ↥37]],.lst []]=.ok d:=hd
  unfold cU gh
  simp_arith [e]
 have all:∀ {P:Int×Int->Prop},P (s,c)->P (s',c')->∀ x∈([]:List (Int×Int))++fl [↥34],P x:=fun a b x hx=>by
  rcases List.mem_cons.mp hx with e | hx
  ·subst e;exact a
  ·rcases List.mem_cons.mp hx with e | hx
   ·subst e;exact b
   ·cases hx
 have hx:∀ x∈([]:List (Int×Int))++fl [↥34],uW E F x:=all ⟨hs,c0,c1⟩ ⟨hs',d0,d1⟩
 unfold Ni
 by_cases g1:pw ↥0 - pw F<c\/pw ↥0 - pw F<c'
 ·simp only [if_pos g1]
  refine ⟨_,_,key _ (rN (ps:=[↥34]) (xs:=[]) w h (show 0<=400 by decide) (show 1<=300 by decide) hx ?_),rfl,rfl⟩
  rcases g1 with g | g
  ·exact ⟨(s,c),.head _,g⟩
  ·exact ⟨(s',c'),.tail _ (.head _),g⟩
 simp only [if_neg g1]
 have hn:∀ x∈([]:List (Int×Int))++fl [↥34],x.2<=pw ↥0 - pw F:=all (show c<=_ by omega) (show c'<=_ by omega)
 by_cases g2:(c=0\/c'=0)/\(c=pw ↥0 - pw F\/c'=pw ↥0 - pw F)
 ·simp only [if_pos g2]
  exact ⟨_,_,key _ (By (ps:=[↥34]) (xs:=[]) w h (show 0<=400 by decide) (show 1<=300 by decide) hx hn ⟨_,.head _,g2⟩),rfl,rfl⟩
 simp only [if_neg g2]
 have hw:∀ p∈[↥34],¬ wrP E F p:=fun p hp z=>by
  rcases List.mem_cons.mp hp with e | hp
  ·subst e;exact g2 z
  ·cases hp
 by_cases g3:c=pw ↥0 - pw F\/c'=pw ↥0 - pw F
 ·simp only [if_pos g3]
  have ep:pt E F (s,c) (s',c')=.inr (sx s s'):=if_pos g3
  have ee:lQ ([↥34].map (ptp E F)++([]:List (Int×Int)).map (xt E F))=[sx s s']:=by
   show lQ [pt E F (s,c) (s',c')]=_
   rw [ep]
   rfl
  have q:=u3 (ps:=[↥34]) (xs:=[]) (b:=sx s s') w h (show 0<=400 by decide) (show 1<=300 by decide) hx hn hw (Jl hx) (by rw [ee];exact .head _)
  rw [ee,if_neg (by simp only [List.mem_cons,List.not_mem_nil,or_false];omega)] at q
  exact ⟨_,_,key _ q,rfl,rfl⟩
 simp only [if_neg g3]
 have hf:∀ x∈([]:List (Int×Int))++fl [↥34],x.2<pw ↥0 - pw F:=all (show c<_ by omega) (show c'<_ by omega)
 obtain ⟨x,y,e,o⟩:=u4 (ps:=[↥34]) (xs:=[]) (U:=pw ↥15) (V:=1) (X:=if sx s s'=1 then -(vl F c*vl F c') else vl F c*vl F c') h (show 0<=400 by decide) (show 1<=300 by decide) hx hf ↥1 (by
  show tv _ (pm E F (s,c) (s',c'))+0=_
  rw [Lw c0 d0,Int.add_zero,Int.mul_one]) (by rw [AB h,Int.one_mul]) w
 have en:(fts E F [↥34] []).map (·.1)=[sx s s']:=rfl
 rw [en,ID nM] at o
 exact ⟨x,y,key _ e,o⟩
theorem HF {E F s s' c c':Int} (h:Sz E F) (hs:0<=s/\s<=1) (hs':0<=s'/\s'<=1) (c0:0<c) (c1:c<pw ↥0 - pw F) (d0:0<c') (d1:c'<pw ↥0 - pw F) :
  ∃ k r,(∀ w:Wy,gJ [.tup [.int E,.int F],.str w.s,.tup [.int s,.int (frT (wh F ↥20 (c%pw F)) ↥6),.int (frB ↥6)],.tup [.int s',.int (frT (wh F (c' / pw F) (c'%pw F)) (po E F (c' / pw F))),.int (frB (po E F (c' / pw F)))]]=.ok (.tup [.int (sx s s'*pw ↥0+stK w E F (sx s s') k r),.int (stF w E F (sx s s') k r)]))/\At F (vl F c*pw ↥15) (vl F c') k r:=by
 obtain ⟨f1,f2,f3,f4⟩:=jW h (Int.le_of_lt c0) c1
 obtain ⟨f1',f2',f3',f4'⟩:=jW h (Int.le_of_lt d0) d1
 have u:=kL h (Int.le_of_lt c0)
 have u':=kL h (Int.le_of_lt d0)
 have p':=Ew h d0 d1
 have v':=bB (F:=F) (Int.le_of_lt d0)
 generalize frT (wh F ↥20 (c%pw F)) ↥6=t at *
 generalize frB ↥6=n at *
 generalize frT (wh F (c' / pw F) (c'%pw F)) (po E F (c' / pw F))=t' at *
 generalize frB (po E F (c' / pw F))=n' at *
 have m1:MulOk t n':=by walk_at "mul"
 have m2:MulOk n t':=by walk_at "mul"
 have n1:=cD f3 f4'
 have n2:=cD f4 f3'
 obtain ⟨k,r,e,a⟩:=nV h (Int.mul_nonneg f1 (Int.le_of_lt f2')) (Int.mul_pos f2 p') (Nat.le_trans n1 ↥1) (Nat.le_trans n2 ↥1)
 refine ⟨k,r,fun w => ?_,Ce (Int.mul_pos f2 p') ⋯ (Du u u') a⟩
 unfold gJ jw
 simp_arith [He hs hs',ak m1,ak m2,e w _ nM]
theorem oE {E F s c:Int} (h:Sz E F) (hs:0<=s/\s<=1) (c0:0<=c) (c1:c<pw ↥0):bf [.tup [.int E,.int F],.int ↥13]=.ok (.str (kindS E ↥20 (c%pw F))):=by
 obtain ⟨b1,b2,b3,b4⟩:=aA h hs c0 c1
 have:=rJ h b1
 rw [b3,b4] at this
 exact this
theorem tJ {E F s c:Int} (h:Sz E F) (hs:0<=s/\s<=1) (c0:0<=c) (c1:c<pw ↥0):br [.tup [.int E,.int F],.int ↥13]=.ok (.tup [.int s,.int ↥20,.int (c%pw F)]):=by
 obtain ⟨b1,b2,b3,b4⟩:=aA h hs c0 c1
 have:=fE h b1
 rw [b2,b3,b4] at this
 exact this
theorem jV {E F s c:Int} (h:Sz E F) (hs:0<=s/\s<=1) (c0:0<=c) (c1:c<pw ↥0 - pw F):bG [.tup [.int E,.int F],.int ↥13]=.ok (.tup [.int s,.int (frT (wh F ↥20 (c%pw F)) ↥6),.int (frB ↥6)]):=by
 have hQ:=ah F
 obtain ⟨b1,b2,b3,b4⟩:=aA (c:=c) h hs c0 ⋯
 have:=oK h b1 (by rw [b3];intro z;have:=(mZ h c0 ⋯).mp z;omega)
 rw [b2,b3,b4] at this
 exact this
theorem qd {E F s s' c c':Int} (w:Wy) (h:Sz E F) (hs:0<=s/\s<=1) (hs':0<=s'/\s'<=1) (c0:0<=c) (c1:c<pw ↥0) (d0:0<=c') (d1:c'<pw ↥0) :
  ∃ x y,fI [.tup [.int E,.int F],.str w.s,.int ↥13,.int ↥37]=.ok (.tup [.int x,.int y]) /\
   (if pw ↥0 - pw F<c\/pw ↥0 - pw F<c' then x=pw ↥0 - pw F+pw (F - 1)/\y=0
    else if c=c'/\(c=0\/c=pw ↥0 - pw F) then x=pw ↥0 - pw F+pw (F - 1)/\y=16
    else if c=pw ↥0 - pw F then x=sx s s'*pw ↥0+(pw ↥0 - pw F)/\y=0
    else if c'=0 then x=sx s s'*pw ↥0+(pw ↥0 - pw F)/\y=8
    else if c=0\/c'=pw ↥0 - pw F then x=sx s s'*pw ↥0/\y=0
    else ∃ k r,x=sx s s'*pw ↥0+stK w E F (sx s s') k r/\y=stF w E F (sx s s') k r/\At F (vl F c*pw ↥15) (vl F c') k r):=by
 have h5:=ay h
 have hQ:=ah F
 obtain ⟨kn,ke,k0⟩:=fZ (c:=c) h c0 c1
 obtain ⟨ln,le,l0⟩:=fZ (c:=c') h d0 d1
 have kk:=oE (c:=c) h hs c0 c1
 have kl:=oE (c:=c') h hs' d0 d1
 have e:=zv kk kl
 have ee:=bu h
 have e2:=cc h
 rw [end_is h] at ee e2
 have pa:=tJ (c:=c) h hs c0 c1
 have pb:=tJ (c:=c') h hs' d0 d1
 have sg:=cY (c:=pw ↥0 - pw F) h (nM (s:=s) (s':=s'))
 have sg0:=cY (c:=0) h (nM (s:=s) (s':=s'))
 rw [Int.add_zero] at sg0
 have so:=He hs hs'
 have fa:c<pw ↥0 - pw F->_:=fun z=>jV (c:=c) h hs c0 z
 have fb:c'<pw ↥0 - pw F->_:=fun z=>jV (c:=c') h hs' d0 z
 have qa:=fun (z0:0<c) (z1:c<pw ↥0 - pw F) (y0:0<c') (y1:c'<pw ↥0 - pw F)=>HF h hs hs' z0 z1 y0 y1
 generalize kindS E ↥20 (c%pw F)=K at *
 generalize kindS E (c' / pw F) (c'%pw F)=L at *
 unfold fI kK
 by_cases g1:pw ↥0 - pw F<c\/pw ↥0 - pw F<c'
 ·rw [decide_eq_true (by rw [kn,ln];exact g1)] at e
  exact ⟨pw ↥0 - pw F+pw (F - 1),0,by simp_arith [aM w,e,e2],by rw [if_pos g1];exact ⟨rfl,rfl⟩⟩
 rw [decide_eq_false (by rw [kn,ln];exact g1)] at e
 have gK:¬ K=PySem.Str.ofString "none":=fun z=>g1 (.inl (kn.mp z))
 have gL:¬ L=PySem.Str.ofString "none":=fun z=>g1 (.inr (ln.mp z))
 by_cases g2:c=c'/\(c=0\/c=pw ↥0 - pw F)
 ·have q:K=L/\(PySem.Str.ofString "nought"=K\/PySem.Str.ofString "endless"=K):=by
   obtain ⟨z,z2 | z2⟩:=g2
   ·exact ⟨(k0.mpr z2).trans (l0.mpr (z▸z2)).symm,.inl (k0.mpr z2).symm⟩
   ·exact ⟨(ke.mpr z2).trans (le.mpr (z▸z2)).symm,.inr (ke.mpr z2).symm⟩
  exact ⟨pw ↥0 - pw F+pw (F - 1),16,by simp_arith [aM w,e,kk,kl,eq_true q.1,kr,eq_true q.2,e2],by rw [if_neg g1,if_pos g2];exact ⟨rfl,rfl⟩⟩
 have q2:¬ (K=L/\(PySem.Str.ofString "nought"=K\/PySem.Str.ofString "endless"=K)):=by
  rintro ⟨z,z2 | z2⟩
  ·exact g2 ⟨(k0.mp z2.symm).trans (l0.mp (z▸z2.symm)).symm,.inl (k0.mp z2.symm)⟩
  ·exact g2 ⟨(ke.mp z2.symm).trans (le.mp (z▸z2.symm)).symm,.inr (ke.mp z2.symm)⟩
 have an:∀ δ2:Dt,eB (bin oEq (var 4) (var 5)) (bin oIn (var 4) (cF [con (.str "nought"),con (.str "endless")])) (some (.tup [.int E,.int F])::some (.str w.s)::some (.int ↥13)::some (.int ↥37)::some (.str K)::some (.str L)::δ2)=.ok ↥35:=fun δ2=>by
  by_cases z:K=L
  ·have z2:¬ (PySem.Str.ofString "nought"=K\/PySem.Str.ofString "endless"=K):=fun y=>q2 ⟨z,y⟩
   simp_arith [eq_true z,kr,z2]
  ·simp_arith [z]
 generalize hand:eB (bin oEq (var 4) (var 5)) (bin oIn (var 4) (cF [con (.str "nought"),con (.str "endless")]))=A at *
 by_cases g3:c=pw ↥0 - pw F
 ·exact ⟨sx s s'*pw ↥0+(pw ↥0 - pw F),0,by simp_arith [aM w,e,kk,kl,an,pa,pb,so,eq_true (ke.mpr g3),ee,sg],by rw [if_neg g1,if_neg g2,if_pos g3];exact ⟨rfl,rfl⟩⟩
 have gE:¬ K=PySem.Str.ofString "endless":=fun z=>g3 (ke.mp z)
 by_cases g4:c'=0
 ·have z:¬ K=PySem.Str.ofString "nought":=fun z=>g2 ⟨(k0.mp z).trans g4.symm,.inl (k0.mp z)⟩
  have z2:=l0.mpr g4
  have z3:¬ L=PySem.Str.ofString "endless":=by rw [z2];decide
  have z4:¬ (K=PySem.Str.ofString "nought"\/L=PySem.Str.ofString "endless"):=fun u=>u.elim z z3
  exact ⟨sx s s'*pw ↥0+(pw ↥0 - pw F),8,by simp_arith [aM w,e,kk,kl,an,pa,pb,so,gE,z,z3,z4,eq_true z2,ee,sg],by rw [if_neg g1,if_neg g2,if_neg g3,if_pos g4];exact ⟨rfl,rfl⟩⟩
 have gN:¬ L=PySem.Str.ofString "nought":=fun z=>g4 (l0.mp z)
 by_cases g5:c=0\/c'=pw ↥0 - pw F
 ·have z:K=PySem.Str.ofString "nought"\/L=PySem.Str.ofString "endless":=g5.imp k0.mpr le.mpr
  exact ⟨sx s s'*pw ↥0,0,by simp_arith [aM w,e,kk,kl,an,pa,pb,so,gE,eq_true z,sg0],by rw [if_neg g1,if_neg g2,if_neg g3,if_neg g4,if_pos g5];exact ⟨rfl,rfl⟩⟩
 have y1:¬ K=PySem.Str.ofString "nought":=fun z=>g5 (.inl (k0.mp z))
 have y2:¬ L=PySem.Str.ofString "endless":=fun z=>g5 (.inr (le.mp z))
 obtain ⟨k,r,eq,a⟩:=qa ⋯ ⋯ ⋯ ⋯
 have fa:=fa ⋯
 have fb:=fb ⋯
 have y3:¬ (K=PySem.Str.ofString "nought"\/L=PySem.Str.ofString "endless"):=fun u=>u.elim y1 y2
 exact ⟨sx s s'*pw ↥0+stK w E F (sx s s') k r,stF w E F (sx s s') k r,by simp_arith [aM w,e,kk,kl,an,pa,pb,so,gE,y1,y2,y3,gN,fa,fb,eq w],by rw [if_neg g1,if_neg g2,if_neg g3,if_neg g4,if_neg g5];exact ⟨k,r,rfl,rfl,a⟩⟩
theorem Eu {E F s s' t c c' d:Int} (w:Wy) (h:Sz E F) (hs:0<=s/\s<=1) (hs':0<=s'/\s'<=1) (ht:0<=t/\t<=1) (c0:0<=c) (c1:c<pw ↥0) (d0:0<=c') (d1:c'<pw ↥0) (e0:0<=d) (e1:d<pw ↥0) :
  ∃ x y,lK [.tup [.int E,.int F],.str w.s,.int ↥13,.int ↥37,.int (t*pw ↥0+d)]=.ok (.tup [.int x,.int y])/\Nj w E F s c s' c' t d x y:=by
 have hQ:=ah F
 have h5:=ay h
 have hL:=ah ↥15
 have sg:=nM (s:=s) (s':=s')
 have key:∀ d',ao [.tup [.int E,.int F],.str w.s,.lst ([↥34].map (pD E F)),.lst (([(t,d)].map (nI E F)).map .int)]=.ok d'->lK [.tup [.int E,.int F],.str w.s,.int ↥13,.int ↥37,.int (t*pw ↥0+d)]=.ok d':=fun d' hd=>by
  have e:ao [.tup [.int E,.int F],.str w.s,.lst [.tup [.int ↥13,.int ↥37]],.lst [.int (t*pw ↥0+d)]]=.ok d':=hd
  unfold lK rT
  simp_arith [e]
 have all:∀ {P:Int×Int->Prop},P (s,c)->P (s',c')->P (t,d)->∀ x∈[(t,d)]++fl [↥34],P x:=fun a b q x hx=>by
  rcases List.mem_cons.mp hx with e | hx
  ·subst e;exact q
  ·rcases List.mem_cons.mp hx with e | hx
   ·subst e;exact a
   ·rcases List.mem_cons.mp hx with e | hx
    ·subst e;exact b
    ·cases hx
 have hx:∀ x∈[(t,d)]++fl [↥34],uW E F x:=all ⟨hs,c0,c1⟩ ⟨hs',d0,d1⟩ ⟨ht,e0,e1⟩
 unfold Nj
 by_cases g1:pw ↥0 - pw F<c\/pw ↥0 - pw F<c'\/pw ↥0 - pw F<d
 ·simp only [if_pos g1]
  refine ⟨_,_,key _ (rN (ps:=[↥34]) (xs:=[(t,d)]) w h (show 1<=400 by decide) (show 1<=300 by decide) hx ?_),rfl,rfl⟩
  rcases g1 with g | g | g
  ·exact ⟨(s,c),.tail _ (.head _),g⟩
  ·exact ⟨(s',c'),.tail _ (.tail _ (.head _)),g⟩
  ·exact ⟨(t,d),.head _,g⟩
 simp only [if_neg g1]
 have hn:∀ x∈[(t,d)]++fl [↥34],x.2<=pw ↥0 - pw F:=all (show c<=_ by omega) (show c'<=_ by omega) (show d<=_ by omega)
 by_cases g2:(c=0\/c'=0)/\(c=pw ↥0 - pw F\/c'=pw ↥0 - pw F)
 ·simp only [if_pos g2]
  exact ⟨_,_,key _ (By (ps:=[↥34]) (xs:=[(t,d)]) w h (show 1<=400 by decide) (show 1<=300 by decide) hx hn ⟨_,.head _,g2⟩),rfl,rfl⟩
 simp only [if_neg g2]
 have hw:∀ p∈[↥34],¬ wrP E F p:=fun p hp z=>by
  rcases List.mem_cons.mp hp with e | hp
  ·subst e;exact g2 z
  ·cases hp
 have inf:=fun b hb=>u3 (ps:=[↥34]) (xs:=[(t,d)]) (b:=b) w h (show 1<=400 by decide) (show 1<=300 by decide) hx hn hw (Jl hx) hb
 have es:lQ ([↥34].map (ptp E F)++[(t,d)].map (xt E F))=lQ [pt E F (s,c) (s',c'),xt E F (t,d)]:=rfl
 rw [es] at inf
 have ep:c=pw ↥0 - pw F\/c'=pw ↥0 - pw F->pt E F (s,c) (s',c')=.inr (sx s s'):=fun g=>if_pos g
 have ep':¬ (c=pw ↥0 - pw F\/c'=pw ↥0 - pw F)->pt E F (s,c) (s',c')=.inl (pm E F (s,c) (s',c')):=fun g=>if_neg g
 have ed:d=pw ↥0 - pw F->xt E F (t,d)=.inr t:=fun g=>if_pos g
 have ed':¬ d=pw ↥0 - pw F->xt E F (t,d)=.inl (wt E F t d):=fun g=>if_neg g
 by_cases g3:c=pw ↥0 - pw F\/c'=pw ↥0 - pw F
 ·simp only [if_pos g3]
  rw [ep g3] at inf
  by_cases g4:d=pw ↥0 - pw F
  ·rw [ed g4] at inf
   have ee:lQ [.inr (sx s s'),.inr t]=[sx s s',t]:=rfl
   rw [ee] at inf
   have q:=inf (sx s s') (.head _)
   by_cases g5:sx s s'=t
   ·simp only [if_neg (show ¬ (d=pw ↥0 - pw F/\¬ sx s s'=t) from fun z=>z.2 g5)]
    rw [if_neg (by rw [g5];simp only [List.mem_cons,List.not_mem_nil,or_false,or_self];omega)] at q
    exact ⟨_,_,key _ q,rfl,rfl⟩
   ·simp only [if_pos (show d=pw ↥0 - pw F/\¬ sx s s'=t from ⟨g4,g5⟩)]
    rw [if_pos (by simp only [List.mem_cons,List.not_mem_nil,or_false];omega)] at q
    exact ⟨_,_,key _ q,rfl,rfl⟩
  ·rw [ed' g4] at inf
   have ee:lQ [.inr (sx s s'),.inl (wt E F t d)]=[sx s s']:=rfl
   rw [ee] at inf
   have q:=inf (sx s s') (.head _)
   rw [if_neg (by simp only [List.mem_cons,List.not_mem_nil,or_false];omega)] at q
   simp only [if_neg (show ¬ (d=pw ↥0 - pw F/\¬ sx s s'=t) from fun z=>g4 z.1)]
   exact ⟨_,_,key _ q,rfl,rfl⟩
 simp only [if_neg g3]
 rw [ep' g3] at inf
 by_cases g4:d=pw ↥0 - pw F
 ·simp only [if_pos g4]
  rw [ed g4] at inf
  have ee:lQ [.inl (pm E F (s,c) (s',c')),.inr t]=[t]:=rfl
  rw [ee] at inf
  have q:=inf t (.head _)
  rw [if_neg (by simp only [List.mem_cons,List.not_mem_nil,or_false];omega)] at q
  exact ⟨_,_,key _ q,rfl,rfl⟩
 simp only [if_neg g4]
 have hf:∀ x∈[(t,d)]++fl [↥34],x.2<pw ↥0 - pw F:=all (show c<_ by omega) (show c'<_ by omega) (show d<_ by omega)
 obtain ⟨x,y,e,o⟩:=u4 (ps:=[↥34]) (xs:=[(t,d)]) (U:=pw ↥15) (V:=1) (X:=(if sx s s'=1 then -(vl F c*vl F c') else vl F c*vl F c')+(if t=1 then -(vl F d) else vl F d)*pw ↥15) h (show 1<=400 by decide) (show 1<=300 by decide) hx hf ↥1 (by
  show tv _ (pm E F (s,c) (s',c'))+(tv _ (wt E F t d)+0)=_
  rw [Lw c0 d0,zO h e0,Int.add_zero,Int.mul_one]) (by rw [AB h,Int.one_mul]) w
 have en:(fts E F [↥34] [(t,d)]).map (·.1)=[sx s s',t]:=rfl
 rw [en,AZ sg ht] at o
 exact ⟨x,y,key _ e,o⟩
theorem Md {n r:Int} (hn:0<=n) (hr:0<r) (hs:n<r*r):0<=(r+n / r) / 2/\(r+n / r) / 2<r/\n<((r+n / r) / 2+1)*((r+n / r) / 2+1):=by
 have q0:0<=n / r:=Int.ediv_nonneg hn ⋯
 have q1:n / r<r:=Int.ediv_lt_of_lt_mul hr hs
 have q2:n<(n / r+1)*r:=by
  have:=Int.lt_ediv_add_one_mul_self n hr
  exact this
 generalize n / r=q at *
 refine ⟨⋯,⋯,?_⟩
 have e:r+q+1<=2*((r+q) / 2+1):=⋯
 generalize (r+q) / 2+1=t at *
 have h4:(r+q+1)*(r+q+1)<=(2*t)*(2*t):=Int.mul_le_mul e e ⋯ ⋯
 have h5:4*((q+1)*r)<=(r+q+1)*(r+q+1):=by
  have h6:0<=(r - (q+1))*(r - (q+1)):=by
   rcases Int.le_total 0 (r - (q+1)) with z | z
   ·exact Int.mul_nonneg z z
   ·exact Int.mul_nonneg_of_nonpos_of_nonpos z z
  have e1:(r - (q+1))*(r - (q+1))=r*r - 2*((q+1)*r)+(q+1)*(q+1):=by
   simp only [Int.sub_mul,Int.mul_sub,Int.add_mul,Int.mul_add,Int.one_mul,Int.mul_one,Int.mul_comm r q];omega
  have e2:(r+q+1)*(r+q+1)=r*r+2*((q+1)*r)+(q+1)*(q+1):=by
   simp only [Int.add_mul,Int.mul_add,Int.one_mul,Int.mul_one,Int.mul_comm r q];omega
  rw [e1] at h6
  rw [e2]
  omega
 have h7:(2*t)*(2*t)=4*(t*t):=by
  rw [Int.mul_assoc,Int.mul_left_comm t 2 t];omega
 rw [h7] at h4
 omega
def Inv (n:Int) (δ:Dt):Prop:=∃ r,δ=[some (.int n),some (.int r)]/\0<=r/\n<(r+1)*(r+1)/\nb r<=3001
theorem qE {n:Int} (h0:0<=n) (hb:nb n<=3000):∃ r,dY [.int n]=.ok (.int r)/\Cp n r:=by
 unfold dY gf
 have hlt:¬ n<0:=⋯
 have hd:fP ((nb n:Int)+1) 2:=fP.small ↥1 ↥1
 have hsz:(nb (1:Int):Int)+((nb n:Int)+1) / 2<=134217728:=by
  have:nb (1:Int)=1:=by decide
  omega
 simp_arith [hlt,cb hd,av (show (0:Int)<=((nb n:Int)+1) / 2 by omega) hsz,Int.one_mul]
 have hin:Inv n [some (.int n),some (.int (pw (((nb n:Int)+1) / 2)))]:=by
  refine ⟨_,rfl,Int.le_of_lt (ah _),?_,Nat.le_trans (cX (c:=3000) ⋯) ↥1⟩
  have h1:=lN h0
  have h2:pw (nb n)<=pw (((nb n:Int)+1) / 2+((nb n:Int)+1) / 2):=ip ⋯
  rw [aY ⋯ ⋯] at h2
  have h3:=ah (((nb n:Int)+1) / 2)
  generalize pw (((nb n:Int)+1) / 2)=z at *
  have e:(z+1)*(z+1)=z*z+2*z+1:=by
   simp only [Int.add_mul,Int.mul_add,Int.one_mul,Int.mul_one];omega
  rw [e]
  omega
 obtain ⟨δ',e1,⟨r,rfl,r0,r1,r2⟩,e3⟩:=wK (c:=bin oGt (bin cW (var 1) (var 1)) (var 0)) (b:=assign 1 (bin oDiv (bin bx (var 1) (bin oDiv (var 0) (var 1))) ⇑2)) (Inv n) (fun δ=>match δ with | [_,some (.int r)]=>r.toNat | _=>0) (fun δ ⟨r,e,r0,r1,r2⟩=>by
  subst e
  have hm:MulOk r r:=MulOk.of r2 r2 ↥1
  simp_arith [ak hm]
  by_cases hc:n<r*r
  ·have hr:0<r:=by
    rcases Int.lt_or_eq_of_le r0 with z | z
    ·exact z
    ·rw [<- z] at hc;omega
   obtain ⟨n1,n2,n3⟩:=Md h0 hr hc
   refine .inr ⟨by simp [hc],?_⟩
   simp_arith [cb (fP.small (i:=n) hr (Nat.le_trans r2 ↥1)),cb (fP.small (i:=r+n / r) (j:=2) ↥1 ↥1)]
   refine ⟨_,rfl,⟨_,rfl,n1,n3,Nat.le_trans (ef ⋯) r2⟩,?_⟩
   show ((r+n / r) / 2).toNat<r.toNat
   omega
  ·exact .inl (by simp [hc])) _ hin
 refine ⟨r,?_,r0,?_,r1⟩
 ·simp_arith [e1]
 ·have hm:MulOk r r:=MulOk.of r2 r2 ↥1
  revert e3
  simp_arith [ak hm]
  intro e3
  have:¬ n<r*r:=by simpa using e3
  omega
theorem tu {A B r:Int} (hA:nb A<=50000000) (hB:nb B<=50000000) (hr:nb r<=1000):fG [.int A,.int B,.int r]=.ok (.int (J1 r A B)):=by
 have n1:nb (2*r)<=1002:=by walk_at "nbk"
 have n2:nb (2*r+1)<=1003:=by walk_at "nbk"
 have n3:nb ((2*r+1)*(2*r+1))<=2006:=by walk_at "nbk"
 have n4:nb (r*r)<=2000:=by walk_at "nbk"
 have m1:MulOk 2 r:=by walk_at "mul"
 have m2:MulOk (2*r+1) (2*r+1):=by walk_at "mul"
 have m3:MulOk ((2*r+1)*(2*r+1)) B:=by walk_at "mul"
 have m4:MulOk r r:=by walk_at "mul"
 have m5:MulOk (r*r) B:=by walk_at "mul"
 have m6:MulOk 4 A:=by walk_at "mul"
 have e:(A - r*r*B=0)=(r*r*B=A):=by apply propext;omega
 unfold fG iy J1
 simp_arith [ak m1,ak m2,ak m3,ak m4,ak m5,ak m6,oa,e]
theorem Hy {E F t n:Int} (h:Sz E F) (ht:0<t) (hn:0<n) (h1:nb t<=1000000) (h2:nb n<=1000000) :
  ∃ r,gI [.tup [.int E,.int F],.int t,.int n]=.ok (.tup [.int r,.int (cG E F t n),.int (J1 r (d8 ↥12 t) (dE ↥12 n))])/\Cp (d8 ↥12 t / dE ↥12 n) r:=by
 obtain ⟨s1,s2,s3,s4⟩:=nY h ht hn
 have l:=dN h
 have hg:=Bw ht hn
 have hB:=jB (p:=2*cG E F t n) hn
 have hA:=rY (p:=2*cG E F t n) (Int.le_of_lt ht)
 have q1:nb (2*pw F)<=2+113:=cD ↥1 (cX (c:=112) h.2.2.2)
 have q2:=cD q1 q1
 have d:=IH hA hB q2 ↥1 s3
 have eP:max (lo E F) ((hgt t n+1) / 2 - F - 1)=cG E F t n:=rfl
 have nB:nb (dE ↥12 n)<=4000000:=by
  have:=cD h2 (cX (k:=2*cG E F t n) (c:=2000000) ⋯)
  unfold dE;omega
 have nA:nb (d8 ↥12 t)<=4000000:=by
  have:=cD h1 (cX (k := -↥12) (c:=2000000) ⋯)
  unfold d8;omega
 have nP:nb (cG E F t n)<=64:=by
  refine mD.mpr ?_
  have:(2:Nat)^64=18446744073709551616:=by decide
  omega
 have m2:MulOk 2 (cG E F t n):=by walk_at "mul"
 have x0:0<=d8 ↥12 t / dE ↥12 n:=Int.ediv_nonneg hA (Int.le_of_lt hB)
 have x1:d8 ↥12 t / dE ↥12 n<2*pw F*(2*pw F):=Int.ediv_lt_of_lt_mul hB s3
 have x2:nb (d8 ↥12 t / dE ↥12 n)<=230:=Nat.le_trans (ef ⋯) q2
 obtain ⟨r,er,hr⟩:=qE x0 (Nat.le_trans x2 ↥1)
 have nr:nb r<=1000:=by
  obtain ⟨r0,r1,r2⟩:=hr
  have:nb r<=nb (d8 ↥12 t / dE ↥12 n):=ef (by
   have:r<=r*r:=by
    rcases Int.lt_or_eq_of_le r0 with z | z
    ·have:=Int.mul_le_mul_of_nonneg_left (show 1<=r by omega) r0
     omega
    ·rw [<- z];decide
   omega)
  omega
 refine ⟨r,?_,hr⟩
 unfold gI jv
 simp_arith [jC (Int.le_of_lt ht) hn,show ¬ t=0 by omega,kA h,t8 h1 h2,eP,ak m2,j5 (t:=t) (n:=n) (p:=2*cG E F t n) ⋯ ⋯ ⋯ ⋯,cb d,er,tu (A:=d8 ↥12 t) (B:=dE ↥12 n) (r:=r) ⋯ ⋯ nr]
theorem km {E F s c:Int} (h:Sz E F) (hs:0<=s/\s<=1) (c0:0<=c) (c1:c<pw ↥0):bf [.tup [.int E,.int F],.int ↥13]=.ok (.str (kindS E ↥20 (c%pw F))):=by
 obtain ⟨b1,b2,b3,b4⟩:=aA h hs c0 c1
 have:=rJ h b1
 rw [b3,b4] at this
 exact this
theorem nW {E F s c:Int} (w:Wy) (h:Sz E F) (hs:0<=s/\s<=1) (c0:pw ↥0 - pw F<c) (c1:c<pw ↥0):cq [.tup [.int E,.int F],.str w.s,.int ↥13]=.ok (.tup [.int (pw ↥0 - pw F+pw (F - 1)),.int 0]):=by
 have h5:=ay h
 have hQ:=ah F
 have k:=(d6 (c:=c) h ⋯ c1).1 c0
 have e:=jD (km (c:=c) h hs ⋯ c1) rfl rfl
 rw [k,decide_eq_true rfl] at e
 have e2:=cc h
 rw [end_is h] at e2
 unfold cq iw
 simp_arith [aM w,e,e2]
theorem jS {E F s c:Int} (w:Wy) (h:Sz E F) (hs:0<=s/\s<=1) (hc:c=0\/(s=0/\c=pw ↥0 - pw F)):cq [.tup [.int E,.int F],.str w.s,.int ↥13]=.ok (.tup [.int ↥13,.int 0]):=by
 have h5:=ay h
 have hQ:=ah F
 have kc:=d6 (c:=c) h ⋯ ⋯
 have kk:=km (c:=c) h hs ⋯ ⋯
 have e:=jD kk rfl rfl
 have ee:=bu h
 rw [end_is h] at ee
 unfold cq iw
 rcases hc with g | ⟨g1,g2⟩
 ·rw [kc.2.2.1 g] at e kk
  rw [decide_eq_false ↥1] at e
  simp_arith [aM w,e,kk]
 ·rw [kc.2.1 g2] at e kk
  rw [decide_eq_false ↥1] at e
  subst g1
  have q:0*pw ↥0+c=pw ↥0 - pw F:=⋯
  rw [q] at e kk ⊢
  simp_arith [aM w,e,kk,ee]
theorem pV {E F c:Int} (w:Wy) (h:Sz E F) (c0:0<c) (c1:c<=pw ↥0 - pw F):cq [.tup [.int E,.int F],.str w.s,.int (1*pw ↥0+c)]=.ok (.tup [.int (pw ↥0 - pw F+pw (F - 1)),.int 16]):=by
 have h5:=ay h
 have hQ:=ah F
 have hs:(0:Int)<=1/\(1:Int)<=1:=by decide
 have kc:=d6 (c:=c) h ⋯ ⋯
 have kk:=km (c:=c) h hs ⋯ ⋯
 have e:=jD kk rfl rfl
 have ee:=bu h
 rw [end_is h] at ee
 have e2:=cc h
 rw [end_is h] at e2
 obtain ⟨b1,b2,b3,b4⟩:=aA (c:=c) h hs ⋯ ⋯
 have pa:=fE h b1
 rw [b2,b3,b4] at pa
 have k2:kindS E ↥20 (c%pw F)≠PySem.Str.ofString "none"/\kindS E ↥20 (c%pw F)≠PySem.Str.ofString "nought":=by
  by_cases g:c=pw ↥0 - pw F
  ·rw [kc.2.1 g];decide
  ·rcases kc.2.2.2 c0 ⋯ with y | y<;>rw [y]<;>decide
 rw [decide_eq_false k2.1] at e
 generalize kindS E ↥20 (c%pw F)=K at *
 unfold cq iw
 simp_arith [aM w,e,kk,k2.2,ee,show ¬ 1*pw ↥0+c=pw ↥0 - pw F by omega,pa,e2]
theorem tm {E F c:Int} (w:Wy) (h:Sz E F) (c0:0<c) (c1:c<pw ↥0 - pw F):∃ d r,cq [.tup [.int E,.int F],.str w.s,.int (0*pw ↥0+c)]=.ok (.tup [.int (0*pw ↥0+stK w E F 0 d r),.int (stF w E F 0 d r)])/\RAt F (vl F c*pw ↥15) d r:=by
 have h5:=ay h
 have hQ:=ah F
 have l:=dN h
 have hs:(0:Int)<=0/\(0:Int)<=1:=by decide
 have kc:=d6 (c:=c) h ⋯ ⋯
 have kk:=km (c:=c) h hs ⋯ ⋯
 have e:=jD kk rfl rfl
 have ee:=bu h
 rw [end_is h] at ee
 obtain ⟨b1,b2,b3,b4⟩:=aA (c:=c) h hs ⋯ ⋯
 have pa:=fE h b1
 rw [b2,b3,b4] at pa
 have fa:=oK h b1 (by rw [b3];intro z;have:=(mZ h ⋯ ⋯).mp z;omega)
 rw [b2,b3,b4] at fa
 have k2:kindS E ↥20 (c%pw F)≠PySem.Str.ofString "none"/\kindS E ↥20 (c%pw F)≠PySem.Str.ofString "nought":=by
  rcases kc.2.2.2 c0 c1 with y | y<;>rw [y]<;>decide
 rw [decide_eq_false k2.1] at e
 obtain ⟨f1,f2,f3,f4⟩:=jW h (Int.le_of_lt c0) c1
 have fu:=v7 (w:=wh F ↥20 (c%pw F)) h (vz (E:=E) (F:=F) (Int.le_of_lt c0))
 rw [je] at fu
 have vc:=bB (F:=F) (Int.le_of_lt c0)
 have t0:0<frT (wh F ↥20 (c%pw F)) ↥6:=by
  refine Classical.byContradiction fun q => ?_
  have z:frT (wh F ↥20 (c%pw F)) ↥6=0:=⋯
  rw [z,Int.zero_mul] at fu
  have:=Int.mul_pos (show 0<vl F c by omega) f2
  omega
 generalize kindS E ↥20 (c%pw F)=K at *
 generalize frT (wh F ↥20 (c%pw F)) ↥6=t at *
 generalize frB ↥6=n at *
 obtain ⟨r,er,hr⟩:=Hy h t0 f2 (Nat.le_trans f3 ↥1) (Nat.le_trans f4 ↥1)
 obtain ⟨s1,s2,s3,s4⟩:=nY h t0 f2
 have ra:=HA (S:=vl F c*pw ↥15) h t0 f2 (by rw [Int.mul_right_comm,<-fu,Int.mul_assoc]) hr
 have se:=lE (s:=0) (x:=r) (P:=cG E F t n) (r:=J1 r (d8 ↥12 t) (dE ↥12 n)) w h hs s1 ⋯ hr.1
 refine ⟨_,_,?_,ra⟩
 unfold cq iw
 simp_arith [aM w,e,kk,k2.2,ee,show ¬ 0*pw ↥0+c=pw ↥0 - pw F by omega,pa,fa,er,se]
theorem j0 (i:Int):bW [.int i]=.ok ↥26:=by
 unfold bW iA
 simp_arith []
theorem fQ {a b:Int}:bX [.tup [.int a,.int b]]=.ok ↥26:=by
 unfold bX kH
 simp_arith [j0]
theorem iv {a b:Int}:aR [.tup [.int a,.int b],.int a,.int b]=.ok ↥26:=by
 unfold aR nu
 simp_arith [fQ]
theorem BF (w:Wy) (o e:Bool) (l:Int):dn [.str w.s,.bl o,.int l,.bl e]=.ok (.bl (w.far o l e)):=by
 unfold dn kI
 cases w
 ·by_cases g:0<l
  ·simp_arith [Wy.s,g]
   simp [Wy.far,g]
  ·by_cases g2:l=0
   ·simp_arith [Wy.s,g,eq_true g2]
    simp [Wy.far,g2]
   ·simp_arith [Wy.s,g,g2]
    simp [Wy.far,g,g2]
 ·simp_arith [Wy.s]
  rfl
 ·simp_arith [Wy.s]
  rfl
 ·simp_arith [Wy.s]
  rfl
 ·simp_arith [Wy.s]
  rfl
theorem vJ (w:Wy) (o e:Bool) (l:Int):cw [.str w.s,.bl o,.int l,.bl e]=.ok (.bl (w.near o l e)):=by
 unfold cw jy
 cases w
 ·by_cases g:l<0
  ·simp_arith [Wy.s,g]
   simp [Wy.near,g]
  ·by_cases g2:l=0
   ·simp_arith [Wy.s,g,eq_true g2]
    simp [Wy.near,g2]
   ·simp_arith [Wy.s,g,g2]
    simp [Wy.near,g,g2]
 ·simp_arith [Wy.s]
  rfl
 ·cases o<;>simp_arith [Wy.s]<;>rfl
 ·cases o<;>simp_arith [Wy.s]<;>rfl
 ·cases o<;>simp_arith [Wy.s]<;>rfl
theorem rV {s t n T Z:Int} (w:Wy) (ht:0<=t) (hn:0<n) (hZ:0<Z) (e:t*Z=T*n) (nt:nb t<=1000000) (nT:nb T<=1000000) (nZ:nb Z<=1000000):bO [.str w.s,.int s,.int (whW w s t n),.int T,.int Z]=.ok ↥26:=by
 have q:=wL (w:=w) (s:=s) ht hn
 have nw:nb (whW w s t n)<=1000002:=by
  have a:nb (t / n)<=1000000:=gO hn nt
  have b:nb (t / n+1)<=1000001:=by walk_at "nbk"
  exact Nat.le_trans (ef (j:=t / n+1) ⋯) ⋯
 have m:MulOk (whW w s t n) Z:=by walk_at "mul"
 have nov:nb (T - whW w s t n*Z)<=3000000:=by
  have:nb (T - whW w s t n*Z)<=2000003:=by walk_at "nbk"
  omega
 have m2:MulOk 2 (T - whW w s t n*Z):=by walk_at "mul"
 have ho:∀ (l:Dt),or_ (eB (bin oEq (var 0) (con (.str "up"))) (bin oEq (var 1) ⇑0)) (eB (bin oEq (var 0) (con (.str "down"))) (bin oEq (var 1) ⇑1)) (some (.str w.s)::some (.int s)::l)=.ok (.bl (w.out s)):=by
  intro l
  cases w<;>simp_arith [Wy.s,Wy.out]<;>rfl
 unfold bO cQ
 generalize or_ (eB (bin oEq (var 0) (con (.str "up"))) (bin oEq (var 1) ⇑0)) (eB (bin oEq (var 0) (con (.str "down"))) (bin oEq (var 1) ⇑1))=OUT at ho ⊢
 rcases wM (w:=w) (s:=s) hn hZ e with ⟨g,_⟩ | ⟨g1,g2,_,g4⟩ | ⟨g1,g2,_,_,g4⟩
 ·simp_arith [j0,show ¬ whW w s t n<0 by omega,ho,ak m,eq_true g]
 ·have hn':=vJ w (w.out s) (decide (whW w s t n%2=0)) (2*(T - whW w s t n*Z) - Z)
  rw [g4] at hn'
  simp_arith [j0,show ¬ whW w s t n<0 by omega,ho,ak m,show ¬ T - whW w s t n*Z=0 by omega,g1,g2,ak m2,hn']
 ·have hn':=BF w (w.out s) (decide (whW w s t n%2=0)) (2*(T - whW w s t n*Z)+Z)
  rw [g4] at hn'
  simp_arith [j0,show ¬ whW w s t n<0 by omega,ho,ak m,show ¬ T - whW w s t n*Z=0 by omega,show ¬ 0<T - whW w s t n*Z by omega,g2,ak m2,hn']
section
variable {E F s T n c:Int}
theorem tN (w:Wy) (s:Int) (a:Option D) (l:Dt):or_ ↥27 ↥24 (a::some (.str w.s)::some (.int s)::l)=.ok (.bl (w.out s)):=by
 cases w<;>simp_arith [Wy.s,Wy.out]<;>rfl
theorem uo (w:Wy) (s:Int) (a a3 a4 a5 a6 a7 a8:Option D) (l:Dt):or_ (bin oEq (var 1) (con (.str "even"))) (or_ (bin oEq (var 1) (con (.str "away"))) (var 9)) (a::some (.str w.s)::some (.int s)::a3::a4::a5::a6::a7::a8::some (.bl (w.out s))::l)=.ok (.bl (w.brs s)):=by
 have v9:var 9 (a::some (.str w.s)::some (.int s)::a3::a4::a5::a6::a7::a8::some (.bl (w.out s))::l)=.ok (.bl (w.out s)):=rfl
 cases w<;>simp_arith [Wy.s,v9]<;>rfl
theorem oy (w:Wy) (s:Int) (a a3 a4 a5 a6 a7 a8:Option D) (l:Dt):eB (bin oNe (var 1) (con (.str "even"))) ↥31 (a::some (.str w.s)::some (.int s)::a3::a4::a5::a6::a7::a8::some (.bl (w.out s))::l)=.ok (.bl (!w.brs s)):=by
 have v9:var 9 (a::some (.str w.s)::some (.int s)::a3::a4::a5::a6::a7::a8::some (.bl (w.out s))::l)=.ok (.bl (w.out s)):=rfl
 cases w<;>simp_arith [Wy.s,v9]<;>first | rfl | (generalize hq:Wy.out _ s=q;cases q<;>simp [Wy.brs,hq])
theorem Ez (w:Wy) (h:Sz E F) (hs:0<=s/\s<=1) (hn:0<n) (nT:nb T<=10000000) (nn:nb n<=10000000) (hb:w.brs s=true) (hT:vl F (pw ↥0 - pw F)*n<=T) :
  aP [.tup [.int E,.int F],.str w.s,.int s,.int T,.int n,.tup [.int (s*pw ↥0+(pw ↥0 - pw F)),.int 5]]=.ok ↥26:=by
 obtain ⟨k1,k2,k3,k4⟩:=id h
 have hh:=ay h
 have hQ:=ah F
 have eM:=end_is h
 have ns:nb s<=1:=bP hs.1 ⋯
 have nE:nb (pw E - 1)<=15:=bP (by have:=ah E;omega) (by have:=cT h;omega)
 have m2:MulOk 2 T:=by walk_at "mul"
 have eK:s*pw ↥0+(pw ↥0 - pw F) - s*pw ↥0=pw ↥0 - pw F:=⋯
 unfold aP cV
 have ho:=tN w s
 have hbr:=uo w s
 have hnb:=oy w s
 generalize or_ ↥27 ↥24=OUT at ho ⊢
 generalize or_ (bin oEq (var 1) (con (.str "even"))) (or_ (bin oEq (var 1) (con (.str "away"))) (var 9))=BRS at hbr ⊢
 generalize eB (bin oNe (var 1) (con (.str "even"))) ↥31=NBR at hnb ⊢
 simp_arith [fQ,ho,hbr,hnb,hb,av (i:=s) (j:=E+F) ⋯ ⋯,eK,dH (k:=E) ⋯ ⋯,av (i:=pw E - 1) (j:=F) ⋯ ⋯,eM,show 0<=pw ↥0 - pw F by omega,Int.le_refl,aB (c:=pw ↥0 - pw F) h ⋯ ⋯,ak (lV (x:=pw ↥0 - pw F) h ⋯ ⋯ nn),hT]
theorem zb (w:Wy) (h:Sz E F) (hs:0<=s/\s<=1) (hn:0<n) (nT:nb T<=10000000) (nn:nb n<=10000000) (hb:w.brs s=false) (hT:vl F (pw ↥0 - pw F)*n<=T) :
  aP [.tup [.int E,.int F],.str w.s,.int s,.int T,.int n,.tup [.int (s*pw ↥0+(pw ↥0 - pw F - 1)),.int 5]]=.ok ↥26:=by
 obtain ⟨k1,k2,k3,k4⟩:=id h
 have hh:=ay h
 have hQ:=ah F
 have eM:=end_is h
 have ns:nb s<=1:=bP hs.1 ⋯
 have nE:nb (pw E - 1)<=15:=bP (by have:=ah E;omega) (by have:=cT h;omega)
 have m2:MulOk 2 T:=by walk_at "mul"
 have eK:s*pw ↥0+(pw ↥0 - pw F - 1) - s*pw ↥0=pw ↥0 - pw F - 1:=⋯
 have e1:pw ↥0 - pw F - 1+1=pw ↥0 - pw F:=⋯
 have lt:=ft (F:=F) (x:=pw ↥0 - pw F - 1) (y:=pw ↥0 - pw F) hn ⋯ ⋯
 unfold aP cV
 have ho:=tN w s
 have hbr:=uo w s
 have hnb:=oy w s
 generalize or_ ↥27 ↥24=OUT at ho ⊢
 generalize or_ (bin oEq (var 1) (con (.str "even"))) (or_ (bin oEq (var 1) (con (.str "away"))) (var 9))=BRS at hbr ⊢
 generalize eB (bin oNe (var 1) (con (.str "even"))) ↥31=NBR at hnb ⊢
 simp_arith [fQ,ho,hbr,hnb,hb,av (i:=s) (j:=E+F) ⋯ ⋯,eK,dH (k:=E) ⋯ ⋯,av (i:=pw E - 1) (j:=F) ⋯ ⋯,eM,show 0<=pw ↥0 - pw F - 1 by omega,show pw ↥0 - pw F - 1<=pw ↥0 - pw F by omega,aB (c:=pw ↥0 - pw F - 1) h ⋯ ⋯,ak (lV (x:=pw ↥0 - pw F - 1) h ⋯ ⋯ nn),show ¬ pw ↥0 - pw F - 1=pw ↥0 - pw F by omega,show ¬ T=vl F (pw ↥0 - pw F - 1)*n by omega,av (i:=n) (j:=F) ⋯ ⋯,show vl F (pw ↥0 - pw F - 1)*n<T by omega,e1,aB (c:=pw ↥0 - pw F) h ⋯ ⋯,ak (lV (x:=pw ↥0 - pw F) h ⋯ ⋯ nn),hT]
 split<;>rfl
theorem zc (w:Wy) (h:Sz E F) (hs:0<=s/\s<=1) (hn:0<n) (nT:nb T<=10000000) (nn:nb n<=10000000) (c0:0<=c) (c1:c<pw ↥0 - pw F) (hT:T=vl F c*n) :
  aP [.tup [.int E,.int F],.str w.s,.int s,.int T,.int n,.tup [.int ↥13,.int 0]]=.ok ↥26:=by
 obtain ⟨k1,k2,k3,k4⟩:=id h
 have hh:=ay h
 have hQ:=ah F
 have eM:=end_is h
 have ns:nb s<=1:=bP hs.1 ⋯
 have nE:nb (pw E - 1)<=15:=bP (by have:=ah E;omega) (by have:=cT h;omega)
 have m2:MulOk 2 T:=by walk_at "mul"
 have eK:s*pw ↥0+c - s*pw ↥0=c:=⋯
 unfold aP cV
 have ho:=tN w s
 have hbr:=uo w s
 have hnb:=oy w s
 generalize or_ ↥27 ↥24=OUT at ho ⊢
 generalize or_ (bin oEq (var 1) (con (.str "even"))) (or_ (bin oEq (var 1) (con (.str "away"))) (var 9))=BRS at hbr ⊢
 generalize eB (bin oNe (var 1) (con (.str "even"))) ↥31=NBR at hnb ⊢
 simp_arith [fQ,ho,hbr,hnb,av (i:=s) (j:=E+F) ⋯ ⋯,eK,dH (k:=E) ⋯ ⋯,av (i:=pw E - 1) (j:=F) ⋯ ⋯,eM,c0,show c<=pw ↥0 - pw F by omega,aB (c:=c) h c0 ⋯,ak (lV (x:=c) h c0 ⋯ nn),show ¬ c=pw ↥0 - pw F by omega,eq_true hT]
theorem BH (w:Wy) (h:Sz E F) (hs:0<=s/\s<=1) (hn:0<n) (nT:nb T<=10000000) (nn:nb n<=10000000) (c0:0<=c) (c1:c<pw ↥0 - pw F) (h1:vl F c*n<T) (h2:T<vl F (c+1)*n)
  (hw:w.near (w.out s) (2*T - vl F c*n - vl F (c+1)*n) (decide (c%2=0))=true) :
  aP [.tup [.int E,.int F],.str w.s,.int s,.int T,.int n,.tup [.int ↥13,.int (if c<pw F then 3 else 1)]]=.ok ↥26:=by
 obtain ⟨k1,k2,k3,k4⟩:=id h
 have hh:=ay h
 have hQ:=ah F
 have eM:=end_is h
 have ns:nb s<=1:=bP hs.1 ⋯
 have nE:nb (pw E - 1)<=15:=bP (by have:=ah E;omega) (by have:=cT h;omega)
 have m2:MulOk 2 T:=by walk_at "mul"
 have eK:s*pw ↥0+c - s*pw ↥0=c:=⋯
 have ld:=Bk h hn c0 (Int.le_of_lt h1) h2
 have hnear:=vJ w (w.out s) (decide (c%2=0)) (2*T - vl F c*n - vl F (c+1)*n)
 rw [hw] at hnear
 have ns2:(nb s:Int)+↥0<=134217728:=⋯
 unfold aP cV
 have ho:=tN w s
 have hbr:=uo w s
 have hnb:=oy w s
 generalize or_ ↥27 ↥24=OUT at ho ⊢
 generalize or_ (bin oEq (var 1) (con (.str "even"))) (or_ (bin oEq (var 1) (con (.str "away"))) (var 9))=BRS at hbr ⊢
 generalize eB (bin oNe (var 1) (con (.str "even"))) ↥31=NBR at hnb ⊢
 by_cases g:c<pw F<;>simp_arith [fQ,ho,hbr,hnb,av (j:=E+F) ⋯ ns2,eK,dH (k:=E) ⋯ ⋯,av (i:=pw E - 1) (j:=F) ⋯ ⋯,eM,c0,show c<=pw ↥0 - pw F by omega,aB (c:=c) h c0 ⋯,ak (lV (x:=c) h c0 ⋯ nn),show ¬ c=pw ↥0 - pw F by omega,show ¬ T=vl F c*n by omega,av (i:=n) (j:=F) ⋯ ⋯,ld,h1,aB (c:=c+1) h ⋯ ⋯,ak (lV (x:=c+1) h ⋯ ⋯ nn),show ¬ vl F (c+1)*n<=T by omega,ak m2,g,hnear]
theorem Ey (w:Wy) (h:Sz E F) (hs:0<=s/\s<=1) (hn:0<n) (nT:nb T<=10000000) (nn:nb n<=10000000) (c0:0<=c) (c1:c<pw ↥0 - pw F) (h1:vl F c*n<T) (h2:T<vl F (c+1)*n)
  (hw:w.far (w.out s) (2*T - vl F (c+1)*n - vl F c*n) (decide ((c+1)%2=0))=true) :
  aP [.tup [.int E,.int F],.str w.s,.int s,.int T,.int n,.tup [.int (s*pw ↥0+(c+1)),.int (if c+1=pw ↥0 - pw F then 5 else if c<pw F then 3 else 1)]]=.ok ↥26:=by
 obtain ⟨k1,k2,k3,k4⟩:=id h
 have hh:=ay h
 have hQ:=ah F
 have eM:=end_is h
 have ns:nb s<=1:=bP hs.1 ⋯
 have nE:nb (pw E - 1)<=15:=bP (by have:=ah E;omega) (by have:=cT h;omega)
 have m2:MulOk 2 T:=by walk_at "mul"
 have eK:s*pw ↥0+(c+1) - s*pw ↥0=c+1:=⋯
 have e1:c+1 - 1=c:=⋯
 have ld:=Bk h hn c0 (Int.le_of_lt h1) h2
 have hfar:=BF w (w.out s) (decide ((c+1)%2=0)) (2*T - vl F (c+1)*n - vl F c*n)
 rw [hw] at hfar
 have ns2:(nb s:Int)+↥0<=134217728:=⋯
 unfold aP cV
 have ho:=tN w s
 have hbr:=uo w s
 have hnb:=oy w s
 generalize or_ ↥27 ↥24=OUT at ho ⊢
 generalize or_ (bin oEq (var 1) (con (.str "even"))) (or_ (bin oEq (var 1) (con (.str "away"))) (var 9))=BRS at hbr ⊢
 generalize eB (bin oNe (var 1) (con (.str "even"))) ↥31=NBR at hnb ⊢
 by_cases g2:c+1=pw ↥0 - pw F<;>by_cases g:c<pw F<;>simp_arith [fQ,ho,hbr,hnb,av (j:=E+F) ⋯ ns2,eK,dH (k:=E) ⋯ ⋯,av (i:=pw E - 1) (j:=F) ⋯ ⋯,eM,show 0<=c+1 by omega,show c+1<=pw ↥0 - pw F by omega,aB (c:=c+1) h ⋯ ⋯,ak (lV (x:=c+1) h ⋯ ⋯ nn),show ¬ vl F (c+1)*n<=T by omega,show ¬ T=vl F (c+1)*n by omega,av (i:=n) (j:=F) ⋯ ⋯,ld,show ¬ vl F (c+1)*n<T by omega,e1,aB (c:=c) h c0 ⋯,ak (lV (x:=c) h c0 ⋯ nn),show ¬ T<=vl F c*n by omega,ak m2,(show (c+1=pw ↥0 - pw F)=_ from by first | exact eq_true g2 | exact eq_false g2),g,hfar]
theorem xH {r:Int} (w:Wy) (h:Sz E F) (hs:0<=s/\s<=1) (hn:0<n) (nT:nb T<=10000000) (nn:nb n<=10000000) (c0:0<=c) (h1:vl F c*n<=T) (h2:c<pw ↥0 - pw F->T<vl F (c+1)*n)
  (hr:mK F T n c r) :
  aP [.tup [.int E,.int F],.str w.s,.int s,.int T,.int n,.tup [.int (s*pw ↥0+stK w E F s c r),.int (stF w E F s c r)]]=.ok ↥26:=by
 have hh:=ay h
 have hQ:=ah F
 by_cases g:pw ↥0 - pw F<=c
 ·have hT:vl F (pw ↥0 - pw F)*n<=T:=by
   rcases Int.lt_or_eq_of_le g with y | y
   ·have:=ft (F:=F) hn (show 0<=pw ↥0 - pw F by omega) y
    omega
   ·rw [y];exact h1
  unfold stF stK
  simp only [if_pos g]
  cases gb:w.brs s
  ·exact zb w h hs hn nT nn gb hT
  ·exact Ez w h hs hn nT nn gb hT
 have h2:=h2 ⋯
 rcases hr with ⟨e,eT⟩ | ⟨h1',hr⟩
 ·have e1:stK w E F s c r=c:=by unfold stK;rw [if_neg g,if_pos e]
  have e2:stF w E F s c r=0:=by unfold stF;rw [if_neg g,if_pos e]
  rw [e1,e2]
  exact zc w h hs hn nT nn c0 ⋯ eT
 have r0:¬ r=0:=⋯
 cases gg:w.grw s (decide (c%2=1)) r
 ·have e1:stK w E F s c r=c:=by unfold stK;rw [if_neg g,if_neg r0,gg];rfl
  have e2:stF w E F s c r=if c<pw F then 3 else 1:=by unfold stF;rw [if_neg g,if_neg r0,e1,if_neg ⋯]
  rw [e1,e2]
  exact BH w h hs hn nT nn c0 ⋯ h1' h2 (vK hr gg)
 ·have e1:stK w E F s c r=c+1:=by unfold stK;rw [if_neg g,if_neg r0,gg];rfl
  have e2:stF w E F s c r=if c+1=pw ↥0 - pw F then 5 else if c<pw F then 3 else 1:=by unfold stF;rw [if_neg g,if_neg r0,e1]
  rw [e1,e2]
  refine Ey w h hs hn nT nn c0 ⋯ h1' h2 (BG (l:=2*T - vl F (c+1)*n - vl F c*n) ?_ gg)
  omega
end
theorem ME {E F c:Int} (h:Sz E F) (c0:0<=c) (c1:c<pw ↥0 - pw F):fP (frT (wh F ↥20 (c%pw F)) ↥6) (frB ↥6):=by
 have hQ:=ah F
 have r0:=Int.emod_nonneg c (show pw F≠0 by omega)
 have r1:=Int.emod_lt_of_pos c hQ
 have w0:0<=wh F ↥20 (c%pw F)/\wh F ↥20 (c%pw F)<2*pw F:=by
  unfold wh
  split<;>omega
 unfold frT frB
 split
 ·exact ⟨by decide,.inl ↥1⟩
 ·have:=ah (-po E F ↥20)
  refine FD h w0.1 this ?_
  have:=Int.mul_le_mul_of_nonneg_left (show 1<=pw (-po E F ↥20) by omega) (show 0<=2*pw F by omega)
  omega
theorem nJ {E F s c:Int} (w:Wy) (h:Sz E F) (hs:0<=s/\s<=1) (c0:pw ↥0 - pw F<c) (c1:c<pw ↥0):di [.tup [.int E,.int F],.str w.s,.int ↥13]=.ok (.tup [.int (pw ↥0 - pw F+pw (F - 1)),.int 0]):=by
 have h5:=ay h
 have hQ:=ah F
 have e:=oE (c:=c) h hs ⋯ c1
 rw [(d6 (c:=c) h ⋯ c1).1 c0] at e
 have e2:=cc h
 rw [end_is h] at e2
 unfold di js
 simp_arith [aM w,e,e2]
theorem nH {E F s c:Int} (w:Wy) (h:Sz E F) (hs:0<=s/\s<=1) (hc:c=pw ↥0 - pw F\/c=0):di [.tup [.int E,.int F],.str w.s,.int ↥13]=.ok (.tup [.int ↥13,.int 0]):=by
 have h5:=ay h
 have hQ:=ah F
 have e:=oE (c:=c) h hs ⋯ ⋯
 have kc:=d6 (c:=c) h ⋯ ⋯
 unfold di js
 rcases hc with g | g
 ·rw [kc.2.1 g] at e
  have i1:oIn (.str (PySem.Str.ofString "endless")) (.tup [.str (PySem.Str.ofString "nought"),.str (PySem.Str.ofString "endless")])=.ok ↥26:=rfl
  simp_arith [aM w,e,i1]
 ·rw [kc.2.2.1 g] at e
  have i1:oIn (.str (PySem.Str.ofString "nought")) (.tup [.str (PySem.Str.ofString "nought"),.str (PySem.Str.ofString "endless")])=.ok ↥26:=rfl
  simp_arith [aM w,e,i1]
theorem pS {E F s c:Int} (w:Wy) (h:Sz E F) (hs:0<=s/\s<=1) (c0:0<c) (c1:c<pw ↥0 - pw F) :
  ∃ d,di [.tup [.int E,.int F],.str w.s,.int ↥13]=.ok (.tup [.int (s*pw ↥0+d),.int (if d=pw ↥0 - pw F then 5 else if whW w s (frT (wh F ↥20 (c%pw F)) ↥6) (frB ↥6)*frB ↥6=frT (wh F ↥20 (c%pw F)) ↥6 then 0 else 1)])/\0<=d/\d<=pw ↥0 - pw F/\vl F d=whW w s (frT (wh F ↥20 (c%pw F)) ↥6) (frB ↥6)*pw ↥15:=by
 have hQ:=ah F
 have h5:=ay h
 have l:=dN h
 obtain ⟨f1,f2,f3,f4⟩:=jW h (Int.le_of_lt c0) c1
 have kc:=d6 (c:=c) h (Int.le_of_lt c0) ⋯
 have ek:=oE (c:=c) h hs (Int.le_of_lt c0) ⋯
 obtain ⟨d,d0,d1,ed,db⟩:=yo (w:=w) (s:=s) h (Int.le_of_lt c0) c1
 have wn:=wL (w:=w) (s:=s) f1 f2
 have e:=Kj (s:=s) w f1 f2 (Nat.le_trans f3 ↥1) (Nat.le_trans f4 ↥1) (ME h (Int.le_of_lt c0) c1)
 have k2:kindS E ↥20 (c%pw F)≠PySem.Str.ofString "none"/\oIn (.str (kindS E ↥20 (c%pw F))) (.tup [.str (PySem.Str.ofString "nought"),.str (PySem.Str.ofString "endless")])=.ok ↥35:=by
  rcases kc.2.2.2 ⋯ c1 with y | y<;>rw [y]<;>exact ⟨by decide,rfl⟩
 generalize kindS E ↥20 (c%pw F)=K at *
 have fa:=jV h hs (Int.le_of_lt c0) c1
 have nw:nb (whW w s (frT (wh F ↥20 (c%pw F)) ↥6) (frB ↥6))<=1000000:=by
  have a:nb (frT (wh F ↥20 (c%pw F)) ↥6 / frB ↥6)<=200000:=gO f2 f3
  have b:nb (frT (wh F ↥20 (c%pw F)) ↥6 / frB ↥6+1)<=200001:=by walk_at "nbk"
  exact Nat.le_trans (ef (j:=frT (wh F ↥20 (c%pw F)) ↥6 / frB ↥6+1) ⋯) ⋯
 generalize whW w s (frT (wh F ↥20 (c%pw F)) ↥6) (frB ↥6)=W at *
 obtain ⟨c',r,er,a⟩:=nV (n:=1) h wn.1 ↥1 nw ↥1
 obtain ⟨z1,z2⟩:=JS ↥1 a (Fb ↥1 d0 (by rw [ed,Int.mul_one]))
 subst z1 z2
 have er':=er w s hs
 generalize frT (wh F ↥20 (c%pw F)) ↥6=t at *
 generalize frB ↥6=n at *
 refine ⟨c',?_,d0,d1,ed⟩
 unfold di js
 by_cases q:c'=pw ↥0 - pw F
 ·rw [KY ⋯,KZ ⋯,db q,if_pos rfl,<-q] at er'
  rw [if_pos q]
  by_cases q2:W*n=t
  ·rw [if_pos q2] at e
   simp_arith [aM w,ek,k2.1,k2.2,fa,e,er',show Cz (.int 5) (.int 0)=.ok (.int 5) from rfl]
  ·rw [if_neg q2] at e
   simp_arith [aM w,ek,k2.1,k2.2,fa,e,er',show Cz (.int 5) (.int 1)=.ok (.int 5) from rfl]
 ·rw [(j2 (show c'<pw ↥0 - pw F by omega)).1,(j2 (show c'<pw ↥0 - pw F by omega)).2] at er'
  rw [if_neg q]
  by_cases q2:W*n=t
  ·rw [if_pos q2] at e ⊢
   simp_arith [aM w,ek,k2.1,k2.2,fa,e,er',show Cz (.int 0) (.int 0)=.ok (.int 0) from rfl]
  ·rw [if_neg q2] at e ⊢
   simp_arith [aM w,ek,k2.1,k2.2,fa,e,er',show Cz (.int 0) (.int 1)=.ok (.int 1) from rfl]
theorem Jg {E F b:Int} (w:Wy) (h:Sz E F) (hb:In E F b):∃ x,di [.tup [.int E,.int F],.str w.s,.int b]=.ok x/\bF [.tup [.int E,.int F],.str w.s,.int b,x]=.ok ↥26:=by
 obtain ⟨k1,k2,k3,k4⟩:=id h
 obtain ⟨s,c,hs,c0,c1,rfl⟩:=gZ h hb
 obtain ⟨q1,q2⟩:=fD (E:=E) (F:=F) hs c0 c1
 have hh:=ay h
 have hQ:=ah F
 have hH:=ah ↥0
 have nE:nb (pw E - 1)<=15:=bP (by have:=ah E;omega) (by have:=cT h;omega)
 have d1:fP ↥13 (pw ↥0):=⟨ah _,.inl (Nat.le_trans (cX (c:=127) ⋯) ↥1)⟩
 have s1:=dH (k:=E+F) ⋯ ⋯
 have s2:=dH (k:=E) ⋯ ⋯
 have s3:=av (i:=pw E - 1) (j:=F) ⋯ ⋯
 have s7:=dH (k:=F - 1) ⋯ ⋯
 have s9:=dH (k:=E - 1) ⋯ ⋯
 rw [end_is h] at s3
 have l1:=dN h
 have e1:pw (E - 1) - 2+F = -(lo E F):=by unfold lo;omega
 have sZ:=dH (k := -(lo E F)) ⋯ ⋯
 unfold bF cA
 by_cases g1:pw ↥0 - pw F<c
 ·exact ⟨_,nJ w h hs g1 c1,by simp_arith [s1,s2,s3,hH,q1,g1,s7,iv]⟩
 by_cases g2:c=pw ↥0 - pw F\/c=0
 ·exact ⟨_,nH w h hs g2,by simp_arith [s1,s2,s3,hH,q1,g1,eq_true g2,iv]⟩
 have c0':0<c:=⋯
 have hc:c<pw ↥0 - pw F:=⋯
 obtain ⟨f1,f2,f3,f4⟩:=jW h c0 hc
 have e:=kL h c0
 have hZ:=ah ↥15
 have nZ:nb (pw ↥15)<=20001:=cX (c:=20000) ⋯
 have nv:=cI h c0 c1
 obtain ⟨d,ew,d0,d2,ed⟩:=pS w h hs c0' hc
 have fw:=rV (s:=s) w f1 f2 hZ e ⋯ (show nb (vl F c)<=1000000 by omega) ⋯
 have iff:whW w s (frT (wh F ↥20 (c%pw F)) ↥6) (frB ↥6)*frB ↥6=frT (wh F ↥20 (c%pw F)) ↥6↔vl F d=vl F c:=by
  rw [ed]
  constructor
  ·intro q
   rw [<- q] at e
   rw [Int.mul_right_comm] at e
   exact Int.eq_of_mul_eq_mul_right ⋯ e
  ·intro q
   rw [<- q,Int.mul_right_comm] at e
   exact (Int.eq_of_mul_eq_mul_right ⋯ e).symm
 refine ⟨_,ew,?_⟩
 generalize whW w s (frT (wh F ↥20 (c%pw F)) ↥6) (frB ↥6)=W at *
 generalize frT (wh F ↥20 (c%pw F)) ↥6=t at *
 generalize frB ↥6=n at *
 have m3:MulOk s (pw ↥0):=dq hs.1 hs.2 (Nat.le_trans (cX (c:=127) ⋯) ↥1)
 have r1:vl F d%pw ↥15=0:=by rw [ed];exact Int.mul_emod_left _ _
 have r2:vl F d / pw ↥15=W:=by rw [ed];exact Int.mul_ediv_cancel _ ⋯
 have m41:cW (.int 4) (.int 1)=.ok (.int 4):=rfl
 have m40:cW (.int 4) (.int 0)=.ok (.int 0):=rfl
 have r3:s*pw ↥0+d - s*pw ↥0=d:=⋯
 by_cases g3:d=pw ↥0 - pw F
 ·have ne:¬ vl F d=vl F c:=fun z=>by have:=(zV (F:=F) d0 c0).2.mp z;omega
  rw [if_pos g3]
  simp_arith [s1,s2,s3,s9,hH,hZ,q1,g1,g2,fQ,cb d1,q2,ak m3,r3,d0,d2,e1,aB (c:=d) h d0 ⋯,aB h c0 c1,sZ,gA (i:=vl F d) (j := -(lo E F)) ⋯,r1,r2,fw,ne,eq_true g3,m41]
 rw [if_neg g3]
 by_cases g4:W*n=t
 ·rw [if_pos g4]
  simp_arith [s1,s2,s3,s9,hH,hZ,q1,g1,g2,fQ,cb d1,q2,ak m3,r3,d0,d2,e1,aB (c:=d) h d0 ⋯,aB h c0 c1,sZ,gA (i:=vl F d) (j := -(lo E F)) ⋯,r1,r2,fw,eq_true (iff.mp g4),g3,m40]
 ·rw [if_neg g4]
  simp_arith [s1,s2,s3,s9,hH,hZ,q1,g1,g2,fQ,cb d1,q2,ak m3,r3,d0,d2,e1,aB (c:=d) h d0 ⋯,aB h c0 c1,sZ,gA (i:=vl F d) (j := -(lo E F)) ⋯,r1,r2,fw,eq_false (fun z=>g4 (iff.mpr z)),g3,m40]
theorem AA {E F s s' c c':Int} (w:Wy) (h:Sz E F) (hs:0<=s/\s<=1) (hs':0<=s'/\s'<=1) (c0:0<=c) (c1:c<pw ↥0) (d0:0<=c') (d1:c'<pw ↥0) :
  ∃ x,fI [.tup [.int E,.int F],.str w.s,.int ↥13,.int ↥37]=.ok x/\bp [.tup [.int E,.int F],.str w.s,.int ↥13,.int ↥37,x]=.ok ↥26:=by
 obtain ⟨k1,k2,k3,k4⟩:=id h
 obtain ⟨x,y,e,z⟩:=qd w h hs hs' c0 c1 d0 d1
 refine ⟨_,e,?_⟩
 clear e
 obtain ⟨q1,q2⟩:=fD (E:=E) (F:=F) hs c0 c1
 obtain ⟨r1,r2⟩:=fD (E:=E) (F:=F) hs' d0 d1
 obtain ⟨u,eu,hu⟩:=Fi (n:=E+F) ⋯ hs hs' c0 c1 d0 d1
 have hh:=ay h
 have hQ:=ah F
 have hH:=ah ↥0
 have sg:=nM (s:=s) (s':=s')
 have nE:nb (pw E - 1)<=15:=bP (by have:=ah E;omega) (by have:=cT h;omega)
 have s1:=dH (k:=E+F) ⋯ ⋯
 have s2:=dH (k:=E) ⋯ ⋯
 have s3:=av (i:=pw E - 1) (j:=F) ⋯ ⋯
 have s7:=dH (k:=F - 1) ⋯ ⋯
 have s9:=dH (k:=E - 1) ⋯ ⋯
 rw [end_is h] at s3
 have n1:nb (pw ↥0)<=128:=cX (c:=127) ⋯
 have dv:∀ i,oDiv (.int i) (.int (pw ↥0))=.ok (.int (i / pw ↥0)):=fun i=>cb (fP.small hH ⋯)
 have mg:MulOk (sx s s') (pw ↥0):=dq sg.1 sg.2 (Nat.le_trans n1 ↥1)
 have hdm:sx s s'*pw ↥0 / pw ↥0=sx s s':=Int.mul_ediv_cancel _ ⋯
 unfold bp bM
 generalize sx s s'=g at *
 by_cases g1:pw ↥0 - pw F<c\/pw ↥0 - pw F<c'
 ·rw [if_pos g1] at z
  rw [z.1,z.2]
  simp_arith [s1,s2,s3,ah,q1,r1,eu,dv,hu,ak mg,eq_true g1,s7,iv]
 rw [if_neg g1] at z
 by_cases g2:c=c'/\(c=0\/c=pw ↥0 - pw F)
 ·rw [if_pos g2] at z
  rw [z.1,z.2]
  simp_arith [s1,s2,s3,ah,q1,r1,eu,dv,hu,ak mg,g1,eq_true g2.1,eq_true g2.2,eq_true g2,s7,iv]
 rw [if_neg g2] at z
 have g2':¬ (c=c'/\c=0):=fun u=>g2 ⟨u.1,.inl u.2⟩
 by_cases g3:c=pw ↥0 - pw F
 ·rw [if_pos g3] at z
  rw [z.1,z.2]
  simp_arith [s1,s2,s3,ah,q1,r1,eu,dv,hu,ak mg,g1,show ¬ c=c' from fun u=>g2 ⟨u,.inr g3⟩,eq_true g3,s7,iv]
 rw [if_neg g3] at z
 by_cases g4:c'=0
 ·rw [if_pos g4] at z
  rw [z.1,z.2]
  simp_arith [s1,s2,s3,ah,q1,r1,eu,dv,hu,ak mg,g1,g2',g3,eq_true g4,s7,iv]
 rw [if_neg g4] at z
 by_cases g5:c=0\/c'=pw ↥0 - pw F
 ·rw [if_pos g5] at z
  rw [z.1,z.2]
  simp_arith [s1,s2,s3,ah,q1,r1,eu,dv,hu,ak mg,g1,g2',g3,g4,eq_true g5,s7,iv]
 rw [if_neg g5] at z
 obtain ⟨k,r,z1,z2,a⟩:=z
 rw [z1,z2]
 have l:=dN h
 have e1:pw (E - 1) - 2+F = -(lo E F):=by unfold lo;omega
 have nv:=cI h c0 c1
 have nv':=cI h d0 d1
 have nS:nb (vl F c*pw ↥15)<=1000000:=by
  have:=cD nv (cX (k := -(lo E F)) (c:=20000) ⋯)
  omega
 have vp:=bB (F:=F) d0
 have fr:=xH w h sg (show 0<vl F c' by omega) (Nat.le_trans nS ↥1) (Nat.le_trans nv' ↥1) a.1 a.2.1 (fun _=>a.2.2.1) a.2.2.2
 simp_arith [s1,s2,s3,s9,ah,q1,r1,eu,dv,hu,ak mg,g1,g2',g3,g4,g5,e1,aB h c0 c1,aB h d0 d1,av (i:=vl F c) (j := -(lo E F)) ⋯ ⋯,hdm,fr]
theorem tw {E F S d r:Int} (w:Wy) (h:Sz E F) (a:RAt F S d r) (d1:1<=d) (d2:d+1<pw ↥0 - pw F) (nS:nb S<=1000000) (ld:S<pw F*pw F↔d<pw F) :
  bZ [.tup [.int E,.int F],.str w.s,.int S,.tup [.int (0*pw ↥0+stK w E F 0 d r),.int (stF w E F 0 d r)]]=.ok ↥26:=by
 obtain ⟨k1,k2,k3,k4⟩:=id h
 obtain ⟨d0,a1,a2,a3⟩:=a
 have hQ:=ah F
 have eM:=end_is h
 have nE:nb (pw E - 1)<=15:=bP (by have:=ah E;omega) (by have:=cT h;omega)
 have s1:=dH (k:=E) ⋯ ⋯
 have s2:=av (i:=pw E - 1) (j:=F) ⋯ ⋯
 have s3:=dH (k:=2*F) ⋯ ⋯
 have e2:pw (2*F)=pw F*pw F:=by rw [<- aY ⋯ ⋯];congr 1;omega
 rw [e2] at s3
 have nF:nb F<=8:=bP ⋯ ⋯
 have mF:MulOk 2 F:=by walk_at "mul"
 have v0:=cI (x:=d) h d0 ⋯
 have v1:=cI (x:=d+1) h ⋯ ⋯
 have m1:MulOk (vl F d) (vl F d):=by walk_at "mul"
 have m2:MulOk (vl F (d+1)) (vl F (d+1)):=by walk_at "mul"
 have m4:MulOk 4 S:=by walk_at "mul"
 have n12:nb (vl F d+vl F (d+1))<=40001:=by walk_at "nbk"
 have n21:nb (vl F (d+1)+vl F d)<=40001:=by walk_at "nbk"
 have p1:AN (.int (vl F d+vl F (d+1))) (.int 2)=.ok (.int ((vl F d+vl F (d+1))*(vl F d+vl F (d+1)))):=by
  rw [Il ↥1 ⋯]
  show R.ok (D.int (_^2))=_
  rw [Int.pow_succ,Int.pow_succ,Int.pow_zero,Int.one_mul]
 have p2:AN (.int (vl F (d+1)+vl F d)) (.int 2)=.ok (.int ((vl F d+vl F (d+1))*(vl F d+vl F (d+1)))):=by
  rw [Int.add_comm]
  exact p1
 have ho:oEq (.str w.s) (.str (PySem.Str.ofString "up"))=.ok (.bl (w.out 0)):=by cases w<;>rfl
 have vv:=nL (F:=F) (c:=d) (c':=d+1) d0 ⋯
 have vn:=(bB (F:=F) d0).1
 rw [Int.zero_mul,Int.zero_add]
 unfold bZ dB
 rcases a3 with ⟨g,ge⟩ | ⟨g,gr⟩
 ·subst g
  rw [(j2 (show d<pw ↥0 - pw F by omega)).1,(j2 (show d<pw ↥0 - pw F by omega)).2]
  simp_arith [fQ,s1,s2,eM,show 0<d by omega,show d<pw ↥0 - pw F by omega,aB (c:=d) h d0 ⋯,ak m1,eq_true ge]
 have r0:¬ r=0:=⋯
 have g1:¬ pw ↥0 - pw F<=d:=⋯
 cases gg:w.grw 0 (decide (d%2=1)) r
 ·have f1:stK w E F 0 d r=d:=by unfold stK;rw [if_neg g1,if_neg r0,gg];rfl
  have f2:stF w E F 0 d r=if d<pw F then 3 else 1:=by unfold stF;rw [if_neg g1,if_neg r0,f1,if_neg ⋯]
  rw [f1,f2]
  have hn':=vJ w (w.out 0) (decide (d%2=0)) (4*S - (vl F d+vl F (d+1))*(vl F d+vl F (d+1)))
  rw [vK gr gg] at hn'
  by_cases g2:d<pw F
  ·simp_arith [fQ,s1,s2,eM,show 0<d by omega,show d<pw ↥0 - pw F by omega,aB (c:=d) h d0 ⋯,ak m1,show ¬ vl F d*vl F d=S by omega,ak mF,s3,ld,g2,g,aB (c:=d+1) h ⋯ ⋯,ak m4,p1,ho,hn',ak m2,a2]
  ·simp_arith [fQ,s1,s2,eM,show 0<d by omega,show d<pw ↥0 - pw F by omega,aB (c:=d) h d0 ⋯,ak m1,show ¬ vl F d*vl F d=S by omega,ak mF,s3,ld,g2,g,aB (c:=d+1) h ⋯ ⋯,ak m4,p1,ho,hn',ak m2,a2]
 ·have f1:stK w E F 0 d r=d+1:=by unfold stK;rw [if_neg g1,if_neg r0,gg];rfl
  have f2:stF w E F 0 d r=if d<pw F then 3 else 1:=by unfold stF;rw [if_neg g1,if_neg r0,f1,if_neg ⋯]
  rw [f1,f2]
  have hn':=BF w (w.out 0) (decide ((d+1)%2=0)) (4*S - (vl F d+vl F (d+1))*(vl F d+vl F (d+1)))
  rw [BG gr gg] at hn'
  by_cases g2:d<pw F
  ·simp_arith [fQ,s1,s2,eM,show 0<d+1 by omega,show d+1<pw ↥0 - pw F by omega,aB (c:=d) h d0 ⋯,ak m1,show ¬ vl F (d+1)*vl F (d+1)=S by omega,ak mF,s3,ld,g2,show ¬ vl F (d+1)*vl F (d+1)<S by omega,show d+1 - 1=d by omega,aB (c:=d+1) h ⋯ ⋯,ak m4,p2,ho,hn',ak m2,g]
  ·simp_arith [fQ,s1,s2,eM,show 0<d+1 by omega,show d+1<pw ↥0 - pw F by omega,aB (c:=d) h d0 ⋯,ak m1,show ¬ vl F (d+1)*vl F (d+1)=S by omega,ak mF,s3,ld,g2,show ¬ vl F (d+1)*vl F (d+1)<S by omega,show d+1 - 1=d by omega,aB (c:=d+1) h ⋯ ⋯,ak m4,p2,ho,hn',ak m2,g]
theorem Az {E F b:Int} (w:Wy) (h:Sz E F) (hb:In E F b):∃ x,cq [.tup [.int E,.int F],.str w.s,.int b]=.ok x/\bY [.tup [.int E,.int F],.str w.s,.int b,x]=.ok ↥26:=by
 obtain ⟨k1,k2,k3,k4⟩:=id h
 obtain ⟨s,c,hs,c0,c1,rfl⟩:=gZ h hb
 obtain ⟨q1,q2⟩:=fD (E:=E) (F:=F) hs c0 c1
 have hh:=ay h
 have hQ:=ah F
 have hH:=ah ↥0
 have nE:nb (pw E - 1)<=15:=bP (by have:=ah E;omega) (by have:=cT h;omega)
 have s1:=dH (k:=E+F) ⋯ ⋯
 have s2:=dH (k:=E) ⋯ ⋯
 have s3:=av (i:=pw E - 1) (j:=F) ⋯ ⋯
 have s7:=dH (k:=F - 1) ⋯ ⋯
 have s9:=dH (k:=E - 1) ⋯ ⋯
 rw [end_is h] at s3
 unfold bY dA
 by_cases g1:pw ↥0 - pw F<c
 ·exact ⟨_,nW w h hs g1 c1,by simp_arith [s1,s2,s3,ah,q1,g1,s7,iv]⟩
 by_cases g2:c=0
 ·exact ⟨_,jS w h hs (.inl g2),by simp_arith [s1,s2,s3,ah,q1,g1,eq_true g2,iv]⟩
 rcases (by omega:s=0\/s=1) with e | e<;>subst e
 ·by_cases g3:c=pw ↥0 - pw F
  ·exact ⟨_,jS w h hs (.inr ⟨rfl,g3⟩),by simp_arith [s1,s2,s3,ah,q1,g1,g2,show (0*pw ↥0+c=pw ↥0 - pw F)=True from eq_true ⋯,iv]⟩
  ·obtain ⟨d,r,er,ra⟩:=tm w h (show 0<c by omega) (show c<pw ↥0 - pw F by omega)
   obtain ⟨i1,i2,i3⟩:=Hz h (show 0<c by omega) (show c<pw ↥0 - pw F by omega) ra
   have l:=dN h
   have e1:pw (E - 1) - 2+F = -(lo E F):=by unfold lo;omega
   have nv:=cI h c0 c1
   have nS:nb (vl F c*pw ↥15)<=1000000:=by
    have:=cD nv (cX (k := -(lo E F)) (c:=20000) ⋯)
    omega
   have rf:=tw w h ra i1 i2 nS i3
   have q0:0*pw ↥0+c=c:=⋯
   rw [q0] at q1
   refine ⟨_,er,?_⟩
   rw [q0]
   simp_arith [s1,s2,s3,s9,ah,q1,g1,g2,g3,show ¬ pw ↥0<=c by omega,e1,aB h c0 c1,av (i:=vl F c) (j := -(lo E F)) ⋯ ⋯,rf]
 ·exact ⟨_,pV w h ⋯ ⋯,by simp_arith [s1,s2,s3,ah,q1,g1,g2,show ¬ 1*pw ↥0+c=pw ↥0 - pw F by omega,show pw ↥0<=1*pw ↥0+c by omega,s7,iv]⟩
abbrev nS:PySem.Str:=PySem.Str.ofString "none"
abbrev wS:PySem.Str:=PySem.Str.ofString "wrong"
abbrev eS:PySem.Str:=PySem.Str.ofString "endless"
abbrev fS:PySem.Str:=PySem.Str.ofString "finite"
structure Tt where
 kd:PySem.Str
 sg:Int
 v:Int
def Tt.d (t:Tt):D:=.tup [.str t.kd,.int t.sg,.int t.v]
def es:List Tt->List Int
 | []=>[]
 | t::r=>if t.kd=eS then t.sg::es r else es r
def exS:List Tt->Int
 | []=>0
 | t::r=>(1 - 2*t.sg)*t.v+exS r
def wG (w:Wy) (E F:Int) (ts:List Tt) (x y:Int):Prop :=
 if nS∈ts.map (·.kd) then x=pw ↥0 - pw F+pw (F - 1)/\y=0
 else if wS∈ts.map (·.kd)\/(0∈es ts/\1∈es ts) then x=pw ↥0 - pw F+pw (F - 1)/\y=16
 else if 0<(es ts).length then x=(es ts).getD 0 0*pw ↥0+(pw ↥0 - pw F)/\y=0
 else F7 w E F (exS ts) (pw ↥15) (if 1∈ts.map (·.sg)/\(w.s=PySem.Str.ofString "down"\/¬ 0∈ts.map (·.sg)) then 1 else 0) x y
theorem xO (x:PySem.Str):∀ bs:List PySem.Str,((bs.map D.str).any fun y=>D.beq y (.str x))=decide (x∈bs)
 | []=>rfl
 | b::bs=>by
  rw [List.map_cons,List.any_cons,xO x bs]
  unfold D.beq
  by_cases h:b=x
  ·subst h;simp
  ·have:¬ x=b:=fun z=>h z.symm
   simp [h,this]
theorem Al:∀ bs:List PySem.Str,(bs.map D.str).all D.sc=true
 | []=>rfl
 | b::bs=>by rw [List.map_cons,List.all_cons,Al bs];rfl
theorem xk {x:PySem.Str} {bs:List PySem.Str}:oIn (.str x) (.lst (bs.map D.str))=.ok (.bl (decide (x∈bs))):=by
 unfold oIn isIn
 simp only [D.sc,Al,Bool.and_self,if_true,xO]
theorem p9:∀ bs:List PySem.Str,D.flats (bs.map D.str)=true
 | []=>rfl
 | b::bs=>by
  show (D.flat (.str b)&&D.flats (bs.map D.str))=true
  rw [p9 bs]
  rfl
theorem wY {st:D->R (Option D)} {g:Tt->D}:∀ ts:List Tt,(∀ t∈ts,st t.d=.ok (some (g t)))->runC st (ts.map Tt.d)=.ok (ts.map g)
 | [],_=>rfl
 | t::r,h=>by
  rw [List.map_cons]
  unfold runC
  rw [h t (.head _),wY r fun x m=>h x (.tail _ m)]
  rfl
theorem Fs {st:D->R (Option D)}:∀ ts:List Tt,(∀ t∈ts,st t.d=.ok (if t.kd=eS then some (.int t.sg) else none))->runC st (ts.map Tt.d)=.ok ((es ts).map D.int)
 | [],_=>rfl
 | t::r,h=>by
  rw [List.map_cons]
  unfold runC
  rw [h t (.head _),Fs r fun x m=>h x (.tail _ m)]
  show _=R.ok ((if t.kd=eS then t.sg::es r else es r).map D.int)
  by_cases q:t.kd=eS
  ·rw [if_pos q,if_pos q];rfl
  ·rw [if_neg q,if_neg q];rfl
theorem KW (ts:List Tt):∀ a,(ts.map fun t=>(1 - 2*t.sg)*t.v).foldl (· + ·) a=a+exS ts:=by
 induction ts with
 | nil=>intro a;show a=a+0;omega
 | cons t r ih =>
  intro a
  rw [List.map_cons,List.foldl_cons,ih]
  show _=a+(_+exS r)
  omega
theorem mL {E F x y:Int} {ts:List Tt} (w:Wy) (h:Sz E F) (hl:ts.length<=2) (ht:∀ t∈ts,(0<=t.sg/\t.sg<=1)/\0<=t.v/\nb t.v<=80000) (z:wG w E F ts x y) :
  bc [.tup [.int E,.int F],.str w.s,.lst (ts.map Tt.d),.tup [.int x,.int y]]=.ok ↥26:=by
 obtain ⟨k1,k2,k3,k4⟩:=id h
 have hh:=ay h
 have hQ:=ah F
 have hH:=ah ↥0
 have nE:nb (pw E - 1)<=15:=bP (by have:=ah E;omega) (by have:=cT h;omega)
 have s2:=dH (k:=E) ⋯ ⋯
 have s3:=av (i:=pw E - 1) (j:=F) ⋯ ⋯
 have s7:=dH (k:=F - 1) ⋯ ⋯
 have s9:=dH (k:=E - 1) ⋯ ⋯
 rw [end_is h] at s3
 have l:=dN h
 have e1:pw (E - 1) - 2+F = -(lo E F):=by unfold lo;omega
 have lt:ts.length<=100000:=⋯
 have c1:∀ δ,runC (stC (con ↥26) ↥7 [] δ) (ts.map Tt.d)=.ok ((ts.map (·.kd)).map D.str):=fun δ=>by
  rw [List.map_map]
  refine wY ts fun t _ => ?_
  unfold stC inC Tt.d
  simp_arith []
  unfold lM
  simp_arith []
  rfl
 have c2:∀ δ,runC (stC (bin oEq ↥7 (con (.str "endless"))) ↥2 [] δ) (ts.map Tt.d)=.ok ((es ts).map D.int):=fun δ=>Fs ts fun t _=>by
  unfold stC inC Tt.d
  by_cases q:t.kd=eS
  ·rw [if_pos q]
   simp_arith [eq_true q]
   unfold lM
   simp_arith []
  ·rw [if_neg q]
   simp_arith [q]
   unfold lM
   simp_arith []
 have c3:∀ δ,runC (stC (con ↥26) (bin cW (bin bT ⇑1 (bin cW ⇑2 ↥2)) (bin oIx (var 0) ⇑2)) [] δ) (ts.map Tt.d)=.ok ((ts.map fun t=>(1 - 2*t.sg)*t.v).map D.int):=fun δ=>by
  rw [List.map_map]
  refine wY ts fun t m => ?_
  obtain ⟨a,b,c⟩:=ht t m
  have m1:=ak (MulOk.of (i:=2) (j:=t.sg) (a:=2) (b:=1) ↥1 (bP a.1 ⋯) ↥1)
  have m2:=ak (MulOk.of (i:=1 - 2*t.sg) (j:=t.v) (a:=2) (b:=80000) (by rcases (by omega:t.sg=0\/t.sg=1) with e | e<;>rw [e]<;>decide) c ↥1)
  unfold stC inC Tt.d
  simp_arith [m1,m2]
  unfold lM
  simp_arith []
  rfl
 have c4:∀ δ,runC (stC (con ↥26) ↥2 [] δ) (ts.map Tt.d)=.ok ((ts.map (·.sg)).map D.int):=fun δ=>by
  rw [List.map_map]
  refine wY ts fun t _ => ?_
  unfold stC inC Tt.d
  simp_arith []
  unfold lM
  simp_arith []
  rfl
 have f1:dC ((ts.map (·.kd)).map D.str)=.ok (.lst ((ts.map (·.kd)).map D.str)):=by unfold dC;rw [if_pos (p9 _)]
 have f2:∀ bs:List Int,dC (bs.map D.int)=.ok (.lst (bs.map D.int)):=fun bs=>by unfold dC;rw [if_pos (lP _)]
 have i1:=xk (x:=nS) (bs:=ts.map (·.kd))
 have i2:=xk (x:=wS) (bs:=ts.map (·.kd))
 have i3:=cN (x:=0) (bs:=es ts)
 have i4:=cN (x:=1) (bs:=es ts)
 have i5:=cN (x:=0) (bs:=ts.map (·.sg))
 have i6:=cN (x:=1) (bs:=ts.map (·.sg))
 have bs:JO [.lst ((ts.map fun t=>(1 - 2*t.sg)*t.v).map D.int)]=.ok (.int (exS ts)):=by
  unfold JO
  simp only [ints_of]
  have:=KW ts 0
  rw [Int.zero_add] at this
  rw [<- this]
 have fe:=f2 (es ts)
 have fs:=f2 (ts.map fun t=>(1 - 2*t.sg)*t.v)
 have fg:=f2 (ts.map (·.sg))
 have el:((es ts).map D.int).length=(es ts).length:=List.length_map ..
 have e0:0<(es ts).length->oIx (.lst ((es ts).map D.int)) (.int 0)=.ok (.int ((es ts).getD 0 0)):=fun q=>by
  cases e:es ts with
  | nil=>rw [e] at q;cases q
  | cons a r=>exact Td
 have eI:0<(es ts).length->0<=(es ts).getD 0 0/\(es ts).getD 0 0<=1:=fun q=>by
  have key:∀ l:List Tt,(∀ t∈l,0<=t.sg/\t.sg<=1)->0<(es l).length->0<=(es l).getD 0 0/\(es l).getD 0 0<=1:=by
   intro l
   induction l with
   | nil=>intro _ q;cases q
   | cons t r ih =>
    intro hs q
    have u:es (t::r)=if t.kd=eS then t.sg::es r else es r:=rfl
    rw [u] at q ⊢
    by_cases g:t.kd=eS
    ·rw [if_pos g];exact hs t (.head _)
    ·rw [if_neg g] at q ⊢;exact ih (fun x m=>hs x (.tail _ m)) q
  exact key ts (fun t m=>(ht t m).1) q
 unfold wG at z
 unfold bc dX
 generalize (ts.map (·.kd)).map D.str=KL at *
 generalize hEL:(es ts).map D.int=EL at *
 generalize (ts.map fun t=>(1 - 2*t.sg)*t.v).map D.int=VL at *
 generalize (ts.map (·.sg)).map D.int=SL at *
 by_cases g1:nS∈ts.map (·.kd)
 ·rw [if_pos g1] at z
  rw [z.1,z.2]
  rw [decide_eq_true g1] at i1
  simp_arith [s2,s3,lt,c1,f1,c2,fe,i1,s7,iv]
 rw [if_neg g1] at z
 rw [decide_eq_false g1] at i1
 by_cases g2:wS∈ts.map (·.kd)
 ·rw [if_pos (.inl g2)] at z
  rw [z.1,z.2]
  rw [decide_eq_true g2] at i2
  simp_arith [s2,s3,lt,c1,f1,c2,fe,i1,i2,s7,iv]
 rw [decide_eq_false g2] at i2
 by_cases g3:0∈es ts/\1∈es ts
 ·rw [if_pos (.inr g3)] at z
  rw [z.1,z.2]
  rw [decide_eq_true g3.1] at i3
  rw [decide_eq_true g3.2] at i4
  simp_arith [s2,s3,lt,c1,f1,c2,fe,i1,i2,i3,i4,s7,iv]
 rw [if_neg (fun q=>q.elim g2 g3)] at z
 by_cases g4:0<(es ts).length
 ·rw [if_pos g4] at z
  rw [z.1,z.2]
  have x0:=e0 g4
  have xi:=eI g4
  generalize (es ts).getD 0 0=b at *
  have sh:=av (i:=b) (j:=E+F) ⋯ (by have:nb b<=1:=bP xi.1 ⋯;omega)
  have an:((oIn (.int 0) (.lst EL)).bind fun d=>truth d (oIn (.int 1) (.lst EL)) (.ok ↥35))=.ok ↥35:=by
   by_cases q:0∈es ts
   ·rw [i3,i4,decide_eq_true q,decide_eq_false (fun q'=>g3 ⟨q,q'⟩)]
    rfl
   ·rw [i3,decide_eq_false q]
    rfl
  simp_arith [s2,s3,lt,c1,f1,c2,fe,i1,i2,an,el,show (0:Int)<(es ts).length by omega,x0,sh,iv]
 rw [if_neg g4] at z
 have l0:¬ (0:Int)<(es ts).length:=⋯
 have e00:es ts=[]:=List.eq_nil_of_length_eq_zero ⋯
 rw [decide_eq_false (show ¬ 0∈es ts by rw [e00];exact fun q=>nomatch q)] at i3
 have s10:=dH (k := -(lo E F)) ⋯ ⋯
 by_cases X0:exS ts=0
 ·obtain ⟨o1,o2⟩:=z.1 X0
  rw [o1,o2]
  have sh:∀ b:Int,0<=b/\b<=1->bH (.int b) (.int ↥0)=.ok (.int (b*pw ↥0)):=fun b hb=>av ⋯ (by have:nb b<=1:=bP hb.1 ⋯;omega)
  have sh0:=sh 0 ↥1
  have sh1:=sh 1 ↥1
  by_cases p1:1∈ts.map (·.sg)
  ·rw [decide_eq_true p1] at i6
   by_cases p2:w.s=PySem.Str.ofString "down"
   ·rw [if_pos ⟨p1,.inl p2⟩]
    simp_arith [s2,s3,lt,c1,f1,c2,fe,i1,i2,i3,el,l0,c3,fs,bs,c4,fg,eq_true X0,i6,eq_true p2,sh1,iv]
   ·by_cases p3:0∈ts.map (·.sg)
    ·rw [if_neg (fun q=>q.2.elim p2 (fun r=>r p3))]
     rw [decide_eq_true p3] at i5
     have n5:eC (.int 0) (.lst SL)=.ok ↥35:=by unfold eC;rw [i5];rfl
     simp_arith [s2,s3,lt,c1,f1,c2,fe,i1,i2,i3,el,l0,c3,fs,bs,c4,fg,eq_true X0,i6,p2,n5,sh0,iv]
    ·rw [if_pos ⟨p1,.inr p3⟩]
     rw [decide_eq_false p3] at i5
     have n5:eC (.int 0) (.lst SL)=.ok ↥26:=by unfold eC;rw [i5];rfl
     simp_arith [s2,s3,lt,c1,f1,c2,fe,i1,i2,i3,el,l0,c3,fs,bs,c4,fg,eq_true X0,i6,p2,n5,sh1,iv]
  ·rw [decide_eq_false p1] at i6
   rw [if_neg (fun q=>p1 q.1)]
   simp_arith [s2,s3,lt,c1,f1,c2,fe,i1,i2,i3,el,l0,c3,fs,bs,c4,fg,eq_true X0,i6,sh0,iv]
 ·obtain ⟨k,r,o1,o2,a⟩:=z.2 X0
  have nX:nb (exS ts)<=1000000:=by
   have key:∀ l:List Tt,(∀ t∈l,(0<=t.sg/\t.sg<=1)/\nb t.v<=80000)->nb (exS l)<=80002+l.length:=by
    intro l
    induction l with
    | nil=>intro _;decide
    | cons t r ih =>
     intro hs
     have i:=ih fun x m=>hs x (.tail _ m)
     have a1:nb ((1 - 2*t.sg)*t.v)<=80002+r.length:=by
      have:=cD (a:=2) (show nb (1 - 2*t.sg)<=2 by rcases (by have:=(hs t (.head _)).1;omega:t.sg=0\/t.sg=1) with e | e<;>rw [e]<;>decide) (hs t (.head _)).2
      omega
     have:=xr a1 i
     show nb (_+exS r)<=80002+(r.length+1)
     omega
   have:=key ts fun t m=>⟨(ht t m).1,(ht t m).2.2⟩
   omega
  have fr:=xH (s:=if exS ts<0 then 1 else 0) w h (by split<;>decide) (ah ↥15) (T:=if exS ts<0 then -(exS ts) else exS ts) (by rw [OD];exact Nat.le_trans nX ↥1) (by have:=cX (k := -(lo E F)) (c:=20000) ⋯;omega) a.1 a.2.1 (fun _=>a.2.2.1) a.2.2.2
  rw [<- o1,<-o2] at fr
  have ba:FW [.int (exS ts)]=.ok (.int (if exS ts<0 then -(exS ts) else exS ts)):=rfl
  generalize exS ts=X at *
  by_cases g:X<0
  ·rw [if_pos g] at fr ba
   rw [if_pos g] at fr
   simp_arith [s2,s3,lt,c1,f1,c2,fe,i1,i2,i3,el,l0,c3,fs,bs,c4,fg,X0,s9,e1,s10,g,ba,fr]
  ·rw [if_neg g] at fr ba
   rw [if_neg g] at fr
   simp_arith [s2,s3,lt,c1,f1,c2,fe,i1,i2,i3,el,l0,c3,fs,bs,c4,fg,X0,s9,e1,s10,g,ba,fr]
def tmO (E F s c:Int):Tt:=if pw ↥0 - pw F<c then ⟨nS,0,0⟩ else if c=pw ↥0 - pw F then ⟨eS,s,0⟩ else ⟨fS,s,vl F c*pw ↥15⟩
def prO (E F s c s' c':Int):Tt:=if pw ↥0 - pw F<c\/pw ↥0 - pw F<c' then ⟨nS,0,0⟩ else if c<pw ↥0 - pw F/\c'<pw ↥0 - pw F then ⟨fS,sx s s',vl F c*vl F c'⟩ else if c=0\/c'=0 then ⟨wS,0,0⟩ else ⟨eS,sx s s',0⟩
theorem yr {E F s c:Int} (h:Sz E F) (hs:0<=s/\s<=1) (c0:0<=c) (c1:c<pw ↥0):az [.tup [.int E,.int F],.int ↥13]=.ok (tmO E F s c).d/\(0<=(tmO E F s c).sg/\(tmO E F s c).sg<=1)/\0<=(tmO E F s c).v/\nb (tmO E F s c).v<=80000:=by
 obtain ⟨k1,k2,k3,k4⟩:=id h
 have hQ:=ah F
 have hH:=ah ↥0
 obtain ⟨q1,q2⟩:=fD (E:=E) (F:=F) hs c0 c1
 have nE:nb (pw E - 1)<=15:=bP (by have:=ah E;omega) (by have:=cT h;omega)
 have s1:=dH (k:=E+F) ⋯ ⋯
 have s2:=dH (k:=E) ⋯ ⋯
 have s3:=av (i:=pw E - 1) (j:=F) ⋯ ⋯
 have s9:=dH (k:=E - 1) ⋯ ⋯
 rw [end_is h] at s3
 have l:=dN h
 have e1:pw (E - 1) - 2+F = -(lo E F):=by unfold lo;omega
 have n1:nb (pw ↥0)<=128:=cX (c:=127) ⋯
 have dv:∀ i,oDiv (.int i) (.int (pw ↥0))=.ok (.int (i / pw ↥0)):=fun i=>cb (fP.small hH ⋯)
 have nv:=cI h c0 c1
 have b1:=aB h c0 c1
 have s11:=av (i:=vl F c) (j := -(lo E F)) ⋯ ⋯
 have vn:=bB (F:=F) c0
 unfold tmO az jx
 by_cases g1:pw ↥0 - pw F<c
 ·rw [if_pos g1]
  exact ⟨by simp_arith [s1,s2,s3,s9,hH,q1,g1];rfl,by decide,by decide,by decide⟩
 by_cases g2:c=pw ↥0 - pw F
 ·rw [if_neg g1,if_pos g2]
  refine ⟨?_,hs,Int.le_refl 0,Nat.zero_le 80000⟩
  simp_arith [s1,s2,s3,s9,hH,q1,g1,eq_true g2,dv,q2]
  rfl
 ·rw [if_neg g1,if_neg g2]
  refine ⟨?_,hs,Int.mul_nonneg vn.1 (Int.le_of_lt (ah _)),?_⟩
  ·simp_arith [s1,s2,s3,s9,e1,hH,q1,g1,g2,dv,q2,b1,s11]
   rfl
  ·have:=cD nv (cX (k := -(lo E F)) (c:=20000) ⋯)
   show nb (vl F c*pw ↥15)<=80000
   omega
theorem N8 {E F s c s' c':Int} (h:Sz E F) (hs:0<=s/\s<=1) (hs':0<=s'/\s'<=1) (c0:0<=c) (c1:c<pw ↥0) (d0:0<=c') (d1:c'<pw ↥0):cu [.tup [.int E,.int F],.int ↥13,.int ↥37]=.ok (prO E F s c s' c').d/\(0<=(prO E F s c s' c').sg/\(prO E F s c s' c').sg<=1)/\0<=(prO E F s c s' c').v/\nb (prO E F s c s' c').v<=80000:=by
 obtain ⟨k1,k2,k3,k4⟩:=id h
 have hQ:=ah F
 have hh:=ay h
 have l:=dN h
 have hU:=ah ↥15
 have e1:pw (E - 1) - 2+F = -(lo E F):=by unfold lo;omega
 have s9:=dH (k:=E - 1) ⋯ ⋯
 have t1:=(yr h hs c0 c1).1
 have t2:=(yr h hs' d0 d1).1
 have sg:=nM (s:=s) (s':=s')
 have xo:eZ (.int s) (.int s')=.ok (.int (sx s s')):=by
  rcases (by omega:s=0\/s=1) with e | e<;>rcases (by omega:s'=0\/s'=1) with e' | e'<;>subst e e'<;>rfl
 have x0:∀ a:Int,0<=a/\a<=1->(∃ b,eZ (.int a) (.int 0)=.ok (.int b))/\∃ b,eZ (.int 0) (.int a)=.ok (.int b):=fun a ha=>by
  rcases (by omega:a=0\/a=1) with e | e<;>subst e<;>exact ⟨⟨_,rfl⟩,⟨_,rfl⟩⟩
 have nv:=cI h c0 c1
 have nv':=cI h d0 d1
 have mu:=ak (MulOk.of (i:=vl F c) (j:=vl F c') (a:=40000) (b:=40000) nv nv' ↥1)
 have vn:=bB (F:=F) c0
 have vn':=bB (F:=F) d0
 have z1:vl F c*pw ↥15=0↔c=0:=⟨fun q=>vn.2.mp ((Int.mul_eq_zero.mp q).resolve_right ⋯),fun q=>by rw [vn.2.mpr q,Int.zero_mul]⟩
 have z2:vl F c'*pw ↥15=0↔c'=0:=⟨fun q=>vn'.2.mp ((Int.mul_eq_zero.mp q).resolve_right ⋯),fun q=>by rw [vn'.2.mpr q,Int.zero_mul]⟩
 have r1:tY (.int (vl F c*pw ↥15)) (.int ↥15)=.ok (.int (vl F c)):=by rw [gA ⋯,Int.mul_ediv_cancel _ ⋯]
 have r2:tY (.int (vl F c'*pw ↥15)) (.int ↥15)=.ok (.int (vl F c')):=by rw [gA ⋯,Int.mul_ediv_cancel _ ⋯]
 have a1:¬ nS=eS:=by decide
 have a2:¬ nS=fS:=by decide
 have a3:¬ eS=nS:=by decide
 have a4:¬ eS=fS:=by decide
 have a5:¬ fS=nS:=by decide
 have a6:¬ fS=eS:=by decide
 unfold tmO at t1 t2
 unfold prO cu fj
 by_cases g1:pw ↥0 - pw F<c
 ·rw [if_pos g1] at t1
  rw [if_pos (.inl g1)]
  refine ⟨?_,by decide,by decide,by decide⟩
  have q:∃ k sg v,(if pw ↥0 - pw F<c' then (⟨nS,0,0⟩:Tt) else if c'=pw ↥0 - pw F then ⟨eS,s',0⟩ else ⟨fS,s',vl F c'*pw ↥15⟩)=⟨k,sg,v⟩/\0<=sg/\sg<=1:=by
   split
   ·exact ⟨_,_,_,rfl,by decide,by decide⟩
   ·split<;>exact ⟨_,_,_,rfl,hs'⟩
  obtain ⟨k,g,v,e,hg⟩:=q
  rw [e] at t2
  obtain ⟨b,xb⟩:=(x0 g hg).2
  have t1':az [.tup [.int E,.int F],.int ↥13]=.ok (.tup [.str nS,.int 0,.int 0]):=t1
  have t2':az [.tup [.int E,.int F],.int ↥37]=.ok (.tup [.str k,.int g,.int v]):=t2
  simp_arith [s9,t1',t2',xb]
  rfl
 rw [if_neg g1] at t1
 by_cases g2:pw ↥0 - pw F<c'
 ·rw [if_pos g2] at t2
  rw [if_pos (.inr g2)]
  refine ⟨?_,by decide,by decide,by decide⟩
  have q:∃ k sg v,(if c=pw ↥0 - pw F then (⟨eS,s,0⟩:Tt) else ⟨fS,s,vl F c*pw ↥15⟩)=⟨k,sg,v⟩/\(0<=sg/\sg<=1)/\¬ k=nS:=by
   split
   ·exact ⟨_,_,_,rfl,hs,a3⟩
   ·exact ⟨_,_,_,rfl,hs,a5⟩
  obtain ⟨k,g,v,e,hg,nk⟩:=q
  rw [e] at t1
  obtain ⟨b,xb⟩:=(x0 g hg).1
  have t1':az [.tup [.int E,.int F],.int ↥13]=.ok (.tup [.str k,.int g,.int v]):=t1
  have t2':az [.tup [.int E,.int F],.int ↥37]=.ok (.tup [.str nS,.int 0,.int 0]):=t2
  simp_arith [s9,t1',t2',xb,nk]
  rfl
 rw [if_neg g2] at t2
 rw [if_neg ⋯]
 by_cases g3:c=pw ↥0 - pw F
 ·rw [if_pos g3] at t1
  have t1':az [.tup [.int E,.int F],.int ↥13]=.ok (.tup [.str eS,.int s,.int 0]):=t1
  rw [if_neg ⋯]
  by_cases g4:c'=pw ↥0 - pw F
  ·rw [if_pos g4] at t2
   have t2':az [.tup [.int E,.int F],.int ↥37]=.ok (.tup [.str eS,.int s',.int 0]):=t2
   rw [if_neg ⋯]
   refine ⟨?_,sg,Int.le_refl 0,Nat.zero_le 80000⟩
   simp_arith [s9,t1',t2',xo,a3,a4]
   rfl
  ·rw [if_neg g4] at t2
   have t2':az [.tup [.int E,.int F],.int ↥37]=.ok (.tup [.str fS,.int s',.int (vl F c'*pw ↥15)]):=t2
   by_cases g5:c'=0
   ·rw [if_pos (.inr g5)]
    refine ⟨?_,by decide,by decide,by decide⟩
    simp_arith [s9,t1',t2',xo,a3,a4,a5,eq_true (z2.mpr g5)]
    rfl
   ·rw [if_neg ⋯]
    refine ⟨?_,sg,Int.le_refl 0,Nat.zero_le 80000⟩
    simp_arith [s9,t1',t2',xo,a3,a4,a5,show ¬ vl F c'*pw ↥15=0 from fun q=>g5 (z2.mp q)]
    rfl
 ·rw [if_neg g3] at t1
  have t1':az [.tup [.int E,.int F],.int ↥13]=.ok (.tup [.str fS,.int s,.int (vl F c*pw ↥15)]):=t1
  by_cases g4:c'=pw ↥0 - pw F
  ·rw [if_pos g4] at t2
   have t2':az [.tup [.int E,.int F],.int ↥37]=.ok (.tup [.str eS,.int s',.int 0]):=t2
   rw [if_neg ⋯]
   by_cases g5:c=0
   ·rw [if_pos (.inl g5)]
    refine ⟨?_,by decide,by decide,by decide⟩
    simp_arith [s9,t1',t2',xo,a3,a4,a5,eq_true (z1.mpr g5)]
    rfl
   ·rw [if_neg ⋯]
    refine ⟨?_,sg,Int.le_refl 0,Nat.zero_le 80000⟩
    simp_arith [s9,t1',t2',xo,a3,a4,a5,show ¬ vl F c*pw ↥15=0 from fun q=>g5 (z1.mp q)]
    rfl
  ·rw [if_neg g4] at t2
   have t2':az [.tup [.int E,.int F],.int ↥37]=.ok (.tup [.str fS,.int s',.int (vl F c'*pw ↥15)]):=t2
   rw [if_pos ⋯]
   refine ⟨?_,sg,Int.mul_nonneg vn.1 vn'.1,cD nv nv'⟩
   simp_arith [s9,e1,t1',t2',xo,a5,r1,r2,mu]
   rfl
theorem Jf {w:Wy} {E F X sg x y U:Int} (hU:0<U) (z:F7 w E F X 1 sg x y):F7 w E F (X*U) U sg x y:=by
 have ng:X*U<0↔X<0:=⟨fun q=>by
   refine Classical.byContradiction fun g => ?_
   have:=Int.mul_nonneg (show 0<=X by omega) (Int.le_of_lt hU)
   omega,fun q=>Int.mul_neg_of_neg_of_pos q hU⟩
 have ez:X*U=0↔X=0:=⟨fun q=>(Int.mul_eq_zero.mp q).resolve_right ⋯,fun q=>by rw [q,Int.zero_mul]⟩
 have ei:(if X*U<0 then (1:Int) else 0)=if X<0 then 1 else 0:=by
  by_cases g:X<0
  ·rw [if_pos g,if_pos (ng.mpr g)]
  ·rw [if_neg g,if_neg (fun q=>g (ng.mp q))]
 have ea:(if X*U<0 then -(X*U) else X*U)=(if X<0 then -X else X)*U:=by
  by_cases g:X<0
  ·rw [if_pos g,if_pos (ng.mpr g),Int.neg_mul]
  ·rw [if_neg g,if_neg (fun q=>g (ng.mp q))]
 refine ⟨fun q=>z.1 (ez.mp q),fun q => ?_⟩
 obtain ⟨k,r,a,b,c⟩:=z.2 fun e=>q (ez.mpr e)
 rw [ei,ea]
 have:=FY hU c
 rw [Int.one_mul] at this
 exact ⟨k,r,a,b,this⟩
theorem sT {s v:Int} (hs:0<=s/\s<=1):(1 - 2*s)*v=if s=1 then -v else v:=by
 rcases (by omega:s=0\/s=1) with e | e<;>subst e
 ·rw [if_neg ↥1];omega
 ·rw [if_pos rfl];omega
section
variable {w:Wy} {E F x y:Int} {ts:List Tt}
theorem G0 (n:nS∈ts.map (·.kd)) (z:x=pw ↥0 - pw F+pw (F - 1)/\y=0):wG w E F ts x y:=by unfold wG;rw [if_pos n];exact z
theorem G1 (n:¬ nS∈ts.map (·.kd)) (m:wS∈ts.map (·.kd)\/(0∈es ts/\1∈es ts)) (z:x=pw ↥0 - pw F+pw (F - 1)/\y=16):wG w E F ts x y:=by unfold wG;rw [if_neg n,if_pos m];exact z
theorem G2 {b:Int} {r:List Int} (n:¬ nS∈ts.map (·.kd)) (m:¬ wS∈ts.map (·.kd)) (e:es ts=b::r) (o:¬ (0∈b::r/\1∈b::r)) (z:x=b*pw ↥0+(pw ↥0 - pw F)/\y=0):wG w E F ts x y:=by
 unfold wG
 rw [e,if_neg n,if_neg (fun q=>q.elim m o),if_pos (show 0<(b::r).length from Nat.succ_pos _)]
 exact z
theorem G3 {X sg:Int} (n:¬ nS∈ts.map (·.kd)) (m:¬ wS∈ts.map (·.kd)) (e:es ts=[]) (eX:exS ts=X) (eg:(if 1∈ts.map (·.sg)/\(w.s=PySem.Str.ofString "down"\/¬ 0∈ts.map (·.sg)) then (1:Int) else 0)=sg) (z:F7 w E F X (pw ↥15) sg x y):wG w E F ts x y:=by
 unfold wG
 rw [e,if_neg n,if_neg (fun q=>q.elim m (fun q=>nomatch q.1)),if_neg ↥1,eX,eg]
 exact z
end
theorem k_ne:¬ nS=eS/\¬ nS=fS/\¬ wS=eS/\¬ wS=fS/\¬ fS=eS/\¬ nS=wS/\¬ wS=nS:=by decide
theorem Fq {w:Wy} {s s':Int} (hs:0<=s/\s<=1) (hs':0<=s'/\s'<=1):(if 1∈[s,s']/\(w.s=PySem.Str.ofString "down"\/¬ 0∈[s,s']) then (1:Int) else 0)=if s'=s then s else if w.s=PySem.Str.ofString "down" then 1 else 0:=by
 rcases (by omega:s=0\/s=1) with e | e<;>rcases (by omega:s'=0\/s'=1) with e' | e'<;>subst e e'<;>simp
theorem Bz {w:Wy} {E F s c s' c' x y:Int} (hs:0<=s/\s<=1) (hs':0<=s'/\s'<=1) (z:Nk w E F s c s' c' x y):wG w E F [tmO E F s c,tmO E F s' c'] x y:=by
 obtain ⟨a1,a2,a3,a4,a5,a6,a7⟩:=k_ne
 unfold Nk at z
 unfold tmO
 by_cases g1:pw ↥0 - pw F<c
 ·rw [if_pos (.inl g1)] at z
  rw [if_pos g1]
  exact G0 (.head _) z
 by_cases g2:pw ↥0 - pw F<c'
 ·rw [if_pos (.inr g2)] at z
  rw [if_pos g2]
  exact G0 (.tail _ (.head _)) z
 rw [if_neg (fun q=>q.elim g1 g2)] at z
 rw [if_neg g1,if_neg g2]
 by_cases g3:c=pw ↥0 - pw F
 ·rw [if_pos g3] at z ⊢
  by_cases g4:c'=pw ↥0 - pw F
  ·rw [if_pos g4]
   have e:es [⟨eS,s,0⟩,⟨eS,s',0⟩]=[s,s']:=by simp [es]
   by_cases g5:s=s'
   ·rw [if_neg (fun q=>q.2 g5)] at z
    exact G2 (by simp [a1]) (by simp [a3]) e (by subst g5;simp;omega) z
   ·rw [if_pos ⟨g4,g5⟩] at z
    exact G1 (by simp [a1]) (.inr (by rw [e];simp;omega)) z
  ·rw [if_neg (fun q=>g4 q.1)] at z
   rw [if_neg g4]
   have e:es [⟨eS,s,0⟩,⟨fS,s',vl F c'*pw ↥15⟩]=[s]:=by simp [es,a5]
   exact G2 (by simp [a1,a2]) (by simp [a3,a4]) e (by simp;omega) z
 ·rw [if_neg g3] at z ⊢
  by_cases g4:c'=pw ↥0 - pw F
  ·rw [if_pos g4] at z ⊢
   have e:es [⟨fS,s,vl F c*pw ↥15⟩,⟨eS,s',0⟩]=[s']:=by simp [es,a5]
   exact G2 (by simp [a1,a2]) (by simp [a3,a4]) e (by simp;omega) z
  ·rw [if_neg g4] at z ⊢
   refine G3 (by simp [a2]) (by simp [a4]) (by simp [es,a5]) ?_ (Fq hs hs') (Jf (ah _) z)
   show (1 - 2*s)*(vl F c*pw ↥15)+((1 - 2*s')*(vl F c'*pw ↥15)+0)=_
   rw [<- Int.mul_assoc,<-Int.mul_assoc,sT hs,sT hs',Int.add_mul,Int.add_zero]
theorem Jc {w:Wy} {E F s c s' c' x y:Int} (h:Sz E F) (c0:0<=c) (d0:0<=c') (z:Ni w E F s c s' c' x y):wG w E F [prO E F s c s' c'] x y:=by
 obtain ⟨a1,a2,a3,a4,a5,a6,a7⟩:=k_ne
 have hh:=ay h
 have hQ:=ah F
 have sg:=nM (s:=s) (s':=s')
 unfold Ni at z
 unfold prO
 by_cases g1:pw ↥0 - pw F<c\/pw ↥0 - pw F<c'
 ·rw [if_pos g1] at z ⊢
  exact G0 (.head _) z
 rw [if_neg g1] at z ⊢
 by_cases g2:c<pw ↥0 - pw F/\c'<pw ↥0 - pw F
 ·rw [if_neg ⋯,if_neg ⋯] at z
  rw [if_pos g2]
  refine G3 (by simp [a2]) (by simp [a4]) (by simp [es,a5]) ?_ ?_ z
  ·show (1 - 2*sx s s')*(vl F c*vl F c')+0=_
   rw [sT sg,Int.add_zero]
  ·show (if 1∈[sx s s']/\(_\/¬ 0∈[sx s s']) then (1:Int) else 0)=sx s s'
   rcases (by omega:sx s s'=0\/sx s s'=1) with e | e<;>rw [e]<;>simp
 ·rw [if_neg g2]
  by_cases g3:c=0\/c'=0
  ·rw [if_pos ⋯] at z
   rw [if_pos g3]
   exact G1 (by simp [a6]) (.inl (.head _)) z
  ·rw [if_neg ⋯,if_pos ⋯] at z
   rw [if_neg g3]
   exact G2 (by simp [a1]) (by simp [a3]) (show es [⟨eS,sx s s',0⟩]=[sx s s'] by simp [es]) (by simp;omega) z
theorem Jd {w:Wy} {E F s c s' c' t d x y:Int} (h:Sz E F) (ht:0<=t/\t<=1) (c0:0<=c) (d0:0<=c') (z:Nj w E F s c s' c' t d x y):wG w E F [prO E F s c s' c',tmO E F t d] x y:=by
 obtain ⟨a1,a2,a3,a4,a5,a6,a7⟩:=k_ne
 have hh:=ay h
 have hQ:=ah F
 have sg:=nM (s:=s) (s':=s')
 unfold Nj at z
 unfold prO tmO
 by_cases g1:pw ↥0 - pw F<c\/pw ↥0 - pw F<c'
 ·rw [if_pos ⋯] at z
  rw [if_pos g1]
  exact G0 (.head _) z
 rw [if_neg g1]
 by_cases g2:pw ↥0 - pw F<d
 ·rw [if_pos ⋯] at z
  rw [if_pos g2]
  exact G0 (.tail _ (.head _)) z
 rw [if_neg ⋯] at z
 rw [if_neg g2]
 generalize sx s s'=g at *
 by_cases g3:c<pw ↥0 - pw F/\c'<pw ↥0 - pw F
 ·rw [if_neg ⋯,if_neg ⋯] at z
  rw [if_pos g3]
  by_cases g4:d=pw ↥0 - pw F
  ·rw [if_pos g4] at z ⊢
   exact G2 (by simp [a1,a2]) (by simp [a3,a4]) (show es [⟨fS,g,vl F c*vl F c'⟩,⟨eS,t,0⟩]=[t] by simp [es,a5]) (by simp;omega) z
  ·rw [if_neg g4] at z ⊢
   refine G3 (by simp [a2]) (by simp [a4]) (by simp [es,a5]) ?_ (Fq sg ht) z
   show (1 - 2*g)*(vl F c*vl F c')+((1 - 2*t)*(vl F d*pw ↥15)+0)=_
   rw [sT sg,<-Int.mul_assoc (1 - 2*t),sT ht,Int.add_zero]
 ·rw [if_neg g3]
  by_cases g5:c=0\/c'=0
  ·rw [if_pos ⋯] at z
   rw [if_pos g5]
   have n:¬ nS∈List.map (·.kd) [(⟨wS,0,0⟩:Tt),if d=pw ↥0 - pw F then ⟨eS,t,0⟩ else ⟨fS,t,vl F d*pw ↥15⟩]:=by
    by_cases q:d=pw ↥0 - pw F
    ·rw [if_pos q];simp [a6,a1]
    ·rw [if_neg q];simp [a6,a2]
   exact G1 n (.inl (.head _)) z
  ·rw [if_neg ⋯,if_pos ⋯] at z
   rw [if_neg g5]
   by_cases g4:d=pw ↥0 - pw F
   ·rw [if_pos g4]
    have e:es [⟨eS,g,0⟩,⟨eS,t,0⟩]=[g,t]:=by simp [es]
    by_cases g6:g=t
    ·rw [if_neg (fun q=>q.2 g6)] at z
     exact G2 (by simp [a1]) (by simp [a3]) e (by subst g6;simp;omega) z
    ·rw [if_pos ⟨g4,g6⟩] at z
     exact G1 (by simp [a1]) (.inr (by rw [e];simp;omega)) z
   ·rw [if_neg (fun q=>g4 q.1)] at z
    rw [if_neg g4]
    exact G2 (by simp [a1,a2]) (by simp [a3,a4]) (show es [⟨eS,g,0⟩,⟨fS,t,vl F d*pw ↥15⟩]=[g] by simp [es,a5]) (by simp;omega) z
theorem fK {E F g K:Int} (h:Sz E F) (hg:0<=g/\g<=1) (K0:0<=K) (K1:K<=pw ↥0 - pw F):In E F (g*pw ↥0+K):=(aA h hg K0 (by have:=ah F;omega)).1
theorem vG {E F:Int} (h:Sz E F):In E F (pw ↥0 - pw F+pw (F - 1)):=by
 have e2:=lJ (F:=F) h.2.2.1
 have hq1:=ah (F - 1)
 have hh:=ay h
 have:=(aA (s:=0) (c:=pw ↥0 - pw F+pw (F - 1)) h ↥1 ⋯ ⋯).1
 rw [Int.zero_mul,Int.zero_add] at this
 exact this
theorem OO:∀ l:List Tt,(∀ t∈l,0<=t.sg/\t.sg<=1)->0<(es l).length->0<=(es l).getD 0 0/\(es l).getD 0 0<=1:=by
 intro l
 induction l with
 | nil=>intro _ q;cases q
 | cons t r ih =>
  intro hs q
  have u:es (t::r)=if t.kd=eS then t.sg::es r else es r:=rfl
  rw [u] at q ⊢
  by_cases g:t.kd=eS
  ·rw [if_pos g];exact hs t (.head _)
  ·rw [if_neg g] at q ⊢;exact ih (fun x m=>hs x (.tail _ m)) q
theorem xy {w:Wy} {E F x y:Int} {ts:List Tt} (h:Sz E F) (hs:∀ t∈ts,0<=t.sg/\t.sg<=1) (z:wG w E F ts x y):In E F x:=by
 have hh:=ay h
 have hQ:=ah F
 unfold wG at z
 split at z
 ·rw [z.1];exact vG h
 ·split at z
  ·rw [z.1];exact vG h
  ·split at z
   ·rename_i q
    rw [z.1]
    exact fK h (OO ts hs q) ⋯ ⋯
   ·by_cases X0:exS ts=0
    ·rw [(z.1 X0).1]
     have:=fK (g:=if 1∈ts.map (·.sg)/\(w.s=PySem.Str.ofString "down"\/¬ 0∈ts.map (·.sg)) then 1 else 0) (K:=0) h (by split<;>decide) ↥1 ⋯
     rw [Int.add_zero] at this
     exact this
    ·obtain ⟨k,r,o1,_,a⟩:=z.2 X0
     rw [o1]
     have i:=Ag (w:=w) (s:=if exS ts<0 then 1 else 0) (r:=r) h a.1
     exact fK h (by split<;>decide) i.1 i.2
theorem MO {E F s s' c c':Int} (w:Wy) (h:Sz E F) (hs:0<=s/\s<=1) (hs':0<=s'/\s'<=1) (c0:0<=c) (c1:c<pw ↥0) (d0:0<=c') (d1:c'<pw ↥0) :
  ∃ x y,fI [.tup [.int E,.int F],.str w.s,.int ↥13,.int ↥37]=.ok (.tup [.int x,.int y])/\In E F x:=by
 have hh:=ay h
 have hQ:=ah F
 have sg:=nM (s:=s) (s':=s')
 obtain ⟨x,y,e,z⟩:=qd w h hs hs' c0 c1 d0 d1
 refine ⟨x,y,e,?_⟩
 split at z
 ·rw [z.1];exact vG h
 split at z
 ·rw [z.1];exact vG h
 split at z
 ·rw [z.1];exact fK h sg ⋯ ⋯
 split at z
 ·rw [z.1];exact fK h sg ⋯ ⋯
 split at z
 ·rw [z.1]
  have:=fK (K:=0) h sg ↥1 ⋯
  rw [Int.add_zero] at this
  exact this
 ·obtain ⟨k,r,o1,_,a⟩:=z
  rw [o1]
  have i:=Ag (w:=w) (s:=sx s s') (r:=r) h a.1
  exact fK h sg i.1 i.2
theorem N1 {E F s c:Int} (w:Wy) (h:Sz E F) (hs:0<=s/\s<=1) (c0:0<=c) (c1:c<pw ↥0):∃ x y,cq [.tup [.int E,.int F],.str w.s,.int ↥13]=.ok (.tup [.int x,.int y])/\In E F x:=by
 have hh:=ay h
 have hQ:=ah F
 by_cases g1:pw ↥0 - pw F<c
 ·exact ⟨_,_,nW w h hs g1 c1,vG h⟩
 by_cases g2:c=0\/(s=0/\c=pw ↥0 - pw F)
 ·exact ⟨_,_,jS w h hs g2,fK h hs c0 ⋯⟩
 rcases (by omega:s=0\/s=1) with e | e<;>subst e
 ·obtain ⟨d,r,er,ra⟩:=tm w h (show 0<c by omega) (show c<pw ↥0 - pw F by omega)
  have i:=Ag (w:=w) (s:=0) (r:=r) h ra.1
  exact ⟨_,_,er,fK h ↥1 i.1 i.2⟩
 ·exact ⟨_,_,pV w h (show 0<c by omega) ⋯,vG h⟩
theorem Np {E F s c:Int} (w:Wy) (h:Sz E F) (hs:0<=s/\s<=1) (c0:0<=c) (c1:c<pw ↥0):∃ x y,di [.tup [.int E,.int F],.str w.s,.int ↥13]=.ok (.tup [.int x,.int y])/\In E F x:=by
 have hh:=ay h
 have hQ:=ah F
 by_cases g1:pw ↥0 - pw F<c
 ·exact ⟨_,_,nJ w h hs g1 c1,vG h⟩
 by_cases g2:c=pw ↥0 - pw F\/c=0
 ·exact ⟨_,_,nH w h hs g2,fK h hs c0 ⋯⟩
 obtain ⟨d,ew,d0,d2,_⟩:=pS w h hs (show 0<c by omega) (show c<pw ↥0 - pw F by omega)
 exact ⟨_,_,ew,fK h hs d0 d2⟩
theorem Jv {E F k a b c:Int} (w:Wy) (h:Sz E F) (hk:0<=k/\k<7) (ha:In E F a) (hb:In E F b) (hc:In E F c):∃ x y,fz [.tup [.int E,.int F],.str w.s,.int k,.int a,.int b,.int c]=.ok (.tup [.bl true,.tup [.int x,.int y]])/\In E F x:=by
 obtain ⟨k1,k2,k3,k4⟩:=id h
 have s1:=dH (k:=E+F) ⋯ ⋯
 obtain ⟨s,u,hs,u0,u1,rfl⟩:=gZ h ha
 obtain ⟨s',v,hs',v0,v1,rfl⟩:=gZ h hb
 obtain ⟨t,p,ht,p0,p1,rfl⟩:=gZ h hc
 obtain ⟨ta,ga⟩:=yr h hs u0 u1
 obtain ⟨tb,gb⟩:=yr h hs' v0 v1
 obtain ⟨tc,gc⟩:=yr h ht p0 p1
 obtain ⟨pa,gp⟩:=N8 h hs hs' u0 u1 v0 v1
 have ht':0<=1 - s'/\1 - s'<=1:=⋯
 obtain ⟨tn,gn⟩:=yr h ht' v0 v1
 have one:∀ {a b:Tt},((0<=a.sg/\a.sg<=1)/\0<=a.v/\nb a.v<=80000)->((0<=b.sg/\b.sg<=1)/\0<=b.v/\nb b.v<=80000)->∀ t∈[a,b],(0<=t.sg/\t.sg<=1)/\0<=t.v/\nb t.v<=80000:=fun {a b} ha hb t m=>by
  rcases List.mem_cons.mp m with q | m
  ·rw [q];exact ha
  ·rw [List.mem_singleton.mp m];exact hb
 have vt:∀ t:Tt,∃ a b c,t.d=.tup [.str a,.int b,.int c]:=fun t=>⟨_,_,_,rfl⟩
 unfold fz jz
 rcases (by omega:k=0\/k=1\/k=2\/k=3\/k=4\/k=5\/k=6) with e | e | e | e | e | e | e<;>subst e
 ·obtain ⟨x,y,ed,o⟩:=xP w h hs hs' u0 u1 v0 v1
  have gg:=Bz hs hs' o
  have sm:=mL (ts:=[tmO E F s u,tmO E F s' v]) w h (Nat.le_refl 2) (one ga gb) gg
  have ii:=xy h (fun t m=>(one ga gb t m).1) gg
  rw [List.map_cons,List.map_cons,List.map_nil] at sm
  obtain ⟨m1,m2,m3,e1⟩:=vt (tmO E F s u)
  obtain ⟨n1,n2,n3,e2⟩:=vt (tmO E F s' v)
  rw [e1] at ta sm
  rw [e2] at tb sm
  exact ⟨x,y,by simp_arith [ed,ta,tb,sm],ii⟩
 ·obtain ⟨x,y,ed,o⟩:=xP w h hs ht' u0 u1 v0 v1
  rw [Fg] at ed
  have ed':=De (a:=s*pw ↥0+u) w h hs' v0 v1
  rw [ed] at ed'
  have gg:=Bz hs ht' o
  have sm:=mL (ts:=[tmO E F s u,tmO E F (1 - s') v]) w h (Nat.le_refl 2) (one ga gn) gg
  have ii:=xy h (fun t m=>(one ga gn t m).1) gg
  rw [List.map_cons,List.map_cons,List.map_nil] at sm
  obtain ⟨m1,m2,m3,e1⟩:=vt (tmO E F s u)
  obtain ⟨n1,n2,n3,e2⟩:=vt (tmO E F (1 - s') v)
  rw [e1] at ta sm
  rw [e2] at tn sm
  have xt:=Gv (n:=E+F) ⋯ hs' v0 v1
  exact ⟨x,y,by simp_arith [ed',s1,xt,ta,tn,sm],ii⟩
 ·obtain ⟨x,y,ed,o⟩:=rB w h hs hs' u0 u1 v0 v1
  have gg:=Jc h u0 v0 o
  have al:∀ t∈[prO E F s u s' v],(0<=t.sg/\t.sg<=1)/\0<=t.v/\nb t.v<=80000:=fun t m=>by rw [List.mem_singleton.mp m];exact gp
  have sm:=mL (ts:=[prO E F s u s' v]) w h (Nat.le_succ 1) al gg
  have ii:=xy h (fun t m=>(al t m).1) gg
  rw [List.map_cons,List.map_nil] at sm
  obtain ⟨m1,m2,m3,e1⟩:=vt (prO E F s u s' v)
  rw [e1] at pa sm
  exact ⟨x,y,by simp_arith [ed,pa,sm],ii⟩
 ·obtain ⟨x,y,ed,ii⟩:=MO w h hs hs' u0 u1 v0 v1
  obtain ⟨X,ed',go⟩:=AA w h hs hs' u0 u1 v0 v1
  rw [ed] at ed'
  cases ed'
  exact ⟨x,y,by simp_arith [ed,go],ii⟩
 ·obtain ⟨x,y,ed,o⟩:=Eu w h hs hs' ht u0 u1 v0 v1 p0 p1
  have gg:=Jd h ht u0 v0 o
  have sm:=mL (ts:=[prO E F s u s' v,tmO E F t p]) w h (Nat.le_refl 2) (one gp gc) gg
  have ii:=xy h (fun t m=>(one gp gc t m).1) gg
  rw [List.map_cons,List.map_cons,List.map_nil] at sm
  obtain ⟨m1,m2,m3,e1⟩:=vt (prO E F s u s' v)
  obtain ⟨n1,n2,n3,e2⟩:=vt (tmO E F t p)
  rw [e1] at pa sm
  rw [e2] at tc sm
  exact ⟨x,y,by simp_arith [ed,pa,tc,sm],ii⟩
 ·obtain ⟨x,y,ed,ii⟩:=N1 w h hs u0 u1
  obtain ⟨X,ed',go⟩:=Az w h ha
  rw [ed] at ed'
  cases ed'
  exact ⟨x,y,by simp_arith [ed,go],ii⟩
 ·obtain ⟨x,y,ed,ii⟩:=Np w h hs u0 u1
  obtain ⟨X,ed',go⟩:=Jg w h ha
  rw [ed] at ed'
  cases ed'
  exact ⟨x,y,by simp_arith [ed,go],ii⟩
theorem yH {E F a k c:Int} {bs:List Int} (h:Sz E F) (ha:In E F a) (hc:nb c<=2^20) (hl:bs.length<=1000) (hp:0<bs.length) (hb:∀ b∈bs,In E F b):∃ x,cv [.tup [.int E,.int F],.lst (bs.map .int),.int a,.int k,.int c]=.ok (.int x)/\In E F x:=by
 obtain ⟨k1,k2,k3,k4⟩:=id h
 have c3:nb (c / 3)<=2^20:=gO ↥1 hc
 unfold cv fk
 by_cases g1:c%3=0
 ·have q0:=Int.emod_nonneg (c / 3) (show (bs.length:Int)≠0 by omega)
  have q1:=Int.emod_lt_of_pos (c / 3) (show (0:Int)<bs.length by omega)
  have ix:=ro (bs:=bs) q0 q1
  have mm:bs.getD (c / 3%(bs.length:Int)).toNat 0∈bs:=by
   rw [List.getD_eq_getElem?_getD,List.getElem?_eq_getElem (show (c / 3%(bs.length:Int)).toNat<bs.length by omega)]
   exact List.getElem_mem _
  exact ⟨_,by simp_arith [eq_true g1,List.length_map,show (0:Int)<bs.length by omega,ix],hb _ mm⟩
 by_cases g2:k<2
 ·have q0:0<=c / 3%2/\c / 3%2<=1:=⋯
  have sh:=av (i:=c / 3%2) (j:=E+F) ⋯ (by have:nb (c / 3%2)<=1:=bP q0.1 ⋯;omega)
  have e2:pw (E+F+1)=2*pw ↥0:=gz ⋯
  have hH:=ah ↥0
  have hh:=ay h
  have hQ:=jH k3
  have m0:=Int.mul_nonneg q0.1 (Int.le_of_lt hH)
  have m1:=Int.mul_le_mul_of_nonneg_right q0.2 (Int.le_of_lt hH)
  obtain ⟨x,ex,x0,x1⟩:=zE (n:=E+F+1) ha.1 ha.2 m0 (show c / 3%2*pw ↥0<pw (E+F+1) by omega)
  obtain ⟨y,ey,y0,y1⟩:=zE (n:=E+F+1) x0 x1 (show 0<=c / 3 / 2%8 by omega) (show c / 3 / 2%8<pw (E+F+1) by omega)
  exact ⟨y,by simp_arith [g1,g2,sh,ex,ey],y0,y1⟩
 ·obtain ⟨x,ex,ix⟩:=yP (t:=decide (k=3)) h ha c3
  exact ⟨x,by simp_arith [g1,g2,ex],ix⟩
theorem IQ {l:List Int} {b:Int}:oIx (.lst ((l++[b]).map D.int)) (.int (-1))=.ok (.int b):=by
 have e0:ixN ((l++[b]).map D.int).length (-1)=some l.length:=by
  unfold ixN
  rw [List.length_map,List.length_append,if_neg ↥1,if_pos (by show -((l.length+1:Nat):Int) <= -1;omega)]
  congr 1
  show (-1+((l.length+1:Nat):Int)).toNat=_
  rw [show (-1+((l.length+1:Nat):Int))=(l.length:Int) by omega]
  rfl
 unfold oIx
 simp only [e0]
 rw [Option.bind_some,List.getElem?_map,List.getElem?_append_right ↥38,Nat.sub_self]
 rfl
theorem Ej:Good DG:=by
 intro ns hl hb
 have h:=NV (ns.getD 0 0)
 have c0:=BR (ns:=ns) (j:=0) ↥1
 have c1:=BR (ns:=ns) (j:=1) ↥1
 have q0:ns.getD (0:Int).toNat 0=ns.getD 0 0:=rfl
 have q1:ns.getD (1:Int).toNat 0=ns.getD 1 0:=rfl
 rw [q0] at c0
 rw [q1] at c1
 have so:=Hn (c:=ns.getD 0 0)
 obtain ⟨b0,eb0,ib0⟩:=oP h (Jb hb 1)
 generalize szE (ns.getD 0 0)=E at *
 generalize szF (ns.getD 0 0)=F at *
 generalize ns.getD 1 0=x1 at *
 generalize ns.getD 0 0=x0 at *
 generalize hcs:EV.cut ns (some 2) none=cs
 have lcs:cs.length<=63:=by
  have:=Jz ns (some 2) none
  rw [hcs] at this
  omega
 have ecs:EV.cut (ns.map D.int) (some 2) none=cs.map D.int:=by rw [<- hcs];exact Jy _ _ _ _
 have bcs:∀ c∈cs,nb c<=2^20:=fun c m=>hb c (by rw [<- hcs] at m;exact Jx m)
 have fli:∀ i:Int,D.flat (.int i)=true:=fun _=>rfl
 have fs6:∀ (δ:Dt) (v:PySem.Str),MX 6 δ (.ok (.str v))=.nx (δ.set 6 (some (.str v))):=fun _ _=>rfl
 have as2:∀ (δ:Dt) (d d':D),O3 10 11 δ (.ok (.tup [d,d']))=.nx ((δ.set 10 (some d)).set 11 (some d')):=fun _ _ _=>rfl
 unfold DG Et
 generalize hbody:seq (assign 4 _) _=body
 have loop:∀ (l:List Int),(∀ c∈l,nb c<=2^20)->∀ (bs:List Int) (z3 z4 z5 z6 z7 z8 z9 z10 z11:Option D),((z6=none/\z7=none/\z8=none/\z9=none/\z10=none/\z11=none)\/∃ (w:PySem.Str) (a b c:Int) (g:Bool) (x y:Int),z6=some (.str w)/\z7=some (.int a)/\z8=some (.int b)/\z9=some (.int c)/\z10=some (.bl g)/\z11=some (.tup [.int x,.int y]))->(∀ b∈bs,In E F b)->0<bs.length->bs.length+l.length<=64->∃ δ',forL 3 body (l.map D.int) [some (.lst (ns.map .int)),some (.tup [.int E,.int F]),some (.own (bs.map .int)),z3,z4,z5,z6,z7,z8,z9,z10,z11]=.nx δ':=fun l=>by
  induction l with
  | nil=>exact fun _ bs _ _ _ _ _ _ _ _ _ _ _ _ _=>⟨_,rfl⟩
  | cons c l ih =>
   intro hc bs z3 z4 z5 z6 z7 z8 z9 z10 z11 hz hbs hp hl
   rw [List.length_cons] at hl
   have n8:nb (c / 8)<=2^20:=gO ↥1 (hc c (.head _))
   have ih':=ih fun c m=>hc c (.tail _ m)
   have app:∀ x,In E F x->(∀ b∈bs++[x],In E F b)/\0<(bs++[x]).length/\(bs++[x]).length+l.length<=64/\(bs++[x]).map D.int=bs.map D.int++[.int x]:=fun x hx=>⟨fun b m=>by
    rcases List.mem_append.mp m with m | m
    ·exact hbs b m
    ·rw [List.mem_singleton.mp m];exact hx,by rw [List.length_append];exact Nat.succ_pos _,by rw [List.length_append];show bs.length+1+l.length<=64;omega,by rw [List.map_append];rfl⟩
   have ln:(bs.map D.int).length=bs.length:=List.length_map ..
   have lt:(bs.map D.int).length<100000:=⋯
   rw [List.map_cons,kM]
   have k8:0<=c%8/\c%8<=7:=⋯
   by_cases g7:c%8=7
   ·obtain ⟨b,eb,ib⟩:=oP h n8
    obtain ⟨a1,a2,a3,a4⟩:=app b ib
    obtain ⟨δ',e⟩:=ih' (bs++[b]) (some (.int c)) (some (.int (c%8))) (some (.int (c / 8))) z6 z7 z8 z9 z10 z11 hz a1 a2 a3
    rw [a4] at e
    refine ⟨δ',?_⟩
    rw [<- e]
    generalize bs.map D.int=Q at *
    generalize forL 3 body=G at *
    subst hbody
    rcases hz with ⟨rfl,rfl,rfl,rfl,rfl,rfl⟩ | ⟨w,a,b',c',g,x,y,rfl,rfl,rfl,rfl,rfl,rfl⟩<;>simp_arith [eq_true g7,eb,sI (fli _) lt]
   ·obtain ⟨w,ew⟩:=zR (c / 8+bs.length)
    obtain ⟨bs0,t,et⟩:∃ bs0 t,bs=bs0++[t]:=by
     rcases List.eq_nil_or_concat bs with q | ⟨a,b,q⟩
     ·rw [q] at hp;exact absurd hp ↥1
     ·exact ⟨a,b,by rw [q,List.concat_eq_append]⟩
    have il:oIx (.lst (bs.map D.int)) (.int (-1))=.ok (.int t):=by rw [et];exact IQ
    have it:In E F t:=hbs t (by rw [et];simp)
    have q0:=Int.emod_nonneg (c / 8 / 15) (show (bs.length:Int)≠0 by omega)
    have q1:=Int.emod_lt_of_pos (c / 8 / 15) (show (0:Int)<bs.length by omega)
    have ix:=ro (bs:=bs) q0 q1
    have iu:In E F (bs.getD (c / 8 / 15%(bs.length:Int)).toNat 0):=hbs _ (by
     rw [List.getD_eq_getElem?_getD,List.getElem?_eq_getElem (show (c / 8 / 15%(bs.length:Int)).toNat<bs.length by omega)]
     exact List.getElem_mem _)
    have m1:=ak (MulOk.of (i:=c / 8) (j:=48271) (a:=2^20) (b:=16) n8 ↥1 ↥1)
    have m2:=ak (MulOk.of (i:=c / 8) (j:=69621) (a:=2^20) (b:=17) n8 ↥1 ↥1)
    have small:∀ i m:Int,0<m->m<=4294967296->nb (i%m)<=2^20:=fun i m h1 h2=>Nat.le_trans (bP (k:=32) (Int.emod_nonneg _ ⋯) (by have:=Int.emod_lt_of_pos i h1;show i%m<(2:Int)^32;omega)) ↥1
    have fin:∀ a,In E F a->∃ (b d x y:Int),cv [.tup [.int E,.int F],.lst (bs.map .int),.int a,.int (c%8),.int (c / 8*48271%2147483647)]=.ok (.int b)/\bS [.tup [.int E,.int F],.int a,.int b,.int (c / 8*69621%2147483629)]=.ok (.int d)/\fz [.tup [.int E,.int F],.str w.s,.int (c%8),.int a,.int b,.int d]=.ok (.tup [.bl true,.tup [.int x,.int y]])/\In E F x:=fun a ia=>by
     obtain ⟨b,eb,ib⟩:=yH (k:=c%8) h ia (small (c / 8*48271) 2147483647 ↥1 ↥1) (show bs.length<=1000 by omega) hp hbs
     obtain ⟨d,ed,id⟩:=uZ h ia ib (small (c / 8*69621) 2147483629 ↥1 ↥1)
     obtain ⟨x,y,ex,ix⟩:=Jv (k:=c%8) w h ⋯ ia ib id
     exact ⟨b,d,x,y,eb,ed,ex,ix⟩
    have p0:(0:Int)<bs.length:=⋯
    by_cases g3:c / 8 / 5%3=0
    ·obtain ⟨b,d,x,y,eb,ed,ex,ii⟩:=fin _ iu
     obtain ⟨a1,a2,a3,a4⟩:=app x ii
     obtain ⟨δ',e⟩:=ih' (bs++[x]) (some (.int c)) (some (.int (c%8))) (some (.int (c / 8))) (some (.str w.s)) (some (.int (bs.getD (c / 8 / 15%(bs.length:Int)).toNat 0))) (some (.int b)) (some (.int d)) (some ↥26) (some (.tup [.int x,.int y])) (.inr ⟨_,_,_,_,_,_,_,rfl,rfl,rfl,rfl,rfl,rfl⟩) a1 a2 a3
     rw [a4] at e
     refine ⟨δ',?_⟩
     rw [<- e]
     generalize bs.getD (c / 8 / 15%(bs.length:Int)).toNat 0=A at *
     generalize bs.map D.int=Q at *
     generalize forL 3 body=G at *
     subst hbody
     rcases hz with ⟨rfl,rfl,rfl,rfl,rfl,rfl⟩ | ⟨w',a,b',c',g,x',y',rfl,rfl,rfl,rfl,rfl,rfl⟩<;>simp_arith [g7,ln,ew,fs6,il,eq_true g3,p0,ix,m1,eb,m2,ed,sP,ex,as2,sI (fli _) lt]
    ·obtain ⟨b,d,x,y,eb,ed,ex,ii⟩:=fin t it
     obtain ⟨a1,a2,a3,a4⟩:=app x ii
     obtain ⟨δ',e⟩:=ih' (bs++[x]) (some (.int c)) (some (.int (c%8))) (some (.int (c / 8))) (some (.str w.s)) (some (.int t)) (some (.int b)) (some (.int d)) (some ↥26) (some (.tup [.int x,.int y])) (.inr ⟨_,_,_,_,_,_,_,rfl,rfl,rfl,rfl,rfl,rfl⟩) a1 a2 a3
     rw [a4] at e
     refine ⟨δ',?_⟩
     rw [<- e]
     generalize bs.map D.int=Q at *
     generalize forL 3 body=G at *
     subst hbody
     rcases hz with ⟨rfl,rfl,rfl,rfl,rfl,rfl⟩ | ⟨w',a,b',c',g,x',y',rfl,rfl,rfl,rfl,rfl,rfl⟩<;>simp_arith [g7,ln,ew,fs6,il,g3,m1,eb,m2,ed,sP,ex,as2,sI (fli _) lt]
 obtain ⟨δ',e⟩:=loop cs bcs [b0] none none none none none none none none none (.inl ⟨rfl,rfl,rfl,rfl,rfl,rfl⟩) (fun b m=>by rw [List.mem_singleton.mp m];exact ib0) (show 0<1 by decide) (by show 1+cs.length<=64;omega)
 have fr:dC [.int b0]=.ok (.lst [.int b0]):=rfl
 have e':forL 3 body (cs.map D.int) [some (.lst (ns.map .int)),some (.tup [.int E,.int F]),some (.own [.int b0]),none,none,none,none,none,none,none,none,none]=.nx δ':=e
 simp_arith [c0,so,c1,eb0,Ku,fr,ecs,List.length_map,show cs.length<=100000 by omega,e']
end T
open PySem PySem.W PyProof.Rows
set_option maxHeartbeats 0 in
theorem PySem.Challenge.cw_roundmill_k34_whole_deeds_holds : PySem.Challenge.rw_roundmill_k34_whole_deeds.Holds := by
 w_on;o_law
 refine holds_open (q:=H.q) (loose:=[]) (Xt:=H.Xt) (XP:=XL H.q []) (Yf:=(kHook H.K H.as H.he).obs) (Ya:=(kHook H.K H.as H.he).val) (YP:=(kHook H.K H.as H.he).says) (N:=8286) H.left (kHook H.K H.as H.he).of (kHook H.K H.as H.he).keeps (fun s e=>xl_of s (Bool.and_eq_true_iff.mp e).1) XL.keeps (by rfl) (by rfl) (by rfl) (fun s e=>recFacts_of (Bool.and_eq_true_iff.mp e).2) (by rfl) (by first | assumption | decide +kernel) (by decide +kernel) ⟨rfl,rfl,rfl,rfl,rfl,by decide +kernel⟩ ?hw ?hc
 (case hw=>w_witness2)
 k_fill
 refine ES.CN (l:=PySem.Challenge.rw_roundmill_k34_whole_deeds) (k:=11) (x:="_law_script") (f:=T.DG) T.Ej rfl rfl ⟨rfl,by decide,by decide⟩ (fun w h Y=>PySem.W.kIn_of Y) ?F
 case F =>
  intro w mg fa h KX GG hmg
  refine' T.all_mk KX GG hmg ?n_Way ?pg_Way ?hd_Way ?po_Way ?sa_Way ?na_Way ?aIWay ?uIWay ?mm_Way ?kc_Way ?lIWay ?eIWay ?kIWay ?q1 ?q2 ?q3 ?q4 ?q5 ?q6 ?q7 ?q8 ?q9 ?q10 ?q11 ?q12 ?q13 ?q14 ?q15 ?q16 ?q17 ?q18 ?q19 ?q20 ?q21 ?q22 ?q23 ?q24 ?a25 ?u25 ?l25 ?e25 ?k25 ?a26 ?u26 ?l26 ?e26 ?k26 ?q27 ?q28 ?q29 ?q30 ?q31 ?q32 ?q33 ?q34 ?a35 ?u35 ?l35 ?e35 ?k35 ?q36 ?q37 ?q38 ?q39 ?q40 ?q41 ?q42 ?q43 ?q44 ?q45 ?q46 ?q47 ?q48 ?q49 ?q50 ?q51 ?q52 ?q53 ?q54 ?q55 ?q56 ?q57 ?q58 ?q59 ?q60 ?q61 ?q62 ?q63 ?q64 ?q65 ?q66 ?q67 ?q68 ?q69 ?q70 ?q71 ?q72 ?q73 ?q74 ?q75 ?a76 ?l76 ?e76 ?k76 ?z_len ?z_min ?z_max ?z_abs ?z_list ?z_any ?z_int ?z_isinstance ?z_bool ?z_tuple ?z_sum ?y_NAMES ?yl_NAMES ?y_INEXACT ?y_GREAT ?y_SMALL ?y_WRONG ?y_POLE ?n_MillError ?n_NoBits ?n_NoParts ?n_NotFinite ?n_NoWay ?n_NoFraction ?xi_NoWay ?xi_NoBits ?xi_NotFinite ?xi_NoFraction ?xi_NoParts ?v_MillError ?w_NoSize ?v_NoBits ?v_NoParts ?w_NoRank ?v_NotFinite ?v_NoWay ?w_NoFlags ?v_NoFraction ?w_Unlike ?w_Empty ?w_NoLeft ?w_NoText ?w_NoRow ?w_NoName ?w_Stopped ?i_int_NoneType ?i_int_bool ?i_int_int ?i_int_str ?i_int_tuple ?i_int_list ?i_bool_NoneType ?i_bool_bool ?i_bool_int ?i_bool_str ?i_bool_tuple ?i_bool_list ?i_tuple_NoneType ?i_tuple_bool ?i_tuple_int ?i_tuple_str ?i_tuple_tuple ?i_tuple_list
  (case n_Way | pg_Way | hd_Way | po_Way | sa_Way | na_Way | aIWay | uIWay | mm_Way | kc_Way | lIWay | eIWay | kIWay=>k_is)
  (case q1 | q2 | q3 | q4 | q5 | q6 | q7 | q8 | q9 | q10 | q11 | q12 | q13 | q14 | q15 | q16 | q17 | q18 | q19 | q20 | q21 | q22 | q23 | q24=>exact ES.Jw (by k_is) (by k_is) (by k_is) (by k_is))
  (case a25 | u25 | l25 | e25 | k25 | a26 | u26 | l26 | e26 | k26=>k_is)
  (case q27 | q28 | q29 | q30 | q31 | q32 | q33 | q34=>exact ES.Jw (by k_is) (by k_is) (by k_is) (by k_is))
  (case a35 | u35 | l35 | e35 | k35=>k_is)
  (case q36 | q37 | q38 | q39 | q40 | q41 | q42 | q43 | q44 | q45 | q46 | q47 | q48 | q49 | q50 | q51 | q52 | q53 | q54 | q55 | q56 | q57 | q58 | q59 | q60 | q61 | q62 | q63 | q64 | q65 | q66 | q67 | q68 | q69 | q70 | q71 | q72 | q73 | q74 | q75=>exact ES.Jw (by k_is) (by k_is) (by k_is) (by k_is))
  (case a76 | l76 | e76 | k76 | z_len | z_min | z_max | z_abs | z_list | z_any | z_int | z_isinstance | z_bool | z_tuple | z_sum | y_NAMES | yl_NAMES | y_INEXACT | y_GREAT | y_SMALL | y_WRONG | y_POLE | n_MillError | n_NoBits | n_NoParts | n_NotFinite | n_NoWay | n_NoFraction=>k_is)
  (case xi_NoWay | xi_NoBits | xi_NotFinite | xi_NoFraction | xi_NoParts=>k_exc)
  (case v_MillError=>exact ⟨by k_is,by k_is,by k_is,by k_is,by k_is,⟨_,by k_is⟩⟩)
  (case w_NoSize=>k_is)
  (case v_NoBits | v_NoParts=>exact ⟨by k_is,by k_is,by k_is,by k_is,by k_is,⟨_,by k_is⟩⟩)
  (case w_NoRank=>k_is)
  (case v_NotFinite | v_NoWay=>exact ⟨by k_is,by k_is,by k_is,by k_is,by k_is,⟨_,by k_is⟩⟩)
  (case w_NoFlags=>k_is)
  (case v_NoFraction=>exact ⟨by k_is,by k_is,by k_is,by k_is,by k_is,⟨_,by k_is⟩⟩)
  (case w_Unlike | w_Empty | w_NoLeft | w_NoText | w_NoRow | w_NoName | w_Stopped=>k_is)
  (case i_int_NoneType | i_int_bool | i_int_int | i_int_str | i_int_tuple | i_int_list | i_bool_NoneType | i_bool_bool | i_bool_int | i_bool_str | i_bool_tuple | i_bool_list | i_tuple_NoneType | i_tuple_bool | i_tuple_int | i_tuple_str | i_tuple_tuple | i_tuple_list=>kit_is)
#print axioms PySem.Challenge.cw_roundmill_k34_whole_deeds_holds
