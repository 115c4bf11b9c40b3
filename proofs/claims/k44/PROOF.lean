import PyProof.Rows.All
import Wide.All
import OpenK.AllK
import Wide.FinOn
import Lean
import PyProof.EqAt
import PyProof.EqKinds
import PyProof.TupleCall
import PySem.Challenge.RW_roundmill_k44_quotient_and_root_left
set_option Elab.async false
set_option linter.all false
set_option genSizeOf false
set_option maxRecDepth 100000
local macro_rules (kind:=Lean.Parser.Command.declaration)
 | s=>if (s[1].isOfKind ``Lean.Parser.Command.definition||s[1].isOfKind ``Lean.Parser.Command.abbrev)&&s[0][4].getNumArgs == 0&&s[1][1][0].getId != `bmV then pure (s.setArg 0 (s[0].setArg 4 (Lean.mkNullNode #[Lean.mkNode ``Lean.Parser.Command.noncomputable #[Lean.mkAtom "noncomputable"]]))) else Lean.Macro.throwUnsupported
set_option hygiene false
local macro_rules | `(⋯)=>`(by omega)
local macro_rules | `(⇑$x)=>`(con (.int $x))
local macro_rules | `(↥$n:num)=>match n.getNat with | 0=>`(E+F) | 1=>`(PySem.W.fnOf x qual (eC st) (ai st) (aa st) .none kV doc pm an cdv ct) | 2=>`(Life.mk [] [] [] 0 [] [] false #[] [] 0 false false false 0 [2000,10,10] false 0 true [] [] 0 false) | 3=>`(by decide) | 4=>`(.type "tuple") | 5=>`(s*pw ↥0+c) | 6=>`(model X.prog X.w) | 7=>`(importedModules (Program.main PySem.Challenge.pw_roundmill_k44_quotient_and_root_left).body) | 8=>`(cxU X xs ksn sc C fp s H W) | 9=>`(Shared.mk (hf w.params) ⟨[]⟩ (Drawn.mk 0 0 0 0) 960 os) | 10=>`(bin oIx (var 0) ⇑1) | 11=>`(2*bP E F t n) | 12=>`(Addr×Obj) | 13=>`(cxU X xs ksn sc s3.heap.objs.size fp s3 H3 WW) | 14=>`(cxU X [x] ksn sc C fp s H W) | 15=>`(vS "roundmill.errors" 187) | 16=>`(eH (bin oEq (var 1) (con (.str "down"))) (bin oEq (var 2) ⇑1)) | 17=>`(model prog w) | 18=>`(eH (bin oEq (var 1) (con (.str "up"))) (bin oEq (var 2) ⇑0)) | 19=>`(d4 I q (by simp)) | 20=>`(-(lo E F)) | 21=>`(c / pw F) | 22=>`(eH (bin oNe (var 1) (con (.str "away"))) (lS (var 9))) | 23=>`(mh E F t n) | 24=>`(.bl true) | 25=>`(ax.refl _) | 26=>`(.tup [.int (s*pw ↥0+(c+1)),.int (if c+1=pw ↥0 - pw F then 5 else if c<pw F then 3 else 1)]) | 27=>`(hide H os) | 28=>`(if Y<0 then -Y else Y) | 29=>`(pw ↥0 - pw F) | 30=>`(s'*pw ↥0+c') | 31=>`(.tup [.int (g*pw ↥0+K),.int ((if Y<0 then 1 else 0)*pw ↥0+k)]) | 32=>`(if sx g s'=1 then -(vl F K*vl F c') else vl F K*vl F c') | 33=>`(bin oIx (var 0) ⇑0) | 34=>`(if s=1 then -(vl F c) else vl F c) | 35=>`(.tup [.int E,.int F]) | 36=>`(or_ (bin oEq (var 1) (con (.str "away"))) (var 9)) | 37=>`(P.v 0) | 38=>`(.bl false) | 39=>`((1 - (pm E F (g,K) (s',c')).1,(pm E F (g,K) (s',c')).2.1,(pm E F (g,K) (s',c')).2.2)) | _=>Lean.Macro.throwUnsupported
set_option hygiene true
namespace L2
open PySem PySem.Spec PyProof.Rows
abbrev Key:=Sum Int Str
def Iw:Key->Value->Bool
 | .inl k,v=>Value.isInt k v
 | .inr x,v=>Value.isStrOf x v
def Qv (w:World):Key->Int
 | .inl k=>hashInt k
 | .inr x=>hashStr w x
theorem bz:∀ {k:Key} {v:Value},Iw k v=true->(∃ i t,k=Sum.inl i/\v=Value.int i t)\/(∃ x t,k=Sum.inr x/\v=Value.str x t)
 | .inl i,v,h=>by
  obtain ⟨t,e⟩:=Value.isInt_shape (k:=i) (v:=v) h
  exact .inl ⟨i,t,rfl,e⟩
 | .inr x,v,h=>by
  obtain ⟨t,e⟩:=Value.isStrOf_shape (x:=x) (v:=v) h
  exact .inr ⟨x,t,rfl,e⟩
theorem Iv (a b:Int):decide ((Sum.inl a:Key)=Sum.inl b)=(a == b):=by
 by_cases e:a=b
 ·subst e;simp
 ·have h:¬ (Sum.inl a:Key)=Sum.inl b:=fun q=>e (Sum.inl.inj q)
  rw [decide_eq_false h]
  exact (beq_eq_false_iff_ne.mpr e).symm
theorem Iq (a b:Str):decide ((Sum.inr a:Key)=Sum.inr b)=decide (a=b):=by
 by_cases e:a=b
 ·subst e;simp
 ·have h:¬ (Sum.inr a:Key)=Sum.inr b:=fun q=>e (Sum.inr.inj q)
  rw [decide_eq_false h,decide_eq_false e]
theorem Iu (a:Int) (b:Str):decide ((Sum.inl a:Key)=Sum.inr b)=false:=decide_eq_false (fun q=>nomatch q)
theorem Ir (a:Str) (b:Int):decide ((Sum.inr a:Key)=Sum.inl b)=false:=decide_eq_false (fun q=>nomatch q)
def xn (prog:Program) (w:World):PySem.KeyKind prog w Key where
 is:=Iw
 hash:=Qv w
 inj:=fun v a b ha hb=>by
  rcases bz ha with ⟨i,t,rfl,rfl⟩ | ⟨x,t,rfl,rfl⟩
  ·rcases bz hb with ⟨j,u,rfl,e⟩ | ⟨y,u,rfl,e⟩
   ·injection e with e1 _;rw [e1]
   ·exact nomatch e
  ·rcases bz hb with ⟨j,u,rfl,e⟩ | ⟨y,u,rfl,e⟩
   ·exact nomatch e
   ·injection e with e1 _;rw [e1]
 byValue:=fun k v h=>by
  rcases bz h with ⟨i,t,rfl,rfl⟩ | ⟨x,t,rfl,rfl⟩<;>rfl
 pyHash:=fun hv h=>by
  rcases bz hv with ⟨i,t,rfl,rfl⟩ | ⟨x,t,rfl,rfl⟩
  ·exact wpAny_pyHash_int h
  ·exact wpAny_pyHash_str h
 eqBool:=fun hu hv h=>by
  rcases bz hu with ⟨i,t,rfl,rfl⟩ | ⟨x,t,rfl,rfl⟩
  ·rcases bz hv with ⟨j,u,rfl,rfl⟩ | ⟨y,u,rfl,rfl⟩
   ·rw [Iv] at h;exact wpAny_eqBool_int h
   ·rw [Iu] at h;exact SeqAt.EqAt.int_str i t y u _ _ _ _ h
  ·rcases bz hv with ⟨j,u,rfl,rfl⟩ | ⟨y,u,rfl,rfl⟩
   ·rw [Ir] at h;exact SeqAt.EqAt.str_int x t j u _ _ _ _ h
   ·rw [Iq] at h;exact wpAny_eqBool_str h
 «strs»:=fun k x t v h=>by
  rcases bz h with ⟨i,u,rfl,e⟩ | ⟨y,u,rfl,e⟩
  ·exact nomatch e
  ·injection e with e1 _
   subst e1
   cases v<;>rfl
end L2
namespace L2
open PySem PySem.Spec PyProof.Rows
inductive V where
 | non | bl (b:Bool) | int (i:Int) | str (x:Str) | byt (b:Array UInt8) | flt (b:UInt64) | ref (a:Addr) | ty (n:String)
 deriving DecidableEq
def RelV:V->Value->Prop
 | .non,u=>u=Value.none
 | .bl b,u=>u=Value.bool b
 | .int i,u=>∃ t,u=Value.int i t
 | .str x,u=>∃ t,u=Value.str x t
 | .byt b,u=>∃ t,u=Value.bytes b t
 | .flt b,u=>∃ t,u=Value.float b t
 | .ref a,u=>u=Value.ref a
 | .ty n,u=>u=Value.type n
abbrev Vals:List V->List Value->Prop:=Paired RelV
theorem Vals.length {xs:List V} {us:List Value} (r:Vals xs us):xs.length=us.length:=Paired.length r
theorem Vals.get:∀ {xs:List V} {us:List Value} {i:Nat} {x:V},Vals xs us->xs[i]? = some x->∃ u,us[i]? = some u/\RelV x u
 | _,_,_,_,.nil,e=>by simp at e
 | _,_,0,_,.cons r _,e=>by simp at e;subst e;exact ⟨_,rfl,r⟩
 | _,_,i+1,x,.cons _ t,e=>by
  obtain ⟨u,h1,h2⟩:=Vals.get (i:=i) (x:=x) t (by simpa using e)
  exact ⟨u,by simpa using h1,h2⟩
theorem Vals.append:∀ {xs ys:List V} {us ws:List Value},Vals xs us->Vals ys ws->Vals (xs++ys) (us++ws)
 | _,_,_,_,.nil,s=>s
 | _,_,_,_,.cons r t,s=>.cons r (Vals.append t s)
theorem Vals.take:∀ {xs:List V} {us:List Value} (n:Nat),Vals xs us->Vals (xs.take n) (us.take n)
 | _,_,0,_=>.nil
 | _,_,_+1,.nil=>.nil
 | _,_,n+1,.cons r t=>.cons r (Vals.take n t)
theorem Vals.drop:∀ {xs:List V} {us:List Value} (n:Nat),Vals xs us->Vals (xs.drop n) (us.drop n)
 | _,_,0,r=>r
 | _,_,_+1,.nil=>.nil
 | _,_,n+1,.cons _ t=>Vals.drop n t
def yW:Option V->Option Value->Prop
 | some v,some u=>RelV v u
 | none,none=>True
 | _,_=>False
def KV {κ:Type}:List (κ×V)->List (κ×Value)->Prop:=Paired fun (p:κ×V) (q:κ×Value)=>p.1=q.1/\RelV p.2 q.2
def kV:Key->V
 | .inl i=>.int i
 | .inr x=>.str x
inductive HO where
 /-- a list -/
 | lst (xs:List V)
 /-- a tuple (never changes) -/
 | tup (xs:List V)
 /-- a dict whose keys are ints and texts;one whose keys are tuples of ints and texts (the empty one is both) -/
 | dK (kvs:List (Key×V)) | dT (kvs:List (List Key×V))
 /-- a set of ints: its members,its size -/
 | set (S:Int->Bool) (n:Nat)
 /-- an instance of the class at C,its dict at dx,its attributes -/
 | ins (C dx:Addr) (fs:List (Str×V))
 /-- the dict of the instance at x -/
 | own (x:Addr)
 /-- the dict of an exception -/
 | xd (fs:List (Str×V))
 /-- a bound method,f of x -/
 | met (f x:Addr)
 /-- a range object lo,lo+1,.. below hi -/
 | rng (lo hi:Int)
 /-- a thing that is known to the object (the script;a dict while a loop walks it): read,never written while it is so -/
 | frz (o:Obj) (u:HO)
 /-- a code object's table -/
 | tbl (ps:Array Value)
 /-- any other thing,by what is true of its one object (a def of one's own: SetO a S n:=HO.ext fun h=>..) -/
 | ext (φ:Heap->Prop)
abbrev Hp:=Addr->Option HO
def upd (H:Hp) (a:Addr) (o:HO):Hp:=fun b=>if b=a then some o else H b
theorem bq {H:Hp} {a:Addr} {o:HO}:upd H a o a=some o:=by unfold upd;rw [if_pos rfl]
theorem aW {H:Hp} {a b:Addr} {o:HO} (h:b≠a):upd H a o b=H b:=by unfold upd;rw [if_neg h]
theorem cI {H:Hp} {a b:Addr} {o:HO} (h:H a=some o) (h':H b=none):a≠b:=by
 intro e;subst e;rw [h] at h';cases h'
section
variable (P:Program) (w:World)
def iX (H:Hp) (h:Heap) (a:Addr):HO->Prop
 | .lst xs=>xs.length<=sizeLine/\∃ (its:List Value) (n:Nat),Vals xs its/\h.get? a=some { cls:=.type "list",data:=.seq its.toArray n }
 | .tup xs=>xs.length<=sizeLine/\∃ its:List Value,Vals xs its/\IsTup h a its.toArray
 | .dK kvs=>kvs.length<=sizeLine/\(a == sysModules)=false/\∃ vs,KV kvs vs/\h.DictOf (xn P w) a vs
 | .dT kvs=>kvs.length<=sizeLine/\(a == sysModules)=false/\∃ xs:List (List Key×Addr×Value),
   Paired (fun (p:List Key×V) (q:List Key×Addr×Value)=>p.1=q.1/\H q.2.1=some (.tup (p.1.map kV))/\RelV p.2 q.2.2) kvs xs /\
   ∃ o es ep,h.get? a=some o/\o.ExactDict/\o.data=.dict es ep/\es.toList=xs.map (entryOfKey (tupleKind (xn P w)))/\(xs.map (·.1)).Nodup
 | .set S n=>h.SetOf (intKind P w) a S n
 | .ins C dx fs=>H dx=some (.own a)/\fs.length<=1000/\dx≠a/\h.get? a=some (PySem.W.instObj C dx) /\
   ∃ mA,h.Ns1 dx mA/\(∀ f,yW (fs.lookup f) (mA f))/\PySem.Within mA (fs.map (·.1))
 | .own _=>∃ o,h.get? a=some o
 | .xd fs=>∃ mA,h.Ns1 a mA/\∀ f,yW (fs.lookup f) (mA f)
 | .rng lo hi=>∃ t u v,h.get? a=some { cls:=.type "range",data:=.fields #[.int lo t,.int hi u,.int 1 v] }
 | .frz o u=>h.get? a=some o/\iX H h a u
 | .tbl ps=>h.get? a=some { cls:=.none,data:=.fields ps }
 | .met f x=>h.get? a=some (PySem.W.methodObj (.ref f) (.ref x))
 | .ext φ=>φ h/\(∃ o,h.get? a=some o)/\∀ h1 h2:Heap,φ h1->(∀ o,h1.get? a=some o->h2.get? a=some o)->φ h2
def HOk (H:Hp) (h:Heap):Prop:=∀ a o,H a=some o->iX P w H h a o
end
section
variable {P:Program} {w:World} {H H':Hp} {h h':Heap} {a:Addr} {o:HO}
theorem iX.lt (x:iX P w H h a o):a<h.objs.size:=by
 cases o with
 | lst xs=>obtain ⟨_,_,_,_,e⟩:=x;exact Heap.lt_size e
 | tup xs=>obtain ⟨_,_,_,p⟩:=x;exact p.lt
 | dK kvs=>obtain ⟨_,_,_,_,o,_,_,e,_⟩:=x;exact Heap.lt_size e
 | dT kvs=>obtain ⟨_,_,_,_,o,_,_,e,_⟩:=x;exact Heap.lt_size e
 | set S n=>obtain ⟨o,_,_,_,e,_⟩:=x;exact Heap.lt_size e
 | ins C dx fs=>obtain ⟨_,_,_,e,_⟩:=x;exact Heap.lt_size e
 | own y=>obtain ⟨_,e⟩:=x;exact Heap.lt_size e
 | xd fs=>obtain ⟨_,⟨_,_,_,e,_⟩,_⟩:=x;exact Heap.lt_size e
 | rng lo hi=>obtain ⟨_,_,_,e⟩:=x;exact Heap.lt_size e
 | frz ob u=>obtain ⟨e,_⟩:=x;exact Heap.lt_size e
 | tbl ps=>exact Heap.lt_size (show h.get? a=some _ from x)
 | met f y=>exact Heap.lt_size (show h.get? a=some _ from x)
 | ext φ=>obtain ⟨_,⟨_,e⟩,_⟩:=x;exact Heap.lt_size e
theorem Paired.mapP {α β:Type} {F G:α->β->Prop}:∀ {l₁:List α} {l₂:List β},Paired F l₁ l₂->(∀ a b,F a b->G a b)->Paired G l₁ l₂
 | _,_,.nil,_=>.nil
 | _,_,.cons r t,f=>.cons (f _ _ r) (Paired.mapP t f)
theorem iX.stay (x:iX P w H h a o) (k:∀ b u,(b=a\/H b=some (.own a))->h.get? b=some u->h'.get? b=some u)
  (ho:∀ b,H b=some (.own a)->H' b=some (.own a)) (ht:∀ b xs,H b=some (.tup xs)->H' b=some (.tup xs)):iX P w H' h' a o:=by
 induction o with
 | lst xs=>obtain ⟨z,its,n,r,e⟩:=x;exact ⟨z,its,n,r,k _ _ (.inl rfl) e⟩
 | tup xs=>obtain ⟨z,its,r,ob,e,c⟩:=x;exact ⟨z,its,r,ob,k _ _ (.inl rfl) e,c⟩
 | dK kvs=>obtain ⟨z,y,vs,r,ob,es,ep,e,c⟩:=x;exact ⟨z,y,vs,r,ob,es,ep,k _ _ (.inl rfl) e,c⟩
 | dT kvs =>
  obtain ⟨z,y,xs,r,ob,es,ep,e,c⟩:=x
  exact ⟨z,y,xs,Paired.mapP r fun p q z=>⟨z.1,ht _ _ z.2.1,z.2.2⟩,ob,es,ep,k _ _ (.inl rfl) e,c⟩
 | set S n=>obtain ⟨ob,es,ep,t,e,c⟩:=x;exact ⟨ob,es,ep,t,k _ _ (.inl rfl) e,c⟩
 | ins C dx fs =>
  obtain ⟨d,z,ne,e,mA,⟨od,es,ep,e2,c⟩,r⟩:=x
  exact ⟨ho _ d,z,ne,k _ _ (.inl rfl) e,mA,⟨od,es,ep,k _ _ (.inr d) e2,c⟩,r⟩
 | own y=>obtain ⟨ob,e⟩:=x;exact ⟨ob,k _ _ (.inl rfl) e⟩
 | xd fs=>obtain ⟨mA,⟨od,es,ep,e,c⟩,r⟩:=x;exact ⟨mA,⟨od,es,ep,k _ _ (.inl rfl) e,c⟩,r⟩
 | rng lo hi=>obtain ⟨t,u,v,e⟩:=x;exact ⟨t,u,v,k _ _ (.inl rfl) e⟩
 | frz ob u ih=>obtain ⟨e,q⟩:=x;exact ⟨k _ _ (.inl rfl) e,ih q⟩
 | tbl ps =>
  have e:h.get? a=some { cls:=.none,data:=.fields ps }:=x
  show h'.get? a=some { cls:=.none,data:=.fields ps }
  exact k a _ (.inl rfl) e
 | met f y =>
  have e:h.get? a=some (PySem.W.methodObj (.ref f) (.ref y)):=x
  show h'.get? a=some (PySem.W.methodObj (.ref f) (.ref y))
  exact k a _ (.inl rfl) e
 | ext φ=>obtain ⟨p,⟨o,e⟩,st⟩:=x;exact ⟨st _ _ p fun o q=>k _ _ (.inl rfl) q,⟨o,k _ _ (.inl rfl) e⟩,st⟩
theorem HOk.lt (x:HOk P w H h) (e:H a=some o):a<h.objs.size:=(x a o e).lt
theorem HOk.fresh (x:HOk P w H h) (e:h.objs.size<=a):H a=none:=by
 cases q:H a with
 | none=>rfl
 | some u=>exact absurd (Nat.lt_of_lt_of_le (x.lt q) e) (Nat.lt_irrefl _)
theorem HOk.kept (x:HOk P w H h) (k:∀ b u,h.get? b=some u->h'.get? b=some u):HOk P w H h':=fun a o e =>
 (x a o e).stay (fun b u _ q=>k b u q) (fun _ q=>q) fun _ _ q=>q
theorem HOk.laid (x:HOk P w H h) (k:∀ b u,h.get? b=some u->h'.get? b=some u) (hp:h.objs.size<=a) (new:iX P w (upd H a o) h' a o):HOk P w (upd H a o) h':=fun b u e=>by
 have hn:=x.fresh hp
 by_cases hb:b=a
 ·subst hb;rw [bq] at e;cases e;exact new
 ·rw [aW hb] at e
  exact (x b u e).stay (fun c v _ q=>k c v q) (fun c q=>by rw [aW (cI q hn)];exact q) fun c xs q=>by rw [aW (cI q hn)];exact q
end
def Rd (H:Hp) (a:Addr) (u:HO):Prop:=H a=some u\/∃ o,H a=some (.frz o u)
theorem Rd.ok {P:Program} {w:World} {H:Hp} {h:Heap} {a:Addr} {u:HO} (r:Rd H a u) (x:HOk P w H h):iX P w H h a u:=by
 rcases r with r | ⟨o,r⟩
 ·exact x a u r
 ·obtain ⟨_,q⟩:=x a _ r
  exact q
def Mut:Option HO->Prop
 | some (.lst _)=>True
 | some (.dK _)=>True
 | some (.dT _)=>True
 | some (.set _ _)=>True
 | some (.ins _ _ _)=>True
 | some (.ext _)=>True
 | _=>False
section
variable {P:Program} {w:World} {H:Hp} {h h':Heap} {x e:Addr} {o':HO}
theorem HOk.write (ok:HOk P w H h) (mu:Mut (H x)) (he:e=x\/H e=some (.own x)) (k:∀ b u,b≠e->h.get? b=some u->h'.get? b=some u) (heo:∃ u,h'.get? e=some u)
  (new:iX P w (upd H x o') h' x o'):HOk P w (upd H x o') h':=fun b u q=>by
 have nown:∀ c y,H c=some (.own y)->c≠x:=fun c y r z=>by subst z;rw [r] at mu;exact mu
 have ntup:∀ c xs,H c=some (.tup xs)->c≠x:=fun c xs r z=>by subst z;rw [r] at mu;exact mu
 by_cases hb:b=x
 ·subst hb;rw [bq] at q;cases q;exact new
 ·rw [aW hb] at q
  by_cases hbe:b=e
  ·have q':H b=some (.own x):=by
    rcases he with z | z
    ·exact absurd (hbe.trans z) hb
    ·rw [hbe];exact z
   rw [q] at q';cases q'
   obtain ⟨v,hv⟩:=heo
   exact ⟨v,by rw [hbe];exact hv⟩
  ·refine (ok b u q).stay (fun c v hc r=>k c v ?_ r) (fun c r=>by rw [aW (nown c b r)];exact r) fun c xs r=>by rw [aW (ntup c xs r)];exact r
   rcases hc with rfl | hc
   ·exact hbe
   ·rintro rfl
    rcases he with z | z
    ·exact nown c b hc z
    ·rw [hc] at z;cases z;exact hb rfl
end
structure Un (fs ex:List Addr) (H H':Hp) (h h':Heap):Prop where
 keep:∀ b o,h.get? b=some o->H b=none->b∉fs->b∉ex->h'.get? b=some o
 slot:∀ b o,h.get? b=some o->H b=none->b∈fs->b∉ex->∃ sl,h'.get? b=some { o with slots:=sl }
 free:∀ b o,h.get? b=some o->H b=none->b∉ex->H' b=none
 there:∀ b o,h.get? b=some o->b∉ex->∃ o',h'.get? b=some o'
 tups:∀ b xs,H b=some (.tup xs)->H' b=some (.tup xs)
 frzs:∀ b o u,H b=some (.frz o u)->H' b=some (.frz o u)
 tbls:∀ b ps,H b=some (.tbl ps)->∃ more,H' b=some (.tbl (ps++more))
section
variable {fs fs' ex ex':List Addr} {H H1 H2:Hp} {h h1 h2 h':Heap} {a x e:Addr} {o:HO}
theorem Un.any (u:Un fs ex H H1 h h1) {b:Addr} {ob:Obj} (q:h.get? b=some ob) (n:H b=none) (hx:b∉ex):∃ sl,h1.get? b=some { ob with slots:=sl }:=by
 by_cases hb:b∈fs
 ·exact u.slot b ob q n hb hx
 ·exact ⟨ob.slots,u.keep b ob q n hb hx⟩
theorem Un.kept (k:∀ b u,h.get? b=some u->h'.get? b=some u):Un fs ex H H h h' :=
 ⟨fun b ob q _ _ _=>k b ob q,fun b ob q _ _ _=>⟨ob.slots,k b ob q⟩,fun _ _ _ n _=>n,fun b ob q _=>⟨ob,k b ob q⟩,fun _ _ q=>q,fun _ _ _ q=>q,fun _ ps q=>⟨#[],by rw [q];simp⟩⟩
theorem Un.refl:Un fs ex H H h h:=Un.kept fun _ _ q=>q
theorem Un.laid (k:∀ b u,h.get? b=some u->h'.get? b=some u) (hp:h.objs.size<=a) (hn:H a=none):Un fs ex H (upd H a o) h h' where
 keep:=fun b u q _ _ _=>k b u q
 slot:=fun b u q _ _ _=>⟨u.slots,k b u q⟩
 free:=fun b u q n _=>by rw [aW (Nat.ne_of_lt (Nat.lt_of_lt_of_le (Heap.lt_size q) hp))];exact n
 there:=fun b u q _=>⟨u,k b u q⟩
 tups:=fun b xs q=>by rw [aW (cI q hn)];exact q
 frzs:=fun b u xs q=>by rw [aW (cI q hn)];exact q
 tbls:=fun b ps q=>⟨#[],by rw [aW (cI q hn),q];simp⟩
theorem Un.write (mu:Mut (H x)) (he:e=x\/H e=some (.own x)) (k:∀ b u,b≠e->h.get? b=some u->h'.get? b=some u) (heo:∃ u,h'.get? e=some u):Un fs ex H (upd H x o) h h':=by
 have hx:∀ b,H b=none->b≠x:=fun b n z=>by subst z;rw [n] at mu;exact mu
 have hb:∀ b,H b=none->b≠e:=fun b n z=>by
  subst z
  rcases he with r | r
  ·exact hx b n r
  ·rw [n] at r;cases r
 have hm:∀ b u,H b=some u->¬ Mut (some u)->b≠x:=fun b u q nm z=>by subst z;rw [q] at mu;exact nm mu
 refine ⟨fun b u q n _ _=>k b u (hb b n) q,fun b u q n _ _=>⟨u.slots,k b u (hb b n) q⟩,fun b u q n _=>by rw [aW (hx b n)];exact n,fun b u q _ => ?_,
  fun b xs q=>by rw [aW (hm b _ q fun z=>z)];exact q,fun b u xs q=>by rw [aW (hm b _ q fun z=>z)];exact q,fun b ps q=>⟨#[],by rw [aW (hm b _ q fun z=>z),q];simp⟩⟩
 by_cases hbe:b=e
 ·subst hbe;exact heo
 ·exact ⟨u,k b u hbe q⟩
end
def trk (h:Heap) (H:Hp):List Addr:=(List.range h.objs.size).filter fun a=>(H a).isSome
def B3 (h:Heap) (H:Hp):Heap:=PySem.W.hideAll h (trk h H)
theorem xS (h:Heap) (H:Hp):(B3 h H).objs.size=h.objs.size:=PySem.W.hideAll_size _ _
theorem oj {h:Heap} {H:Hp} {b:Addr} {o:Obj} (e:h.get? b=some o) (n:H b=none):(B3 h H).get? b=some o :=
 PySem.W.hideAll_get _ e fun hm=>by
  have q:(H b).isSome=true:=(List.mem_filter.mp hm).2
  rw [n] at q;simp at q
theorem Ej {h:Heap} {H:Hp} {b:Addr} {o:Obj} (e:(B3 h H).get? b=some o):h.get? b=some o/\H b=none:=by
 have e':h.get? b=some o:=PySem.W.of_hideAll (trk h H) e
 refine ⟨e',?_⟩
 cases q:H b with
 | none=>rfl
 | some x =>
  have hm:b∈trk h H:=List.mem_filter.mpr ⟨List.mem_range.mpr (Heap.lt_size e'),by simp [q]⟩
  have z:(B3 h H).get? b=none:=PySem.W.hideAll_none (trk h H) hm
  rw [z] at e;cases e
def FP (g h:Heap) (L:Addr):List ↥12:=(List.range h.objs.size).filterMap fun a=>if a=L\/(g.get? a).isSome=true then none else (h.get? a).map fun o=>(a,o)
def rest (g h:Heap) (L d:Addr):List ↥12:=(FP g h L).filter fun p=>decide (p.1≠d)
end L2
namespace L2
open PySem PySem.Spec PyProof.Rows
structure Mod (K:PySem.W.Frag) (mg:Str->Option Value) (base:Heap):Prop where
 kin:K.In base
 glob:base.Ns mainGlobals mg
 blt:∃ mb,base.Ns builtinsNs mb/\∀ x:Str,x≠"__name__"->mb x=bootBuiltins x
 nolimit:base.NoLimit
structure Cx where
 prog:Program
 w:World
 K:PySem.W.Frag
 mg:Str->Option Value
 base:Heap
 A:Around
 N:List Str
 s₀:Shared
 H₀:Hp
 env:Env
 outer:List Env
 stack:List Env
 ex:List Addr
 fn:Str->Bool
 calm:Bool
 pn:List ↥12
 xe:Value->Shared->Prop
def frs (l:List Env):List Addr:=l.filterMap (·.frame)
abbrev Cx.fs (X:Cx):List Addr:=frs X.outer
def Vis (sc:Scope) (x:Str):Prop:=sc.names.lookup x=some .local\/sc.names.lookup x=some .cell\/sc.names.lookup x=some .free
def Loc (sc:Scope) (x:Str):Prop:=sc.names.lookup x=some .local\/sc.names.lookup x=some .cell
def Look (env:Env) (h:Heap) (m:Str->Option Value) (x:Str) (u:Value):Prop :=
 (env.kindOf x=some .local/\m x=some u)\/((env.kindOf x=some .cell\/env.kindOf x=some .free)/\∃ c,env.cells.lookup x=some c/\h.IsCell c (some u))
structure Cx.Ok (X:Cx):Prop where
 mod:Mod X.K X.mg X.base
 kind:X.env.scope.kind=.function
 glob:X.env.globals=mainGlobals
 blt:X.env.builtins=builtinsNs
 above:X.s₀.heap.objs.size<=X.env.locals
 inj:∀ x y c,X.env.cells.lookup x=some c->X.env.cells.lookup y=some c->x=y
 has:∀ x,(X.env.kindOf x=some .cell\/X.env.kindOf x=some .free)->∃ c,X.env.cells.lookup x=some c
 cab:∀ x c,X.fn x=true->X.env.cells.lookup x=some c->X.s₀.heap.objs.size<=c
 hd:X.calm=true->X.A.handled=none
 frames:X.A.frames=some X.stack
 stk:X.stack=X.outer\/(X.stack=X.env::X.outer/\X.env.frame=some X.env.locals)
 exf:∀ b∈X.ex,b≠X.env.locals/\∀ x c,X.env.cells.lookup x=some c->c≠b
 bs:∀ b o,X.base.get? b=some o->X.s₀.heap.get? b=some o/\X.H₀ b=none
 bsz:X.base.objs.size<=X.s₀.heap.objs.size
 noex:∀ b o,X.base.get? b=some o->b∉X.ex
 exfs:∀ b∈X.ex,b∉X.fs
 funs:X.s₀.heap.FunFrames X.base X.outer
 frf:∀ b∈X.fs,X.H₀ b=none
structure Inv (X:Cx) (pins:List ↥12) (σ:List (Option V)) (H:Hp) (s:Shared):Prop where
 ok:X.Ok
 os:s.os=X.s₀.os
 bare:AllBare s.gens
 base:Un X.fs X.ex X.H₀ H X.s₀.heap s.heap
 loc:∃ m,s.heap.Ns X.env.locals m/\∀ (i:Nat) (x:Str) (v:V),X.N[i]? = some x->σ[i]? = some (some v)->Vis X.env.scope x->∃ u,RelV v u/\Look X.env s.heap m x u
 cell:∀ x c,X.env.cells.lookup x=some c->∃ v,s.heap.IsCell c v
 free:H X.env.locals=none
 freeC:∀ x c,X.env.cells.lookup x=some c->H c=none
 pin:∀ p∈X.pn++pins,s.heap.get? p.1=some p.2/\H p.1=none/\p.1≠X.env.locals/\p.1∉X.fs/\∀ v,p.2.data ≠ .cell v
 hok:HOk X.prog X.w H s.heap
 len:σ.length=X.N.length
section
variable {X:Cx} {pins:List ↥12} {σ:List (Option V)} {H H':Hp} {s:Shared} {h':Heap}
theorem Cx.Ok.nofr (ok:X.Ok) {b:Addr} {o:Obj} (e:X.base.get? b=some o):b∉X.fs:=fun hb=>by
 have:=(ok.funs.mem hb).1
 rw [e] at this;cases this
theorem Inv.bs (I:Inv X pins σ H s):∀ b o,X.base.get? b=some o->s.heap.get? b=some o/\H b=none:=fun b o e =>
 ⟨I.base.keep b o (I.ok.bs b o e).1 (I.ok.bs b o e).2 (I.ok.nofr e) (I.ok.noex b o e),I.base.free b o (I.ok.bs b o e).1 (I.ok.bs b o e).2 (I.ok.noex b o e)⟩
theorem Inv.bk (I:Inv X pins σ H s):∀ b o,X.base.get? b=some o->s.heap.get? b=some o:=fun b o e=>(I.bs b o e).1
theorem Inv.mod (I:Inv X pins σ H s):Mod X.K X.mg X.base:=I.ok.mod
theorem Inv.kIn (I:Inv X pins σ H s):X.K.In s.heap:=I.ok.mod.kin.keeps I.bk
theorem Inv.nolimit (I:Inv X pins σ H s):s.heap.NoLimit:=I.ok.mod.nolimit.keeps I.bk
theorem Inv.lt (I:Inv X pins σ H s):X.env.locals<s.heap.objs.size:=let ⟨_,hn,_⟩:=I.loc;hn.lt
theorem Inv.sz (I:Inv X pins σ H s):X.s₀.heap.objs.size<=s.heap.objs.size:=Nat.le_trans I.ok.above (Nat.le_of_lt I.lt)
theorem Inv.nofs (I:Inv X pins σ H s) {a:Addr} (h:s.heap.objs.size<=a):a∉X.fs:=fun hb=>by
 obtain ⟨_,o,ho,_⟩:=I.ok.funs.mem hb
 exact absurd (Nat.lt_of_lt_of_le (Heap.lt_size ho) (Nat.le_trans I.sz h)) (Nat.lt_irrefl _)
theorem Inv.cne (I:Inv X pins σ H s):∀ x c,X.env.cells.lookup x=some c->c≠X.env.locals:=fun x c e z=>by
 obtain ⟨v,o,ho,hd⟩:=I.cell x c e
 obtain ⟨m,⟨o',es,ep,ho',hd',_⟩,_⟩:=I.loc
 rw [z,ho'] at ho;cases ho;rw [hd'] at hd;cases hd
theorem Inv.funs (I:Inv X pins σ H s):s.heap.FunFrames X.base X.outer:=by
 have all:∀ (l:List Env),(∀ b∈frs l,b∈X.fs)->X.s₀.heap.FunFrames X.base l->s.heap.FunFrames X.base l:=by
  intro l
  induction l with
  | nil=>intro _ _;trivial
  | cons env r ih =>
   intro hs hl
   obtain ⟨hk,⟨L,o,hf,hn,ho,hd⟩,hr⟩:=hl
   have hL:L∈X.fs:=hs L (by unfold frs;rw [List.filterMap_cons,hf];exact List.mem_cons_self)
   obtain ⟨sl,e⟩:=I.base.slot L o ho (I.ok.frf L hL) hL fun z=>I.ok.exfs L z hL
   exact ⟨hk,⟨L,_,hf,hn,e,hd⟩,ih (fun b hb=>hs b (by unfold frs;rw [List.filterMap_cons,hf];exact List.mem_cons_of_mem _ hb)) hr⟩
 exact all X.outer (fun _ hb=>hb) I.ok.funs
theorem Inv.stack (I:Inv X pins σ H s):s.heap.FunFrames X.base X.stack:=by
 rcases I.ok.stk with e | ⟨e,hf⟩
 ·rw [e];exact I.funs
 ·rw [e]
  obtain ⟨m,hn,_⟩:=I.loc
  refine .cons (by rw [I.ok.kind];decide) hf hn ?_ I.funs
  exact Heap.get?_none_of_le (Nat.le_trans I.ok.bsz I.ok.above)
theorem Inv.stkSub (I:Inv X pins σ H s):∀ b∈frs X.stack,b∈X.env.locals::X.fs:=fun b hb=>by
 rcases I.ok.stk with e | ⟨e,hf⟩
 ·rw [e] at hb;exact List.mem_cons_of_mem _ hb
 ·rw [e] at hb
  unfold frs at hb
  rw [List.filterMap_cons,hf] at hb
  exact hb
theorem Inv.stkFree (I:Inv X pins σ H s):∀ b∈frs X.stack,H b=none:=fun b hb=>by
 rcases List.mem_cons.mp (I.stkSub b hb) with e | hb
 ·rw [e];exact I.free
 ·obtain ⟨_,o,ho,_⟩:=I.ok.funs.mem hb
  exact I.base.free b o ho (I.ok.frf b hb) fun z=>I.ok.exfs b z hb
theorem Inv.step {g':Array GenState} {t':Nat} {d':Drawn} {ch:List Addr} (I:Inv X pins σ H s)
  (hch:∀ b∈ch,(b∈X.ex\/X.s₀.heap.objs.size<=b)/\b≠X.env.locals/\(∀ x c,X.env.cells.lookup x=some c->c≠b)/\∀ p∈X.pn++pins,p.1≠b)
  (keep:∀ b o,b≠X.env.locals->b∉X.fs->b∉ch->s.heap.get? b=some o->H b=none->h'.get? b=some o)
  (slot:∀ b o,b≠X.env.locals->b∈X.fs->b∉ch->s.heap.get? b=some o->H b=none->∃ sl,h'.get? b=some { o with slots:=sl }) (free:∀ b o,b∉ch->s.heap.get? b=some o->H b=none->H' b=none)
  (there:∀ b o,b∉ch->s.heap.get? b=some o->∃ o',h'.get? b=some o')
  (tups:∀ b xs,H b=some (.tup xs)->H' b=some (.tup xs)) (frzs:∀ b o u,H b=some (.frz o u)->H' b=some (.frz o u)) (tbls:∀ b ps,H b=some (.tbl ps)->∃ more,H' b=some (.tbl (ps++more)))
  (ns:∀ m,s.heap.Ns X.env.locals m->h'.Ns X.env.locals m) (hok:HOk X.prog X.w H' h') (hg:AllBare g') :
  Inv X pins σ H' { s with heap:=h',gens:=g',drawn:=d',toks:=t' }:=by
 have neL:∀ b o,X.s₀.heap.get? b=some o->b≠X.env.locals:=fun b o e=>Nat.ne_of_lt (Nat.lt_of_lt_of_le (Heap.lt_size e) I.ok.above)
 have neC:∀ b o,X.s₀.heap.get? b=some o->b∉X.ex->b∉ch:=fun b o e hx hb=>by
  rcases (hch b hb).1 with z | z
  ·exact hx z
  ·exact absurd (Nat.lt_of_lt_of_le (Heap.lt_size e) z) (Nat.lt_irrefl _)
 have cellK:∀ x c,X.env.cells.lookup x=some c->∀ v,s.heap.IsCell c v->h'.IsCell c v:=fun x c e v ⟨o,ho,hd⟩=>by
  have nch:c∉ch:=fun z=>(hch c z).2.2.1 x c e rfl
  by_cases hc:c∈X.fs
  ·obtain ⟨sl,q⟩:=slot c o (I.cne x c e) hc nch ho (I.freeC x c e)
   exact ⟨_,q,hd⟩
  ·exact ⟨o,keep c o (I.cne x c e) hc nch ho (I.freeC x c e),hd⟩
 refine ⟨I.ok,I.os,hg,⟨fun b o e n hb hx => ?_,fun b o e n hb hx => ?_,fun b o e n hx => ?_,fun b o e hx => ?_,fun b xs e=>tups b xs (I.base.tups b xs e),fun b o xs e=>frzs b o xs (I.base.frzs b o xs e),fun b ps e => ?_⟩,?_,fun x c e => ?_,?_,fun x c e => ?_,fun p hp => ?_,hok,I.len⟩
 ·exact keep b o (neL b o e) hb (neC b o e hx) (I.base.keep b o e n hb hx) (I.base.free b o e n hx)
 ·obtain ⟨sl,e1⟩:=I.base.slot b o e n hb hx
  obtain ⟨sl',e2⟩:=slot b _ (neL b o e) hb (neC b o e hx) e1 (I.base.free b o e n hx)
  exact ⟨sl',e2⟩
 ·obtain ⟨o',e1⟩:=I.base.there b o e hx
  exact free b o' (neC b o e hx) e1 (I.base.free b o e n hx)
 ·obtain ⟨o',e1⟩:=I.base.there b o e hx
  exact there b o' (neC b o e hx) e1
 ·obtain ⟨m1,e1⟩:=I.base.tbls b ps e
  obtain ⟨m2,e2⟩:=tbls b _ e1
  exact ⟨m1++m2,by rw [e2,Array.append_assoc]⟩
 ·obtain ⟨m,hn,hl⟩:=I.loc
  refine ⟨m,ns m hn,fun i x v e1 e2 e3 => ?_⟩
  obtain ⟨u,r,l⟩:=hl i x v e1 e2 e3
  refine ⟨u,r,?_⟩
  rcases l with l | ⟨k,c,e,z⟩
  ·exact .inl l
  ·exact .inr ⟨k,c,e,cellK x c e _ z⟩
 ·obtain ⟨v,z⟩:=I.cell x c e
  exact ⟨v,cellK x c e v z⟩
 ·obtain ⟨m,⟨o,_,_,ho,_⟩,_⟩:=I.loc
  exact free _ o (fun z=>(hch _ z).2.1 rfl) ho I.free
 ·obtain ⟨v,o,ho,hd⟩:=I.cell x c e
  exact free c o (fun z=>(hch c z).2.2.1 x c e rfl) ho (I.freeC x c e)
 ·obtain ⟨e,n,ne,nf,d⟩:=I.pin p hp
  have nch:p.1∉ch:=fun z=>(hch p.1 z).2.2.2 p hp rfl
  exact ⟨keep p.1 p.2 ne nf nch e n,free p.1 p.2 nch e n,ne,nf,d⟩
theorem Inv.un {t':Nat} (I:Inv X pins σ H s) (u:Un X.fs [] H H' s.heap h') (hok:HOk X.prog X.w H' h'):Inv X pins σ H' { s with heap:=h',toks:=t' }:=by
 obtain ⟨m,⟨o,es,ep,ho,r⟩,_⟩:=id I.loc
 obtain ⟨sl,hL⟩:=u.any ho I.free (by simp)
 exact I.step (g':=s.gens) (d':=s.drawn) (ch:=[]) (fun _ z=>nomatch z) (fun b o _ hb _ e n=>u.keep b o e n hb (by simp)) (fun b o _ hb _ e n=>u.slot b o e n hb (by simp)) (fun b o _ e n=>u.free b o e n (by simp)) (fun b o _ e=>u.there b o e (by simp)) u.tups u.frzs u.tbls (fun m' hm=>by
  obtain ⟨o',es',ep',ho',r'⟩:=hm
  rw [ho] at ho';cases ho'
  exact ⟨_,es',ep',hL,r'⟩) hok I.bare
theorem Inv.call {g':Array GenState} {t':Nat} {d':Drawn} {ch:List Addr} (I:Inv X pins σ H s) (u:Un (frs X.stack) ch H H' s.heap h') (hok:HOk X.prog X.w H' h') (hg:AllBare g')
  (hch:∀ b∈ch,(b∈X.ex\/X.s₀.heap.objs.size<=b)/\b≠X.env.locals/\(∀ x c,X.env.cells.lookup x=some c->c≠b)/\∀ p∈X.pn++pins,p.1≠b) :
  Inv X pins σ H' { s with heap:=h',gens:=g',drawn:=d',toks:=t' }:=by
 obtain ⟨m,⟨o,es,ep,ho,r⟩,_⟩:=id I.loc
 obtain ⟨sl,hL⟩:=u.any ho I.free fun z=>(hch _ z).2.1 rfl
 exact I.step (ch:=ch) hch (fun b o hL hb hc e n=>u.keep b o e n (fun z=>(List.mem_cons.mp (I.stkSub b z)).elim hL hb) hc) (fun b o _ _ hc e n=>u.any e n hc) (fun b o hc e n=>u.free b o e n hc) (fun b o hc e=>u.there b o e hc) u.tups u.frzs u.tbls (fun m' hm=>by
  obtain ⟨o',es',ep',ho',r'⟩:=hm
  rw [ho] at ho';cases ho'
  exact ⟨_,es',ep',hL,r'⟩) hok hg
theorem Inv.turned {t':Nat} {it:Addr} (I:Inv X pins σ H s) (k:∀ b o,b≠it->s.heap.get? b=some o->h'.get? b=some o) (hn:H it=none) (hL:it≠X.env.locals)
  (h1:it∈X.ex\/X.s₀.heap.objs.size<=it) (h2:∀ x c,X.env.cells.lookup x=some c->c≠it) (h3:∀ p∈X.pn++pins,p.1≠it):Inv X pins σ H { s with heap:=h',toks:=t' }:=by
 have nit:∀ b u,H b=some u->b≠it:=fun b u e z=>by rw [z,hn] at e;cases e
 refine I.step (g':=s.gens) (d':=s.drawn) (ch:=[it]) (fun b hb => ?_) (fun b o _ _ hc e _=>k b o (fun z=>hc (by simp [z])) e) (fun b o _ _ hc e _=>⟨o.slots,k b o (fun z=>hc (by simp [z])) e⟩) (fun _ _ _ _ n=>n)
  (fun b o hc e=>⟨o,k b o (fun z=>hc (by simp [z])) e⟩) (fun _ _ e=>e) (fun _ _ _ e=>e) (fun b ps e=>⟨#[],by rw [e];simp⟩) (fun m hm => ?_) (fun b u e => ?_) I.bare
 ·have e:b=it:=by simpa using hb
  subst e
  exact ⟨h1,hL,h2,h3⟩
 ·obtain ⟨o,es,ep,ho,r⟩:=hm
  exact ⟨o,es,ep,k _ o (Ne.symm hL) ho,r⟩
 ·refine (I.hok b u e).stay (fun c v hc q=>k c v ?_ q) (fun _ q=>q) fun _ _ q=>q
  rcases hc with z | z
  ·rw [z];exact nit b u e
  ·exact nit c _ z
theorem Inv.tok (I:Inv X pins σ H s) (t:Nat):Inv X pins σ H { s with toks:=t }:=I.un (h':=s.heap) (t':=t) Un.refl I.hok
theorem Inv.kept {t':Nat} (I:Inv X pins σ H s) (k:∀ b u,s.heap.get? b=some u->h'.get? b=some u):Inv X pins σ H { s with heap:=h',toks:=t' }:=I.un (Un.kept k) (I.hok.kept k)
theorem Inv.laid {a:Addr} {o:HO} {t':Nat} (I:Inv X pins σ H s) (k:∀ b u,s.heap.get? b=some u->h'.get? b=some u) (hp:s.heap.objs.size<=a) (new:iX X.prog X.w (upd H a o) h' a o) :
  Inv X pins σ (upd H a o) { s with heap:=h',toks:=t' }:=I.un (Un.laid k hp (I.hok.fresh hp)) (I.hok.laid k hp new)
theorem Inv.write {x e:Addr} {o:HO} {t':Nat} (I:Inv X pins σ H s) (mu:Mut (H x)) (he:e=x\/H e=some (.own x)) (k:∀ b u,b≠e->s.heap.get? b=some u->h'.get? b=some u) (heo:∃ u,h'.get? e=some u)
  (new:iX X.prog X.w (upd H x o) h' x o):Inv X pins σ (upd H x o) { s with heap:=h',toks:=t' }:=I.un (Un.write mu he k heo) (I.hok.write mu he k heo new)
theorem Inv.pins_of {pins':List ↥12} (I:Inv X pins σ H s) (h:∀ p∈pins',s.heap.get? p.1=some p.2/\H p.1=none/\p.1≠X.env.locals/\p.1∉X.fs/\∀ v,p.2.data ≠ .cell v):Inv X pins' σ H s :=
 ⟨I.ok,I.os,I.bare,I.base,I.loc,I.cell,I.free,I.freeC,fun p hp=>(List.mem_append.mp hp).elim (fun z=>I.pin p (List.mem_append_left _ z)) (h p),I.hok,I.len⟩
theorem nW {N:List Str} (hN:N.Nodup) {i j:Nat} {x:Str} (a:N[i]? = some x) (b:N[j]? = some x):i=j:=by
 obtain ⟨h1,e1⟩:=List.getElem?_eq_some_iff.mp a
 obtain ⟨h2,e2⟩:=List.getElem?_eq_some_iff.mp b
 exact (List.getElem_inj hN).mp (e1.trans e2.symm)
theorem vY {M:Model} {A:Around} {E:Value->Shared->Prop} {i:Nat} {x:Str} {v:V} {u:Value} {Q:Unit->Shared->Prop} (I:Inv X pins σ H s) (hN:X.N.Nodup) (hi:X.N[i]? = some x) (hx:Loc X.env.scope x) (r:RelV v u)
  (h:∀ s',Inv X pins (σ.set i (some v)) H s'->(∃ a,Heap.SameBut a s.heap s'.heap/\(a=X.env.locals\/X.env.cells.lookup x=some a))->Q () s') (hf:X.fn x=true\/X.env.scope.names.lookup x=some .local:=by first | exact .inl rfl | exact .inr rfl | assumption):wpAny M A (storeName X.env x u) Q E s:=by
 obtain ⟨m,hn,hl⟩:=id I.loc
 have hcls:(X.env.scope.kind == .class||(X.env.scope.kind == .module&&X.env.locals != X.env.globals))=false:=by rw [I.ok.kind];rfl
 have hiσ:i<σ.length:=by rw [I.len];exact (List.getElem?_eq_some_iff.mp hi).1
 have cne:=I.cne
 have tracked:∀ {a:Addr} {h':Heap},(∃ o,s.heap.get? a=some o/\H a=none)->Heap.SameBut a s.heap h'->HOk X.prog X.w H h':=fun {a h'} ha hs b ob e=>by
  obtain ⟨_,_,hfree⟩:=ha
  refine (I.hok b ob e).stay (fun c w' hc q=>(hs.2 c ?_).trans q) (fun _ q=>q) fun _ _ q=>q
  rintro rfl
  rcases hc with rfl | hc
  ·rw [hfree] at e;cases e
  ·rw [hfree] at hc;cases hc
 rcases hx with hk | hk
 ·refine wpAny_storeName_local hk hn (fun h' hn' hs => ?_) hcls
  obtain ⟨oL,_,_,hoL,_⟩:=id hn
  refine h _ ⟨I.ok,I.os,I.bare,⟨fun b o e n hb hx => ?_,fun b o e n hb hx => ?_,I.base.free,fun b o e hx => ?_,I.base.tups,I.base.frzs,I.base.tbls⟩,⟨_,hn',fun j y v' e1 e2 e3 => ?_⟩,fun y c e => ?_,I.free,I.freeC,fun p hp => ?_,tracked ⟨oL,hoL,I.free⟩ hs,by simpa using I.len⟩ ⟨_,hs,.inl rfl⟩
  ·exact (hs.2 b (Nat.ne_of_lt (Nat.lt_of_lt_of_le (Heap.lt_size e) I.ok.above))).trans (I.base.keep b o e n hb hx)
  ·obtain ⟨sl,e1⟩:=I.base.slot b o e n hb hx
   exact ⟨sl,(hs.2 b (Nat.ne_of_lt (Nat.lt_of_lt_of_le (Heap.lt_size e) I.ok.above))).trans e1⟩
  ·obtain ⟨o',e1⟩:=I.base.there b o e hx
   exact ⟨o',(hs.2 b (Nat.ne_of_lt (Nat.lt_of_lt_of_le (Heap.lt_size e) I.ok.above))).trans e1⟩
  ·by_cases hj:j=i
   ·subst hj
    rw [hi] at e1;cases e1
    rw [List.getElem?_set_self hiσ] at e2
    cases e2
    exact ⟨u,r,.inl ⟨hk,by simp⟩⟩
   ·rw [List.getElem?_set_ne (Ne.symm hj)] at e2
    obtain ⟨u',r',q⟩:=hl j y v' e1 e2 e3
    refine ⟨u',r',?_⟩
    rcases q with ⟨k,e⟩ | ⟨k,c,e,z⟩
    ·refine .inl ⟨k,?_⟩
     have:y≠x:=fun e=>hj (nW hN e1 (e▸hi))
     simp [this,e]
    ·exact .inr ⟨k,c,e,z.sameBut hs (cne y c e)⟩
  ·obtain ⟨w',z⟩:=I.cell y c e
   exact ⟨w',z.sameBut hs (cne y c e)⟩
  ·obtain ⟨e,n,ne,nf,d⟩:=I.pin p hp
   exact ⟨(hs.2 p.1 ne).trans e,n,ne,nf,d⟩
 ·have hfn:X.fn x=true:=by
   rcases hf with z | z
   ·exact z
   ·rw [z] at hk;cases hk
  obtain ⟨c,hc⟩:=I.ok.has x (.inl hk)
  obtain ⟨w',z⟩:=I.cell x c hc
  refine wpAny_storeName_cell I.ok.kind hk hc z (fun h' hc' hs => ?_)
  obtain ⟨oc,hoc,hocd⟩:=id z
  refine h { s with heap:=h' } ⟨I.ok,I.os,I.bare,⟨fun b o e n hb hx => ?_,fun b o e n hb hx => ?_,I.base.free,fun b o e hx => ?_,I.base.tups,I.base.frzs,I.base.tbls⟩,⟨m,hn.sameBut hs (Ne.symm (cne x c hc)),fun j y v' e1 e2 e3 => ?_⟩,fun y c' e => ?_,I.free,I.freeC,fun p hp => ?_,tracked ⟨oc,hoc,I.freeC x c hc⟩ hs,by simpa using I.len⟩ ⟨c,hs,.inr hc⟩
  ·exact (hs.2 b (Nat.ne_of_lt (Nat.lt_of_lt_of_le (Heap.lt_size e) (I.ok.cab x c hfn hc)))).trans (I.base.keep b o e n hb hx)
  ·obtain ⟨sl,e1⟩:=I.base.slot b o e n hb hx
   exact ⟨sl,(hs.2 b (Nat.ne_of_lt (Nat.lt_of_lt_of_le (Heap.lt_size e) (I.ok.cab x c hfn hc)))).trans e1⟩
  ·obtain ⟨o',e1⟩:=I.base.there b o e hx
   exact ⟨o',(hs.2 b (Nat.ne_of_lt (Nat.lt_of_lt_of_le (Heap.lt_size e) (I.ok.cab x c hfn hc)))).trans e1⟩
  ·by_cases hj:j=i
   ·subst hj
    rw [hi] at e1;cases e1
    rw [List.getElem?_set_self hiσ] at e2
    cases e2
    exact ⟨u,r,.inr ⟨.inl hk,c,hc,hc'⟩⟩
   ·rw [List.getElem?_set_ne (Ne.symm hj)] at e2
    obtain ⟨u',r',q⟩:=hl j y v' e1 e2 e3
    refine ⟨u',r',?_⟩
    rcases q with q | ⟨k,c',e,z'⟩
    ·exact .inl q
    ·refine .inr ⟨k,c',e,z'.sameBut hs ?_⟩
     rintro rfl
     exact hj (nW hN e1 (I.ok.inj _ _ _ e hc▸hi))
  ·by_cases hcc:c'=c
   ·subst hcc;exact ⟨_,hc'⟩
   ·obtain ⟨w2,z2⟩:=I.cell y c' e
    exact ⟨w2,z2.sameBut hs hcc⟩
  ·obtain ⟨e,n,ne,nf,d⟩:=I.pin p hp
   refine ⟨(hs.2 p.1 ?_).trans e,n,ne,nf,d⟩
   intro q
   rw [q,hoc] at e
   have q':oc=p.2:=Option.some.inj e
   exact d w' (by rw [<- q'];exact hocd)
theorem m7 {M:Model} {A:Around} {E:Value->Shared->Prop} {i:Nat} {x:Str} {v:V} {u:Value} {Q:Unit->Shared->Prop} (I:Inv X pins σ H s) (hN:X.N.Nodup) (hi:X.N[i]? = some x) (hx:Loc X.env.scope x) (r:RelV v u)
  (h:∀ s',Inv X pins (σ.set i (some v)) H s'->Q () s') (hf:X.fn x=true\/X.env.scope.names.lookup x=some .local:=by first | exact .inl rfl | exact .inr rfl | assumption):wpAny M A (storeName X.env x u) Q E s :=
 vY I hN hi hx r (fun s' I' _=>h s' I') hf
theorem Inv.call' {s':Shared} {ch:List Addr} (I:Inv X pins σ H s) (ho:s'.os=s.os) (u:Un (frs X.stack) ch H H' s.heap s'.heap) (hok:HOk X.prog X.w H' s'.heap) (hg:AllBare s'.gens)
  (hch:∀ b∈ch,(b∈X.ex\/X.s₀.heap.objs.size<=b)/\b≠X.env.locals/\(∀ x c,X.env.cells.lookup x=some c->c≠b)/\∀ p∈X.pn++pins,p.1≠b):Inv X pins σ H' s':=by
 obtain ⟨h',g',d',t',o'⟩:=s'
 have e:o'=s.os:=ho
 subst e
 exact I.call (g':=g') (t':=t') (d':=d') u hok hg hch
end
abbrev XK:=Value->Option Addr->Hp->Prop
abbrev St:=List (Option V)
abbrev VK:=V->Hp->Prop
abbrev TE:=St->Hp->VK->Prop
abbrev TT:=St->Hp->(Bool->Hp->Prop)->Prop
abbrev TA:=St->Hp->(List V->Hp->Prop)->Prop
structure Ends where
 nx:St->Hp->Prop
 rt:VK
 bk:St->Hp->Prop:=fun _ _=>False
 ct:St->Hp->Prop:=fun _ _=>False
abbrev TS:=Ends->St->Hp->Prop
def EP (X:Cx) (pins:List ↥12) (σ:St) (Q:VK) (u:Value) (s':Shared):Prop:=∃ v H',Inv X pins σ H' s'/\RelV v u/\Q v H'
def TP (X:Cx) (pins:List ↥12) (σ:St) (Q:Bool->Hp->Prop) (b:Bool) (s':Shared):Prop:=∃ H',Inv X pins σ H' s'/\Q b H'
def AP (X:Cx) (pins:List ↥12) (σ:St) (Q:List V->Hp->Prop) (us:List Value) (s':Shared):Prop:=∃ vs H',Inv X pins σ H' s'/\Vals vs us/\Q vs H'
def SP (X:Cx) (pins:List ↥12) (D:Ends) (f:Flow) (s':Shared):Prop :=
 match f with
 | .next=>∃ σ' H',Inv X pins σ' H' s'/\D.nx σ' H'
 | .brk=>∃ σ' H',Inv X pins σ' H' s'/\D.bk σ' H'
 | .cont=>∃ σ' H',Inv X pins σ' H' s'/\D.ct σ' H'
 | .ret u=>∃ v σ' H',Inv X pins σ' H' s'/\RelV v u/\D.rt v H'
def PE (X:Cx) (e:Expr) (t:TE):Prop :=
 ∀ (pins:List ↥12) (s:Shared) (σ:St) (H:Hp) (Q:VK),Inv X pins σ H s->t σ H Q->wpAny ↥6 X.A (eval e X.env) (EP X pins σ Q) X.xe s
def PT (X:Cx) (e:Expr) (t:TT):Prop :=
 ∀ (pins:List ↥12) (s:Shared) (σ:St) (H:Hp) (Q:Bool->Hp->Prop),Inv X pins σ H s->t σ H Q->wpAny ↥6 X.A (isTrue e X.env (eval e X.env)) (TP X pins σ Q) X.xe s
def PW (X:Cx) (e:Expr) (t:TT):Prop :=
 ∀ (whole:Sem Value) (pins:List ↥12) (s:Shared) (σ:St) (H:Hp) (Q:Bool->Hp->Prop),Inv X pins σ H s->t σ H Q->wpAny ↥6 X.A (isTrue e X.env whole) (TP X pins σ Q) X.xe s
theorem PW.pt {X:Cx} {e:Expr} {t:TT} (h:PW X e t):PT X e t:=h _
def PA (X:Cx) (es:List Expr) (t:TA):Prop :=
 ∀ (pos:Pos) (pins:List ↥12) (s:Shared) (σ:St) (H:Hp) (Q:List V->Hp->Prop),Inv X pins σ H s->t σ H Q->wpAny ↥6 X.A (spliced (backTo pos (starEach es X.env))) (AP X pins σ Q) X.xe s
def PS (X:Cx) (st:Stmt) (t:TS):Prop :=
 ∀ (pins:List ↥12) (s:Shared) (σ:St) (H:Hp) (D:Ends),Inv X pins σ H s->t D σ H->wpAny ↥6 X.A (exec st X.env) (SP X pins D) X.xe s
def PSs (X:Cx) (st:List Stmt) (t:TS):Prop :=
 ∀ (pins:List ↥12) (s:Shared) (σ:St) (H:Hp) (D:Ends),Inv X pins σ H s->t D σ H->wpAny ↥6 X.A (execs st X.env) (SP X pins D) X.xe s
theorem thn {α:Type} {t:Sem α} {Q Q':α->Shared->Prop} {M:Model} {A:Around} {E:Value->Shared->Prop} {s:Shared} (h:wpAny M A t Q E s) (hQ:∀ a s,Q a s->Q' a s):wpAny M A t Q' E s:=wpAny_mono h hQ fun _ _ x=>x
end L2
namespace L2
open PySem PySem.Spec PyProof.Rows
section
variable {X:Cx}
theorem bin {a b:Expr} {ta tb:TE} (ha:PE X a ta) (hb:PE X b tb) {pins:List ↥12} {s:Shared} {σ:St} {H:Hp} {R:V->V->Hp->Prop} (I:Inv X pins σ H s) (h:ta σ H fun x H1=>tb σ H1 fun y H2=>R x y H2)
  {α:Type} {Q:α->Shared->Prop} {f:Value->Value->Sem α}
  (hf:∀ v u s2 x y H2,Inv X pins σ H2 s2->RelV x v->RelV y u->R x y H2->wpAny ↥6 X.A (f v u) Q X.xe s2) :
  wpAny ↥6 X.A (eval a X.env) (fun v s₁=>wpAny ↥6 X.A (eval b X.env) (fun u s₂=>wpAny ↥6 X.A (f v u) Q X.xe s₂) X.xe s₁) X.xe s:=by
 refine thn (ha pins s σ H _ I h) fun v s1 ⟨x,H1,I1,r1,q1⟩ => ?_
 refine thn (hb pins s1 σ H1 _ I1 q1) fun u s2 ⟨y,H2,I2,r2,q2⟩ => ?_
 exact hf v u s2 x y H2 I2 r1 r2 q2
def Ln (i:Nat):TE:=fun σ H Q=>∃ v,σ[i]? = some (some v)/\Q v H
def tC (v:V):TE:=fun _ H Q=>Q v H
theorem sP {i:Nat} {x:Str} {pos:Pos} (hN:X.N[i]? = some x) (hv:Vis X.env.scope x) (hd:(x == ("__debug__":Str))=false:=by decide) (hcd:(x == ("__classdict__":Str))=false:=by decide):PE X (.Name x pos) (Ln i):=by
 intro pins s σ H Q I h
 obtain ⟨v,e,h⟩:=h
 obtain ⟨m,hn,hl⟩:=I.loc
 obtain ⟨u,r,l⟩:=hl i x v hN e hv
 have fin:EP X pins σ Q u s:=⟨v,H,I,r,h⟩
 rcases l with ⟨hk,hm⟩ | ⟨hk,c,hc,hcell⟩
 ·exact wpAny_Name (wpAny_loadName_local I.ok.kind hk hn hm fin) hd
 ·rcases hk with hk | hk
  ·exact wpAny_Name (wpAny_loadName_cell I.ok.kind hk hc hcell fin) hd
  ·exact wpAny_Name (wpAny_loadName_free I.ok.kind hk hc hcell fin hcd) hd
theorem HF {i j pos}:PE X (.Constant (.int i) j pos) (tC (.int i)):=fun _ _ _ H _ I h=>wpAny_Constant_int ⟨.int i,H,I.tok _,⟨_,rfl⟩,h⟩
theorem Ky {b j pos}:PE X (.Constant (.bool b) j pos) (tC (.bl b)):=fun _ _ _ H _ I h=>Constant_bool ⟨.bl b,H,I,rfl,h⟩
theorem HD {j pos}:PE X (.Constant .none j pos) (tC .non):=fun _ _ _ H _ I h=>Constant_none ⟨.non,H,I,rfl,h⟩
theorem BO {x j pos}:PE X (.Constant (.str x) j pos) (tC (.str x)):=fun _ _ _ H _ I h=>Calls.Constant_str ⟨.str x,H,I.tok _,⟨_,rfl⟩,h⟩
def Gl (X:Cx) (x:Str):Prop:=X.env.kindOf x=some .globalImplicit
theorem kQ {E:Value->Shared->Prop} {pins:List ↥12} {s:Shared} {σ:St} {H:Hp} {x:Str} {u:Value} {pos:Pos} {Q:Value->Shared->Prop} (I:Inv X pins σ H s) (hg:Gl X x) (hm:X.mg x=some u) (h:Q u s)
  (hd:(x == ("__debug__":Str))=false:=by decide):wpAny ↥6 X.A (eval (.Name x pos) X.env) Q E s :=
 Calls.Name_function_global I.ok.kind hg (Calls.loadGlobal_global (by rw [I.ok.glob];exact I.mod.glob.keeps I.bk) hm h) hd
theorem xH {E:Value->Shared->Prop} {pins:List ↥12} {s:Shared} {σ:St} {H:Hp} {x:Str} {u:Value} {pos:Pos} {Q:Value->Shared->Prop} (I:Inv X pins σ H s) (hg:Gl X x) (hm:X.mg x=none) (hv:bootBuiltins x=some u) (h:Q u s)
  (hn:x≠"__name__":=by decide) (hd:(x == ("__debug__":Str))=false:=by decide):wpAny ↥6 X.A (eval (.Name x pos) X.env) Q E s:=by
 obtain ⟨mb,h1,h2⟩:=I.mod.blt
 exact Calls.Name_function_global I.ok.kind hg (Calls.loadGlobal_builtin (by rw [I.ok.glob];exact I.mod.glob.keeps I.bk) hm (by rw [I.ok.blt];exact h1.keeps I.bk) ((h2 x hn).trans hv) h) hd
theorem rj {x:Str} {v:V} {u:Value} {pos:Pos} (hg:Gl X x) (hm:X.mg x=some u) (r:RelV v u) (hd:(x == ("__debug__":Str))=false:=by decide):PE X (.Name x pos) (tC v) :=
 fun _ _ _ H _ I h=>kQ I hg hm ⟨v,H,I,r,h⟩ hd
theorem DT {x:Str} {v:V} {u:Value} {pos:Pos} (hg:Gl X x) (hm:X.mg x=none) (hv:bootBuiltins x=some u) (r:RelV v u) (hn:x≠"__name__":=by decide) (hd:(x == ("__debug__":Str))=false:=by decide):PE X (.Name x pos) (tC v) :=
 fun _ _ _ H _ I h=>xH I hg hm hv ⟨v,H,I,r,h⟩ hn hd
variable {a b:Expr} {ta tb:TE} {pos:Pos}
def tB (t:TE):TT:=fun σ H Q=>t σ H fun x H1=>∃ c,x=.bl c/\Q c H1
theorem Hs {e:Expr} {t:TE} (h:PE X e t) (he:∀ whole,isTrue e X.env whole=(do let v<-whole;standAt e.pos;holding [v] (truthy v)):=by intro _;rfl):PT X e (tB t):=by
 intro pins s σ H Q I hw
 refine isTrue_plain (thn (h pins s σ H _ I hw) fun v s1 ⟨x,H1,I1,r1,q1⟩ => ?_) (he _)
 obtain ⟨d,rfl,q⟩:=q1
 cases r1
 exact wpAny_truthy_bool ⟨H1,I1,q⟩
variable {tA tB':TT} {rest:List Expr}
def OV (t u:TT):TT:=fun σ H Q=>t σ H fun c H1=>if c=true then u σ H1 Q else Q false H1
def tOr (t u:TT):TT:=fun σ H Q=>t σ H fun c H1=>if c=true then Q true H1 else u σ H1 Q
def OM (t:TT):TT:=fun σ H Q=>t σ H fun c H1=>Q (!c) H1
theorem DL (ha:PT X a tA):PW X (.BoolOp .And [a] pos) tA:=by
 intro wh pins s σ H Q I h
 refine isTrue_and (thn (ha pins s σ H Q I h) fun c s1 e => ?_)
 cases c with
 | true=>exact isTrue_and_nil e
 | false=>exact e
theorem Hm (ha:PT X a tA):PW X (.BoolOp .Or [a] pos) tA:=by
 intro wh pins s σ H Q I h
 refine isTrue_or (thn (ha pins s σ H Q I h) fun c s1 e => ?_)
 cases c with
 | false=>exact isTrue_or_nil e
 | true=>exact e
theorem Hn (ha:PT X a tA) (hb:PW X (.BoolOp .And (b::rest) pos) tB'):PW X (.BoolOp .And (a::b::rest) pos) (OV tA tB'):=by
 intro wh pins s σ H Q I h
 refine isTrue_and (thn (ha pins s σ H _ I h) fun c s1 ⟨H1,I1,q1⟩ => ?_)
 cases c with
 | true=>exact hb wh pins s1 σ H1 Q I1 q1
 | false=>exact ⟨H1,I1,q1⟩
theorem Ko (ha:PT X a tA) (hb:PW X (.BoolOp .Or (b::rest) pos) tB'):PW X (.BoolOp .Or (a::b::rest) pos) (tOr tA tB'):=by
 intro wh pins s σ H Q I h
 refine isTrue_or (thn (ha pins s σ H _ I h) fun c s1 ⟨H1,I1,q1⟩ => ?_)
 cases c with
 | true=>exact ⟨H1,I1,q1⟩
 | false=>exact hb wh pins s1 σ H1 Q I1 q1
theorem Ht (ha:PT X a tA):PT X (.UnaryOp .Not a pos) (OM tA):=by
 intro pins s σ H Q I h
 exact isTrue_not (ha pins s σ H (fun c H1=>Q (!c) H1) I h)
def Kf (ta tb:TE):TE:=fun σ H Q=>ta σ H fun x H1=>∃ c,x=.bl c/\if c=true then tb σ H1 Q else Q ↥38 H1
def OL (ta tb:TE):TE:=fun σ H Q=>ta σ H fun x H1=>∃ c,x=.bl c/\if c=true then Q ↥24 H1 else tb σ H1 Q
def Ka (ta:TE):TE:=fun σ H Q=>ta σ H fun x H1=>∃ c,x=.bl c/\Q (.bl (!c)) H1
theorem HB {op} {t:TE} (h:PE X a t):PE X (.BoolOp op [a] pos) t:=fun pins s σ H Q I hw=>BoolOp_one (h pins s σ H Q I hw)
theorem HI (ha:PE X a ta) (hb:PE X (.BoolOp .And (b::rest) pos) tb):PE X (.BoolOp .And (a::b::rest) pos) (Kf ta tb):=by
 intro pins s σ H Q I h
 refine BoolOp_and (thn (ha pins s σ H _ I h) fun v s1 ⟨x,H1,I1,r1,q1⟩ => ?_)
 obtain ⟨c,rfl,q1⟩:=q1
 cases r1
 refine wpAny_truthy_bool ?_
 cases c with
 | true=>exact hb pins s1 σ H1 Q I1 q1
 | false=>exact ⟨.bl false,H1,I1,rfl,q1⟩
theorem Kv (ha:PE X a ta) (hb:PE X (.BoolOp .Or (b::rest) pos) tb):PE X (.BoolOp .Or (a::b::rest) pos) (OL ta tb):=by
 intro pins s σ H Q I h
 refine BoolOp_or (thn (ha pins s σ H _ I h) fun v s1 ⟨x,H1,I1,r1,q1⟩ => ?_)
 obtain ⟨c,rfl,q1⟩:=q1
 cases r1
 refine wpAny_truthy_bool ?_
 cases c with
 | false=>exact hb pins s1 σ H1 Q I1 q1
 | true=>exact ⟨.bl true,H1,I1,rfl,q1⟩
theorem HC (ha:PE X a ta):PE X (.UnaryOp .Not a pos) (Ka ta):=by
 intro pins s σ H Q I h
 refine UnaryOp_ (thn (ha pins s σ H _ I h) fun v s1 ⟨x,H1,I1,r1,q1⟩ => ?_)
 obtain ⟨c,rfl,q1⟩:=q1
 cases r1
 exact not_of (wpAny_truthy_bool ⟨.bl (!c),H1,I1,rfl,q1⟩)
def tIf (t:TT) (ta tb:TE):TE:=fun σ H Q=>t σ H fun c H1=>if c=true then ta σ H1 Q else tb σ H1 Q
theorem Aa {c:Expr} (hc:PT X c tA) (ha:PE X a ta) (hb:PE X b tb):PE X (.IfExp c a b pos) (tIf tA ta tb):=by
 intro pins s σ H Q I h
 refine wpAny_IfExp (thn (hc pins s σ H _ I h) fun d s1 ⟨H1,I1,q1⟩ => ?_)
 cases d with
 | true=>exact ha pins s1 σ H1 Q I1 q1
 | false=>exact hb pins s1 σ H1 Q I1 q1
end
end L2
namespace L2
open PySem PySem.Spec PyProof.Rows
def SqL (K:PySem.W.Frag) (H:Hp) (a:Addr) (xs:List V):Prop :=
 Rd H a (.lst xs) \/
  ∃ (o:Obj) (its:Array Value) (n:Nat),K.lookup a=some o/\o.cls=.type "list"/\o.dict=none/\o.data=.seq its n/\its.size<=sizeLine/\Vals xs its.toList
def SqT (K:PySem.W.Frag) (H:Hp) (a:Addr) (xs:List V):Prop :=
 Rd H a (.tup xs) \/
  ∃ (o:Obj) (its:Array Value) (n:Nat),K.lookup a=some o/\o.cls=.type "tuple"/\o.data=.seq its n/\its.size<=sizeLine/\Vals xs its.toList
def QU:Value->Option V
 | .none=>some .non
 | .bool b=>some (.bl b)
 | .int i _=>some (.int i)
 | .str x _=>some (.str x)
 | .bytes b _=>some (.byt b)
 | .float b _=>some (.flt b)
 | .ref a=>some (.ref a)
 | .type n=>some (.ty n)
 | _=>none
theorem RelV.abs {x:V} {u:Value} (r:RelV x u):QU u=some x:=by
 cases x with
 | non=>cases r;rfl
 | bl _=>cases r;rfl
 | int _=>obtain ⟨t,rfl⟩:=r;rfl
 | str _=>obtain ⟨t,rfl⟩:=r;rfl
 | byt _=>obtain ⟨t,rfl⟩:=r;rfl
 | flt _=>obtain ⟨t,rfl⟩:=r;rfl
 | ref _=>cases r;rfl
 | ty _=>cases r;rfl
theorem RelV.inj {x y:V} {u:Value} (r:RelV x u) (q:RelV y u):x=y:=Option.some.inj (r.abs.symm.trans q.abs)
theorem Vals.inj:∀ {xs ys:List V} {us:List Value},Vals xs us->Vals ys us->xs=ys
 | _,_,_,.nil,.nil=>rfl
 | _,_,_,.cons r t,.cons r' t'=>by rw [r.inj r',Vals.inj t t']
section
variable {X:Cx} {pins:List ↥12} {σ:St} {H:Hp} {s:Shared} {a:Addr} {xs ys:List V}
theorem SqL.of {K:PySem.W.Frag} (h:H a=some (.lst xs)):SqL K H a xs:=.inl (.inl h)
theorem SqT.of {K:PySem.W.Frag} (h:H a=some (.tup xs)):SqT K H a xs:=.inl (.inl h)
theorem Inv.list (I:Inv X pins σ H s) (h:SqL X.K H a xs):∃ its:List Value,Vals xs its/\PlainL s.heap a its.toArray/\xs.length<=sizeLine:=by
 rcases h with h | ⟨o,its,n,hk,hc,hd,hs,hz,r⟩
 ·obtain ⟨z,its,n,r,e⟩:=h.ok I.hok
  exact ⟨its,r,⟨_,n,e,rfl,rfl,rfl⟩,z⟩
 ·refine ⟨its.toList,r,⟨o,n,I.kIn a o hk,hc,hd,by simpa using hs⟩,?_⟩
  have e:=r.length
  simp only [Array.length_toList] at e
  omega
theorem Inv.tuple (I:Inv X pins σ H s) (h:SqT X.K H a xs):∃ its:List Value,Vals xs its/\IsTup s.heap a its.toArray/\xs.length<=sizeLine:=by
 rcases h with h | ⟨o,its,n,hk,hc,hs,hz,r⟩
 ·obtain ⟨z,its,r,p⟩:=h.ok I.hok
  exact ⟨its,r,p,z⟩
 ·refine ⟨its.toList,r,⟨o,I.kIn a o hk,hc,n,by simpa using hs⟩,?_⟩
  have e:=r.length
  simp only [Array.length_toList] at e
  omega
theorem Inv.list_inj (I:Inv X pins σ H s) (h:SqL X.K H a xs) (h':SqL X.K H a ys):xs=ys:=by
 obtain ⟨its,r,⟨o,n,e,_,_,d⟩,_⟩:=I.list h
 obtain ⟨its',r',⟨o',n',e',_,_,d'⟩,_⟩:=I.list h'
 rw [e] at e';cases e'
 rw [d] at d'
 injection d' with d1 _
 have:its=its':=by simpa using congrArg Array.toList d1
 subst this
 exact r.inj r'
theorem Inv.tuple_inj (I:Inv X pins σ H s) (h:SqT X.K H a xs) (h':SqT X.K H a ys):xs=ys:=by
 obtain ⟨its,r,⟨o,e,_,n,d⟩,_⟩:=I.tuple h
 obtain ⟨its',r',⟨o',e',_,n',d'⟩,_⟩:=I.tuple h'
 rw [e] at e';cases e'
 rw [d] at d'
 injection d' with d1 _
 have:its=its':=by simpa using congrArg Array.toList d1
 subst this
 exact r.inj r'
end
abbrev Cx.wish (X:Cx) (E:Value->Shared->Prop):Cx:={ X with xe:=E }
abbrev Cx.nox (X:Cx):Cx:=X.wish fun _ _=>False
theorem Cx.Ok.wish {X:Cx} (ok:X.Ok) (E:Value->Shared->Prop):(X.wish E).Ok :=
 ⟨ok.mod,ok.kind,ok.glob,ok.blt,ok.above,ok.inj,ok.has,ok.cab,ok.hd,ok.frames,ok.stk,ok.exf,ok.bs,ok.bsz,ok.noex,ok.exfs,ok.funs,ok.frf⟩
theorem Cx.Ok.unwish {X:Cx} {E:Value->Shared->Prop} (ok:(X.wish E).Ok):X.Ok :=
 ⟨ok.mod,ok.kind,ok.glob,ok.blt,ok.above,ok.inj,ok.has,ok.cab,ok.hd,ok.frames,ok.stk,ok.exf,ok.bs,ok.bsz,ok.noex,ok.exfs,ok.funs,ok.frf⟩
section
variable {X:Cx} {pins:List ↥12} {σ:St} {H:Hp} {s:Shared} {E:Value->Shared->Prop}
theorem Inv.wish (I:Inv X pins σ H s) (E:Value->Shared->Prop):Inv (X.wish E) pins σ H s:=⟨I.ok.wish E,I.os,I.bare,I.base,I.loc,I.cell,I.free,I.freeC,I.pin,I.hok,I.len⟩
theorem Inv.unwish (I:Inv (X.wish E) pins σ H s):Inv X pins σ H s:=⟨I.ok.unwish,I.os,I.bare,I.base,I.loc,I.cell,I.free,I.freeC,I.pin,I.hok,I.len⟩
theorem SP.unwish {D:Ends} {f:Flow} {s':Shared} (h:SP (X.wish E) pins D f s'):SP X pins D f s':=by
 cases f with
 | next=>obtain ⟨σ',H',I,q⟩:=h;exact ⟨σ',H',I.unwish,q⟩
 | brk=>obtain ⟨σ',H',I,q⟩:=h;exact ⟨σ',H',I.unwish,q⟩
 | cont=>obtain ⟨σ',H',I,q⟩:=h;exact ⟨σ',H',I.unwish,q⟩
 | ret u=>obtain ⟨v,σ',H',I,r,q⟩:=h;exact ⟨v,σ',H',I.unwish,r,q⟩
theorem PSs.nox {st:List Stmt} {t:TS} (h:PSs X.nox st t):PSs X st t:=fun pins s σ H D I hw =>
 wpAny_mono (h pins s σ H D (I.wish _) hw) (fun _ _ q=>q.unwish) fun _ _ z=>False.elim z
end
section
variable {X:Cx} {st:Stmt} {rest:List Stmt} {t u:TS} {e:Expr} {te:TE} {pos:Pos}
def Kb:TS:=fun D σ H=>D.nx σ H
def OJ (t u:TS):TS:=fun D σ H=>t { D with nx:=u D } σ H
theorem DM:PSs X [] Kb:=fun _ _ σ H _ I h=>wpAny_execs_nil ⟨σ,H,I,h⟩
theorem zU (h1:PS X st t) (h2:PSs X rest u):PSs X (st::rest) (OJ t u):=by
 intro pins s σ H D I h
 refine wpAny_execs_cons (thn (h1 pins s σ H { D with nx:=u D } I h) fun f s1 q => ?_)
 cases f with
 | next =>
  obtain ⟨σ',H',I',q⟩:=q
  exact h2 pins s1 σ' H' D I' q
 | ret v=>exact q
 | brk=>exact q
 | cont=>exact q
theorem wy (h1:PS X st t):PSs X [st] t:=by
 intro pins s σ H D I h
 refine wpAny_execs_cons (thn (h1 pins s σ H D I h) fun f s1 q => ?_)
 cases f with
 | next=>exact wpAny_execs_nil q
 | ret v=>exact q
 | brk=>exact q
 | cont=>exact q
theorem Inv.quiet {pins:List ↥12} {σ:St} {H:Hp} {s:Shared} (I:Inv X pins σ H s):interactive X.env=false:=by simp [interactive,I.ok.kind]
def Kd (te:TE):TS:=fun D σ H=>te σ H fun _ H1=>D.nx σ H1
theorem DN (he:PE X e te) (hs:swapsWith e none pos.line X.env=pure false:=by rfl):PS X (.Expr e pos) (Kd te):=by
 intro pins s σ H D I h
 exact wpAny_Expr_any (thn (he pins s σ H _ I h) fun v s1 ⟨x,H1,I1,r1,q1⟩=>⟨σ,H1,I1,q1⟩) I.quiet hs
def OK (te:TE):TS:=fun D σ H=>te σ H D.rt
theorem Hv (he:PE X e te):PS X (.Return (some e) pos) (OK te):=by
 intro pins s σ H D I h
 exact wpAny_Return_some (thn (he pins s σ H _ I h) fun v s1 ⟨x,H1,I1,r1,q1⟩=>⟨x,σ,H1,I1,r1,q1⟩)
def OP (c:TT) (t u:TS):TS:=fun D σ H=>c σ H fun b H1=>if b=true then t D σ H1 else u D σ H1
theorem Kr {c:Expr} {a b:List Stmt} {tc:TT} (hc:PT X c tc) (ha:PSs X a t) (hb:PSs X b u):PS X (.If c a b pos) (OP tc t u):=by
 intro pins s σ H D I h
 refine wpAny_If (thn (hc pins s σ H _ I h) fun d s1 ⟨H1,I1,q1⟩ => ?_)
 cases d with
 | true=>exact ha pins s1 σ H1 D I1 q1
 | false=>exact hb pins s1 σ H1 D I1 q1
end
abbrev TG:=V->St->Hp->(St->Hp->Prop)->Prop
abbrev TGs:=List V->St->Hp->(St->Hp->Prop)->Prop
def PG (X:Cx) (target:Expr) (t:TG):Prop :=
 ∀ (pins:List ↥12) (s:Shared) (σ:St) (H:Hp) (v:V) (u:Value) (Q:St->Hp->Prop),Inv X pins σ H s->RelV v u->t v σ H Q ->
  wpAny ↥6 X.A (assign target X.env u) (fun _ s'=>∃ σ' H',Inv X pins σ' H' s'/\Q σ' H') X.xe s
section
variable {X:Cx} {pos:Pos}
def uN (i:Nat):TG:=fun v σ H Q=>Q (σ.set i (some v)) H
theorem ri {i:Nat} {x:Str} (hN:X.N.Nodup) (hi:X.N[i]? = some x) (hx:Loc X.env.scope x) (hf:X.fn x=true\/X.env.scope.names.lookup x=some .local:=by first | exact .inl rfl | exact .inr rfl | assumption):PG X (.Name x pos) (uN i):=by
 intro pins s σ H v u Q I r h
 exact wpAny_assign_Name (m7 I hN hi hx r (fun s' I'=>⟨_,H,I',h⟩) hf)
def QI:TGs:=fun vs σ H Q=>vs=[]/\Q σ H
def KZ (t:TG) (u:TGs):TGs:=fun vs σ H Q=>∃ v r,vs=v::r/\t v σ H fun σ' H'=>u r σ' H' Q
def OU (te:TE) (g:TG):TS:=fun D σ H=>te σ H fun x H1=>g x σ H1 D.nx
theorem Hu {i:Nat} {x:Str} {e:Expr} {te:TE} {pos':Pos} (hN:X.N.Nodup) (hi:X.N[i]? = some x) (hx:Loc X.env.scope x) (he:PE X e te) (hs:swapsWith e (some (.Name x pos')) pos.line X.env=pure false:=by rfl) (hf:X.fn x=true\/X.env.scope.names.lookup x=some .local:=by first | exact .inl rfl | exact .inr rfl | assumption) :
  PS X (.Assign [.Name x pos'] e pos) (OU te (uN i)):=by
 intro pins s σ H D I h
 refine wpAny_Assign_Name (thn (he pins s σ H _ I h) fun v s1 ⟨y,H1,I1,r1,q1⟩ => ?_) hs
 exact m7 I1 hN hi hx r1 (fun s2 I2=>⟨_,H1,I2,q1⟩) hf
end
section
variable {X:Cx} {pos:Pos}
def BI (c:TT) (tb:TS):TS:=fun D σ H=>∃ W:Nat->St->Hp->Prop,(∃ m,W m σ H)/\∀ m σ H,W m σ H ->
 c σ H fun b H1=>if b=true then ∃ N:St->Hp->Prop,(∀ σ' H',N σ' H'->∃ m',m'<m/\W m' σ' H')/\tb { D with nx:=N,ct:=N,bk:=D.nx } σ H1 else D.nx σ H1
theorem zV {c:Expr} {body:List Stmt} {tc:TT} {tb:TS} (hp:PassesOwn ↥6 X.A X.env X.xe) (hc:PT X c tc) (hb:PSs X body tb):PS X (.While c body [] pos) (BI tc tb):=by
 intro pins s σ H D I h
 obtain ⟨W,⟨m0,w0⟩,turn⟩:=h
 refine wpAny_While (codeAny_whileLoop (fun n s'=>∃ σ' H',Inv X pins σ' H' s'/\W n σ' H') ?_ m0 ⟨σ,H,I,w0⟩)
 rintro n s1 ⟨σ1,H1,I1,w1⟩
 refine wpAny_passesOwn hp (thn (hc pins s1 σ1 H1 _ I1 (turn n σ1 H1 w1)) fun b s2 ⟨H2,I2,q2⟩ => ?_)
 cases b with
 | true =>
  obtain ⟨N,hN,q2⟩:=q2
  rw [if_pos rfl]
  refine wpAny_passesOwn hp (thn (hb pins s2 σ1 H2 _ I2 q2) fun f s3 q3 => ?_)
  cases f with
  | next =>
   obtain ⟨σ3,H3,I3,n3⟩:=q3
   obtain ⟨m',hm,w3⟩:=hN σ3 H3 n3
   exact ⟨m',hm,σ3,H3,I3,w3⟩
  | cont =>
   obtain ⟨σ3,H3,I3,n3⟩:=q3
   obtain ⟨m',hm,w3⟩:=hN σ3 H3 n3
   exact ⟨m',hm,σ3,H3,I3,w3⟩
  | brk=>exact q3
  | ret v=>exact q3
 | false =>
  rw [if_neg Bool.false_ne_true]
  exact wpAny_execs_nil ⟨σ1,H2,I2,q2⟩
end
structure It where
 go:Nat->Hp->Prop
 yld:Nat->Hp->V->Hp->Prop
 stop:Nat->Hp->Prop
def vo (X:Cx) (pins:List ↥12) (H:Hp) (b:Addr):Prop :=
 H b=none/\b≠X.env.locals/\b∉X.fs/\(b∈X.ex\/X.s₀.heap.objs.size<=b)/\(∀ x c,X.env.cells.lookup x=some c->c≠b)/\∀ p∈X.pn++pins,p.1≠b
theorem Inv.fpOk {X:Cx} {pins:List ↥12} {σ:St} {H H':Hp} {s:Shared} {b:Addr} (I:Inv X pins σ H s) (hb:s.heap.objs.size<=b) (hn:H' b=none):vo X pins H' b:=by
 refine ⟨hn,Nat.ne_of_gt (Nat.lt_of_lt_of_le I.lt hb),I.nofs hb,.inr (Nat.le_trans I.sz hb),fun x c e z => ?_,fun p hp z => ?_⟩
 ·obtain ⟨v,q⟩:=I.cell x c e
  exact absurd (Nat.lt_of_lt_of_le q.lt (by rw [z];exact hb)) (Nat.lt_irrefl _)
 ·exact absurd (Nat.lt_of_lt_of_le (Heap.lt_size (I.pin p hp).1) (by rw [z];exact hb)) (Nat.lt_irrefl _)
structure Turn (P:Program) (w:World) (K:PySem.W.Frag) (tg:Expr) (J:It) (fp:List Addr) (it:Addr) (tn:Nat->Heap->Prop):Prop where
 mem:it∈fp
 obj:∀ i h,tn i h->∀ b∈fp,∃ o,h.get? b=some o/\∀ v,o.data ≠ .cell v
 keep:∀ i h h',tn i h->(∀ b∈fp,∀ o,h.get? b=some o->h'.get? b=some o)->tn i h'
 item:∀ (X:Cx),X.prog=P->X.w=w->X.K=K->X.calm=true->∀ (i:Nat) (pins:List ↥12) (s:Shared) (σ:St) (H:Hp) (E:Value->Shared->Prop),Inv X pins σ H s->(∀ b∈fp,vo X pins H b)->tn i s.heap->J.go i H ->
  wpAny (model P w) X.A (pyNext (.ref it)) (fun r s1=>∃ u,r=some u /\
   wpAny (model P w) X.A (letOwnedTupleGo tg (.ref it) u) (fun _ s2=>∃ x H',Inv X pins σ H' s2/\RelV x u/\J.yld i H x H'/\tn (i+1) s2.heap/\∀ b∈fp,H' b=none) E s1) E s
 done:∀ (X:Cx),X.prog=P->X.w=w->X.K=K->X.calm=true->∀ (i:Nat) (pins:List ↥12) (s:Shared) (σ:St) (H:Hp) (E:Value->Shared->Prop),Inv X pins σ H s->(∀ b∈fp,vo X pins H b)->tn i s.heap->J.stop i H ->
  wpAny (model P w) X.A (pyNext (.ref it)) (fun r s1=>r=none/\Inv X pins σ H s1) E s
 self:∀ (A:Around) (i:Nat) (s:Shared) (Q:Value->Shared->Prop) (E:Value->Shared->Prop),tn i s.heap->Q (.ref it) s->wpAny (model P w) A (pyIter (.ref it)) Q E s
abbrev TI:=St->Hp->(It->Hp->Prop)->Prop
def PIE (X:Cx) (pins:List ↥12) (σ:St) (tg:Expr) (R:It->Hp->Prop) (itv:Value) (s2:Shared):Prop :=
 ∃ (it:Addr) (fp:List Addr) (tn:Nat->Heap->Prop) (J:It) (H':Hp),itv=.ref it/\Inv X pins σ H' s2/\Turn X.prog X.w X.K tg J fp it tn/\tn 0 s2.heap/\(∀ b∈fp,vo X pins H' b)/\R J H'
def PI (X:Cx) (tg iter:Expr) (wi:TI):Prop :=
 ∀ (pins:List ↥12) (s:Shared) (σ:St) (H:Hp) (R:It->Hp->Prop),Inv X pins σ H s->wi σ H R ->
  wpAny ↥6 X.A (eval iter X.env) (fun v s1=>wpAny ↥6 X.A (pyIter v) (PIE X pins σ tg R) X.xe s1) X.xe s
theorem II {M:Model} {A:Around} {E:Value->Shared->Prop} {s:Shared} {tg:Expr} {it:Addr} {u:Value} {o:Obj} {n:String} {vs:Array Value} {Q:Unit->Shared->Prop} (ho:s.heap.get? it=some o) (hc:o.cls=.type n) (hd:o.data=.fields vs)
  (hn:["enumerate","zip","dict_itemiterator","dict_reverseitemiterator","odict_iterator","itertools.zip_longest","itertools.pairwise"].contains n=false) (hQ:Q () s):wpAny M A (letOwnedTupleGo tg (.ref it) u) Q E s:=by
 unfold letOwnedTupleGo
 cases tg<;>first
  | exact wpAny_pure hQ
  | (cases u<;>first
    | exact wpAny_pure hQ
    | (refine wpAny_bind (wpAny_load ho ?_)
       rw [hc,hd]
       show wpAny M A (if (["enumerate","zip","dict_itemiterator","dict_reverseitemiterator","odict_iterator","itertools.zip_longest","itertools.pairwise"].contains n&&vs[0]? == some (rawInt _))=true then _ else _) Q E s
       rw [if_neg (by intro h;rw [hn,Bool.false_and] at h;cases h)]
       exact wpAny_pure hQ))
def Itl (K:PySem.W.Frag) (a:Addr):It :=
 ⟨fun i H=>∃ xs x,SqL K H a xs/\xs[i]? = some x,fun i H x H'=>H'=H/\∀ xs,SqL K H a xs->xs[i]? = some x,fun i H=>∃ xs,SqL K H a xs/\xs.length<=i⟩
def Itt (K:PySem.W.Frag) (a:Addr):It :=
 ⟨fun i H=>∃ xs x,SqT K H a xs/\xs[i]? = some x,fun i H x H'=>H'=H/\∀ xs,SqT K H a xs->xs[i]? = some x,fun i H=>∃ xs,SqT K H a xs/\xs.length<=i⟩
theorem vR {P:Program} {w:World} {K:PySem.W.Frag} {tg:Expr} (a it:Addr):Turn P w K tg (Itl K a) [it] it (fun i h=>h.IsListIter it a i) where
 mem:=by simp
 obj:=fun i h st b hb=>by
  have e:b=it:=by simpa using hb
  subst e
  obtain ⟨o,e,c,d⟩:=st
  exact ⟨o,e,fun v z=>by rw [d] at z;cases z⟩
 keep:=fun i h h' st k=>st.at fun o e=>k it (by simp) o e
 item:=by
  intro X hP hw hK hc i pins s σ H E I hf st hg
  subst hP hw hK
  obtain ⟨xs,x,hq,hx⟩:=hg
  obtain ⟨its,rv,p,hz⟩:=I.list hq
  obtain ⟨u,hu,ru⟩:=rv.get hx
  obtain ⟨f0,f1,f2,f3,f4,f5⟩:=hf it (by simp)
  refine wpAny_pyNext_list_item st p.isList (x:=u) (by simpa using hu) fun h' st' sb => ?_
  have I1:Inv X pins σ H { s with heap:=h' }:=I.turned (t':=s.toks) (fun b o hb e=>(sb.2 b hb).trans e) f0 f1 f3 f4 f5
  obtain ⟨o,e,c,d⟩:=id st'
  exact ⟨u,rfl,II (s:={ s with heap:=h' }) e c d ↥3 ⟨x,H,I1,ru,⟨rfl,fun ys hy=>by rw [I.list_inj hy hq];exact hx⟩,st',fun b hb=>(hf b hb).1⟩⟩
 done:=by
  intro X hP hw hK hc i pins s σ H E I hf st hg
  subst hP hw hK
  obtain ⟨xs,hq,hx⟩:=hg
  obtain ⟨its,rv,p,hz⟩:=I.list hq
  obtain ⟨f0,f1,f2,f3,f4,f5⟩:=hf it (by simp)
  have hl:=rv.length
  exact wpAny_pyNext_list_end (I.ok.hd hc) st p.isList (by simp;omega) fun h' eb=>⟨rfl,I.turned (t':=s.toks) (fun b o hb e=>eb b o hb e) f0 f1 f3 f4 f5⟩
 self:=fun _ _ _ _ _ st h=>wpAny_pyIter_listiter st h
theorem ub {P:Program} {w:World} {K:PySem.W.Frag} {tg:Expr} (a it:Addr):Turn P w K tg (Itt K a) [it] it (fun i h=>h.IsTupleIter it a i) where
 mem:=by simp
 obj:=fun i h st b hb=>by
  have e:b=it:=by simpa using hb
  subst e
  obtain ⟨o,e,c,d⟩:=st
  exact ⟨o,e,fun v z=>by rw [d] at z;cases z⟩
 keep:=fun i h h' st k=>st.at fun o e=>k it (by simp) o e
 item:=by
  intro X hP hw hK hc i pins s σ H E I hf st hg
  subst hP hw hK
  obtain ⟨xs,x,hq,hx⟩:=hg
  obtain ⟨its,rv,p,hz⟩:=I.tuple hq
  obtain ⟨u,hu,ru⟩:=rv.get hx
  obtain ⟨f0,f1,f2,f3,f4,f5⟩:=hf it (by simp)
  refine wpAny_pyNext_tuple_item st (show s.heap.IsTuple a its.toArray from p) (x:=u) (by simpa using hu) fun h' st' sb => ?_
  have I1:Inv X pins σ H { s with heap:=h' }:=I.turned (t':=s.toks) (fun b o hb e=>(sb.2 b hb).trans e) f0 f1 f3 f4 f5
  obtain ⟨o,e,c,d⟩:=id st'
  exact ⟨u,rfl,II (s:={ s with heap:=h' }) e c d ↥3 ⟨x,H,I1,ru,⟨rfl,fun ys hy=>by rw [I.tuple_inj hy hq];exact hx⟩,st',fun b hb=>(hf b hb).1⟩⟩
 done:=by
  intro X hP hw hK hc i pins s σ H E I hf st hg
  subst hP hw hK
  obtain ⟨xs,hq,hx⟩:=hg
  obtain ⟨its,rv,p,hz⟩:=I.tuple hq
  obtain ⟨f0,f1,f2,f3,f4,f5⟩:=hf it (by simp)
  have hl:=rv.length
  exact wpAny_pyNext_tuple_end (I.ok.hd hc) st (show s.heap.IsTuple a its.toArray from p) (by simp;omega) fun h' eb=>⟨rfl,I.turned (t':=s.toks) (fun b o hb e=>eb b o hb e) f0 f1 f3 f4 f5⟩
 self:=fun _ _ _ _ _ st h=>wpAny_pyIter_tupleiter st h
end L2
namespace L2
open PySem PySem.Spec PyProof.Rows
section
variable {X:Cx} {tg:Expr}
def KY (K:PySem.W.Frag) (tl:TE):TI:=fun σ H R=>tl σ H fun x H1=>∃ a,x=.ref a/\(∃ xs,SqL K H1 a xs)/\R (Itl K a) H1
def QH (K:PySem.W.Frag) (tl:TE):TI:=fun σ H R=>tl σ H fun x H1=>∃ a,x=.ref a/\(∃ xs,SqT K H1 a xs)/\R (Itt K a) H1
theorem DR {l:Expr} {tl:TE} (hl:PE X l tl):PI X tg l (KY X.K tl):=by
 intro pins s σ H R I h
 refine thn (hl pins s σ H _ I h) fun v s1 ⟨x,H1,I1,r1,q1⟩ => ?_
 obtain ⟨a,e,⟨xs,hq⟩,q⟩:=q1
 subst e
 cases r1
 obtain ⟨its,rv,p,hz⟩:=I1.list hq
 refine wpAny_pyIter_list p.isList ?_
 refine ⟨s1.heap.objs.size,[s1.heap.objs.size],_,_,H1,rfl,I1.kept (t':=s1.toks) fun b o e=>Heap.get?_push_of_some _ e,vR a _,⟨_,Heap.get?_push_size _ rfl,rfl,rfl⟩,fun b hb => ?_,q⟩
 have e:b=s1.heap.objs.size:=by simpa using hb
 subst e
 exact I1.fpOk (Nat.le_refl _) (I1.hok.fresh (Nat.le_refl _))
theorem Hz {l:Expr} {tl:TE} (hl:PE X l tl):PI X tg l (QH X.K tl):=by
 intro pins s σ H R I h
 refine thn (hl pins s σ H _ I h) fun v s1 ⟨x,H1,I1,r1,q1⟩ => ?_
 obtain ⟨a,e,⟨xs,hq⟩,q⟩:=q1
 subst e
 cases r1
 obtain ⟨its,rv,p,hz⟩:=I1.tuple hq
 refine wpAny_pyIter_tuple (show s1.heap.IsTuple a its.toArray from p) ?_
 refine ⟨s1.heap.objs.size,[s1.heap.objs.size],_,_,H1,rfl,I1.kept (t':=s1.toks) fun b o e=>Heap.get?_push_of_some _ e,ub a _,⟨_,Heap.get?_push_size _ rfl,rfl,rfl⟩,fun b hb => ?_,q⟩
 have e:b=s1.heap.objs.size:=by simpa using hb
 subst e
 exact I1.fpOk (Nat.le_refl _) (I1.hok.fresh (Nat.le_refl _))
def OR (wi:TI) (g:TG) (tb:TS):TS:=fun D σ H=>wi σ H fun J H1=>∃ W:Nat->Nat->St->Hp->Prop,(∃ m,W 0 m σ H1)/\∀ i m σ H,W i m σ H ->
 (J.stop i H/\D.nx σ H)\/(J.go i H/\∃ N:St->Hp->Prop,(∀ σ' H',N σ' H'->∃ m',m'<m/\W (i+1) m' σ' H')/\∀ x H',J.yld i H x H'->g x σ H' fun σ2 H2=>tb { D with nx:=N,ct:=N,bk:=D.nx } σ2 H2)
def l4 (fp:List Addr) (h:Heap):List ↥12:=fp.filterMap fun b=>(h.get? b).map fun o=>(b,o)
theorem dq {fp:List Addr} {h:Heap} {b:Addr} {o:Obj} (hb:b∈fp) (e:h.get? b=some o):(b,o)∈l4 fp h:=List.mem_filterMap.mpr ⟨b,hb,by rw [e];rfl⟩
theorem pM {fp:List Addr} {h:Heap} {p:Addr×Obj} (hp:p∈l4 fp h):p.1∈fp/\h.get? p.1=some p.2:=by
 obtain ⟨b,hb,e⟩:=List.mem_filterMap.mp hp
 cases q:h.get? b with
 | none=>rw [q] at e;cases e
 | some o =>
  rw [q] at e
  have e':(b,o)=p:=Option.some.inj e
  subst e'
  exact ⟨hb,q⟩
theorem Inv.pinned {pins:List ↥12} {σ:St} {H:Hp} {s:Shared} {fp:List Addr} (I:Inv X pins σ H s) (hf:∀ b∈fp,vo X pins H b) (ho:∀ b∈fp,∃ o,s.heap.get? b=some o/\∀ v,o.data ≠ .cell v):Inv X (pins++l4 fp s.heap) σ H s :=
 I.pins_of fun p hp=>(List.mem_append.mp hp).elim (fun z=>I.pin p (List.mem_append_right _ z)) fun z=>by
  obtain ⟨hb,e⟩:=pM z
  obtain ⟨f0,f1,f2,_⟩:=hf p.1 hb
  obtain ⟨o,e',d⟩:=ho p.1 hb
  rw [e] at e';cases e'
  exact ⟨e,f0,f1,f2,d⟩
theorem Inv.unpinned {pins pl:List ↥12} {σ:St} {H:Hp} {s:Shared} (I:Inv X (pins++pl) σ H s):Inv X pins σ H s:=I.pins_of fun p hp=>I.pin p (List.mem_append_right _ (List.mem_append_left _ hp))
theorem Hw {iter:Expr} {body:List Stmt} {wi:TI} {g:TG} {tb:TS} {pos:Pos} (hp:PassesOwn ↥6 X.A X.env X.xe) (hc:X.calm=true) (hi:PI X tg iter wi) (hg:PG X tg g) (hb:PSs X body tb)
  (hs:∀ x,foldedSetIterable iter X.env x=pure x:=by intro _;rfl):PS X (.For tg iter body [] pos) (OR wi g tb):=by
 intro pins s σ H D I h
 refine wpAny_For (thn (hi pins s σ H _ I h) fun v s1 h1=>thn h1 fun itv s2 h2 => ?_) hs
 obtain ⟨it,fp,tn,J,H2,e,I2,T,st2,f2,W,⟨m0,w0⟩,turn⟩:=h2
 subst e
 have stat:∀ {H':Hp},(∀ b∈fp,H' b=none)->∀ b∈fp,vo X pins H' b:=fun hn b hb=>⟨hn b hb,(f2 b hb).2⟩
 refine codeAny_forLoop_any (fun n s'=>∃ i σ' H',Inv X pins σ' H' s'/\tn i s'.heap/\(∀ b∈fp,H' b=none)/\W i n σ' H') ?_ m0 ⟨0,σ,H2,I2,st2,fun b hb=>(f2 b hb).1,w0⟩
 rintro n s3 ⟨i,σ3,H3,I3,st3,fr3,w3⟩
 rcases turn i n σ3 H3 w3 with ⟨stop,qn⟩ | ⟨go,N,hN,step⟩
 ·refine wpAny_passesOwn hp (thn (T.done X rfl rfl rfl hc i pins s3 σ3 H3 X.xe I3 (stat fr3) st3 stop) fun r s4 ⟨hr,I4⟩ => ?_)
  subst hr
  exact wpAny_execs_nil ⟨σ3,H3,I4,qn⟩
 ·refine wpAny_passesOwn hp (thn (T.item X rfl rfl rfl hc i pins s3 σ3 H3 X.xe I3 (stat fr3) st3 go) fun r s4 ⟨u,hr,h4⟩ => ?_)
  subst hr
  refine wpAny_passesOwn hp (thn h4 fun _ s5 ⟨x,H5,I5,r5,y5,st5,fr5⟩ => ?_)
  have I5':=I5.pinned (stat fr5) (T.obj _ _ st5)
  refine wpAny_passesOwn hp (thn (hg _ s5 σ3 H5 x u _ I5' r5 (step x H5 y5)) fun _ s6 ⟨σ6,H6,I6,q6⟩ => ?_)
  refine wpAny_passesOwn hp (thn (hb _ s6 σ6 H6 _ I6 q6) fun f s7 q7 => ?_)
  have again:∀ {σ7:St} {H7:Hp},Inv X (pins++l4 fp s5.heap) σ7 H7 s7->N σ7 H7->∃ m,m<n/\∃ i σ' H',Inv X pins σ' H' s7/\tn i s7.heap/\(∀ b∈fp,H' b=none)/\W i m σ' H':=fun {σ7 H7} I7 n7=>by
   obtain ⟨m',hm,w7⟩:=hN σ7 H7 n7
   refine ⟨m',hm,i+1,σ7,H7,I7.unpinned,T.keep _ _ _ st5 fun b hb o e=>(I7.pin (b,o) (List.mem_append_right _ (List.mem_append_right _ (dq hb e)))).1,fun b hb => ?_,w7⟩
   obtain ⟨o,e,d⟩:=T.obj _ _ st5 b hb
   exact (I7.pin (b,o) (List.mem_append_right _ (List.mem_append_right _ (dq hb e)))).2.1
  cases f with
  | next=>obtain ⟨σ7,H7,I7,n7⟩:=q7;exact again I7 n7
  | cont=>obtain ⟨σ7,H7,I7,n7⟩:=q7;exact again I7 n7
  | brk=>obtain ⟨σ7,H7,I7,q7⟩:=q7;exact ⟨σ7,H7,I7.unpinned,q7⟩
  | ret v=>obtain ⟨x7,σ7,H7,I7,r7,q7⟩:=q7;exact ⟨x7,σ7,H7,I7.unpinned,r7,q7⟩
end
theorem sE {c:TT} {tb:TS} {D:Ends} {σ:St} {H:Hp} (Pv:St->Hp->Prop) (μ:St->Hp->Nat) (h0:Pv σ H)
  (hs:∀ σ H,Pv σ H->c σ H fun b H1=>if b=true then tb { D with nx:=fun σ' H'=>Pv σ' H'/\μ σ' H'<μ σ H,ct:=fun σ' H'=>Pv σ' H'/\μ σ' H'<μ σ H,bk:=D.nx } σ H1 else D.nx σ H1)
  (mono:∀ σ H Q Q',(∀ b H1,Q b H1->Q' b H1)->c σ H Q->c σ H Q'):BI c tb D σ H:=by
 refine ⟨fun m σ H=>m=μ σ H/\Pv σ H,⟨_,rfl,h0⟩,?_⟩
 rintro m σ H ⟨rfl,p⟩
 refine mono σ H _ _ (fun b H1 q => ?_) (hs σ H p)
 cases b with
 | true=>exact ⟨_,fun σ' H' ⟨p',l⟩=>⟨_,l,rfl,p'⟩,q⟩
 | false=>exact q
end L2
namespace L2
open PySem PySem.Spec PyProof.Rows
abbrev R2:=V->V->Hp->VK->Prop
def OpR (X:Cx) (f:Value->Value->Sem Value) (r:R2):Prop :=
 ∀ (pins:List ↥12) (s:Shared) (σ:St) (H:Hp) (x y:V) (v u:Value) (Q:VK),Inv X pins σ H s->RelV x v->RelV y u->r x y H Q ->
  wpAny ↥6 X.A (f v u) (EP X pins σ Q) X.xe s
def UnR (X:Cx) (f:Value->Sem Value) (r:V->Hp->VK->Prop):Prop :=
 ∀ (pins:List ↥12) (s:Shared) (σ:St) (H:Hp) (x:V) (v:Value) (Q:VK),Inv X pins σ H s->RelV x v->r x H Q ->
  wpAny ↥6 X.A (f v) (EP X pins σ Q) X.xe s
def jZ (X:Cx) (f:Value) (r:List V->Hp->VK->Prop):Prop :=
 ∀ (pins:List ↥12) (s:Shared) (σ:St) (H:Hp) (xs:List V) (us:List Value) (Q:VK),Inv X pins σ H s->Vals xs us->r xs H Q ->
  wpAny ↥6 X.A (call f us) (EP X pins σ Q) X.xe s
def tOp (r:R2) (ta tb:TE):TE:=fun σ H Q=>ta σ H fun x H1=>tb σ H1 fun y H2=>r x y H2 Q
def tUn (r:V->Hp->VK->Prop) (ta:TE):TE:=fun σ H Q=>ta σ H fun x H1=>r x H1 Q
def rI (C:Int->Int->Prop) (g:Int->Int->V):R2:=fun x y H Q=>∃ i j,x=.int i/\y=.int j/\C i j/\Q (g i j) H
def rI0 (g:Int->Int->V):R2:=fun x y H Q=>∃ i j,x=.int i/\y=.int j/\Q (g i j) H
def rU (g:Int->V):V->Hp->VK->Prop:=fun x H Q=>∃ i,x=.int i/\Q (g i) H
section
variable {X:Cx} {a b c:Expr} {ta tb tc:TE} {pos:Pos}
theorem Ld (ha:PE X a ta) (hb:PE X b tb) {pins:List ↥12} {s:Shared} {σ:St} {H:Hp} {R:V->V->Hp->Prop} (I:Inv X pins σ H s)
  (h:ta σ H fun x H1=>tb σ H1 fun y H2=>R x y H2) {Q:Value->Shared->Prop} {f:Value->Value->Sem Value}
  (hf:∀ v u s2 x y H2,Inv X pins σ H2 s2->RelV x v->RelV y u->R x y H2->wpAny ↥6 X.A (f v u) Q X.xe s2) :
  wpAny ↥6 X.A (eval a X.env) (fun v s₁=>wpAny ↥6 X.A (eval b X.env) (fun u s₂=>wpAny ↥6 X.A (f v u) Q X.xe s₂) X.xe s₁) X.xe s:=by
 refine thn (ha pins s σ H _ I h) fun v s1 ⟨x,H1,I1,r1,q1⟩ => ?_
 refine thn (hb pins s1 σ H1 _ I1 q1) fun u s2 ⟨y,H2,I2,r2,q2⟩ => ?_
 exact hf v u s2 x y H2 I2 r1 r2 q2
theorem Kw {op:Operator} {r:R2} (ho:OpR X (binaryOp op) r) (ha:PE X a ta) (hb:PE X b tb):PE X (.BinOp a op b pos) (tOp r ta tb):=by
 intro pins s σ H Q I h
 exact wpAny_BinOp (Ld ha hb I h fun v u s2 x y H2 I2 rx ry q=>ho pins s2 σ H2 x y v u Q I2 rx ry q)
theorem Ku {op:UnaryOp} {r:V->Hp->VK->Prop} (ho:UnR X (unaryOp op) r) (ha:PE X a ta):PE X (.UnaryOp op a pos) (tUn r ta):=by
 intro pins s σ H Q I h
 exact UnaryOp_ (thn (ha pins s σ H _ I h) fun v s1 ⟨x,H1,I1,r1,q1⟩=>ho pins s1 σ H1 x v Q I1 r1 q1)
theorem opI {f:Value->Value->Sem Value} {C:Int->Int->Prop} {g:Int->Int->Int}
  (rule:∀ (i j:Int) (t u:Tok) (s:Shared) (Q:Value->Shared->Prop) (E:Value->Shared->Prop),C i j->Q (.int (g i j) s.toks) { s with toks:=s.toks+1 }->wpAny ↥6 X.A (f (.int i t) (.int j u)) Q E s) :
  OpR X f (rI C fun i j=>.int (g i j)):=by
 intro pins s σ H x y v u Q I rx ry h
 obtain ⟨i,j,rfl,rfl,hc,q⟩:=h
 obtain ⟨t,rfl⟩:=rx
 obtain ⟨t',rfl⟩:=ry
 exact rule i j t t' s _ _ hc ⟨.int (g i j),H,I.tok _,⟨_,rfl⟩,q⟩
theorem JE {f:Value->Value->Sem Value} {g:Int->Int->Int}
  (rule:∀ (i j:Int) (t u:Tok) (s:Shared) (Q:Value->Shared->Prop) (E:Value->Shared->Prop),Q (.int (g i j) s.toks) { s with toks:=s.toks+1 }->wpAny ↥6 X.A (f (.int i t) (.int j u)) Q E s) :
  OpR X f (rI0 fun i j=>.int (g i j)):=by
 intro pins s σ H x y v u Q I rx ry h
 obtain ⟨i,j,rfl,rfl,q⟩:=h
 obtain ⟨t,rfl⟩:=rx
 obtain ⟨t',rfl⟩:=ry
 exact rule i j t t' s _ _ ⟨.int (g i j),H,I.tok _,⟨_,rfl⟩,q⟩
theorem JF {f:Value->Value->Sem Value} {g:Int->Int->Bool}
  (rule:∀ (i j:Int) (t u:Tok) (s:Shared) (Q:Value->Shared->Prop) (E:Value->Shared->Prop),Q (.bool (g i j)) s->wpAny ↥6 X.A (f (.int i t) (.int j u)) Q E s) :
  OpR X f (rI0 fun i j=>.bl (g i j)):=by
 intro pins s σ H x y v u Q I rx ry h
 obtain ⟨i,j,rfl,rfl,q⟩:=h
 obtain ⟨t,rfl⟩:=rx
 obtain ⟨t',rfl⟩:=ry
 exact rule i j t t' s _ _ ⟨.bl (g i j),H,I,rfl,q⟩
theorem ua (k:Nat):(0:Int)<=2^k:=by
 rw [two_pow_cast]
 exact Int.natCast_nonneg _
theorem HX:OpR X (binaryOp .Add) (rI0 fun i j=>.int (i+j)):=JE fun _ _ _ _ _ _ _ q=>add_int q
theorem HU:OpR X (binaryOp .Sub) (rI0 fun i j=>.int (i - j)):=JE fun _ _ _ _ _ _ _ q=>sub_int q
theorem HW:OpR X (binaryOp .Mod) (rI (fun _ j=>0<j) fun i j=>.int (i%j)):=opI fun i j _ _ _ _ _ hc q=>by
 have h1:(0:Int)<j:=hc
 exact mod_int' ⋯ (by rw [Int.fmod_eq_emod_of_nonneg i ⋯];exact q)
theorem HV:OpR X (binaryOp .RShift) (rI (fun _ j=>0<=j) fun i j=>.int (i / 2^j.toNat)):=opI fun i j _ _ _ _ _ hc q =>
 rshift_int hc (by rw [Int.fdiv_eq_ediv_of_nonneg i (ua _)];exact q)
theorem BX:OpR X (binaryOp .BitAnd) (rI0 fun i j=>.int (Builtin.bitAnd i j)):=JE fun _ _ _ _ _ _ _ q=>and_int q
theorem HS:OpR X (binaryOp .BitXor) (rI0 fun i j=>.int (Builtin.bitXor i j)):=JE fun _ _ _ _ _ _ _ q=>xor_int q
theorem unI {f:Value->Sem Value} {g:Int->Int}
  (rule:∀ (i:Int) (t:Tok) (s:Shared) (Q:Value->Shared->Prop) (E:Value->Shared->Prop),Q (.int (g i) s.toks) { s with toks:=s.toks+1 }->wpAny ↥6 X.A (f (.int i t)) Q E s) :
  UnR X f (rU fun i=>.int (g i)):=by
 intro pins s σ H x v Q I rx h
 obtain ⟨i,rfl,q⟩:=h
 obtain ⟨t,rfl⟩:=rx
 exact rule i t s _ _ ⟨.int (g i),H,I.tok _,⟨_,rfl⟩,q⟩
theorem Gs:UnR X (unaryOp .USub) (rU fun i=>.int (-i)):=unI fun _ _ _ _ _ q=>neg_int q
end
def JD:V->V->Bool
 | .non,.non=>true | .non,.int _=>true | .int _,.non=>true | .non,.bl _=>true | .bl _,.non=>true | .non,.str _=>true | .str _,.non=>true
 | .int _,.int _=>true | .bl _,.bl _=>true | .str _,.str _=>true | .byt _,.byt _=>true
 | .int _,.str _=>true | .str _,.int _=>true | .bl _,.str _=>true | .str _,.bl _=>true
 | _,_=>false
def rEq:R2:=fun x y H Q=>JD x y=true/\Q (.bl (decide (x=y))) H
def rNe:R2:=fun x y H Q=>JD x y=true/\Q (.bl (!decide (x=y))) H
theorem rW {i j:Int}:decide (V.int i=V.int j)=(i == j):=by
 rw [Bool.eq_iff_iff]
 simp
theorem yj {i j:Bool}:decide (V.bl i=V.bl j)=(i == j):=by
 rw [Bool.eq_iff_iff]
 simp
theorem rV {i j:Str}:decide (V.str i=V.str j)=(i == j):=by
 rw [Bool.eq_iff_iff]
 simp
theorem yi {i j:Array UInt8}:decide (V.byt i=V.byt j)=(i.toList == j.toList):=by
 rw [Bool.eq_iff_iff]
 cases i
 cases j
 simp
section
variable {X:Cx} {a b c:Expr} {ta tb tc:TE} {pos:Pos}
theorem d4 {pins:List ↥12} {σ:St} {H:Hp} {s:Shared} {Q:VK} {k k':Bool} (I:Inv X pins σ H s) (q:Q (.bl k) H) (e:k=k'):EP X pins σ Q (.bool k') s:=by
 subst e
 exact ⟨.bl k,H,I,rfl,q⟩
theorem KI:OpR X (compareOp .Eq) rEq:=by
 intro pins s σ H x y v u Q I rx ry h
 obtain ⟨hs,q⟩:=h
 cases x with
 | non =>
  cases rx
  cases y with
  | non=>cases ry;exact PySem.EqNone.eq_none_none ↥19
  | bl j=>cases ry;exact PySem.EqNone.eq_none_bool ↥19
  | int j=>obtain ⟨t',rfl⟩:=ry;exact PySem.EqNone.eq_none_int ↥19
  | str j=>obtain ⟨t',rfl⟩:=ry;exact PySem.EqNone.eq_none_str ↥19
  | _=>exact absurd (show false=true from hs) Bool.false_ne_true
 | bl i =>
  cases rx
  cases y with
  | non=>cases ry;exact PySem.EqNone.eq_bool_none ↥19
  | bl j=>cases ry;exact eq_bool (d4 I q yj)
  | str j=>obtain ⟨t',rfl⟩:=ry;exact PySem.EqMixed.eq_bool_str ↥19
  | _=>exact absurd (show false=true from hs) Bool.false_ne_true
 | int i =>
  obtain ⟨t,rfl⟩:=rx
  cases y with
  | non=>cases ry;exact PySem.EqNone.eq_int_none ↥19
  | int j=>obtain ⟨t',rfl⟩:=ry;exact eq_int (d4 I q rW)
  | str j=>obtain ⟨t',rfl⟩:=ry;exact PySem.EqMixed.eq_int_str ↥19
  | _=>exact absurd (show false=true from hs) Bool.false_ne_true
 | str i =>
  obtain ⟨t,rfl⟩:=rx
  cases y with
  | non=>cases ry;exact PySem.EqNone.eq_str_none ↥19
  | bl j=>cases ry;exact PySem.EqMixed.eq_str_bool ↥19
  | int j=>obtain ⟨t',rfl⟩:=ry;exact PySem.EqMixed.eq_str_int ↥19
  | str j=>obtain ⟨t',rfl⟩:=ry;exact eq_str (d4 I q rV)
  | _=>exact absurd (show false=true from hs) Bool.false_ne_true
 | byt i =>
  obtain ⟨t,rfl⟩:=rx
  cases y with
  | byt j=>obtain ⟨t',rfl⟩:=ry;exact PySem.W.eq_bytes (d4 I q yi)
  | _=>exact absurd (show false=true from hs) Bool.false_ne_true
 | _=>cases y<;>exact absurd (show false=true from hs) Bool.false_ne_true
theorem KA:OpR X (compareOp .NotEq) rNe:=by
 intro pins s σ H x y v u Q I rx ry h
 obtain ⟨hs,q⟩:=h
 cases x with
 | non =>
  cases rx
  cases y with
  | non=>cases ry;exact PySem.EqNone.ne_none_none ↥19
  | bl j=>cases ry;exact PySem.EqNone.ne_none_bool ↥19
  | int j=>obtain ⟨t',rfl⟩:=ry;exact PySem.EqNone.ne_none_int ↥19
  | str j=>obtain ⟨t',rfl⟩:=ry;exact PySem.EqNone.ne_none_str ↥19
  | _=>exact absurd (show false=true from hs) Bool.false_ne_true
 | bl i =>
  cases rx
  cases y with
  | non=>cases ry;exact PySem.EqNone.ne_bool_none ↥19
  | bl j=>cases ry;exact ne_bool (d4 I q (congrArg not yj))
  | str j=>obtain ⟨t',rfl⟩:=ry;exact PySem.EqMixed.ne_bool_str ↥19
  | _=>exact absurd (show false=true from hs) Bool.false_ne_true
 | int i =>
  obtain ⟨t,rfl⟩:=rx
  cases y with
  | non=>cases ry;exact PySem.EqNone.ne_int_none ↥19
  | int j=>obtain ⟨t',rfl⟩:=ry;exact ne_int (d4 I q (congrArg not rW))
  | str j=>obtain ⟨t',rfl⟩:=ry;exact PySem.EqMixed.ne_int_str ↥19
  | _=>exact absurd (show false=true from hs) Bool.false_ne_true
 | str i =>
  obtain ⟨t,rfl⟩:=rx
  cases y with
  | non=>cases ry;exact PySem.EqNone.ne_str_none ↥19
  | bl j=>cases ry;exact PySem.EqMixed.ne_str_bool ↥19
  | int j=>obtain ⟨t',rfl⟩:=ry;exact PySem.EqMixed.ne_str_int ↥19
  | str j=>obtain ⟨t',rfl⟩:=ry;exact ne_str (d4 I q (congrArg not rV))
  | _=>exact absurd (show false=true from hs) Bool.false_ne_true
 | byt i =>
  obtain ⟨t,rfl⟩:=rx
  cases y with
  | byt j=>obtain ⟨t',rfl⟩:=ry;exact PySem.W.ne_bytes (d4 I q (congrArg not yi))
  | _=>exact absurd (show false=true from hs) Bool.false_ne_true
 | _=>cases y<;>exact absurd (show false=true from hs) Bool.false_ne_true
theorem KC:OpR X (compareOp .Lt) (rI0 fun i j=>.bl (decide (i<j))):=JF fun _ _ _ _ _ _ _ q=>lt_int q
theorem KD:OpR X (compareOp .LtE) (rI0 fun i j=>.bl (decide (i<=j))):=JF fun _ _ _ _ _ _ _ q=>le_int q
theorem KG:OpR X (compareOp .Gt) (rI0 fun i j=>.bl (decide (j<i))):=JF fun _ _ _ _ _ _ _ q=>gt_int q
theorem KH:OpR X (compareOp .GtE) (rI0 fun i j=>.bl (decide (j<=i))):=JF fun _ _ _ _ _ _ _ q=>ge_int q
theorem wG:OpR X (compareOp .In) (fun x y H Q=>∃ i j,x=.str i/\y=.str j/\Q (.bl (!(Builtin.Str.occurrences j i 0 j.length 1).isEmpty)) H):=by
 intro pins s σ H x y v u Q I rx ry h
 obtain ⟨i,j,rfl,rfl,q⟩:=h
 obtain ⟨t,rfl⟩:=rx
 obtain ⟨t',rfl⟩:=ry
 exact in_str (d4 I q rfl)
theorem BR:OpR X (compareOp .Is) (fun x y H Q=>y=.non/\Q (.bl (decide (x=.non))) H):=by
 intro pins s σ H x y v u Q I rx ry h
 obtain ⟨rfl,q⟩:=h
 cases ry
 refine is_none_gen (d4 I q ?_)
 cases x<;>first
  | (cases rx;rfl)
  | (obtain ⟨t,rfl⟩:=rx;rfl)
theorem DZ:OpR X (compareOp .IsNot) (fun x y H Q=>y=.non/\Q (.bl (!decide (x=.non))) H):=by
 intro pins s σ H x y v u Q I rx ry h
 obtain ⟨rfl,q⟩:=h
 cases ry
 refine isnot_none_gen (d4 I q ?_)
 cases x<;>first
  | (cases rx;rfl)
  | (obtain ⟨t,rfl⟩:=rx;rfl)
def isObj:HO->Bool
 | .lst _=>true
 | .ins _ _ _=>true
 | _=>false
theorem kH {pins:List ↥12} {s:Shared} {σ:St} {H:Hp} {a:Addr} {o:HO} (I:Inv X pins σ H s) (h:H a=some o) (p:isObj o=true):∃ ob,s.heap.get? a=some ob/\ob.cls ≠ .type "tuple":=by
 cases o with
 | lst xs =>
  obtain ⟨_,its,n,_,e⟩:xs.length<=sizeLine/\∃ (its:List Value) (n:Nat),Vals xs its/\s.heap.get? a=some { cls:=.type "list",data:=.seq its.toArray n }:=I.hok a _ h
  exact ⟨_,e,(by show Value.type "list" ≠ .type "tuple";decide +kernel)⟩
 | ins C dx fs =>
  have x:=I.hok a _ h
  obtain ⟨_,_,_,e,_⟩:=x
  exact ⟨_,e,(by show Value.ref C ≠ .type "tuple";exact fun z=>by cases z)⟩
 | _=>exact absurd (show false=true from p) Bool.false_ne_true
theorem dS (b:Expr) {op:CmpOp} (h:op ≠ .In:=by decide) (h2:op ≠ .NotIn:=by decide):behindInMarks op b=false:=by
 have e1:(op == CmpOp.In)=false:=by cases op<;>first | rfl | exact absurd rfl h
 have e2:(op == CmpOp.NotIn)=false:=by cases op<;>first | rfl | exact absurd rfl h2
 cases b<;>simp [behindInMarks,e1,e2]
theorem wB {op:CmpOp} {r:R2} (ho:OpR X (compareOp op) r) (ha:PE X a ta) (hb:PE X b tb) (hm:behindInMarks op b=false):PE X (.Compare a [op] [b] pos) (tOp r ta tb):=by
 intro pins s σ H Q I h
 exact wpAny_Compare1 (Ld ha hb I h fun v u s2 x y H2 I2 rx ry q=>ho pins s2 σ H2 x y v u Q I2 rx ry q) hm
def GX (t:TE):TT:=fun σ H Q=>t σ H fun x H'=>∃ k,x=.bl k/\Q k H'
theorem rg {op:CmpOp} {r:R2} (ho:OpR X (compareOp op) r) (ha:PE X a ta) (hb:PE X b tb) (hm:behindInMarks op b=false):PT X (.Compare a [op] [b] pos) (GX (tOp r ta tb)):=by
 intro pins s σ H Q I h
 refine wpAny_isTrue_Compare1 (thn (ha pins s σ H _ I h) fun v s1 ⟨x,H1,I1,r1,q1⟩=>thn (hb pins s1 σ H1 _ I1 q1) fun u s2 ⟨y,H2,I2,r2,q2⟩ =>
  thn (ho pins s2 σ H2 x y v u _ I2 r1 r2 q2) fun c s3 ⟨z,H3,I3,r3,k,e,q3⟩ => ?_) hm
 subst e
 cases r3
 exact wpAny_truthy_bool ⟨H3,I3,q3⟩
def GY (r r':R2) (ta tb tc:TE):TE:=fun σ H Q=>ta σ H fun x H1=>tb σ H1 fun y H2=>r x y H2 fun z H3=>∃ k,z=.bl k /\
 (if k=true then tc σ H3 fun w' H4=>r' y w' H4 Q else Q ↥38 H3)
theorem zT {op op':CmpOp} {r r':R2} (ho:OpR X (compareOp op) r) (ho':OpR X (compareOp op') r') (ha:PE X a ta) (hb:PE X b tb) (hc:PE X c tc)
  (hm:lastMarks [op,op'] [b,c]=false:=by with_unfolding_all rfl):PT X (.Compare a [op,op'] [b,c] pos) (GX (GY r r' ta tb tc)):=by
 intro pins s σ H Q I h
 refine isTrue_chain (thn (ha pins s σ H _ I h) fun v s1 ⟨x,H1,I1,r1,q1⟩=>test_link (thn (hb pins s1 σ H1 _ I1 q1) fun u s2 ⟨y,H2,I2,r2,q2⟩ =>
  thn (ho pins s2 σ H2 x y v u _ I2 r1 r2 q2) fun d s3 ⟨z,H3,I3,r3,k,e,q3⟩ => ?_)) hm
 subst e
 cases r3
 refine wpAny_truthy_bool ?_
 cases k with
 | false =>
  obtain ⟨k',e',q'⟩:=q3
  cases e'
  exact ite_ff ⟨H3,I3,q'⟩
 | true =>
  refine ite_tt (test_last (thn (hc pins s3 σ H3 _ I3 q3) fun w' s4 ⟨z',H4,I4,r4,q4⟩=>thn (ho' pins s4 σ H4 y z' u w' _ I4 r2 r4 q4) fun d' s5 ⟨z2,H5,I5,r5,k2,e2,q5⟩ => ?_))
  subst e2
  cases r5
  exact wpAny_truthy_bool ⟨H5,I5,q5⟩
theorem pR:(sizeLine:Nat)<2^63:=by rw [sizeLine_eq];decide
theorem uz:OpR X (binaryOp .Add) (fun x y H Q=>∃ i j,x=.str i/\y=.str j/\i.length+j.length<=sizeLine/\Q (.str (i++j)) H):=by
 intro pins s σ H x y v u Q I rx ry h
 obtain ⟨i,j,rfl,rfl,hz,q⟩:=h
 obtain ⟨t,rfl⟩:=rx
 obtain ⟨t',rfl⟩:=ry
 exact add_str (fun t' tk=>⟨.str (i++j),H,I.tok _,⟨_,rfl⟩,q⟩) hz
theorem vals1 {x:V} {us:List Value} (r:Vals [x] us):∃ u,us=[u]/\RelV x u:=by
 cases r with
 | cons r1 r2=>cases r2;exact ⟨_,rfl,r1⟩
theorem vals2 {x y:V} {us:List Value} (r:Vals [x,y] us):∃ u w',us=[u,w']/\RelV x u/\RelV y w':=by
 cases r with
 | cons r1 r2 =>
  cases r2 with
  | cons r3 r4=>cases r4;exact ⟨_,_,rfl,r1,r3⟩
theorem Be:jZ X (.builtin "abs") (fun xs H Q=>∃ i,xs=[.int i]/\Q (.int (if i<0 then -i else i)) H):=by
 intro pins s σ H xs us Q I r h
 obtain ⟨i,rfl,q⟩:=h
 obtain ⟨u,rfl,t,rfl⟩:=vals1 r
 exact call_abs_int fun u tk=>⟨.int (if i<0 then -i else i),H,I.tok _,⟨_,rfl⟩,q⟩
theorem yr (hc:X.calm=true):jZ X (.builtin "max") (fun xs H Q=>∃ i j,xs=[.int i,.int j]/\Q (.int (if j>i then j else i)) H):=by
 intro pins s σ H xs us Q I r h
 obtain ⟨i,j,rfl,q⟩:=h
 obtain ⟨u,w',rfl,⟨t,rfl⟩,⟨t',rfl⟩⟩:=vals2 r
 refine max_two_ints (I.ok.hd hc) fun h' tk k=>⟨_,H,I.kept k,?_,q⟩
 by_cases hj:j>i
 ·rw [if_pos hj,if_pos hj];exact ⟨_,rfl⟩
 ·rw [if_neg hj,if_neg hj];exact ⟨_,rfl⟩
theorem yq (hc:X.calm=true):jZ X (.builtin "min") (fun xs H Q=>∃ i j,xs=[.int i,.int j]/\Q (.int (if j<i then j else i)) H):=by
 intro pins s σ H xs us Q I r h
 obtain ⟨i,j,rfl,q⟩:=h
 obtain ⟨u,w',rfl,⟨t,rfl⟩,⟨t',rfl⟩⟩:=vals2 r
 refine min_two_ints (I.ok.hd hc) fun h' tk k=>⟨_,H,I.kept k,?_,q⟩
 by_cases hj:j<i
 ·rw [if_pos hj,if_pos hj];exact ⟨_,rfl⟩
 ·rw [if_neg hj,if_neg hj];exact ⟨_,rfl⟩
end
end L2
namespace L2
open PySem PySem.Spec PyProof.Rows
structure ObjM (h:Heap) (x dx C:Addr) (mA:Str->Option Value):Prop where
 obj:h.get? x=some (PySem.W.instObj C dx)
 ns:h.Ns1 dx mA
 ne:dx≠x
theorem xE {h:Heap} {dx:Addr} {mA:Str->Option Value} (n:h.Ns1 dx mA):∃ od,h.get? dx=some od/\∀ name,PySem.W.lookIn name od=some (mA name):=by
 obtain ⟨o,es,ep,ho,hd,hk,_,hm⟩:=n
 refine ⟨o,ho,fun name => ?_⟩
 have e:=hm name
 unfold nsFind findBy at e
 rw [<- Array.find?_toList] at e
 unfold PySem.W.lookIn
 rw [hd]
 dsimp only
 split
 ·rename_i y q
  rw [q] at e
  exact congrArg some e
 ·rename_i q
  rw [q] at e
  have a:es.toList.any (·.refKey)=false:=by
   rw [List.any_eq_false]
   intro y hy
   obtain ⟨z,t,hkey⟩:=hk y (Array.mem_toList_iff.mp hy)
   simp [DictEntry.refKey,hkey]
  have a':¬ es.toList.any (·.refKey)=true:=by rw [a];exact Bool.false_ne_true
  rw [if_neg a']
  exact congrArg some e
theorem ObjM.look {h:Heap} {x dx C:Addr} {mA:Str->Option Value} (I:ObjM h x dx C mA):∃ od,PySem.W.InstAt h x (PySem.W.instObj C dx) C (some od)/\∀ name,PySem.W.lookIn name od=some (mA name) :=
 let ⟨od,ho,hl⟩:=xE I.ns
 ⟨od,⟨I.obj,rfl,rfl,ho⟩,hl⟩
section
variable {prog:Program} {w:World} {A:Around} {E:Value->Shared->Prop} {s:Shared} {K:PySem.W.Frag} {x dx C f:Addr} {mA:Str->Option Value} {name:Str} {v:Value}
theorem get_map {expr:Bool} {Q:Value->Shared->Prop} (X:K.In s.heap) (I:ObjM s.heap x dx C mA) (hg:PySem.W.plainGet K C name=true) (hh:PySem.W.hasDictIn K C=true)
  (ha:PySem.W.findIn K (.ref C) name=some none) (hv:mA name=some v) (hv':PySem.W.handedIn v=true) (h:Q v { s with toks:=s.toks+1 }) :
  wpAny ↥17 A (getAttr (.ref x) name expr) Q E s:=by
 obtain ⟨od,J,hl⟩:=I.look
 exact PySem.W.get_value X J (PySem.W.plainGet_of hg).1 (PySem.W.findObj_own hh ha rfl (by rw [hl,hv])) hv' h
theorem AR {pl:Sem Bool} {Q:Value×List Value->Shared->Prop} (X:K.In s.heap) (I:ObjM s.heap x dx C mA) (hg:PySem.W.plainGet K C name=true)
  (hf:PySem.W.findIn K (.ref C) name=some (some (.ref f))) (ht:PySem.W.isFn K (.ref f)=true) (hv:mA name=none) (h:Q (.ref f,[.ref x]) s) :
  wpAny ↥17 A (getMethod (.ref x) name pl) Q E s:=by
 obtain ⟨od,J,hl⟩:=I.look
 exact PySem.W.method_fn X J (PySem.W.plainGet_of hg).1 (PySem.W.plainGet_of hg).2 hf (beq_iff_eq.mp ht) (by show (PySem.W.lookIn name od).map (·.isSome)=some false;rw [hl,hv];rfl) h
theorem Dv {ns:List Str} {Q:Unit->Shared->Prop} (X:K.In s.heap) (I:ObjM s.heap x dx C mA)
  (hs:PySem.W.findIn K (.ref C) "__setattr__"=some (some (.builtin "object.__setattr__"))) (hp:PySem.W.plainOver K C=true) (ht:PySem.W.takerIn K C name=some none) (hh:PySem.W.hasDictIn K C=true)
  (hw:PySem.Within mA ns) (hsz:ns.length<=sizeLine)
  (h:∀ h',ObjM h' x dx C (fun y=>if y=name then some v else mA y)->Heap.SameBut dx s.heap h'->Q () { s with heap:=h',toks:=s.toks+2 }) :
  wpAny ↥17 A (setAttr (.ref x) name v) Q E s:=by
 obtain ⟨od,J,hl⟩:=I.look
 refine PySem.W.set_plain X J hs (PySem.W.osa_open (s:={ s with toks:=s.toks+1 }) (r:=none) X J hp ht fun b => ?_)
 obtain ⟨cd,hc,hd'⟩:=PySem.W.any_some hh
 have hx:s.heap.get? x=some ⟨.ref C,some dx,.plain,#[]⟩:=I.obj
 refine wpAny_bind (wpAny_pure (wpAny_bind (wpAny_bind (wpAny_loadPart hx (wpAny_bind (PySem.W.Looks.here (s:={ s with toks:=s.toks+1 }) (PySem.W.looks_clsIn X hc) ?_))))))
 rw [hd']
 refine wpAny_pure (a:=some dx) (wpAny_bind (wpAny_pure (wpAny_bind ?_)))
 refine wpAny_nsSet1 (s:={ s with toks:=s.toks+1 }) I.ns fun h' hn2 hs2 => ?_
 obtain ⟨oD,esD,epD,hoD,hdD,hcD⟩:=hn2.count (PySem.Within.cons name v hw)
 refine wpAny_bind (wpAny_lookBehind hoD (by rw [hdD];exact pastItsLine_dict (Nat.le_trans hcD (by rw [List.length_cons];omega))) ?_)
 exact wpAny_pure (h _ ⟨(hs2.2 _ (Ne.symm I.ne)).trans I.obj,hn2,I.ne⟩ hs2)
theorem AI {R:Result->Shared->Prop} {vs:List Value} {kw:List (Str×Value)} (X:K.In s.heap) (hm:PySem.W.makesIn K C=true)
  (hi:PySem.W.findIn K (.ref C) "__init__"=some (some (.ref f))) (hf:PySem.W.typeIn K (.ref f)=some (.type "function"))
  (h:codeAny ↥17 (A.under (.builtin "type.__call__" ⟨.ref C::vs,kw⟩)) (.call (.ref f) ⟨.ref (s.heap.objs.size+1)::vs,kw⟩) (PySem.W.InitBack (s.heap.objs.size+1) R)
   { s with heap:=(s.heap.push PySem.W.emptyDict).push (PySem.W.instObj C s.heap.objs.size) }) :
  codeAny ↥17 A (.call (.ref C) ⟨vs,kw⟩) R s:=by
 obtain ⟨hh,g,d,t,os⟩:=s
 exact PySem.W.make_core (PySem.W.makes_of X hm) (PySem.W.looks_findIn X hi) (fun self=>PySem.W.bind_fn X self hf) (.inl rfl) h
end
def qD (f:Str) (v:V):List (Str×V)->List (Str×V)
 | []=>[(f,v)]
 | (g,x)::r=>if g=f then (g,v)::r else (g,x)::qD f v r
theorem kO (f g:Str) (v:V):∀ fs:List (Str×V),(qD f v fs).lookup g=if g=f then some v else fs.lookup g
 | []=>by
  show List.lookup g [(f,v)]=_
  by_cases h:g=f
  ·have hb:(g == f)=true:=beq_iff_eq.mpr h
   simp only [List.lookup,hb,if_pos h]
  ·have hb:(g == f)=false:=beq_eq_false_iff_ne.mpr h
   simp only [List.lookup,hb,if_neg h]
 | (k,x)::r=>by
  have ih:=kO f g v r
  rw [show qD f v ((k,x)::r)=(if k=f then (k,v)::r else (k,x)::qD f v r) from rfl]
  by_cases hk:k=f
  ·rw [if_pos hk]
   by_cases h:g=k
   ·have hb:(g == k)=true:=beq_iff_eq.mpr h
    simp only [List.lookup,hb,if_pos (h.trans hk)]
   ·have hb:(g == k)=false:=beq_eq_false_iff_ne.mpr h
    simp only [List.lookup,hb,if_neg (fun e:g=f=>h (e.trans hk.symm))]
  ·rw [if_neg hk]
   by_cases h:g=k
   ·have hb:(g == k)=true:=beq_iff_eq.mpr h
    simp only [List.lookup,hb,if_neg (fun e:g=f=>hk (h.symm.trans e))]
   ·have hb:(g == k)=false:=beq_eq_false_iff_ne.mpr h
    simp only [List.lookup,hb]
    exact ih
theorem kS (f:Str) (v:V):∀ fs:List (Str×V),f∈(qD f v fs).map (·.1)/\∀ g,g∈fs.map (·.1)->g∈(qD f v fs).map (·.1)
 | []=>⟨by simp [qD],fun g h=>by simp at h⟩
 | (k,x)::r=>by
  obtain ⟨i1,i2⟩:=kS f v r
  rw [show qD f v ((k,x)::r)=(if k=f then (k,v)::r else (k,x)::qD f v r) from rfl]
  by_cases hk:k=f
  ·rw [if_pos hk]
   subst hk
   exact ⟨by simp,fun g h=>by simpa using h⟩
  ·rw [if_neg hk]
   refine ⟨?_,fun g h => ?_⟩
   ·rw [List.map_cons]
    exact List.mem_cons_of_mem _ i1
   ·rw [List.map_cons] at h ⊢
    rcases List.mem_cons.mp h with e | e
    ·exact List.mem_cons.mpr (.inl e)
    ·exact List.mem_cons_of_mem _ (i2 g e)
theorem kP (f:Str) (v:V):∀ fs:List (Str×V),(qD f v fs).length<=fs.length+1
 | []=>by simp [qD]
 | (k,x)::r=>by
  have ih:=kP f v r
  rw [show qD f v ((k,x)::r)=(if k=f then (k,v)::r else (k,x)::qD f v r) from rfl]
  by_cases hk:k=f
  ·rw [if_pos hk,List.length_cons,List.length_cons];omega
  ·rw [if_neg hk,List.length_cons,List.length_cons];omega
theorem yW.some_of {v:V} {o:Option Value} (r:yW (some v) o):∃ u,o=some u/\RelV v u:=by
 cases o with
 | none=>exact (show False from r).elim
 | some u=>exact ⟨u,rfl,r⟩
theorem yW.none_of {o:Option Value} (r:yW none o):o=none:=by
 cases o with
 | none=>rfl
 | some u=>exact (show False from r).elim
theorem xU {v:V} {u:Value} (r:RelV v u):PySem.W.handedIn u=true:=by
 cases v with
 | non=>cases (show u=Value.none from r);rfl
 | bl b=>cases (show u=Value.bool b from r);rfl
 | int i=>obtain ⟨t,e⟩:=(show ∃ t,u=Value.int i t from r);cases e;rfl
 | str x=>obtain ⟨t,e⟩:=(show ∃ t,u=Value.str x t from r);cases e;rfl
 | byt b=>obtain ⟨t,e⟩:=(show ∃ t,u=Value.bytes b t from r);cases e;rfl
 | flt b=>obtain ⟨t,e⟩:=(show ∃ t,u=Value.float b t from r);cases e;rfl
 | ref a=>cases (show u=Value.ref a from r);rfl
 | ty n=>cases (show u=Value.type n from r);rfl
section
variable {P:Program} {w:World} {H H':Hp} {h h':Heap} {a C dx:Addr} {fs fs':List (Str×V)}
theorem rO (hok:HOk P w H h) (e:H a=some (.ins C dx fs)):∃ mA,ObjM h a dx C mA/\(∀ f,yW (fs.lookup f) (mA f))/\PySem.Within mA (fs.map (·.1))/\fs.length<=1000/\H dx=some (.own a):=by
 obtain ⟨d,z,ne,ob,mA,n,r,q⟩:=(show iX P w H h a (.ins C dx fs) from hok a _ e)
 exact ⟨mA,⟨ob,n,ne⟩,r,q,z,d⟩
end
structure Cls (K:PySem.W.Frag) (C:Addr):Prop where
 pg:PySem.W.plainGet K C Str.empty=true
 hd:PySem.W.hasDictIn K C=true
 po:PySem.W.plainOver K C=true
 sa:PySem.W.findIn K (.ref C) "__setattr__"=some (some (.builtin "object.__setattr__"))
theorem Cls.get {K:PySem.W.Frag} {C:Addr} (c:Cls K C) (f:Str):PySem.W.plainGet K C f=true:=c.pg
def iY (K:PySem.W.Frag) (C:Addr) (f:Str):Prop:=PySem.W.findIn K (.ref C) f=some none
theorem iY.taker {K:PySem.W.Frag} {C:Addr} {f:Str} (n:iY K C f):PySem.W.takerIn K C f=some none:=by
 unfold PySem.W.takerIn
 rw [show PySem.W.findIn K (.ref C) f=some none from n]
 rfl
structure Con (K:PySem.W.Frag) (C:Addr) (f:Str) (v:V) (u:Value):Prop where
 at_:PySem.W.findIn K (.ref C) f=some (some u)
 rel:RelV v u
 get:PySem.W.specialIn K u "__get__"=some none
 cp:PySem.W.copiedNames.contains f=false
structure Meth (K:PySem.W.Frag) (C:Addr) (m:Str) (f:Addr):Prop where
 at_:PySem.W.findIn K (.ref C) m=some (some (.ref f))
 fn:PySem.W.isFn K (.ref f)=true
 kp:PySem.W.keepIn K (.ref f)=true
section
variable {X:Cx} {pins:List ↥12} {σ:St} {H:Hp} {s:Shared} {a C dx:Addr} {fs:List (Str×V)} {f:Str} {v:V} {A:Around} {E:Value->Shared->Prop}
theorem uM {b:Bool} {Q:Value->Shared->Prop} (I:Inv X pins σ H s) (e:H a=some (.ins C dx fs)) (c:Cls X.K C) (n:iY X.K C f) (l:fs.lookup f=some v)
  (h:∀ u s',Inv X pins σ H s'->RelV v u->Q u s'):wpAny ↥6 A (getAttr (.ref a) f b) Q E s:=by
 obtain ⟨mA,O,r,_,_,_⟩:=rO I.hok e
 obtain ⟨u,hu,ru⟩:=yW.some_of (v:=v) (o:=mA f) (by rw [<- l];exact r f)
 exact get_map I.kIn O (c.get f) c.hd n hu (xU ru) (h u _ (I.tok _) ru)
theorem uL {m:Str} {g:Addr} {pl:Sem Bool} {Q:Value×List Value->Shared->Prop} (I:Inv X pins σ H s) (e:H a=some (.ins C dx fs)) (c:Cls X.K C) (k:Meth X.K C m g) (l:fs.lookup m=none)
  (h:Q (.ref g,[.ref a]) s):wpAny ↥6 A (getMethod (.ref a) m pl) Q E s:=by
 obtain ⟨mA,O,r,_,_,_⟩:=rO I.hok e
 have hn:mA m=none:=yW.none_of (by rw [<- l];exact r m)
 exact AR I.kIn O (c.get m) k.at_ k.fn hn h
theorem ue {y:V} {u:Value} {Q:Unit->Shared->Prop} (I:Inv X pins σ H s) (e:H a=some (.ins C dx fs)) (c:Cls X.K C) (n:iY X.K C f) (hl:fs.length<1000) (ry:RelV y u)
  (h:∀ s',Inv X pins σ (upd H a (.ins C dx (qD f y fs))) s'->Q () s'):wpAny ↥6 A (setAttr (.ref a) f u) Q E s:=by
 obtain ⟨mA,O,r,wi,_,ho⟩:=rO I.hok e
 have hz:(fs.map (·.1)).length<=sizeLine:=by rw [List.length_map,sizeLine_eq];omega
 refine Dv I.kIn O c.sa c.po n.taker c.hd wi hz fun h' O' sb=>h _ ?_
 have hd:∃ o,h'.get? dx=some o:=let ⟨o,_,_,e',_⟩:=O'.ns;⟨o,e'⟩
 refine I.write (x:=a) (e:=dx) (by rw [e];exact True.intro) (.inr ho) (fun b q hb z=>(sb.2 b hb).trans z) hd ?_
 refine ⟨by rw [aW O.ne];exact ho,?_,O.ne,O'.obj,_,O'.ns,fun g => ?_,fun g hg => ?_⟩
 ·have:=kP f y fs;omega
 ·show yW ((qD f y fs).lookup g) (if g=f then some u else mA g)
  rw [kO]
  by_cases q:g=f
  ·rw [if_pos q,if_pos q];exact ry
  ·rw [if_neg q,if_neg q];exact r g
 ·by_cases q:g=f
  ·rw [q];exact (kS f y fs).1
  ·refine (kS f y fs).2 g (wi g fun z=>hg ?_)
   show (if g=f then some u else mA g)=none
   rw [if_neg q];exact z
theorem Inv.made (I:Inv X pins σ H s):Inv X pins σ (upd (upd H s.heap.objs.size (.own (s.heap.objs.size+1))) (s.heap.objs.size+1) (.ins C s.heap.objs.size []))
  { s with heap:=(s.heap.push PySem.W.emptyDict).push (PySem.W.instObj C s.heap.objs.size) }:=by
 have e1:(s.heap.push PySem.W.emptyDict).get? s.heap.objs.size=some PySem.W.emptyDict:=Heap.get?_push_size s.heap rfl
 have e2:((s.heap.push PySem.W.emptyDict).push (PySem.W.instObj C s.heap.objs.size)).get? (s.heap.objs.size+1)=some (PySem.W.instObj C s.heap.objs.size):=by
  have:=Heap.get?_push_size (s.heap.push PySem.W.emptyDict) (o:=PySem.W.instObj C s.heap.objs.size) rfl
  rwa [Heap.size_push] at this
 have e3:(s.heap.push PySem.W.emptyDict).Ns s.heap.objs.size (fun _=>none):=⟨PySem.W.emptyDict,#[],_,e1,rfl,(fun e he=>absurd he (by simp)),fun _=>rfl⟩
 have I1:=I.laid (a:=s.heap.objs.size) (o:=.own (s.heap.objs.size+1)) (h':=s.heap.push PySem.W.emptyDict) (t':=s.toks) (fun b u q=>Heap.get?_push_of_some _ q) (Nat.le_refl _) ⟨_,e1⟩
 refine I1.laid (a:=s.heap.objs.size+1) (o:=.ins C s.heap.objs.size []) (t':=s.toks) (fun b u q=>Heap.get?_push_of_some _ q) (Nat.le_of_eq (Heap.size_push _ _)) ?_
 have ne:s.heap.objs.size≠s.heap.objs.size+1:=Nat.ne_of_lt (Nat.lt_succ_self _)
 refine ⟨by rw [aW ne,bq],Nat.zero_le _,ne,e2,fun _=>none,(Heap.Ns1.of_empty e3).at fun o q=>Heap.get?_push_of_some _ q,fun _=>True.intro,fun y hy=>absurd rfl hy⟩
theorem FA {prog:Program} {w:World} {env:Env} {e:Expr} {f:Str} {pos:Pos} {s:Shared} {Q:Value->Shared->Prop} (hb:attributeBase e f env (eval e env)=eval e env)
  (h:wpAny ↥17 A (eval e env) (fun o s₁=>wpAny ↥17 A (getAttr o f true) Q E s₁) E s):wpAny ↥17 A (eval (.Attribute e f pos) env) Q E s :=
 Attribute_any_ h (by rw [arm_eval_Attribute,hb])
end
def OS (K:PySem.W.Frag) (ta:TE) (f:Str):TE:=fun σ H Q=>ta σ H fun x H1=>∃ a C dx fs v,x=.ref a/\H1 a=some (.ins C dx fs)/\Cls K C/\iY K C f/\fs.lookup f=some v/\Q v H1
def OY (K:PySem.W.Frag) (ta tv:TE) (f:Str):TS:=fun D σ H=>tv σ H fun y H1=>ta σ H1 fun x H2=>∃ a C dx fs,x=.ref a/\H2 a=some (.ins C dx fs)/\Cls K C/\iY K C f/\fs.length<1000 /\
 D.nx σ (upd H2 a (.ins C dx (qD f y fs)))
section
variable {X:Cx} {o e value:Expr} {f:Str} {pos pos' tpos:Pos} {ta tv:TE}
theorem HG (he:PE X e ta) (hb:attributeBase e f X.env (eval e X.env)=eval e X.env):PE X (.Attribute e f pos) (OS X.K ta f):=by
 intro pins s σ H Q I h
 refine FA hb (thn (he pins s σ H _ I h) fun u s1 ⟨x,H1,I1,rx,a,C,dx,fs,v,ex,ea,c,n,l,q⟩ => ?_)
 subst ex
 obtain rfl:u=Value.ref a:=rx
 exact uM I1 ea c n l fun u' s2 I2 ru=>⟨v,H1,I2,ru,q⟩
theorem Hy (ha:PE X o ta) (hv:PE X value tv) (hs:swapsWith value (some (.Attribute o f pos')) pos.line X.env=pure false):PS X (.Assign [.Attribute o f pos'] value pos) (OY X.K ta tv f):=by
 intro pins s σ H D I h
 refine plainObj_wpAny_Assign_Attribute (thn (hv pins s σ H _ I h) fun u s1 ⟨y,H1,I1,ry,q⟩=>thn (ha pins s1 σ H1 _ I1 q) fun ov s2 ⟨x,H2,I2,rx,a,C,dx,fs,ex,ea,c,n,l,q2⟩ => ?_) hs
 subst ex
 obtain rfl:ov=Value.ref a:=rx
 exact ue I2 ea c n l ry fun s3 I3=>⟨σ,_,I3,q2⟩
end
section
variable {X:Cx} {pins:List ↥12} {σ:St} {H:Hp} {s:Shared} {A:Around} {E:Value->Shared->Prop} {Q:Value->Shared->Prop} {c:Value} {b:Bool}
inductive TyOf (K:PySem.W.Frag) (H:Hp):V->Value->Prop where
 | non:TyOf K H .non (.type "NoneType")
 | bl (x:Bool):TyOf K H (.bl x) (.type "bool")
 | int (i:Int):TyOf K H (.int i) (.type "int")
 | str (x:Str):TyOf K H (.str x) (.type "str")
 | flt (x:UInt64):TyOf K H (.flt x) (.type "float")
 | lst {a:Addr} {xs:List V} (e:H a=some (.lst xs)):TyOf K H (.ref a) (.type "list")
 | frz {a:Addr} {o:Obj} {xs:List V} (e:H a=some (.frz o (.lst xs))):TyOf K H (.ref a) (.type "list")
 | tup {a:Addr} {xs:List V} (e:H a=some (.tup xs)):TyOf K H (.ref a) ↥4
 | dK {a:Addr} {kvs:List (Key×V)} (e:H a=some (.dK kvs)):TyOf K H (.ref a) (.type "dict")
 | dT {a:Addr} {kvs:List (List Key×V)} (e:H a=some (.dT kvs)):TyOf K H (.ref a) (.type "dict")
 | ins {a C dx:Addr} {fs:List (Str×V)} (e:H a=some (.ins C dx fs)) (cl:Cls K C) (ha:PySem.W.findIn K (.ref C) "__class__"=some (some (.builtin "object.__class__")))
   (hn:PySem.W.specialIn K (.builtin "object.__class__") "__get__"=some (some (.builtin "getset_descriptor.__get__"))) (htk:PySem.W.takesIn K (.builtin "object.__class__")=some true)
   (hm:PySem.W.mroIn K C (.type "object")=some true):TyOf K H (.ref a) (.ref C)
end
end L2
namespace L2
open PySem PySem.Spec PyProof.Rows
structure Room (k:Nat) (A:Around):Prop where
 hd:A.handled=none
 dp:A.depth+3*k+5<recursionLimit
 un:A.units+16*k+200<cLine
theorem Room.mono {j k:Nat} {A:Around} (r:Room k A) (h:j<=k):Room j A:=⟨r.hd,by have:=r.dp;omega,by have:=r.un;omega⟩
theorem Room.deeper {k:Nat} {A:Around} (r:Room (k+1) A) (env:Env):Room k (A.deeper env) :=
 ⟨r.hd,by have:=r.dp;show A.depth+1+3*k+5<_;omega,by have:=r.un;show A.units+3+16*k+200<_;omega⟩
theorem uE {A:Around} {C:Addr} {us:List Value} {kw:List (Str×Value)}:(A.under (.builtin "type.__call__" ⟨.ref C::us,kw⟩)).depth=A.depth+1:=by
 first | rfl | simp [Around.under,Code.weight,Code.isCreation,Code.isGuard,Code.isCaller,Code.frames,Code.isFrame,guardIds]
theorem uD {A:Around} {C:Addr} {us:List Value} {kw:List (Str×Value)}:(A.under (.builtin "type.__call__" ⟨.ref C::us,kw⟩)).units=A.units+1:=by
 first | rfl | simp [Around.under,Code.cUnits,Code.frames,Code.isFrame]
theorem Room.make {k:Nat} {A:Around} (r:Room (k+1) A) (C:Addr) (us:List Value) (kw:List (Str×Value)):Room k (A.under (.builtin "type.__call__" ⟨.ref C::us,kw⟩)) :=
 ⟨r.hd,by have:=r.dp;rw [uE];omega,by have:=r.un;rw [uD];omega⟩
theorem Room.depth {k:Nat} {A:Around} (r:Room k A):A.depth<recursionLimit:=by have:=r.dp;omega
theorem Room.units {k:Nat} {A:Around} (r:Room k A):A.units+64<cLine:=by have:=r.un;omega
def ON:TA:=fun _ H Q=>Q [] H
def Ke (ta:TE) (tr:TA):TA:=fun σ H Q=>ta σ H fun x H1=>tr σ H1 fun xs H2=>Q (x::xs) H2
section
variable {X:Cx} {e:Expr} {es:List Expr} {te:TE} {t:TA} {pos:Pos}
theorem BP:PA X [] ON:=fun _ _ _ _ H Q I h=>Calls.spliced_nil ⟨[],H,I,.nil,h⟩
theorem wD (ha:PE X e te) (hr:PA X es t) (hs:starEach (e::es) X.env=(false,eval e X.env)::starEach es X.env:=by rfl):PA X (e::es) (Ke te t):=by
 intro pos pins s σ H Q I h
 rw [hs]
 show wpAny _ _ (spliced ((false,eval e X.env)::backTo pos (starEach es X.env))) _ _ s
 refine Calls.spliced_cons (thn (ha pins s σ H _ I h) fun u s1 ⟨x,H1,I1,r1,q1⟩ => ?_)
 exact thn (hr pos pins s1 σ H1 _ I1 q1) fun us s2 ⟨xs,H2,I2,r2,q2⟩=>⟨x::xs,H2,I2,.cons r1 r2,q2⟩
def OI (t:TA):TE:=fun σ H Q=>t σ H fun xs H1=>xs.length<=sizeLine/\∀ p,H1 p=none->Q (.ref p) (upd H1 p (.tup xs))
def OO (t:TA):TE:=fun σ H Q=>t σ H fun xs H1=>xs.length<=sizeLine/\∀ p,H1 p=none->Q (.ref p) (upd H1 p (.lst xs))
theorem HA {x1} (h:PA X es t):PE X (.Tuple es x1 pos) (OI t):=by
 intro pins s σ H Q I hq
 refine wpAny_Tuple_spliced (thn (h pos pins s σ H _ I hq) fun us s1 ⟨xs,H1,I1,r,z,q⟩=>⟨by rw [<- r.length];exact z,?_⟩)
 have hf:H1 s1.heap.objs.size=none:=I1.hok.fresh (Nat.le_refl _)
 refine ⟨.ref s1.heap.objs.size,upd H1 s1.heap.objs.size (.tup xs),I1.laid (t':=s1.toks) (fun b u e=>Heap.get?_push_of_some _ e) (Nat.le_refl _) ?_,rfl,q _ hf⟩
 exact ⟨z,us,r,⟨_,Heap.get?_push_size _ rfl,rfl,_,rfl⟩⟩
theorem HE (h:PA X es t):PE X (.List es pos) (OO t):=by
 intro pins s σ H Q I hq
 refine wpAny_List_spliced (thn (h pos pins s σ H _ I hq) fun us s1 ⟨xs,H1,I1,r,z,q⟩=>⟨by rw [<- r.length];exact z,?_⟩)
 have hf:H1 s1.heap.objs.size=none:=I1.hok.fresh (Nat.le_refl _)
 refine ⟨.ref s1.heap.objs.size,upd H1 s1.heap.objs.size (.lst xs),I1.laid (t':=s1.toks) (fun b u e=>Heap.get?_push_of_some _ e) (Nat.le_refl _) ?_,rfl,q _ hf⟩
 exact ⟨z,us,0,r,Heap.get?_push_size _ rfl⟩
end
abbrev Sp:=List V->Hp->VK->XK->Prop
abbrev CXT:=List Env->Hp->Shared->XK->Value->Shared->Prop
structure Env0 (P:Program) (w:World) (K:PySem.W.Frag) (mg:Str->Option Value) (base:Heap) (A:Around) (outer:List Env) (s:Shared) (H:Hp):Prop where
 frames:A.frames=some outer
 mod:Mod K mg base
 bs:∀ b o,base.get? b=some o->s.heap.get? b=some o/\H b=none
 bsz:base.objs.size<=s.heap.objs.size
 funs:s.heap.FunFrames base outer
 frf:∀ b∈frs outer,H b=none
 hok:HOk P w H s.heap
 bare:AllBare s.gens
def CE (outer:List Env) (P:Program) (w:World) (H:Hp) (s:Shared) (Q:VK) (u:Value) (s':Shared):Prop :=
 ∃ v H',s'.os=s.os/\AllBare s'.gens/\Un (frs outer) [] H H' s.heap s'.heap/\HOk P w H' s'.heap/\RelV v u/\Q v H'
def CR (CX:CXT) (outer:List Env) (P:Program) (w:World) (H:Hp) (s:Shared) (Q:VK) (E:XK) (r:Result) (s':Shared):Prop :=
 match r with
 | .ok (.ret u)=>CE outer P w H s Q u s'
 | .ok _=>False
 | .error e=>CX outer H s E e s'
structure FnOk (P:Program) (w:World) (K:PySem.W.Frag) (mg:Str->Option Value) (base:Heap) (CX:CXT) (k:Nat) (f:Addr) (fd:FuncData) (ps:List Str) (sp:Sp):Prop where
 len:∀ vs H Q E,sp vs H Q E->vs.length=ps.length
 run:∀ (A:Around) (outer:List Env) (s:Shared) (H:Hp) (args:Args) (us:List Value) (vs:List V) (Q:VK) (E:XK),Room k A->Env0 P w K mg base A outer s H->BindsTo s fd args (ps.zip us)->Vals vs us->sp vs H Q E ->
  codeAny (model P w) A (.call (.ref f) args) (CR CX outer P w H s Q E) s
theorem Env0.make {P:Program} {w:World} {K:PySem.W.Frag} {mg:Str->Option Value} {base:Heap} {A:Around} {outer:List Env} {s:Shared} {H:Hp} (e:Env0 P w K mg base A outer s H) (C:Addr) (us:List Value) (kw:List (Str×Value)) :
  Env0 P w K mg base (A.under (.builtin "type.__call__" ⟨.ref C::us,kw⟩)) outer s H:=⟨by first | exact e.frames | (simpa [Around.under,Code.envs,Code.isFrame,pushEnvs] using e.frames),e.mod,e.bs,e.bsz,e.funs,e.frf,e.hok,e.bare⟩
section
variable {X:Cx} {pins:List ↥12} {σ:St} {H:Hp} {s s':Shared}
theorem Inv.env0 (I:Inv X pins σ H s):Env0 X.prog X.w X.K X.mg X.base X.A X.stack s H :=
 ⟨I.ok.frames,I.ok.mod,I.bs,Nat.le_trans I.ok.bsz I.sz,I.stack,I.stkFree,I.hok,I.bare⟩
theorem Inv.after {Q:VK} {u:Value} (I:Inv X pins σ H s) (h:CE X.stack X.prog X.w H s Q u s'):EP X pins σ Q u s':=by
 obtain ⟨v,H',os,bare,un,hok,r,q⟩:=h
 obtain ⟨hh,g,d,t,os'⟩:=s'
 obtain rfl:os'=s.os:=os
 exact ⟨v,H',I.call (h':=hh) (g':=g) (d':=d) (t':=t) (ch:=[]) un hok bare (fun b z=>absurd z (by simp)),r,q⟩
end
def Kc (C:Addr) (sp:Sp) (dvs:List V) (E:XK) (t:TA):TE:=fun σ H Q=>t σ H fun vs H1=>∀ x dx,H1 x=none->H1 dx=none->dx≠x ->
 sp (.ref x::(vs++dvs)) (upd (upd H1 dx (.own x)) x (.ins C dx [])) (fun v H2=>v=.non/\Q (.ref x) H2) E
def Binds (K:PySem.W.Frag) (fd:FuncData) (ps:List Str) (ds:List Value):Prop :=
 ∀ (s:Shared) (us:List Value),K.In s.heap->(us++ds).length=ps.length->BindsTo s fd ⟨us,[]⟩ (ps.zip (us++ds))
theorem Binds.all {K:PySem.W.Frag} {fd:FuncData} {ps:List Str} (h:∀ us:List Value,us.length=ps.length->bindArgs fd ⟨us,[]⟩=pure (ps.zip us)):Binds K fd ps []:=fun s us _ hl=>by
 rw [List.append_nil] at hl ⊢
 exact .of_eq (h us hl)
def Passes (CX:CXT) (X:Cx) (E:XK):Prop:=∀ (pins:List ↥12) (σ:St) (H:Hp) (s:Shared) (e:Value) (s':Shared),Inv X pins σ H s->CX X.stack H s E e s'->X.xe e s'
section
variable {X:Cx} {CX:CXT} {k:Nat} {f C:Addr} {fd:FuncData} {ps:List Str} {sp:Sp} {dvs:List V} {ds:List Value} {E:XK} {x m:Str} {p pos apos:Pos} {e o:Expr} {es:List Expr} {ta:TE} {t:TA}
structure Mk (K:PySem.W.Frag) (C f:Addr):Prop where
 makes:PySem.W.makesIn K C=true
 init:PySem.W.findIn K (.ref C) "__init__"=some (some (.ref f))
 fn:PySem.W.isFn K (.ref f)=true
 kp:PySem.W.keepIn K (.ref C)=true
theorem zR {pins:List ↥12} {σ:St} {H:Hp} {s:Shared} {Q:VK} {us:List Value} {vs:List V} (M:Mk X.K C f) (F:FnOk X.prog X.w X.K X.mg X.base CX k f fd ps sp) (hr:Room (k+1) X.A) (hb:Binds X.K fd ps ds) (hd:Vals dvs ds)
  (hx:Passes CX X E) (I:Inv X pins σ H s) (r:Vals vs us)
  (h:∀ x dx,H x=none->H dx=none->dx≠x->sp (.ref x::(vs++dvs)) (upd (upd H dx (.own x)) x (.ins C dx [])) (fun v H2=>v=.non/\Q (.ref x) H2) E) :
  wpAny ↥6 X.A (call (.ref C) us) (EP X pins σ Q) X.xe s:=by
 have hq:=h (s.heap.objs.size+1) s.heap.objs.size (I.hok.fresh (Nat.le_succ _)) (I.hok.fresh (Nat.le_refl _)) (Nat.ne_of_lt (Nat.lt_succ_self _))
 have I2:=Inv.made (C:=C) I
 have r2:Vals (V.ref (s.heap.objs.size+1)::(vs++dvs)) (Value.ref (s.heap.objs.size+1)::(us++ds)):=.cons rfl (r.append hd)
 have hl:(Value.ref (s.heap.objs.size+1)::us++ds).length=ps.length:=by
  have e:=r2.length
  rw [F.len _ _ _ _ hq] at e
  exact e.symm
 refine wpAny_call (AI (f:=f) I.kIn M.makes M.init (beq_iff_eq.mp M.fn) (codeAny_mono (F.run _ X.stack _ _ ⟨Value.ref (s.heap.objs.size+1)::us,[]⟩ (Value.ref (s.heap.objs.size+1)::(us++ds)) _ _ E (hr.make C us [])
  (I2.env0.make C us []) (hb _ (Value.ref (s.heap.objs.size+1)::us) I2.kIn hl) r2 hq) fun r s' hq' => ?_))
 cases r with
 | error e=>exact hx pins σ _ _ e s' I2 hq'
 | ok fl =>
  cases fl with
  | ret u =>
   obtain ⟨v,H',I3,rv,ev,q3⟩:=I2.after hq'
   subst ev
   exact ⟨rv,⟨V.ref (s.heap.objs.size+1),H',I3,rfl,q3⟩⟩
  | next=>exact False.elim hq'
  | brk=>exact False.elim hq'
  | cont=>exact False.elim hq'
theorem DS (M:Mk X.K C f) (F:FnOk X.prog X.w X.K X.mg X.base CX k f fd ps sp) (hr:Room (k+1) X.A) (hg:Gl X x) (hm:X.mg x=some (.ref C)) (hb:Binds X.K fd ps ds) (hd:Vals dvs ds) (hx:Passes CX X E)
  (ha:PA X (e::es) t) (hdb:(x == ("__debug__":Str))=false:=by decide) (he:starEach (e::es) X.env=(false,eval e X.env)::starEach es X.env:=by rfl) (hpl:(backTo pos (starEach es X.env)).any (·.1)=false:=by rfl) :
  PE X (.Call (.Name x p) (e::es) [] pos) (Kc C sp dvs E t):=by
 intro pins s σ H Q I h
 refine wpAny_Call_Name_kw (kQ I hg hm ?_ hdb)
 refine PySem.W.callWith_K (h₀:=X.base) I.ok.mod.kin M.kp (thn (ha pos pins s σ H _ I h) fun us s1 ⟨vs,H1,I1,r,q⟩=>⟨I1.kIn,?_⟩) he hpl
 exact zR M F hr hb hd hx I1 r q
end
section
variable {X:Cx} {CX:CXT} {k:Nat} {f C:Addr} {fd:FuncData} {ps ks:List Str} {sp:Sp} {E:XK} {x m:Str} {p pos apos kpos:Pos} {e o:Expr} {es:List Expr} {kws:List Keyword} {te ta:TE} {t tk:TA} {nm:Option Str}
structure KBinds (K:PySem.W.Frag) (fd:FuncData) (ps ks:List Str) (g:List Value->List Value->List Value) (gV:List V->List V->List V):Prop where
 to:∀ (s:Shared) (us ws:List Value),K.In s.heap->(g us ws).length=ps.length->BindsTo s fd ⟨us,ks.zip ws⟩ (ps.zip (g us ws))
 rel:∀ {vs:List V} {us:List Value} {zs:List V} {ws:List Value},Vals vs us->Vals zs ws->Vals (gV vs zs) (g us ws)
variable {g:List Value->List Value->List Value} {gV:List V->List V->List V}
end
structure FnScope (N P:List Str) (sc:Scope):Prop where
 kind:sc.kind=.function
 co:sc.isCoroutine=false
 gen:sc.isGenerator=false
 nd:N.Nodup
 pre:N.take P.length=P
 par:∀ x∈P,sc.names.lookup x=some .local\/sc.names.lookup x=some .cell
 nofree:∀ y∈sc.names,y.2 ≠ .free
theorem qb {kindOf:Str->Option NameKind} {x:Str}:∀ {binds:List (Str×Value)} {m:Str->Option Value},(∀ v,(x,v)∉binds)->bindL kindOf binds m x=m x
 | [],_,_=>rfl
 | (n,v)::r,m,h=>by
  unfold bindL
  rw [qb fun w hw=>h w (List.mem_cons_of_mem _ hw)]
  split
  ·have:x≠n:=by rintro rfl;exact h v List.mem_cons_self
   simp [this]
  ·rfl
theorem qd {kindOf:Str->Option NameKind} {x:Str}:∀ {binds:List (Str×Value)} {m:Str->Option Value},(∀ v,(x,v)∉binds)->bindC kindOf binds m x=m x
 | [],_,_=>rfl
 | (n,v)::r,m,h=>by
  unfold bindC
  rw [qd fun w hw=>h w (List.mem_cons_of_mem _ hw)]
  split
  ·rfl
  ·have:x≠n:=by rintro rfl;exact h v List.mem_cons_self
   simp [this]
theorem qc {kindOf:Str->Option NameKind} {x:Str} {v:Value}:∀ {P:List Str} {vs:List Value} {i:Nat} {m:Str->Option Value},P.Nodup->P[i]? = some x->vs[i]? = some v->kindOf x=some .local ->
  bindL kindOf (P.zip vs) m x=some v
 | [],_,_,_,_,h,_,_=>by simp at h
 | _::_,[],_,_,_,_,h,_=>by simp at h
 | p::P,w::vs,0,m,nd,h1,h2,hk=>by
  simp at h1 h2;subst h1;subst h2
  show bindL kindOf ((p,w)::P.zip vs) m p=_
  unfold bindL
  rw [qb fun v hv=>(List.nodup_cons.mp nd).1 (List.of_mem_zip hv).1,if_pos hk]
  simp
 | p::P,w::vs,i+1,m,nd,h1,h2,hk=>by
  show bindL kindOf ((p,w)::P.zip vs) m x=_
  unfold bindL
  exact qc (i:=i) (List.nodup_cons.mp nd).2 (by simpa using h1) (by simpa using h2) hk
theorem qf {kindOf:Str->Option NameKind} {x:Str} {v:Value}:∀ {P:List Str} {vs:List Value} {i:Nat} {m:Str->Option Value},P.Nodup->P[i]? = some x->vs[i]? = some v->kindOf x≠some .local ->
  bindC kindOf (P.zip vs) m x=some v
 | [],_,_,_,_,h,_,_=>by simp at h
 | _::_,[],_,_,_,_,h,_=>by simp at h
 | p::P,w::vs,0,m,nd,h1,h2,hk=>by
  simp at h1 h2;subst h1;subst h2
  show bindC kindOf ((p,w)::P.zip vs) m p=_
  unfold bindC
  rw [qd fun v hv=>(List.nodup_cons.mp nd).1 (List.of_mem_zip hv).1,if_neg hk]
  simp
 | p::P,w::vs,i+1,m,nd,h1,h2,hk=>by
  show bindC kindOf ((p,w)::P.zip vs) m x=_
  unfold bindC
  exact qf (i:=i) (List.nodup_cons.mp nd).2 (by simpa using h1) (by simpa using h2) hk
def start (N:List Str) (vs:List V):St:=vs.map some++List.replicate (N.length - vs.length) none
def yk (CX:CXT) (P:Program) (w:World) (K:PySem.W.Frag) (mg:Str->Option Value) (base:Heap) (N:List Str) (qual:Str) (scope:Scope) (f:Addr) (cd:Value) (A:Around) (outer:List Env) (s:Shared) (H:Hp) (E:XK):Cx where
 prog:=P
 w:=w
 K:=K
 mg:=mg
 base:=base
 A:=A.deeper (envOfC qual scope s.heap.objs.size f cd)
 N:=N
 s₀:=s
 H₀:=H
 env:=envOfC qual scope s.heap.objs.size f cd
 outer:=outer
 stack:=envOfC qual scope s.heap.objs.size f cd::outer
 ex:=[]
 calm:=true
 fn:=fun _=>true
 pn:=[]
 xe:=fun e s'=>wpAny (model P w) (A.deeper (envOfC qual scope s.heap.objs.size f cd)) (leaving (envOfC qual scope s.heap.objs.size f cd) e) (fun _ s''=>CX outer H s E e s'') (fun e' s''=>CX outer H s E e' s'') s'
theorem tw {sc:Scope} {n:Nat} {x:Str} (h:sc.names.lookup x=some .cell):∃ c,(cellsFrom n sc.names []).lookup x=some c:=by
 have q:=PySem.W.cellsFrom_some sc.names n [] (.inl h)
 exact Option.isSome_iff_exists.mp q
theorem xO {CX:CXT} {P:Program} {w:World} {K:PySem.W.Frag} {mg:Str->Option Value} {base:Heap} {N ps:List Str} {qual:Str} {scope:Scope} {f:Addr} {cd:Value} {A:Around} {outer:List Env} {s s1:Shared} {H:Hp} {E:XK} {us:List Value} {vs:List V}
  (S:FnScope N ps scope) (hd:A.handled=none) (e0:Env0 P w K mg base A outer s H) (hl:vs.length=ps.length) (r:Vals vs us)
  (x:InCallC s s.heap.objs.size (bindL (envOfC qual scope s.heap.objs.size f cd).kindOf (ps.zip us) fun _=>none) (cellsFrom (s.heap.objs.size+1) scope.names []) (bindC (envOfC qual scope s.heap.objs.size f cd).kindOf (ps.zip us) fun _=>none) s1) :
  Inv (yk CX P w K mg base N qual scope f cd A outer s H E) [] (start N vs) H s1:=by
 have hpl:ps.length<=N.length:=by have:=congrArg List.length S.pre;rw [List.length_take] at this;omega
 obtain ⟨h1,tk,rfl,hk⟩:=x.done
 have noA:∀ b:Addr,b∉(yk CX P w K mg base N qual scope f cd A outer s H E).ex:=fun b z=>absurd (show b∈([]:List Addr) from z) (by simp)
 refine ⟨⟨e0.mod,S.kind,rfl,rfl,Nat.le_refl _,fun y z c h1 h2 => ?_,fun y hy => ?_,fun y c _ h => ?_,fun _=>hd,Around.frames_deeper e0.frames,.inr ⟨rfl,rfl⟩,fun b z=>absurd z (noA b),e0.bs,e0.bsz,fun b _ _=>noA b,fun b z=>absurd z (noA b),e0.funs,e0.frf⟩,
  rfl,e0.bare,Un.kept hk,⟨_,x.toInCall.ns,fun i y v h1 h2 h3 => ?_⟩,fun y c h=>⟨_,x.cell y c h⟩,e0.hok.fresh (Nat.le_refl _),fun y c h => ?_,fun p hp=>absurd (show p∈([]:List ↥12) from hp) (by simp),e0.hok.kept hk,?_⟩
 ·exact name_of_addr x.apart (PySem.mem_of_lookup h1) (PySem.mem_of_lookup h2)
 ·have hy:scope.names.lookup y=some .cell\/scope.names.lookup y=some .free:=hy
  rcases hy with hy | hy
  ·exact tw hy
  ·exact absurd rfl (S.nofree _ (PySem.mem_of_lookup hy))
 ·exact Nat.le_of_lt (x.above y c (PySem.mem_of_lookup h))
 ·have hi:i<vs.length:=by
   unfold start at h2
   by_cases hi:i<vs.length
   ·exact hi
   ·rw [List.getElem?_append_right (by simpa using hi)] at h2
    rw [List.getElem?_replicate] at h2
    split at h2<;>cases h2
  have ha:vs[i]? = some v:=by
   unfold start at h2
   rw [List.getElem?_append_left (by simpa using hi),List.getElem?_map] at h2
   cases e:vs[i]? with
   | none=>rw [e] at h2;cases h2
   | some a=>rw [e] at h2;cases h2;rfl
  obtain ⟨u,hu,rv⟩:=r.get ha
  have hp:ps[i]? = some y:=by
   rw [<- S.pre,List.getElem?_take_of_lt ⋯];exact h1
  have ndP:ps.Nodup:=by rw [<- S.pre];exact S.nd.sublist (List.take_sublist _ _)
  refine ⟨u,rv,?_⟩
  rcases S.par y (List.mem_of_getElem? hp) with k | k
  ·exact .inl ⟨k,qc ndP hp hu k⟩
  ·obtain ⟨c,e⟩:=tw (n:=s.heap.objs.size+1) k
   refine .inr ⟨.inl k,c,e,?_⟩
   have q:=x.cell y c e
   rw [qf ndP hp hu (by show scope.names.lookup y≠_;rw [k];decide)] at q
   exact q
 ·exact e0.hok.fresh (Nat.le_of_lt (x.above y c (PySem.mem_of_lookup h)))
 ·unfold start
  show _=N.length
  rw [List.length_append,List.length_map,List.length_replicate]
  omega
theorem IK {CX:CXT} {P:Program} {w:World} {K:PySem.W.Frag} {mg:Str->Option Value} {base:Heap} {k:Nat} {f:Addr} {name qual:Str} {params:Arguments} {body:List Stmt} {scope:Scope} {dV kV doc pm cdv ct oc:Value} {an od:Option Addr}
  {osl:Array (Option Value)} {N ps:List Str} {sp:Sp} (lk:K.lookup f=some ⟨oc,od,.func (PySem.W.fnOf name qual params body scope dV kV doc pm an cdv ct),osl⟩) (hcd:PySem.W.codeIn K cdv qual=true) (S:FnScope N ps scope)
  (len:∀ vs H Q E,sp vs H Q E->vs.length=ps.length)
  (hbody:∀ (A:Around) (outer:List Env) (s:Shared) (H:Hp) (vs:List V) (Q:VK) (E:XK),Room k (A.deeper (envOfC qual scope s.heap.objs.size f cdv))->sp vs H Q E ->
   ∃ t,PSs (yk CX P w K mg base N qual scope f cdv A outer s H E) body t/\t { nx:=fun _ H'=>Q .non H',rt:=Q } (start N vs) H) :
  FnOk P w K mg base CX (k+1) f (PySem.W.fnOf name qual params body scope dV kV doc pm an cdv ct) ps sp:=by
 refine ⟨len,fun A outer s H args us vs Q E hr e0 hb r hsp => ?_⟩
 have hl:=len _ _ _ _ hsp
 have KX:K.In s.heap:=e0.mod.kin.keeps fun b o e=>(e0.bs b o e).1
 have lim:s.heap.NoLimit:=e0.mod.nolimit.keeps fun b o e=>(e0.bs b o e).1
 have hkind:∀ y∈ps.zip us,scope.names.lookup y.1=some .local\/(scope.names.lookup y.1=some .cell/\((cellsFrom (s.heap.objs.size+1) scope.names []).lookup y.1).isSome=true):=fun ⟨n,v⟩ hy=>by
  rcases S.par n (List.of_mem_zip hy).1 with q | q
  ·exact .inl q
  ·exact .inr ⟨q,PySem.W.cellsFrom_some _ _ _ (.inl q)⟩
 refine codeAny_call_function hr.depth (KX _ _ lk) rfl S.co S.gen rfl (PySem.W.codeRec_of KX hcd) (hb _ _ _ _ ?_)
 refine wpAny_newFunctionEnv_cells S.kind hkind fun env he s1 x => ?_
 subst he
 refine ⟨lim.keeps x.toInCall.keep,codeAny_func ?_⟩
 obtain ⟨t,ht,hq⟩:=hbody A outer s H vs Q E (hr.deeper _) hsp
 have I:Inv (yk CX P w K mg base N qual scope f cdv A outer s H E) [] (start N vs) H s1:=xO S hr.hd e0 hl r x
 refine wpAny_mono (ht [] s1 (start N vs) H _ I hq) (fun fl s' hs => ?_) fun e s' hs=>hs
 have fin:∀ {σ':St} {H':Hp} {v:V} {u:Value},Inv (yk CX P w K mg base N qual scope f cdv A outer s H E) [] σ' H' s'->RelV v u->Q v H'->CE outer P w H s Q u s' :=
  fun {σ' H' v u} J rv q=>⟨v,H',J.os,J.bare,J.base,J.hok,rv,q⟩
 cases fl with
 | ret u =>
  obtain ⟨v,σ',H',J,rv,q⟩:=hs
  exact fin J rv q
 | next =>
  obtain ⟨σ',H',J,q⟩:=hs
  exact fin (v:=V.non) (u:=Value.none) J rfl q
 | brk =>
  obtain ⟨_,_,_,q⟩:=hs
  exact False.elim q
 | cont =>
  obtain ⟨_,_,_,q⟩:=hs
  exact False.elim q
end L2
namespace L2
open PySem PySem.Spec PyProof.Rows
section
variable {X:Cx} {x:Str} {p pos:Pos} {e:Expr} {es:List Expr} {t:TA} {id T:String} {r:List V->Hp->VK->Prop}
def tCB (r:List V->Hp->VK->Prop) (t:TA):TE:=fun σ H Q=>t σ H fun vs H1=>r vs H1 Q
theorem sQ (hc:jZ X (.builtin id) r) (hg:Gl X x) (hm:X.mg x=none) (hv:bootBuiltins x=some (.builtin id)) (ha:PA X (e::es) t) (hn:x≠"__name__":=by decide) (hdb:(x == ("__debug__":Str))=false:=by decide)
  (he:starEach (e::es) X.env=(false,eval e X.env)::starEach es X.env:=by rfl) (hpl:(backTo pos (starEach es X.env)).any (·.1)=false:=by rfl):PE X (.Call (.Name x p) (e::es) [] pos) (tCB r t):=by
 intro pins s σ H Q I h
 refine wpAny_Call_Name_kw (xH I hg hm hv ?_ hn hdb)
 exact PyProof.Rows.callWith_builtin1 (thn (ha pos pins s σ H _ I h) fun us s1 ⟨vs,H1,I1,r1,q1⟩=>hc pins s1 σ H1 vs us Q I1 r1 q1) he hpl
end
end L2
namespace HT
open PySem PyProof.Rows
section
open PySem.SeqAt
open PySem.AutoSeq1 (wpAny_loadPart')
open PySem.MeetsSeq PySem.MeetsSeq2 PySem.MeetsSeq3
end
section
variable {prog:Program} {w:World} {A:Around} {E:Value->Shared->Prop} {s:Shared}
theorem Fj {t b:Addr} {vs ws:List Value} {Q:Value->Shared->Prop} (ht:IsTup s.heap t vs.toArray) (hb:IsTup s.heap b ws.toArray) (hv:vs≠[])
  (h1:ws=[]->Q (.ref t) s) (h2:ws≠[]->Q (.ref s.heap.objs.size) { s with heap:=s.heap.push { cls:=.type "tuple",data:=.seq (vs++ws).toArray } })
  (hsz:vs.length+ws.length<=sizeLine):wpAny ↥17 A (binaryOp .Add (.ref t) (.ref b)) Q E s:=by
 obtain ⟨⟨cls,dd,data,sl⟩,ho,hc,n,hd⟩:=id ht
 obtain ⟨⟨cls2,dd2,data2,sl2⟩,ho2,hc2,n2,hd2⟩:=id hb
 simp only at hc hd hc2 hd2
 subst hc hd hc2 hd2
 have e:vs.toArray++ws.toArray=(vs++ws).toArray:=by simp
 by_cases hw:ws=[]
 ·exact concat_meets ⟨_,ho,rfl⟩ ⟨_,ho2,rfl⟩ noFill_tuple_add seq_tuple_add PySem.F.slot_tuple_add PySem.F.entry_tuple_add (PySem.F.args_tuple_add_2 _ _)
   (tuple_addW1 t b vs.toArray ws.toArray n n2 dd dd2 sl sl2 (by simpa using hv) (by simp [hw])) ⟨ho,ho2,h1 hw⟩
 ·refine concat_meets ⟨_,ho,rfl⟩ ⟨_,ho2,rfl⟩ noFill_tuple_add seq_tuple_add PySem.F.slot_tuple_add PySem.F.entry_tuple_add (PySem.F.args_tuple_add_2 _ _)
   (tuple_addW2 t b vs.toArray ws.toArray n n2 dd dd2 sl sl2 (by simpa using hv) (by simpa using hw) (by rw [List.size_toArray,List.size_toArray];exact hsz)) ⟨ho,ho2,?_⟩
  rw [e]
  exact h2 hw
def sIx (n d:Nat):Option Int->Nat
 | none=>d
 | some v=>if v<0 then (v+(n:Int)).toNat else min v.toNat n
theorem Ha (n d:Nat) (hd:d<=n) (o:Option Int):sIx n d o<=n:=by
 cases o with
 | none=>exact hd
 | some v =>
  show (if v<0 then (v+(n:Int)).toNat else min v.toNat n)<=n
  by_cases hv:v<0
  ·rw [if_pos hv];omega
  ·rw [if_neg hv];exact Nat.min_le_right _ _
theorem yn (v:Int) (n d:Nat):(if v<0 then max (v+(n:Int)) 0 else min v (n:Int))=((sIx n d (some v):Nat):Int):=by
 show (if v<0 then max (v+(n:Int)) 0 else min v (n:Int))=(((if v<0 then (v+(n:Int)).toNat else min v.toNat n):Nat):Int)
 by_cases hv:v<0
 ·simp only [if_pos hv];omega
 ·simp only [if_neg hv];omega
theorem vh (lo hi:Option Int) (n:Nat):Builtin.Slice.sliceAdjust lo hi 1 (n:Int)=(((sIx n 0 lo:Nat):Int),((sIx n n hi:Nat):Int)):=by
 have h1:¬ ((1:Int)<0):=⋯
 unfold Builtin.Slice.sliceAdjust
 simp only [h1,if_false]
 refine Prod.ext ?_ ?_
 ·cases lo with
  | none=>rfl
  | some v=>exact yn v n 0
 ·cases hi with
  | none=>rfl
  | some v=>exact yn v n n
theorem ux (i j:Nat):Builtin.Slice.slicePlaces (i:Int) (j:Int) 1=j - i:=by
 unfold Builtin.Slice.slicePlaces
 have h1:(1:Int)>0:=⋯
 simp only [h1,if_true,Int.ediv_one]
 split<;>omega
theorem lY {v:Value} {o:Option Int} {Q:Option Int->Shared->Prop} (p:IsPart v o) (h:Q o s):wpAny ↥17 A (Builtin.Slice.slicePartIndex v) Q E s:=by
 cases p with
 | none=>exact slicePart_none h
 | int i t=>exact slicePart_int h
theorem jQ {sl:Addr} {vl vu:Value} {lo hi:Option Int} {n:Nat} {Q:Int×Int×Nat->Shared->Prop} (hs:s.heap.IsSliceOf sl vl vu .none) (pl:IsPart vl lo) (pu:IsPart vu hi)
  (h:Q (((sIx n 0 lo:Nat):Int),1,sIx n n hi - sIx n 0 lo) s):wpAny ↥17 A (Builtin.Slice.sliceApplied (.ref sl) (pure (n:Int))) Q E s:=by
 obtain ⟨os,hos,hcs,hds⟩:=id hs
 unfold Builtin.Slice.sliceApplied Builtin.Slice.sliceFields
 refine wpAny_bind (wpAny_bind (wpAny_field hos hds (x:=vl) rfl (wpAny_bind (wpAny_field hos hds (x:=vu) rfl (wpAny_bind (wpAny_field hos hds (x:=.none) rfl (wpAny_pure ?_)))))))
 refine wpAny_bind (slicePart_none ?_)
 show wpAny _ _ (if ((1:Int) == 0)=true then _ else _) _ _ s
 rw [if_neg ↥3]
 refine wpAny_bind (lY pl (wpAny_bind (lY pu (wpAny_bind (wpAny_pure ?_)))))
 show wpAny _ _ (match Builtin.Slice.sliceAdjust lo hi 1 (n:Int) with | (lo,hi)=>pure (lo,(1:Int),Builtin.Slice.slicePlaces lo hi 1)) _ _ s
 rw [vh lo hi n]
 show wpAny _ _ (pure (((sIx n 0 lo:Nat):Int),(1:Int),Builtin.Slice.slicePlaces ((sIx n 0 lo:Nat):Int) ((sIx n n hi:Nat):Int) 1)) _ _ s
 rw [ux]
 exact wpAny_pure h
theorem zY (xs:Array Value) (i k:Nat):((List.range k).filterMap fun (m:Nat)=>xs[((i:Int)+(m:Int)*1).toNat]?).toArray=((xs.toList.drop i).take k).toArray:=by
 have e:(fun (m:Nat)=>xs[((i:Int)+(m:Int)*1).toNat]?)=fun m=>xs[i+m]? := by
  funext m
  have:((i:Int)+(m:Int)*1).toNat=i+m:=⋯
  rw [this]
 rw [e]
 have:=pick_run xs i k
 rw [List.filterMap_map] at this
 have e2:((fun x=>xs[x]?) ∘ fun x=>i+x)=fun m=>xs[i+m]? := rfl
 rw [e2] at this
 rw [this]
theorem jn {t sl:Addr} {items:Array Value} {vl vu:Value} {lo hi:Option Int} {Q:Value->Shared->Prop} (ht:IsTup s.heap t items) (hs:s.heap.IsSliceOf sl vl vu .none) (pl:IsPart vl lo) (pu:IsPart vu hi)
  (hw:¬ (sIx items.size 0 lo=0/\sIx items.size items.size hi=items.size))
  (h:Q (.ref s.heap.objs.size) { s with heap:=s.heap.push { cls:=.type "tuple",data:=.seq ((items.toList.drop (sIx items.size 0 lo)).take (sIx items.size items.size hi - sIx items.size 0 lo)).toArray } })
  (hsz:items.size<=sizeLine):wpAny ↥17 A (getItem (.ref t) (.ref sl)) Q E s:=by
 have htake:sizeOk (.seq ((items.toList.drop (sIx items.size 0 lo)).take (sIx items.size items.size hi - sIx items.size 0 lo)).toArray):=by
  show ((items.toList.drop (sIx items.size 0 lo)).take (sIx items.size items.size hi - sIx items.size 0 lo)).toArray.size<=sizeLine
  rw [List.size_toArray,List.length_take,List.length_drop,Array.length_toList]
  omega
 have hj:sIx items.size items.size hi<=items.size:=Ha _ _ (Nat.le_refl _) hi
 obtain ⟨os,hos,hcs,hds⟩:=id hs
 have hTs:s.TypeIs (.ref sl) "slice":=⟨os,hos,hcs⟩
 unfold getItem
 try with_reducible refine wpAny_holding ?_
 first | refine wpAny_bind (wpAny_pure ?_) | skip
 refine wpAny_bind (wpAny_sequenceKey ht.typeIs ↥3 ?_)
 refine wpAny_bind (wpAny_callSpecial?_slot (name:=Str.ofString "__getitem__") ht.typeIs PyProof.Rows.slot_tuple_getitem
  (wpAny_call_entry PyProof.Rows.slot_tuple_getitem ht.typeIs entry_tuple_getitem ?_ (args_tuple_getitem _ _)))
 show wpAny _ _ (Builtin.Tuple.tupleItemsOf (.ref t) >>= _) _ _ s
 refine wpAny_bind (tupleItemsOf_ ht ?_)
 refine wpAny_bind (wpAny_typeOf hTs ?_)
 rw [if_pos ↥3]
 refine wpAny_bind (jQ hs pl pu ?_)
 have hno:¬ ((((sIx items.size 0 lo:Nat):Int) == 0&&(1:Int) == 1&&(sIx items.size items.size hi - sIx items.size 0 lo) == items.size)=true):=by
  intro q
  rw [Bool.and_eq_true,Bool.and_eq_true] at q
  have q1:((sIx items.size 0 lo:Nat):Int)=0:=eq_of_beq q.1.1
  have q2:sIx items.size items.size hi - sIx items.size 0 lo=items.size:=eq_of_beq q.2
  exact hw ⟨⋯,⋯⟩
 show wpAny _ _ (if (((sIx items.size 0 lo:Nat):Int) == 0&&(1:Int) == 1&&(sIx items.size items.size hi - sIx items.size 0 lo) == items.size)=true then _ else _) _ _ s
 rw [if_neg hno,zY]
 first
  | exact wpAny_bind (m:=Builtin.Tuple.tupleExact _) (wpAny_newObj_type (wpAny_pure ⟨_,rfl,wpAny_pure h⟩) htake)
  | exact wpAny_bind (m:=Builtin.Tuple.tupleExact _) (wpAny_newObj_type (wpAny_bind (wpAny_pure (wpAny_pure ⟨_,rfl,wpAny_pure h⟩))) htake)
  | exact wpAny_bind (wpAny_bind (m:=Builtin.Tuple.tupleExact _) (wpAny_newObj_type (wpAny_pure (wpAny_pure ⟨_,rfl,wpAny_pure h⟩)) htake))
  | exact wpAny_bind (wpAny_bind (m:=Builtin.Tuple.tupleExact _) (wpAny_newObj_type (wpAny_pure ⟨_,rfl,wpAny_pure h⟩) htake))
end
end HT
namespace L2
open PySem PySem.Spec PyProof.Rows
abbrev TO:=St->Hp->(Option Int->Hp->Prop)->Prop
def PO (X:Cx) (e:Option Expr) (t:TO):Prop :=
 ∀ (pins:List ↥12) (s:Shared) (σ:St) (H:Hp) (Q:Option Int->Hp->Prop),Inv X pins σ H s->t σ H Q ->
  wpAny ↥6 X.A (evalPart e X.env) (fun u s'=>∃ o H',Inv X pins σ H' s'/\IsPart u o/\Q o H') X.xe s
def Di:TO:=fun _ H Q=>Q none H
def J9 (t:TE):TO:=fun σ H Q=>t σ H fun x H1=>∃ i,x=.int i/\Q (some i) H1
section
variable {X:Cx} {e:Expr} {te:TE} {lo hi:Option Expr} {tl th:TO} {pos p2:Pos}
theorem DP:PO X none Di:=by
 intro pins s σ H Q I h
 rw [evalPart_none]
 exact wpAny_pure ⟨none,H,I,.none,h⟩
theorem DO (h:PE X e te):PO X (some e) (J9 te):=by
 intro pins s σ H Q I hw
 rw [evalPart_some]
 refine thn (h pins s σ H _ I hw) fun u s1 ⟨x,H1,I1,r1,q1⟩ => ?_
 obtain ⟨i,rfl,q⟩:=q1
 obtain ⟨t,rfl⟩:=r1
 exact ⟨some i,H1,I1,.int i t,q⟩
def SlR (X:Cx) (r:V->Option Int->Option Int->Hp->VK->Prop):Prop :=
 ∀ (pins:List ↥12) (s:Shared) (σ:St) (H:Hp) (x:V) (v vl vu:Value) (lo hi:Option Int) (sl:Addr) (Q:VK),Inv X pins σ H s->RelV x v->s.heap.IsSliceOf sl vl vu .none->IsPart vl lo->IsPart vu hi->r x lo hi H Q ->
  ∃ T id,typeLookup (.type T) "__getitem__"=pure (some (.builtin id))/\s.TypeIs v T/\wpAny ↥6 X.A (getItem v (.ref sl)) (EP X pins σ Q) X.xe s
def tSl (r:V->Option Int->Option Int->Hp->VK->Prop) (te:TE) (tl th:TO):TE:=fun σ H Q=>te σ H fun x H1=>tl σ H1 fun l H2=>th σ H2 fun u H3=>r x l u H3 Q
theorem zZ {r:V->Option Int->Option Int->Hp->VK->Prop} (hr:SlR X r) (he:PE X e te) (hl:PO X lo tl) (hu:PO X hi th):PE X (.Subscript e (.Slice lo hi none p2) pos) (tSl r te tl th):=by
 intro pins s σ H Q I h
 refine Subscript_ (thn (he pins s σ H _ I h) fun v s1 ⟨x,H1,I1,r1,q1⟩ => ?_)
 refine wpAny_Slice (thn (hl pins s1 σ H1 _ I1 q1) fun vl s2 ⟨l,H2,I2,pl,q2⟩=>thn (hu pins s2 σ H2 _ I2 q2) fun vu s3 ⟨u,H3,I3,pu,q3⟩ => ?_)
 rw [evalPart_none]
 refine wpAny_pure ?_
 have I4:Inv X pins σ H3 { s3 with heap:=s3.heap.push { cls:=.type "slice",data:=.fields #[vl,vu,.none] } }:=I3.kept (t':=s3.toks) fun b ob q=>Heap.get?_push_of_some _ q
 obtain ⟨T,id,hT,ht,hg⟩:=hr pins { s3 with heap:=s3.heap.push { cls:=.type "slice",data:=.fields #[vl,vu,.none] } } σ H3 x v vl vu l u s3.heap.objs.size Q I4 r1 (Heap.IsSliceOf.new ..) pl pu q3
 show wpAny ↥6 X.A (subscriptTail e (.Slice lo hi none p2) v (.ref s3.heap.objs.size)) (EP X pins σ Q) X.xe { s3 with heap:=s3.heap.push { cls:=.type "slice",data:=.fields #[vl,vu,.none] } }
 exact tail_any (ops:=[.ref s3.heap.objs.size,v]) ht hT hg (by with_unfolding_all rfl)
def B9 (xs:List V) (lo hi:Option Int):List V:=(xs.drop (HT.sIx xs.length 0 lo)).take (HT.sIx xs.length xs.length hi - HT.sIx xs.length 0 lo)
theorem lb (xs:List V) (lo hi:Option Int):(B9 xs lo hi).length<=xs.length:=by
 unfold B9
 rw [List.length_take,List.length_drop]
 omega
def O1 (K:PySem.W.Frag):V->Option Int->Option Int->Hp->VK->Prop:=fun x lo hi H Q=>∃ a xs,x=.ref a/\SqT K H a xs /\
 ¬ (HT.sIx xs.length 0 lo=0/\HT.sIx xs.length xs.length hi=xs.length)/\∀ p,H p=none->Q (.ref p) (upd H p (.tup (B9 xs lo hi)))
theorem G3:SlR X (O1 X.K):=by
 intro pins s σ H x v vl vu lo hi sl Q I rx hs pl pu h
 obtain ⟨a,xs,rfl,hx,hw,q⟩:=h
 cases rx
 obtain ⟨its,r,ht,hz⟩:=I.tuple hx
 have hlen:its.toArray.size=xs.length:=by rw [List.size_toArray];exact r.length.symm
 refine ⟨"tuple",_,PyProof.Rows.slot_tuple_getitem.lookup,ht.typeIs,?_⟩
 refine HT.jn ht hs pl pu (by rw [hlen];exact hw) ?_ (by rw [hlen];exact hz)
 rw [hlen]
 refine ⟨.ref s.heap.objs.size,_,I.laid (t':=s.toks) (o:=.tup (B9 xs lo hi)) (fun b ob q=>Heap.get?_push_of_some _ q) (Nat.le_refl _) ?_,rfl,q _ (I.hok.fresh (Nat.le_refl _))⟩
 exact ⟨Nat.le_trans (lb xs lo hi) hz,_,(r.drop (HT.sIx xs.length 0 lo)).take (HT.sIx xs.length xs.length hi - HT.sIx xs.length 0 lo),IsTup.new _ _⟩
def Km (K:PySem.W.Frag):R2:=fun x y H Q=>∃ a b xs ys,x=.ref a/\y=.ref b/\SqT K H a xs/\SqT K H b ys/\xs≠[]/\xs.length+ys.length<=sizeLine /\
 (ys=[]->Q (.ref a) H)/\(ys≠[]->∀ p,H p=none->Q (.ref p) (upd H p (.tup (xs++ys))))
theorem Vals.nil_iff {xs:List V} {us:List Value} (r:Vals xs us):us=[]↔xs=[]:=by
 cases r with
 | nil=>simp
 | cons _ _=>simp
theorem Ed:OpR X (binaryOp .Add) (Km X.K):=by
 intro pins s σ H x y v u Q I rx ry h
 obtain ⟨a,b,xs,ys,rfl,rfl,ha,hb,hx,hz,q1,q2⟩:=h
 cases rx
 cases ry
 obtain ⟨its,r1,p1,_⟩:=I.tuple ha
 obtain ⟨its2,r2,p2,_⟩:=I.tuple hb
 refine HT.Fj p1 p2 (fun z=>hx (r1.nil_iff.mp z)) (fun z=>⟨.ref a,H,I,rfl,q1 (r2.nil_iff.mp z)⟩) (fun z => ?_) (by rw [<- r1.length,<-r2.length];exact hz)
 refine ⟨.ref s.heap.objs.size,_,I.laid (t':=s.toks) (o:=.tup (xs++ys)) (fun b ob q=>Heap.get?_push_of_some _ q) (Nat.le_refl _) ?_,rfl,q2 (fun w=>z (r2.nil_iff.mpr w)) _ (I.hok.fresh (Nat.le_refl _))⟩
 exact ⟨by rw [List.length_append];exact hz,_,r1.append r2,IsTup.new _ _⟩
end
end L2
namespace L2
open PySem PySem.Spec PyProof.Rows
def ixN (n:Nat) (i:Int):Option Nat:=if 0<=i then (if i<n then some i.toNat else none) else if -(n:Int)<=i then some (i+n).toNat else none
def atI {α:Type} (xs:List α) (i:Int):Option α:=(ixN xs.length i).bind fun j=>xs[j]?
theorem EN {n:Nat} {i:Int} {j:Nat} (h:ixN n i=some j):seqIndex? i n=some j/\j<n /\ -(n:Int)<=i/\i<n:=by
 unfold ixN at h
 by_cases h0:0<=i
 ·rw [if_pos h0] at h
  by_cases h1:i<n
  ·rw [if_pos h1] at h
   have e:i.toNat=j:=Option.some.inj h
   exact ⟨by rw [seqIndex_of h0 h1,e],⋯,⋯,h1⟩
  ·rw [if_neg h1] at h;cases h
 ·rw [if_neg h0] at h
  by_cases h1 : -(n:Int)<=i
  ·rw [if_pos h1] at h
   have e:(i+n).toNat=j:=Option.some.inj h
   exact ⟨by rw [seqIndex_neg ⋯ h1,e],⋯,h1,⋯⟩
  ·rw [if_neg h1] at h;cases h
theorem sv {α:Type} {xs:List α} {i:Int} {v:α} (h:atI xs i=some v):∃ j,seqIndex? i xs.length=some j/\xs[j]? = some v/\j<xs.length /\ -(xs.length:Int)<=i/\i<xs.length:=by
 unfold atI at h
 cases e:ixN xs.length i with
 | none=>rw [e] at h;cases h
 | some j =>
  rw [e] at h
  obtain ⟨h1,h2,h3,h4⟩:=EN e
  exact ⟨j,h1,h,h2,h3,h4⟩
def yJ (b:Expr):Prop:=∀ o i,subscripted b false o i=operate [o,i] (getItem o i)
def IxR (X:Cx) (r:R2):Prop :=
 ∀ (value slice:Expr) (pins:List ↥12) (s:Shared) (σ:St) (H:Hp) (x y:V) (v u:Value) (Q:VK),Inv X pins σ H s->RelV x v->RelV y u->r x y H Q ->
  subscripted slice false v u=operate [v,u] (getItem v u)->wpAny ↥6 X.A (subscriptTail value slice v u) (EP X pins σ Q) X.xe s
def MtR (X:Cx) (id:String) (r:V->List V->Hp->VK->Prop):Prop :=
 ∀ (pins:List ↥12) (s:Shared) (σ:St) (H:Hp) (x:V) (xs:List V) (v:Value) (us:List Value) (Q:VK),Inv X pins σ H s->RelV x v->Vals xs us->r x xs H Q ->
  wpAny ↥6 X.A (call (.builtin id) (v::us)) (EP X pins σ Q) X.xe s
section
variable {X:Cx} {a b:Expr} {ta tb:TE} {pos:Pos}
theorem Kx {r:R2} (hr:IxR X r) (ha:PE X a ta) (hb:PE X b tb) (hs:yJ b):PE X (.Subscript a b pos) (tOp r ta tb):=by
 intro pins s σ H Q I h
 exact Subscript_ (Ld ha hb I h fun v u s2 x y H2 I2 rx ry q=>hr a b pins s2 σ H2 x y v u Q I2 rx ry q (hs _ _))
def O5 (K:PySem.W.Frag):R2:=fun x y H Q=>∃ p xs i v,x=.ref p/\y=.int i/\SqL K H p xs/\atI xs i=some v/\Q v H
def O3 (K:PySem.W.Frag):R2:=fun x y H Q=>∃ p xs i v,x=.ref p/\y=.int i/\SqT K H p xs/\atI xs i=some v/\Q v H
def O4:R2:=fun x y H Q=>∃ z i c,x=.str z/\y=.int i/\z.length<=sizeLine/\atI z.cps.toList i=some c/\Q (.str ⟨#[c]⟩) H
theorem EM:IxR X (O5 X.K):=by
 intro value slice pins s σ H x y v u Q I rx ry h hs
 obtain ⟨p,xs,i,z,rfl,rfl,hq,he,q⟩:=h
 cases rx
 obtain ⟨t,rfl⟩:=ry
 obtain ⟨its,r,pl,hz⟩:=I.list hq
 obtain ⟨j,h1,h2,h3,h4,h5⟩:=sv he
 obtain ⟨w,ew,rw'⟩:=r.get h2
 have hl:=r.length
 have hn:=pR
 have fin:EP X pins σ Q w s:=⟨z,H,I,rw',q⟩
 by_cases h0:0<=i
 ·have hj:i.toNat=j:=by
   rw [seqIndex_of h0 h5] at h1
   exact Option.some.inj h1
  exact item_listR pl.isList h0 ⋯ (by rw [hj];simpa using ew) fin hs
 ·have hj:(i+(its.toArray.size:Int)).toNat=j:=by
   rw [seqIndex_neg ⋯ h4] at h1
   rw [List.size_toArray,<-hl]
   exact Option.some.inj h1
  exact subscriptTail_builtinR (x:=w) pl.isList.typeIs slot_list_getitem.lookup
   (wpAny_getItem_list_neg (Q:=fun r s'=>r=w/\EP X pins σ Q r s') pl.isList ⋯ (by rw [List.size_toArray]<;>omega) ⋯ (by rw [hj];simpa using ew) ⟨rfl,fin⟩) hs
theorem l6:IxR X (O3 X.K):=by
 intro value slice pins s σ H x y v u Q I rx ry h hs
 obtain ⟨p,xs,i,z,rfl,rfl,hq,he,q⟩:=h
 cases rx
 obtain ⟨t,rfl⟩:=ry
 obtain ⟨its,r,pl,hz⟩:=I.tuple hq
 obtain ⟨j,h1,h2,h3,h4,h5⟩:=sv he
 obtain ⟨w,ew,rw'⟩:=r.get h2
 have hl:=r.length
 have hn:=pR
 have fin:EP X pins σ Q w s:=⟨z,H,I,rw',q⟩
 exact subscriptTail_builtinR (x:=w) pl.typeIs slot_tuple_getitem.lookup
  (getItem_tuple (j:=j) (Q:=fun r s'=>r=w/\EP X pins σ Q r s') pl ⋯ ⋯ (by rw [List.size_toArray,<-hl];exact h1) (by simpa using ew) ⟨rfl,fin⟩) hs
theorem Iz:IxR X O4:=by
 intro value slice pins s σ H x y v u Q I rx ry h hs
 obtain ⟨z,i,c,rfl,rfl,hz,he,q⟩:=h
 obtain ⟨t,rfl⟩:=rx
 obtain ⟨t',rfl⟩:=ry
 obtain ⟨j,h1,h2,h3,h4,h5⟩:=sv he
 have hl:z.cps.toList.length=z.length:=by simp [Str.length]
 rw [hl] at h1 h4 h5
 have hn:=pR
 exact tail_any (typeIs_str s z t) slot_str_getitem.lookup (getItem_str (c:=c) (by
  have e1:decide (i < -(2^63:Int))=false:=decide_eq_false ⋯
  have e2:decide (i>=2^63)=false:=decide_eq_false ⋯
  rw [e1,e2,Bool.or_false]) (by rw [h1];simpa using h2) ⟨.str ⟨#[c]⟩,H,I.tok _,⟨_,rfl⟩,q⟩) hs
theorem pd (lo hi:Option Int) (n:Nat):(sliceBounds lo hi none n).1=((HT.sIx n 0 lo:Nat):Int)/\(sliceBounds lo hi none n).2.1=((HT.sIx n n hi:Nat):Int)/\(sliceBounds lo hi none n).2.2=1:=by
 refine ⟨?_,?_,rfl⟩
 ·cases lo with
  | none=>simp [sliceBounds,HT.sIx]
  | some i =>
   simp only [sliceBounds,HT.sIx,Option.getD_none,show (1:Int)>0 by decide,if_true]
   by_cases h:i<0
   ·simp only [h,if_true]<;>omega
   ·simp only [h,if_false]<;>omega
 ·cases hi with
  | none=>simp [sliceBounds,HT.sIx]
  | some i =>
   simp only [sliceBounds,HT.sIx,Option.getD_none,show (1:Int)>0 by decide,if_true]
   by_cases h:i<0
   ·simp only [h,if_true]<;>omega
   ·simp only [h,if_false]<;>omega
theorem m9 (its:List Value) (lo hi:Option Int):slicePick its.toArray lo hi none=((its.drop (HT.sIx its.length 0 lo)).take (HT.sIx its.length its.length hi - HT.sIx its.length 0 lo)).toArray:=by
 obtain ⟨h1,h2,h3⟩:=pd lo hi its.toArray.size
 unfold slicePick
 rw [h1,h2,h3]
 simp only [sliceRange_one,pick_run,List.size_toArray]<;>rfl
def O2 (K:PySem.W.Frag):V->Option Int->Option Int->Hp->VK->Prop:=fun x lo hi H Q=>∃ a xs,x=.ref a/\SqL K H a xs/\∀ p,H p=none->Q (.ref p) (upd H p (.lst (B9 xs lo hi)))
theorem Dq:SlR X (O2 X.K):=by
 intro pins s σ H x v vl vu lo hi sl Q I rx hs pl pu h
 obtain ⟨a,xs,rfl,hx,q⟩:=h
 cases rx
 obtain ⟨its,r,ht,hz⟩:=I.list hx
 have hlen:=r.length
 refine ⟨"list",_,slot_list_getitem.lookup,ht.isList.typeIs,?_⟩
 refine wpAny_getItem_list_slice ht.isList hs pl pu .none (by simp) ?_ (by rw [List.size_toArray]<;>omega)
 rw [m9,<-hlen]
 refine ⟨.ref s.heap.objs.size,_,I.laid (t':=s.toks) (o:=.lst (B9 xs lo hi)) (fun b ob q=>Heap.get?_push_of_some _ q) (Nat.le_refl _) ?_,rfl,q _ (I.hok.fresh (Nat.le_refl _))⟩
 exact ⟨Nat.le_trans (lb xs lo hi) hz,_,0,(r.drop (HT.sIx xs.length 0 lo)).take (HT.sIx xs.length xs.length hi - HT.sIx xs.length 0 lo),Heap.get?_push_size _ rfl⟩
def lT:V->Bool
 | .non=>true
 | .bl _=>true
 | .int _=>true
 | .str _=>true
 | _=>false
def eqV:V->V->Bool
 | .non,.non=>true
 | .bl a,.bl b=>a == b
 | .bl a,.int b=>(if a then 1 else 0) == b
 | .int a,.bl b=>a == (if b then 1 else 0)
 | .int a,.int b=>a == b
 | .str a,.str b=>a == b
 | _,_=>false
theorem IS {A:Around} {s:Shared} {y x:V} {u v:Value} (ry:RelV y u) (rx:RelV x v) (fy:lT y=true) (fx:lT x=true):SeqAt.EqAt A s u v (eqV y x):=by
 cases y with
 | non =>
  cases ry
  cases x with
  | non=>cases rx;exact SeqAt.EqAt.same _
  | bl b=>cases rx;exact SeqAt.EqAt.none_bool b
  | int b=>obtain ⟨t,rfl⟩:=rx;exact SeqAt.EqAt.none_int b t
  | str b=>obtain ⟨t,rfl⟩:=rx;exact SeqAt.EqAt.none_str b t
  | _=>exact absurd (show false=true from fx) Bool.false_ne_true
 | bl a =>
  cases ry
  cases x with
  | non=>cases rx;exact SeqAt.EqAt.bool_none a
  | bl b=>cases rx;exact SeqAt.EqAt.bool_bool a b
  | int b=>obtain ⟨t,rfl⟩:=rx;exact SeqAt.EqAt.bool_int a b t
  | str b=>obtain ⟨t,rfl⟩:=rx;exact SeqAt.EqAt.bool_str a b t
  | _=>exact absurd (show false=true from fx) Bool.false_ne_true
 | int a =>
  obtain ⟨t',rfl⟩:=ry
  cases x with
  | non=>cases rx;exact SeqAt.EqAt.int_none a t'
  | bl b=>cases rx;exact SeqAt.EqAt.int_bool a t' b
  | int b=>obtain ⟨t,rfl⟩:=rx;exact SeqAt.EqAt.int_int a t' b t
  | str b=>obtain ⟨t,rfl⟩:=rx;exact SeqAt.EqAt.int_str a t' b t
  | _=>exact absurd (show false=true from fx) Bool.false_ne_true
 | str a =>
  obtain ⟨t',rfl⟩:=ry
  cases x with
  | non=>cases rx;exact SeqAt.EqAt.str_none a t'
  | bl b=>cases rx;exact SeqAt.EqAt.str_bool a t' b
  | int b=>obtain ⟨t,rfl⟩:=rx;exact SeqAt.EqAt.str_int a t' b t
  | str b=>obtain ⟨t,rfl⟩:=rx;exact SeqAt.EqAt.str_str a t' b t
  | _=>exact absurd (show false=true from fx) Bool.false_ne_true
 | _=>exact absurd (show false=true from fy) Bool.false_ne_true
def eqU (x:V) (u:Value):Bool:=match u with
 | .none=>eqV .non x
 | .bool b=>eqV (.bl b) x
 | .int i _=>eqV (.int i) x
 | .str z _=>eqV (.str z) x
 | _=>false
theorem B8 {x y:V} {u:Value} (r:RelV y u) (f:lT y=true):eqU x u=eqV y x:=by
 cases y with
 | non=>cases r;rfl
 | bl b=>cases r;rfl
 | int i=>obtain ⟨t,rfl⟩:=r;rfl
 | str z=>obtain ⟨t,rfl⟩:=r;rfl
 | _=>exact absurd (show false=true from f) Bool.false_ne_true
theorem lq {x:V}:∀ {xs:List V} {us:List Value},Vals xs us->xs.all lT=true->us.any (eqU x)=xs.any fun y=>eqV y x
 | _,_,.nil,_=>rfl
 | y::xs,u::us,.cons r t,f=>by
  rw [List.all_cons,Bool.and_eq_true] at f
  rw [List.any_cons,List.any_cons,B8 r f.1,lq t f.2]
theorem iI {A:Around} {s:Shared} {x:V} {v:Value} (rx:RelV x v) (fx:lT x=true):∀ {xs:List V} {us:List Value},Vals xs us->xs.all lT=true->∀ u∈us,SeqAt.EqAt A s u v (eqU x u)
 | _,_,.nil,_=>fun u hu=>by cases hu
 | y::xs,u::us,.cons r t,f=>fun u' hu=>by
  rw [List.all_cons,Bool.and_eq_true] at f
  rcases List.mem_cons.mp hu with rfl | hu
  ·rw [B8 r f.1];exact IS r rx f.1 fx
  ·exact iI rx fx t f.2 u' hu
def inV (x:V) (xs:List V):Bool:=xs.any fun y=>eqV y x
def rIn (K:PySem.W.Frag) (neg:Bool):R2:=fun x y H Q=>∃ p xs,y=.ref p/\(SqL K H p xs\/SqT K H p xs)/\lT x=true/\xs.all lT=true/\Q (.bl (if neg then !inV x xs else inV x xs)) H
theorem wH:OpR X (compareOp .In) (rIn X.K false):=by
 intro pins s σ H x y v u Q I rx ry h
 obtain ⟨p,xs,rfl,hq,fx,fs,q⟩:=h
 cases ry
 rcases hq with hq | hq
 ·obtain ⟨its,r,pl,hz⟩:=I.list hq
  refine SeqAt.in_listAt (eqU x) pl.isList (fun w hw=>iI rx fx r fs w (by simpa using hw)) ⟨.bl _,H,I,rfl,?_⟩
  rw [show its.toArray.any (eqU x)=its.any (eqU x) by simp,lq r fs]
  exact q
 ·obtain ⟨its,r,pl,hz⟩:=I.tuple hq
  refine SeqAt.in_tupleAt (eqU x) pl (fun w hw=>iI rx fx r fs w (by simpa using hw)) ⟨.bl _,H,I,rfl,?_⟩
  rw [show its.toArray.any (eqU x)=its.any (eqU x) by simp,lq r fs]
  exact q
theorem pK:OpR X (compareOp .NotIn) (rIn X.K true):=by
 intro pins s σ H x y v u Q I rx ry h
 obtain ⟨p,xs,rfl,hq,fx,fs,q⟩:=h
 cases ry
 rcases hq with hq | hq
 ·obtain ⟨its,r,pl,hz⟩:=I.list hq
  refine SeqAt.notIn_listAt (eqU x) pl.isList (fun w hw=>iI rx fx r fs w (by simpa using hw)) ⟨.bl _,H,I,rfl,?_⟩
  rw [show its.toArray.any (eqU x)=its.any (eqU x) by simp,lq r fs]
  exact q
 ·obtain ⟨its,r,pl,hz⟩:=I.tuple hq
  refine SeqAt.notIn_tupleAt (eqU x) pl (fun w hw=>iI rx fx r fs w (by simpa using hw)) ⟨.bl _,H,I,rfl,?_⟩
  rw [show its.toArray.any (eqU x)=its.any (eqU x) by simp,lq r fs]
  exact q
theorem pJ:OpR X (compareOp .NotIn) (fun x y H Q=>∃ i j,x=.str i/\y=.str j/\Q (.bl (!(!(Builtin.Str.occurrences j i 0 j.length 1).isEmpty))) H):=by
 intro pins s σ H x y v u Q I rx ry h
 obtain ⟨i,j,rfl,rfl,q⟩:=h
 obtain ⟨t,rfl⟩:=rx
 obtain ⟨t',rfl⟩:=ry
 exact notIn_str ⟨.bl _,H,I,rfl,q⟩
theorem jy:jZ X (.builtin "len") (fun xs H Q=>∃ p ys,xs=[.ref p]/\(SqL X.K H p ys\/SqT X.K H p ys)/\Q (.int ys.length) H):=by
 intro pins s σ H xs us Q I r h
 obtain ⟨p,ys,rfl,hq,q⟩:=h
 obtain ⟨u,rfl,rx⟩:=vals1 r
 cases rx
 have hn:=pR
 rcases hq with hq | hq
 ·obtain ⟨its,r',pl,hz⟩:=I.list hq
  have hlen:=r'.length
  exact Calls.call_len_list pl.isList (by simp only [List.size_toArray]<;>omega) ⟨.int ys.length,H,I.tok _,⟨s.toks+1,by rw [List.size_toArray,hlen]⟩,q⟩
 ·obtain ⟨its,r',pl,hz⟩:=I.tuple hq
  have hlen:=r'.length
  exact len_tuple pl (by simp only [List.size_toArray]<;>omega) ⟨.int ys.length,H,I.tok _,⟨s.toks+1,by rw [List.size_toArray,hlen]⟩,q⟩
theorem p7:jZ X (.builtin "len") (fun xs H Q=>∃ z,xs=[.str z]/\z.length<=sizeLine/\Q (.int z.length) H):=by
 intro pins s σ H xs us Q I r h
 obtain ⟨z,rfl,hz,q⟩:=h
 obtain ⟨u,rfl,t,rfl⟩:=vals1 r
 have hn:=pR
 exact len_str ⋯ ⟨.int z.length,H,I.tok _,⟨_,rfl⟩,q⟩
def tyV (K:PySem.W.Frag) (T:String) (x:V) (H:Hp):Prop:=match x with
 | .str _=>T="str"
 | .int _=>T="int"
 | .ref p=>(T="list"/\∃ xs,SqL K H p xs)\/(T="tuple"/\∃ o,K.lookup p=some o/\o.cls=.type "tuple"/\o.dict=none) \/
   (T="dict"/\((∃ kvs,H p=some (.dK kvs))\/∃ kvs,H p=some (.dT kvs)))\/(T="set"/\∃ S n,H p=some (.set S n))
 | _=>False
theorem GN {pins:List ↥12} {σ:St} {H:Hp} {s:Shared} {T:String} {x:V} {v:Value} (I:Inv X pins σ H s) (r:RelV x v) (ty:tyV X.K T x H) :
  s.TypeIs v T/\∀ a,v=.ref a->∃ ob,s.heap.get? a=some ob/\ob.dict=none:=by
 cases x with
 | str z =>
  obtain ⟨t,rfl⟩:=r
  cases (show T="str" from ty)
  exact ⟨typeIs_str s z t,fun _ e=>nomatch e⟩
 | int i =>
  obtain ⟨t,rfl⟩:=r
  cases (show T="int" from ty)
  exact ⟨typeIs_int s i t,fun _ e=>nomatch e⟩
 | ref p =>
  cases r
  rcases ty with ⟨rfl,xs,hq⟩ | ⟨rfl,o,hk,hc,hd⟩ | ⟨rfl,hk⟩ | ⟨rfl,S,n,hk⟩
  ·obtain ⟨its,_,pl,_⟩:=I.list hq
   refine ⟨pl.isList.typeIs,fun a e => ?_⟩
   cases e
   obtain ⟨o,n,e,c,hd,_⟩:=pl
   exact ⟨o,e,hd⟩
  ·refine ⟨⟨o,I.kIn p o hk,hc⟩,fun a e => ?_⟩
   cases e
   exact ⟨o,I.kIn _ o hk,hd⟩
  ·have z:∃ o,s.heap.get? p=some o/\o.ExactDict:=by
    rcases hk with ⟨kvs,hk⟩ | ⟨kvs,hk⟩
    ·obtain ⟨_,_,_,_,o,_,_,e,ex,_⟩:=I.hok p _ hk
     exact ⟨o,e,ex⟩
    ·obtain ⟨_,_,_,_,o,_,_,e,ex,_⟩:=I.hok p _ hk
     exact ⟨o,e,ex⟩
   obtain ⟨o,e,ex⟩:=z
   refine ⟨⟨o,e,ex.1⟩,fun a e2 => ?_⟩
   cases e2
   exact ⟨o,e,ex.2.1⟩
  ·obtain ⟨o,_,_,_,e,ex,_⟩:=I.hok p _ hk
   refine ⟨⟨o,e,ex.1⟩,fun a e2 => ?_⟩
   cases e2
   exact ⟨o,e,ex.2.1⟩
 | _=>exact False.elim ty
def OT (K:PySem.W.Frag) (T:String) (r:V->List V->Hp->VK->Prop) (to:TE):TE:=fun σ H Q=>to σ H fun x H1=>tyV K T x H1/\r x [] H1 Q
variable {o e:Expr} {es:List Expr} {to:TE} {t:TA} {name:Str} {apos cpos:Pos} {T id:String} {r:V->List V->Hp->VK->Prop}
theorem HH (pa:PlainAttrs T) (slot:Slot T name id) (hty:typeOf (.builtin id)=pure (.type "method_descriptor")) (hm:MtR X id r) (ho:PE X o to)
  (hbase:attributeBase o name X.env (eval o X.env)=eval o X.env:=by rfl) (hline:(apos.endLine == cpos.line)=true:=by rfl):PE X (.Call (.Attribute o name apos) [] [] cpos) (OT X.K T r to):=by
 intro pins s σ H Q I h
 refine wpAny_Call_method0_late hbase hline (thn (ho pins s σ H _ I h) fun v s1 ⟨x,H1,I1,r1,ty,q1⟩ => ?_)
 obtain ⟨h1,h2⟩:=GN I1 r1 ty
 exact ⟨T,id,pa,slot,hty,h1,h2,Calls.callWith_builtin rfl (PySem.evalArgs_none (hm pins s1 σ H1 x [] v [] Q I1 r1 .nil q1))⟩
/- xs.append(e),list.index on a module's tuple .. are MtR facts of 06m -/
end
end L2
namespace L2
open PySem PySem.Spec PyProof.Rows
def MtM (X:Cx) (id:String) (r:V->List V->Hp->VK->Prop):Prop :=
 ∀ (pins:List ↥12) (s:Shared) (σ:St) (H:Hp) (x:V) (xs:List V) (v:Value) (us:List Value) (Q:VK),Inv X pins σ H s->RelV x v->Vals xs us->r x xs H Q ->
  wpAny ↥6 X.A (call (.builtin id) (v::us)) (EP X pins σ Q) X.xe s
theorem Vals.one:∀ {x:V} {us:List Value},Vals [x] us->∃ u,us=[u]/\RelV x u
 | _,_,.cons r .nil=>⟨_,rfl,r⟩
section
variable {X:Cx} {pins:List ↥12} {σ:St} {H:Hp} {s:Shared} {l b:Addr} {xs ys zs:List V}
theorem Inv.lset {its its':List Value} {n:Nat} {f:Array Value->Array Value} {t':Nat} (I:Inv X pins σ H s) (hH:H l=some (.lst xs))
  (e:s.heap.get? l=some { cls:=.type "list",data:=.seq its.toArray n }) (hf:f its.toArray=its'.toArray) (hv:Vals ys its') (hz:ys.length<=sizeLine) :
  Inv X pins σ (upd H l (.lst ys)) { s with heap:=s.heap.update l (Obj.mapSeq f),toks:=t' }:=by
 have q:=PySem.IsL.update e f
 rw [hf] at q
 refine I.write (x:=l) (e:=l) (by rw [hH];exact trivial) (.inl rfl) (fun b' u hb hu=>(Heap.get?_update_other s.heap (Obj.mapSeq f) (Ne.symm hb)).trans hu) ⟨_,q⟩ ?_
 exact ⟨hz,its',_,hv,q⟩
theorem Inv.lnew {its:List Value} {t':Nat} (I:Inv X pins σ H s) (hv:Vals ys its) (hz:ys.length<=sizeLine) :
  Inv X pins σ (upd H s.heap.objs.size (.lst ys)) { s with heap:=s.heap.push { cls:=.type "list",data:=.seq its.toArray },toks:=t' } :=
 I.laid (fun _ _ q=>Heap.get?_push_of_some _ q) (Nat.le_refl _) ⟨hz,its,0,hv,Heap.get?_push_size _ rfl⟩
theorem Inv.fresh (I:Inv X pins σ H s):H s.heap.objs.size=none:=I.hok.fresh (Nat.le_refl _)
theorem Inv.lstM (I:Inv X pins σ H s) (hH:H l=some (.lst xs)):xs.length<=sizeLine/\∃ (its:List Value) (n:Nat),Vals xs its/\xs.length=its.length/\s.heap.get? l=some { cls:=.type "list",data:=.seq its.toArray n }:=by
 obtain ⟨z,its,n,r,e⟩:=I.hok l _ hH
 exact ⟨z,its,n,r,r.length,e⟩
end
section
variable {X:Cx}
def DJ:V->List V->Hp->VK->Prop:=fun x vs H Q=>∃ l xs y,x=.ref l/\vs=[y]/\H l=some (.lst xs)/\xs.length<sizeLine/\Q .non (upd H l (.lst (xs++[y])))
theorem xm:MtM X "list.append" DJ:=by
 intro pins s σ H x vs v us Q I rx rv h
 obtain ⟨l,xs,y,rfl,rfl,hH,hz,q⟩:=h
 cases rx
 obtain ⟨u,rfl,ru⟩:=rv.one
 obtain ⟨z,its,n,r,hl,e⟩:=I.lstM hH
 refine call_meets F.slot_list_append ⟨_,e,rfl⟩ F.entry_list_append (F.args_list_append_2 _ _) (PySem.list_append l its.toArray n u (by rw [List.size_toArray];omega)) ⟨e,?_⟩
 refine ⟨.non,_,I.lset (its':=its++[u]) hH e (by simp) (r.append (.cons ru .nil)) ?_,rfl,q⟩
 rw [List.length_append,List.length_singleton]
 omega
end
section
variable {prog:Program} {w:World} {A:Around} {E:Value->Shared->Prop} {s:Shared}
end
section
variable {X:Cx}
end
end L2
namespace Att
open PySem PySem.W PySem.Calls PyProof.Rows
theorem kT {P:Params} {h:Heap}:∀ (ns:List Int) (vs:List Value),WellAll P h vs (ns.map WData.int)->IntsAre vs ns:=by
 intro ns
 induction ns with
 | nil =>
  intro vs w
  rw [List.map_nil] at w
  cases w
  exact .nil
 | cons n ns ih =>
  intro vs w
  rw [List.map_cons] at w
  cases w with
  | cons a b =>
   cases a
   exact .cons _ _ (ih _ b)
theorem v5 {l:OpenLaw} {n:Nat} (hn:l.most=some n) {P:Params} {h:Heap} {args:List WData} {vals:List Value}
  (hpre:l.row.toRowW.claim.pre args=true) (hwl:WellAll P h vals args) :
  ∃ a vs ns,vals=[Value.ref a]/\args=[WData.list (ns.map WData.int)]/\h.get? a=some { cls:=.type "list",data:=.seq vs.toArray }/\IntsAre vs ns/\ns.length<=n:=by
 have hsh:WShape.hasAll [] args [.list .int]=true:=(pre_splitW hpre).1
 have hc:l.pre.holds [] { args:=args }=true:=(pre_splitW hpre).2
 obtain ⟨d,r,rfl,h1,h2⟩:=hasAllW_cons hsh
 obtain rfl:=hasAllW_nil h2
 obtain ⟨xs,rfl,h3⟩:=hasW_list h1
 obtain ⟨ns,rfl⟩:=items_int h3
 have hlen:ns.length<=n:=by
  unfold OpenLaw.pre at hc
  have h4:(WTm.not (.lt (.lit (.int (n:Int))) (.len (.arg 0)))).holds [] { args:=[.list (ns.map .int)] }=true:=by
   have h4:=(holds_andW hc).1
   rw [hn] at h4
   exact h4
  have h5:=condW_of h4 (w_not (w_lt w_lit (w_len_list (w_arg rfl))))
  rw [List.length_map] at h5
  refine Nat.le_of_not_lt fun q => ?_
  have q':(n:Int)<((ns.length:Nat):Int):=⋯
  first
   | (rw [decide_eq_true q'] at h5;exact absurd h5 ↥3)
   | (simp at h5;omega)
 cases hwl with
 | cons w1 w2 =>
  cases w2
  cases w1 with
  | list ho hall=>exact ⟨_,_,ns,rfl,rfl,ho,kT ns _ hall,hlen⟩
theorem wz (l:OpenLaw) (args:List WData):l.row.toRowW.claim.post args (.bool true) args=true :=
 postW_of (r:=l.row.toRowW) (X:=(true == true))
  (show WShape.has [] (.bool true) .bool=true by first | rfl | decide | simp [WShape.has,WShape.arms,WShape.armsAll])
  (show (WTm.eq .res (.lit (.bool true))).value [] { args:=args,res:=some (.bool true),after:=args }=some (.bool (true == true)) from w_eq_bool (w_res rfl) w_lit) rfl
section
variable {prog:Program} {w:World} {A:Around} {E:Value->Shared->Prop} {s:Shared} {K:Frag}
def ledger (h:Heap) (L d:Addr):List ↥12:=(List.range h.objs.size).filterMap fun a=>if a=L\/a=d then none else (h.get? a).map fun o=>(a,o)
end
end Att
namespace L2
open PySem PySem.Spec PyProof.Rows
theorem oV:∀ {vs:List Value} {ns:List Int},IntsAre vs ns->Vals (ns.map V.int) vs
 | _,_,.nil=>.nil
 | _,_,.cons n t h=>.cons ⟨t,rfl⟩ (oV h)
def Ox (H:Hp):Prop:=∀ b,H b=none\/∃ o xs,H b=some (.frz o (.lst xs))
end L2
namespace L2
open PySem PySem.Spec PyProof.Rows
abbrev KOf {K:PySem.W.Frag} {h:Heap} (_:K.In h):PySem.W.Frag:=K
end L2
/- THE LAST THEOREM (shape;LID,My.* are yours):
   My.Adr: a structure of the addresses that your layer names (classes,functions);My.Txt K t: a structure (Prop) of the equations over K;
   My.txt_mk:{K} {implicit addresses ..} (e1:nsIn K mainGlobals "law"=some (some (.ref f))) (e2:K.lookup f=some ⟨oc,od,.func (fnOf "law" "law" params body scope dV kV doc pm an cdv ct),sl⟩) (e3:codeIn K cdv "law"=true) .. : ∃ t,My.Txt K t
set_option maxHeartbeats 0 in
theorem PySem.Challenge.cw_LID_holds : PySem.Challenge.rw_LID.Holds := by
 w_on;o_law;k_head;(case hw=>w_witness2)
 k_fill
 refine L2.walk_of (l:=PySem.Challenge.rw_LID) (n:=63) (k:=40) (x:="script") (CX:=fun w=>..) (sp:=fun _=>My.sp_law) rfl ↥3 rfl ⟨rfl,by decide,by decide⟩ (fun w h Y=>PySem.W.kIn_of Y) ?F ?S ?C
 case F =>
  intro w mg fa h KX G hmg
  have T:∃ t,My.Txt (L2.KOf KX) t:=by
   dsimp only [L2.KOf]                          -- K must GZ as «<heap const> w.params» for k_is
   refine' My.txt_mk ?e1 ?e2 ?e3 ..
   (case e1=>PySem.W.k_is)                    -- in the order: a name->its address->its object->its parts
   (case e2=>PySem.W.k_is)
   ..
  obtain ⟨t,T⟩:=T
  have e0:=hmg.symm.trans (PySem.W.mg_of KX G T.law)
  cases e0                                       -- fa is the law's own address
  exact ⟨_,fun s u=>.of_eq rfl,fun base kb nb=>My.law_fn T kb nb⟩     -- if «.of_eq rfl» comes too early: refine' ⟨_,?b,fun base kb nb=>My.law_fn T kb nb⟩;exact fun s u=>.of_eq rfl
 case S=>exact fun w H a ns hl hO hS=>..
 case C=>exact ..
(the tactic k_is has no namespace: write k_is) -/
namespace L2
open PySem PySem.Spec PyProof.Rows
def eC (s:Stmt):Arguments:=match s with
 | .FunctionDef _ a _ _ _ _ _ _ _ _=>a
 | _=>{ posonlyargs:=[],args:=[],vararg:=none,kwonlyargs:=[],kw_defaults:=[],kwarg:=none,defaults:=[] }
def ai (s:Stmt):List Stmt:=match s with
 | .FunctionDef _ _ b _ _ _ _ _ _ _=>b
 | _=>[]
def aa (s:Stmt):Scope:=match s with
 | .FunctionDef _ _ _ _ _ _ sc _ _ _=>sc
 | _=>{ kind:=.function,names:=[],isGenerator:=false,isCoroutine:=false }
abbrev CX0:CXT:=fun _ _ _ _ _ _=>False
abbrev E0:XK:=fun _ _ _=>False
theorem Kz {X:Cx}:Passes CX0 X E0:=fun _ _ _ _ _ _ _ h=>h.elim
structure Fun (K:PySem.W.Frag) (x qual:Str) (st:Stmt) (f:Addr) (fd:FuncData):Prop where
 ex:∃ (oc:Value) (od:Option Addr) (kV doc pm:Value) (an:Option Addr) (cdv ct:Value) (osl:Array (Option Value)),
  fd=PySem.W.fnOf x qual (eC st) (ai st) (aa st) .none kV doc pm an cdv ct/\K.lookup f=some ⟨oc,od,.func fd,osl⟩/\PySem.W.codeIn K cdv qual=true
 kp:PySem.W.keepIn K (.ref f)=true
section
variable {P:Program} {w:World} {K:PySem.W.Frag} {mg:Str->Option Value} {base:Heap}
theorem Fun.ok {x qual:Str} {st:Stmt} {f:Addr} {fd:FuncData} {N ps:List Str} {k:Nat} {sp:Sp} (F:Fun K x qual st f fd) (S:FnScope N ps (aa st)) (len:∀ vs H Q E,sp vs H Q E->vs.length=ps.length)
  (hbody:∀ (cdv:Value) (A:Around) (outer:List Env) (s:Shared) (H:Hp) (vs:List V) (Q:VK) (E:XK),Room k (A.deeper (envOfC qual (aa st) s.heap.objs.size f cdv))->sp vs H Q E ->
   ∃ t,PSs (yk CX0 P w K mg base N qual (aa st) f cdv A outer s H E).nox (ai st) t/\t { nx:=fun _ H'=>Q .non H',rt:=Q } (start N vs) H):FnOk P w K mg base CX0 (k+1) f fd ps sp:=by
 obtain ⟨oc,od,kV,doc,pm,an,cdv,ct,osl,rfl,lk,hcd⟩:=F.ex
 refine IK lk hcd S len fun A outer s H vs Q E hr hsp => ?_
 obtain ⟨t,h,q⟩:=hbody cdv A outer s H vs Q E hr hsp
 exact ⟨t,h.nox,q⟩
theorem Fun.binds {x qual:Str} {st:Stmt} {f:Addr} {fd:FuncData} {ps:List Str} (F:Fun K x qual st f fd)
  (h:∀ (kV doc pm:Value) (an:Option Addr) (cdv ct:Value) (us:List Value),us.length=ps.length->bindArgs ↥1 ⟨us,[]⟩=pure (ps.zip us)):Binds K fd ps []:=by
 obtain ⟨oc,od,kV,doc,pm,an,cdv,ct,osl,rfl,lk,hcd⟩:=F.ex
 exact .all (h kV doc pm an cdv ct)
theorem ma {x qual:Str} {st:Stmt} {f:Addr} {oc:Value} {od an:Option Addr} {osl:Array (Option Value)} {kV doc pm cdv ct:Value} (l:K.lookup f=some ⟨oc,od,.func ↥1,osl⟩)
  (c:PySem.W.codeIn K cdv qual=true) (k:PySem.W.keepIn K (.ref f)=true):Fun K x qual st f ↥1:=⟨⟨oc,od,kV,doc,pm,an,cdv,ct,osl,rfl,l,c⟩,k⟩
end
theorem kq {n:Nat} (h:n<=1000):n<sizeLine:=Nat.lt_of_le_of_lt h ↥3
section
variable {X:Cx}
theorem pv (i:Nat) {x:Str} {pos:Pos} (hN:X.N[i]? = some x:=by rfl) (hv:Vis X.env.scope x:=by first | exact Or.inl rfl | exact Or.inr (Or.inl rfl) | exact Or.inr (Or.inr rfl)) (hd:(x == ("__debug__":Str))=false:=by decide)
  (hcd:(x == ("__classdict__":Str))=false:=by decide):PE X (.Name x pos) (Ln i):=sP hN hv hd hcd
end
theorem FZ {A B:Prop} (h:B):if false=true then A else B:=by
 rw [if_neg Bool.false_ne_true]
 exact h
theorem FY {A B:Prop} (h:A):if true=true then A else B:=by
 rw [if_pos rfl]
 exact h
def ax (H H':Hp):Prop:=∀ b o,H b=some o->H' b=some o
theorem ax.refl (H:Hp):ax H H:=fun _ _ h=>h
theorem ax.trans {H H1 H2:Hp} (a:ax H H1) (b:ax H1 H2):ax H H2:=fun c o h=>b c o (a c o h)
theorem ax.seq {K:PySem.W.Frag} {H H':Hp} {a:Addr} {xs:List V} (e:ax H H') (h:SqL K H a xs):SqL K H' a xs:=by
 rcases h with (h | ⟨o,h⟩) | h
 ·exact .inl (.inl (e _ _ h))
 ·exact .inl (.inr ⟨o,e _ _ h⟩)
 ·exact .inr h
end L2
namespace EV
open PySem (Str)
inductive D where
 | non | bl (b:Bool) | int (i:Int) | str (x:Str) | tup (ds:List D) | lst (ds:List D) | own (ds:List D)
 | ty (n:String) | cls (n:String) | exc (n:String) | ins (n:String) (fs:List (String×D))
noncomputable instance:Inhabited D:=⟨.non⟩
inductive R (α:Type) where
 | ok (a:α) | ex (C:String) | bad
namespace R
def bind {α β:Type}:R α->(α->R β)->R β
 | .ok a,f=>f a
 | .ex C,_=>.ex C
 | .bad,_=>.bad
end R
abbrev Dt:=List (Option D)
abbrev E:=Dt->R D
inductive O where
 | nx (δ:Dt) | rt (d:D) | bk (δ:Dt) | ct (δ:Dt) | ex (C:String) (δ:Dt) | mk (C:String) (δ:Dt) | hx (C:String) (δ:Dt) | bad
abbrev S:=Dt->O
def pw (k:Int):Int:=2^k.toNat
def nb (i:Int):Nat:=if i=0 then 0 else i.natAbs.log2+1
def MulOk (i j:Int):Prop:=nb i+nb j<=134217728
def fP (i j:Int):Prop:=0<j/\(nb j<=9000\/nb i<=nb j+4000)
noncomputable instance {i j:Int}:Decidable (MulOk i j):=inferInstanceAs (Decidable (_<=_))
noncomputable instance {i j:Int}:Decidable (fP i j):=inferInstanceAs (Decidable (_/\_))
def cw:D->D->R D
 | .int i,.int j=>.ok (.int (i+j))
 | .str x,.str y=>if x.cps.size+y.cps.size<=1000000 then .ok (.str ⟨x.cps++y.cps⟩) else .bad
 | .lst xs,.lst ys=>if xs.length+ys.length<=100000 then .ok (.lst (xs++ys)) else .bad
 | .tup xs,.tup ys=>if xs≠[]/\xs.length+ys.length<=100000 then .ok (.tup (xs++ys)) else .bad
 | _,_=>.bad
def cD:D->D->R D
 | .int i,.int j=>.ok (.int (i - j))
 | _,_=>.bad
def dH:D->D->R D
 | .int i,.int j=>if MulOk i j then .ok (.int (i*j)) else .bad
 | _,_=>.bad
def oDiv:D->D->R D
 | .int i,.int j=>if fP i j then .ok (.int (i / j)) else .bad
 | _,_=>.bad
def oMod:D->D->R D
 | .int i,.int j=>if 0<j then .ok (.int (i%j)) else .bad
 | _,_=>.bad
def bZ:D->D->R D
 | .int i,.int j=>if 0<=j/\(nb i:Int)+j<=134217728 then .ok (.int (i*pw j)) else .bad
 | _,_=>.bad
def Ai:D->D->R D
 | .int i,.int j=>if 0<=j then .ok (.int (i / pw j)) else .bad
 | _,_=>.bad
def iG:D->D->R D
 | .int i,.int j=>if 0<=i/\0<=j then .ok (.int ((i.toNat &&& j.toNat:Nat):Int)) else .bad
 | _,_=>.bad
def kJ:D->D->R D
 | .int i,.int j=>if 0<=i/\0<=j then .ok (.int ((i.toNat ^^^ j.toNat:Nat):Int)) else .bad
 | _,_=>.bad
def En:D->R D
 | .int i=>.ok (.int (-i))
 | _=>.bad
def oLt:D->D->R D
 | .int i,.int j=>.ok (.bl (decide (i<j)))
 | _,_=>.bad
def oLe:D->D->R D
 | .int i,.int j=>.ok (.bl (decide (i<=j)))
 | _,_=>.bad
def oGt:D->D->R D
 | .int i,.int j=>.ok (.bl (decide (j<i)))
 | _,_=>.bad
def oGe:D->D->R D
 | .int i,.int j=>.ok (.bl (decide (j<=i)))
 | _,_=>.bad
mutual
def D.beq:D->D->Bool
 | .non,.non=>true
 | .bl a,.bl b=>a == b
 | .bl a,.int b=>(if a then 1 else 0) == b
 | .int a,.bl b=>a == (if b then 1 else 0)
 | .int a,.int b=>a == b
 | .str a,.str b=>a == b
 | .tup a,.tup b=>D.beqs a b
 | .lst a,.lst b=>D.beqs a b
 | _,_=>false
def D.beqs:List D->List D->Bool
 | [],[]=>true
 | a::as,b::bs=>D.beq a b&&D.beqs as bs
 | _,_=>false
end
def D.sc:D->Bool
 | .non=>true | .bl _=>true | .int _=>true | .str _=>true
 | _=>false
def D.pl:Nat->D->Bool
 | _,.non=>true
 | _,.bl _=>true
 | _,.int _=>true
 | _,.str x=>x.cps.all (· < 0x110000)
 | n+1,.tup ds=>ds.all (D.pl n)
 | n+1,.lst ds=>ds.all (D.pl n)
 | _,_=>false
def D.cmp (a b:D):Bool:=(a.sc&&b.sc)||(D.pl 8 a&&D.pl 8 b)
def oEq (a b:D):R D:=if D.cmp a b then .ok (.bl (D.beq a b)) else .bad
def oNe (a b:D):R D:=if D.cmp a b then .ok (.bl (!D.beq a b)) else .bad
def qE:D->R D
 | .non=>.ok ↥24
 | _=>.ok ↥38
def kI:D->R D
 | .non=>.ok ↥38
 | _=>.ok ↥24
def isIn (x:D) (ys:List D):Option Bool:=if x.sc&&ys.all D.sc then some (ys.any fun y=>D.beq y x) else none
def oIn (a b:D):R D:=match a,b with
 | .str x,.str y=>match x.cps.toList with | [c]=>.ok (.bl (decide (c∈y.cps.toList))) | _=>.bad
 | a,.tup ds=>match isIn a ds with | some k=>.ok (.bl k) | none=>.bad
 | a,.lst ds=>match isIn a ds with | some k=>.ok (.bl k) | none=>.bad
 | _,_=>.bad
def gX (a b:D):R D:=(oIn a b).bind fun d=>match d with | .bl k=>.ok (.bl (!k)) | _=>.bad
def ixN (n:Nat) (i:Int):Option Nat:=if 0<=i then (if i<n then some i.toNat else none) else if -(n:Int)<=i then some (i+n).toNat else none
def oIx:D->D->R D
 | .tup ds,.int i=>match (ixN ds.length i).bind fun j=>ds[j]? with | some d=>.ok d | none=>.bad
 | .lst ds,.int i=>match (ixN ds.length i).bind fun j=>ds[j]? with | some d=>.ok d | none=>.bad
 | .str x,.int i=>if x.cps.size<=1000000 then (match (ixN x.cps.toList.length i).bind fun j=>x.cps.toList[j]? with | some c=>.ok (.str ⟨#[c]⟩) | none=>.bad) else .bad
 | _,_=>.bad
def sIx (n d:Nat):Option Int->Nat
 | none=>d
 | some i=>if i<0 then (i+n).toNat else min i.toNat n
def cut {α:Type} (xs:List α) (lo hi:Option Int):List α:=(xs.drop (sIx xs.length 0 lo)).take (sIx xs.length xs.length hi - sIx xs.length 0 lo)
def oSl:D->Option Int->Option Int->R D
 | .tup ds,lo,hi=>if sIx ds.length 0 lo=0/\sIx ds.length ds.length hi=ds.length then .bad else .ok (.tup (cut ds lo hi))
 | .lst ds,lo,hi=>.ok (.lst (cut ds lo hi))
 | _,_,_=>.bad
def var (i:Nat):E:=fun δ=>match δ[i]? with
 | some (some (.own _))=>.bad
 | some (some d)=>.ok d
 | _=>.bad
def con (d:D):E:=fun _=>.ok d
def un (f:D->R D) (a:E):E:=fun δ=>(a δ).bind f
def bin (f:D->D->R D) (a b:E):E:=fun δ=>(a δ).bind fun x=>(b δ).bind fun y=>f x y
def truth {β:Type} (d:D) (t f:R β):R β:=match d with
 | .bl true=>t
 | .bl false=>f
 | _=>.bad
def eH (a b:E):E:=fun δ=>(a δ).bind fun d=>truth d (b δ) (.ok ↥38)
def or_ (a b:E):E:=fun δ=>(a δ).bind fun d=>truth d (.ok ↥24) (b δ)
def lS (a:E):E:=fun δ=>(a δ).bind fun d=>truth d (.ok ↥38) (.ok ↥24)
def ife (c a b:E):E:=fun δ=>(c δ).bind fun d=>truth d (a δ) (b δ)
def chain (f g:D->D->R D) (a b c:E):E:=fun δ=>(a δ).bind fun x=>(b δ).bind fun y=>(f x y).bind fun d=>truth d ((c δ).bind fun z=>g y z) (.ok ↥38)
def evs:List E->Dt->R (List D)
 | [],_=>.ok []
 | e::es,δ=>(e δ).bind fun d=>(evs es δ).bind fun ds=>.ok (d::ds)
def d7 (es:List E):E:=fun δ=>(evs es δ).bind fun ds=>.ok (.tup ds)
def xy (es:List E):E:=fun δ=>(evs es δ).bind fun ds=>.ok (.lst ds)
def call (f:List D->R D) (es:List E):E:=fun δ=>(evs es δ).bind f
def part:Option E->Dt->R (Option Int)
 | none,_=>.ok none
 | some e,δ=>(e δ).bind fun d=>match d with | .int i=>.ok (some i) | _=>.bad
def slc (a:E) (lo hi:Option E):E:=fun δ=>(a δ).bind fun d=>(part lo δ).bind fun l=>(part hi δ).bind fun h=>oSl d l h
/- data without a list -/
mutual
def D.flat:D->Bool
 | .lst _=>false
 | .own _=>false
 | .tup ds=>D.flats ds
 | .ins _ fs=>D.flatf fs
 | _=>true
def D.flats:List D->Bool
 | []=>true
 | d::r=>D.flat d&&D.flats r
def D.flatf:List (String×D)->Bool
 | []=>true
 | (_,d)::r=>D.flat d&&D.flatf r
end
abbrev IT:=Dt->R (List D)
def Hg (lo hi:Int):List D:=(List.range (hi - lo).toNat).map fun (k:Nat)=>D.int (lo+k)
def asL:D->R (List D)
 | .lst ds=>.ok ds
 | _=>.bad
def asT:D->R (List D)
 | .tup ds=>.ok ds
 | _=>.bad
def asA:D->R (List D)
 | .lst ds=>.ok ds
 | .tup ds=>.ok ds
 | _=>.bad
def JJ:D->R (List D)
 | .int hi=>if -(2^62)<=hi/\hi<2^62 then .ok (Hg 0 hi) else .bad
 | _=>.bad
def JI:List D->R (List D)
 | [.int lo,.int hi]=>if -(2^62)<=lo/\lo<2^62 /\ -(2^62)<=hi/\hi<2^62 then .ok (Hg lo hi) else .bad
 | _=>.bad
def Lo (lo hi c:Int):List D:=(List.range (if lo<hi then (hi - lo - 1) / c+1 else 0).toNat).map fun (k:Nat)=>D.int (lo+k*c)
def JH:List D->R (List D)
 | [.int lo,.int hi,.int c]=>if (-(2^40)<=lo/\lo<2^40 /\ -(2^40)<=hi/\hi<2^40)/\0<c/\c<2^20 then .ok (Lo lo hi c) else .bad
 | _=>.bad
def itL (g:E):IT:=fun δ=>(g δ).bind asL
def itT (g:E):IT:=fun δ=>(g δ).bind asT
def itA (g:E):IT:=fun δ=>(g δ).bind asA
def QD (g:E):IT:=fun δ=>(g δ).bind JJ
def QC (a b:E):IT:=fun δ=>(evs [a,b] δ).bind JI
def QB (a b c:E):IT:=fun δ=>(evs [a,b,c] δ).bind JH
def sV {α:Type} (r:R α):R α:=match r with
 | .ex _=>.bad
 | r=>r
def inC (ks:List Nat) (δ:Dt) (x:D):Dt:=some x::ks.map fun k=>δ.getD k none
def pY (rs:List D):R D:=if D.flats rs then .ok (.lst rs) else .bad
def runC (st:D->R (Option D)):List D->R (List D)
 | []=>.ok []
 | d::ds=>(st d).bind fun o=>(runC st ds).bind fun rs=>.ok (match o with | some r=>r::rs | none=>rs)
def stC (c elt:E) (ks:List Nat) (δ:Dt) (x:D):R (Option D):=(sV (c (inC ks δ x))).bind fun d=>truth d ((sV (elt (inC ks δ x))).bind fun r=>.ok (some r)) (.ok none)
def iU (it:IT) (ks:List Nat) (c elt:E):E:=fun δ=>(it δ).bind fun ds=>if ds.length<=100000 then (runC (stC c elt ks δ) ds).bind pY else .bad
def comp (it:IT) (ks:List Nat) (elt:E):E:=iU it ks (con ↥24) elt
def vi (cn f:String):D->R D
 | .ins n fs=>if n == cn then (match fs.lookup f with | some d=>.ok d | none=>.bad) else .bad
 | _=>.bad
def eX (cn m:String):D->Bool
 | .ins n fs=>n == cn&&(fs.lookup m).isNone
 | _=>false
def FW (cn m:String) (F:List D->R D) (o:E) (es:List E):E:=fun δ=>(o δ).bind fun d=>if eX cn m d then (evs es δ).bind fun ds=>F (d::ds) else .bad
def mk1 (cn f:String):List D->R D
 | [d]=>.ok (.ins cn [(f,d)])
 | _=>.bad
def yV:List D->R D
 | [.lst ds]=>.ok (.int ds.length)
 | [.tup ds]=>.ok (.int ds.length)
 | [.str x]=>if x.cps.size<=1000000 then .ok (.int x.cps.size) else .bad
 | _=>.bad
def vj:List D->R D
 | [.int i]=>.ok (.int (if i<0 then -i else i))
 | _=>.bad
def Br:List D->R D
 | [.int i,.int j]=>.ok (.int (if j>i then j else i))
 | _=>.bad
def Fy:List D->R D
 | [.int i,.int j]=>.ok (.int (if j<i then j else i))
 | _=>.bad
def Ow:List D->R D
 | [.int i]=>.ok (.int i)
 | [.bl k]=>.ok (.int (if k then 1 else 0))
 | _=>.bad
def Jn:List D->R D
 | [.lst ds]=>.ok (.lst ds)
 | [.tup ds]=>.ok (.lst ds)
 | _=>.bad
def intsOf:List D->Option (List Int)
 | []=>some []
 | .int i::r=>(intsOf r).map (i::·)
 | _=>none
def ip:List D->R D
 | [.int i]=>.ok (.int (nb i))
 | _=>.bad
def ak:List String:=["MillError","NoSize","NoBits","NoParts","NoRank","NotFinite","NoWay","NoFlags","NoFraction","Unlike","Empty","NoLeft","NoText","NoRow","NoName","Stopped"]
def oy (C B:String):Bool:=ak.contains C&&(C == B||B == "MillError")
def tyR (n:String) (b:Bool):R D:=if ["int","bool","str","tuple","list","ValueError"].contains n then .ok (.bl b) else .bad
def QF (B:String):D->R D
 | .exc C=>if ak.contains C&&ak.contains B then .ok (.bl (C == B||B == "MillError")) else .bad
 | .non=>if ak.contains B then .ok ↥38 else .bad
 | _=>.bad
def QE (n:String):D->R D
 | .exc C=>if ak.contains C&&n == "ValueError" then .ok ↥24 else .bad
 | .non=>tyR n false
 | .bl _=>tyR n (n == "int"||n == "bool")
 | .int _=>tyR n (n == "int")
 | .str _=>tyR n (n == "str")
 | .tup _=>tyR n (n == "tuple")
 | .lst _=>tyR n (n == "list")
 | _=>.bad
def jX:List D->R D
 | [d,.cls B]=>QF B d
 | [d,.ty n]=>QE n d
 | _=>.bad
theorem dE (h:(if c=true then R.ok (D.bl x) else .bad)=.ok (.bl k)):c=true/\x=k:=by
 cases c with
 | true=>cases h;exact ⟨rfl,rfl⟩
 | false=>cases h
theorem IE (e:r=if b=true then R.ok (D.bl x) else .bad):(∃ d' c' k,[d,c]=[d',c']/\r=.ok (.bl k))\/r=.bad:=by
 subst e
 cases b with
 | true=>exact .inl ⟨_,_,_,rfl,rfl⟩
 | false=>exact .inr rfl
def l9 (d:D):List D->R D
 | []=>.ok ↥38
 | c::r=>(jX [d,c]).bind fun x=>truth x (.ok ↥24) (l9 d r)
def Li:List D->R D
 | [d,.tup cs]=>l9 d cs
 | _=>.bad
def noOwn (δ:Dt):Dt:=δ.map fun c=>match c with | some (.own _)=>none | c=>c
def view (δ:Dt):Dt:=δ.map fun c=>match c with | some (.own ds)=>some (.lst ds) | c=>c
def aq:S:=.nx
def asg (i:Nat) (δ:Dt) (r:R D):O:=match r with
 | .ok d=>.nx (δ.set i (some d))
 | .ex C=>.ex C (noOwn δ)
 | .bad=>.bad
def xpr (δ:Dt) (r:R D):O:=match r with
 | .ok _=>.nx δ
 | .ex C=>.ex C (noOwn δ)
 | .bad=>.bad
def rtn (δ:Dt) (r:R D):O:=match r with
 | .ok d=>.rt d
 | .ex C=>.ex C (noOwn δ)
 | .bad=>.bad
def ifO (δ:Dt) (r:R D) (a b:O):O:=match r with
 | .ok ↥24=>a
 | .ok ↥38=>b
 | .ex C=>.ex C (noOwn δ)
 | _=>.bad
def assign (i:Nat) (g:E):S:=fun δ=>asg i δ (g δ)
def expr (g:E):S:=fun δ=>xpr δ (g δ)
def ret (g:E):S:=fun δ=>rtn δ (g δ)
def O0:S:=fun _=>.rt .non
def OZ (g:E):S:=fun δ=>rtn δ (g (view δ))
def HL (i:Nat):S:=fun δ=>.nx (δ.set i (some (.own [])))
def nU (i:Nat) (δ:Dt) (f:List D->O):O:=match δ[i]? with
 | some (some (.own ds))=>f ds
 | _=>.bad
def Jr (i:Nat) (δ:Dt) (ds:List D) (r:R D):O:=match r with
 | .ok d=>if D.flat d=true/\ds.length<100000 then .nx (δ.set i (some (.own (ds++[d])))) else .bad
 | .ex C=>.ex C (noOwn δ)
 | .bad=>.bad
def HM (i:Nat) (g:E):S:=fun δ=>nU i δ fun ds=>Jr i δ ds (g (view δ))
def HK (i:Nat):S:=fun δ=>nU i δ fun ds=>.nx (δ.set i (some (.own ds.reverse)))
def Lj (i:Nat) (δ:Dt) (r:R D):O:=match r with
 | .ok d=>if D.flat d=true then .nx (δ.set i (some d)) else .bad
 | .ex C=>.ex C (noOwn δ)
 | .bad=>.bad
def FD (i:Nat) (g:E):S:=fun δ=>Lj i δ (g (view δ))
def QG (c:E) (a b:S):S:=fun δ=>ifO δ (c (view δ)) (a δ) (b δ)
def BG (i:Nat) (δ:Dt) (r:R D):O:=match r with
 | .ok (.lst rs)=>.nx (δ.set i (some (.own rs)))
 | .ex C=>.ex C (noOwn δ)
 | _=>.bad
def il (i:Nat) (g:E):S:=fun δ=>BG i δ (g (view δ))
def DV (i:Nat) (g:E):S:=fun δ=>BG i δ (g δ)
def JC (i:Nat) (δ:Dt) (ds:List D) (v k:R D):O:=match v,k with
 | .ok d,.ok (.int k)=>if D.flat d=true/\0<=k/\k<ds.length then .nx (δ.set i (some (.own (ds.set k.toNat d)))) else .bad
 | _,_=>.bad
def HJ (i:Nat) (gk gv:E):S:=fun δ=>nU i δ fun ds=>JC i δ ds (gv (view δ)) (gk (view δ))
def pub (i:Nat) (δ:Dt):Dt:=match δ[i]? with
 | some (some (.own ds))=>δ.set i (some (.lst ds))
 | _=>δ
def Hr (i:Nat) (s:S):S:=fun δ=>s (pub i δ)
def ifs (c:E) (a b:S):S:=fun δ=>ifO δ (c δ) (a δ) (b δ)
def O.then (o:O) (s:S):O:=match o with
 | .nx δ=>s δ
 | o=>o
def seq (a b:S):S:=fun δ=>(a δ).then b
def brk:S:=.bk
def cont:S:=.ct
def raise (C:String):S:=.mk C
def trn (o:O) (k:S):O:=match o with
 | .nx δ1=>k δ1
 | .ct δ1=>k δ1
 | .bk δ1=>.nx δ1
 | o=>o
def forL (i:Nat) (body:S):List D->S
 | [],δ=>.nx δ
 | d::ds,δ=>trn (body (δ.set i (some d))) (forL i body ds)
def ovL (δ:Dt) (r:R D) (k:List D->O):O:=match r with
 | .ok (.lst ds)=>k ds
 | .ex C=>.ex C (noOwn δ)
 | _=>.bad
def ovT (δ:Dt) (r:R D) (k:List D->O):O:=match r with
 | .ok (.tup ds)=>k ds
 | .ex C=>.ex C (noOwn δ)
 | _=>.bad
def K3 (i:Nat) (g:E) (body:S):S:=fun δ=>ovL δ (g δ) fun ds=>forL i body ds δ
def K2 (i:Nat) (g:E) (body:S):S:=fun δ=>ovT δ (g δ) fun ds=>forL i body ds δ
def ovI (δ:Dt) (r:R (List D)) (k:List D->O):O:=match r with
 | .ok ds=>k ds
 | .ex C=>.ex C (noOwn δ)
 | .bad=>.bad
def EZ (i:Nat) (it:IT) (body:S):S:=fun δ=>ovI δ (it δ) fun ds=>forL i body ds δ
def ovR (δ:Dt) (r:R D) (k:List D->O):O:=match r with
 | .ok (.int hi)=>if -(2^62)<=hi/\hi<2^62 then k (Hg 0 hi) else .bad
 | .ex C=>.ex C (noOwn δ)
 | _=>.bad
def K4 (i:Nat) (b:E) (body:S):S:=fun δ=>ovR δ (b δ) fun ds=>forL i body ds δ
def forget (i:Nat) (o:O):O:=match o with
 | .nx δ=>.nx (δ.set i none)
 | _=>.bad
def BF (o:O) (B:String) (i:Nat) (suite:S):O:=match o with
 | .nx δ1=>.nx δ1
 | .ex C δ1=>if oy C B then forget i (suite ((noOwn δ1).set i (some (.exc C)))) else .bad
 | _=>.bad
def Jz (body:S) (B:String) (i:Nat) (suite:S):S:=fun δ=>BF (body δ) B i suite
def bF (c:E) (body:S):Nat->S
 | 0,_=>.bad
 | n+1,δ=>match c δ with
  | .ok ↥24=>trn (body δ) (bF c body n)
  | .ok ↥38=>.nx δ
  | _=>.bad
open Classical in
def jr (c:E) (body:S):S:=fun δ=>if h:∃ n,bF c body n δ ≠ .bad then bF c body h.choose δ else .bad
def O.res:O->R D
 | .rt d=>.ok d
 | .nx _=>.ok .non
 | .ex C _=>.ex C
 | .mk C _=>.ex C
 | .hx C _=>.ex C
 | _=>.bad
def start (n m:Nat) (ds:List D):Dt:=ds.map some++List.replicate (m - n) none
def Good (f:List D->R D):Prop:=∀ ns:List Int,ns.length<=63->(∀ m∈ns,nb m<=2^20)->f [.lst (ns.map .int)]=.ok ↥24
def fn (n m:Nat) (body:S):List D->R D:=fun ds=>if ds.length=n then (body (start n m ds)).res else .bad
end EV
namespace ES
open PySem PySem.Spec PyProof.Rows L2 EV
def E5 (a C:Addr):HO:=.ext fun h=>∃ o vs,h.get? a=some o/\o.cls=.ref C/\o.data=.fields vs
mutual
inductive Rep (K:PySem.W.Frag) (mg:Str->Option Value) (H:Hp):V->D->Prop
 | non:Rep K mg H .non .non
 | bl (b:Bool):Rep K mg H (.bl b) (.bl b)
 | int (i:Int):Rep K mg H (.int i) (.int i)
 | str (x:Str):Rep K mg H (.str x) (.str x)
 | tup {a:Addr} {xs:List V} {ds:List D}:SqT K H a xs->Reps K mg H xs ds->Rep K mg H (.ref a) (.tup ds)
 | lst {a:Addr} {xs:List V} {ds:List D}:SqL K H a xs->Reps K mg H xs ds->Rep K mg H (.ref a) (.lst ds)
 | ty (n:String):Rep K mg H (.ty n) (.ty n)
 | cls {a:Addr} {n:String}:mg n=some (.ref a)->Rep K mg H (.ref a) (.cls n)
 | exc {a C:Addr} {n:String}:mg n=some (.ref C)->H a=some (E5 a C)->Rep K mg H (.ref a) (.exc n)
 | ins {a C dx:Addr} {n:String} {fs:List (Str×V)} {ds:List (String×D)}:mg n=some (.ref C)->H a=some (.ins C dx fs)->Repf K mg H fs ds->Rep K mg H (.ref a) (.ins n ds)
inductive Reps (K:PySem.W.Frag) (mg:Str->Option Value) (H:Hp):List V->List D->Prop
 | nil:Reps K mg H [] []
 | cons {v:V} {d:D} {vs:List V} {ds:List D}:Rep K mg H v d->Reps K mg H vs ds->Reps K mg H (v::vs) (d::ds)
inductive Repf (K:PySem.W.Frag) (mg:Str->Option Value) (H:Hp):List (Str×V)->List (String×D)->Prop
 | nil:Repf K mg H [] []
 | cons {x:String} {v:V} {d:D} {vs:List (Str×V)} {ds:List (String×D)}:Rep K mg H v d->Repf K mg H vs ds->Repf K mg H (((x:Str),v)::vs) ((x,d)::ds)
end
theorem iw {K:PySem.W.Frag} {H H':Hp} {a:Addr} {xs:List V} (e:ax H H') (h:SqT K H a xs):SqT K H' a xs:=by
 rcases h with (h | ⟨o,h⟩) | h
 ·exact .inl (.inl (e _ _ h))
 ·exact .inl (.inr ⟨o,e _ _ h⟩)
 ·exact .inr h
section
variable {K:PySem.W.Frag} {mg:Str->Option Value} {H H':Hp}
mutual
theorem Rep.mono (s:ax H H'):∀ {v:V} {d:D},Rep K mg H v d->Rep K mg H' v d
 | _,_,.non=>.non
 | _,_,.bl b=>.bl b
 | _,_,.int i=>.int i
 | _,_,.str x=>.str x
 | _,_,.tup h r=>.tup (iw s h) (Reps.mono s r)
 | _,_,.lst h r=>.lst (s.seq h) (Reps.mono s r)
 | _,_,.ty n=>.ty n
 | _,_,.cls h=>.cls h
 | _,_,.exc h e=>.exc h (s _ _ e)
 | _,_,.ins h e r=>.ins h (s _ _ e) (Repf.mono s r)
theorem Reps.mono (s:ax H H'):∀ {vs:List V} {ds:List D},Reps K mg H vs ds->Reps K mg H' vs ds
 | _,_,.nil=>.nil
 | _,_,.cons r t=>.cons (Rep.mono s r) (Reps.mono s t)
theorem Repf.mono (s:ax H H'):∀ {vs:List (Str×V)} {ds:List (String×D)},Repf K mg H vs ds->Repf K mg H' vs ds
 | _,_,.nil=>.nil
 | _,_,.cons r t=>.cons (Rep.mono s r) (Repf.mono s t)
end
theorem Reps.length:∀ {vs:List V} {ds:List D},Reps K mg H vs ds->vs.length=ds.length
 | _,_,.nil=>rfl
 | _,_,.cons _ t=>congrArg (· + 1) (Reps.length t)
theorem Reps.get:∀ {vs:List V} {ds:List D} {i:Nat} {d:D},Reps K mg H vs ds->ds[i]? = some d->∃ v,vs[i]? = some v/\Rep K mg H v d
 | _,_,_,_,.nil,e=>by simp at e
 | _,_,0,_,.cons r _,e=>by simp at e;subst e;exact ⟨_,rfl,r⟩
 | _,_,i+1,d,.cons _ t,e=>by
  obtain ⟨v,h1,h2⟩:=Reps.get (i:=i) (d:=d) t (by simpa using e)
  exact ⟨v,by simpa using h1,h2⟩
theorem Reps.append:∀ {vs ws:List V} {ds es:List D},Reps K mg H vs ds->Reps K mg H ws es->Reps K mg H (vs++ws) (ds++es)
 | _,_,_,_,.nil,s=>s
 | _,_,_,_,.cons r t,s=>.cons r (Reps.append t s)
theorem Reps.take:∀ {vs:List V} {ds:List D} (n:Nat),Reps K mg H vs ds->Reps K mg H (vs.take n) (ds.take n)
 | _,_,0,_=>.nil
 | _,_,_+1,.nil=>.nil
 | _,_,n+1,.cons r t=>.cons r (Reps.take n t)
theorem Reps.drop:∀ {vs:List V} {ds:List D} (n:Nat),Reps K mg H vs ds->Reps K mg H (vs.drop n) (ds.drop n)
 | _,_,0,r=>r
 | _,_,_+1,.nil=>.nil
 | _,_,n+1,.cons _ t=>Reps.drop n t
theorem Reps.ints (ns:List Int):Reps K mg H (ns.map V.int) (ns.map D.int):=by
 induction ns with
 | nil=>exact .nil
 | cons n r ih=>exact .cons (.int n) ih
theorem kG {x y:String} (h:(Str.ofString x)=Str.ofString y):x=y:=by
 rw [Str.ofString_eq_toList,Str.ofString_eq_toList] at h
 have h1:(x.toList.map Char.toNat).toArray=(y.toList.map Char.toNat).toArray:=congrArg Str.cps h
 have h2:x.toList.map Char.toNat=y.toList.map Char.toNat:=by simpa using h1
 have h3:∀ (l m:List Char),l.map Char.toNat=m.map Char.toNat->l=m:=by
  intro l
  induction l with
  | nil=>intro m e;cases m with | nil=>rfl | cons _ _=>cases e
  | cons c r ih =>
   intro m e
   cases m with
   | nil=>cases e
   | cons c' r' =>
    rw [List.map_cons,List.map_cons,List.cons.injEq] at e
    rw [Char.ext (UInt32.toNat_inj.mp e.1),ih r' e.2]
 exact String.toList_inj.mp (h3 _ _ h2)
theorem pN (x y:String):((Str.ofString x) == Str.ofString y)=(x == y):=by
 rw [Bool.eq_iff_iff,beq_iff_eq,beq_iff_eq]
 exact ⟨kG,fun e=>by rw [e]⟩
theorem Repf.lookup:∀ {fs:List (Str×V)} {ds:List (String×D)} {x:String} {d:D},Repf K mg H fs ds->ds.lookup x=some d->∃ v,fs.lookup (x:Str)=some v/\Rep K mg H v d
 | _,_,_,_,.nil,e=>by cases e
 | (_,v)::fs,(y,d')::ds,x,d,.cons r t,e=>by
  rw [List.lookup_cons] at e ⊢
  rw [pN]
  cases q:(x == y) with
  | true =>
   rw [q] at e
   have e':d'=d:=by simpa using e
   subst e'
   exact ⟨v,rfl,r⟩
  | false=>rw [q] at e;exact Repf.lookup t e
theorem Repf.lookupN:∀ {fs:List (Str×V)} {ds:List (String×D)} {x:String},Repf K mg H fs ds->ds.lookup x=none->fs.lookup (x:Str)=none
 | _,_,_,.nil,e=>rfl
 | (_,v)::fs,(y,d')::ds,x,.cons r t,e=>by
  rw [List.lookup_cons] at e ⊢
  rw [pN]
  cases q:(x == y) with
  | true=>rw [q] at e;cases e
  | false=>rw [q] at e;exact Repf.lookupN t e
end
def Stt (K:PySem.W.Frag) (mg:Str->Option Value) (H:Hp) (σ:L2.St) (δ:Dt):Prop :=
 σ.length=δ.length/\∀ (i:Nat) (d:D),δ[i]? = some (some d)->(∀ ds,d ≠ .own ds)->∃ v,σ[i]? = some (some v)/\Rep K mg H v d
theorem Stt.mono {K:PySem.W.Frag} {mg:Str->Option Value} {H H':Hp} {σ:L2.St} {δ:Dt} (h:Stt K mg H σ δ) (s:ax H H'):Stt K mg H' σ δ :=
 ⟨h.1,fun i d e n=>let ⟨v,a,b⟩:=h.2 i d e n;⟨v,a,b.mono s⟩⟩
theorem Stt.set {K:PySem.W.Frag} {mg:Str->Option Value} {H:Hp} {σ:L2.St} {δ:Dt} {i:Nat} {v:V} {d:D} (h:Stt K mg H σ δ) (r:Rep K mg H v d):Stt K mg H (σ.set i (some v)) (δ.set i (some d)):=by
 refine ⟨by rw [List.length_set,List.length_set];exact h.1,fun j d' e n => ?_⟩
 by_cases hj:j=i
 ·subst hj
  by_cases hl:j<δ.length
  ·rw [List.getElem?_set_self hl] at e
   cases e
   exact ⟨v,by rw [List.getElem?_set_self (by rw [h.1];exact hl)],r⟩
  ·rw [List.getElem?_eq_none (by simp;omega)] at e
   cases e
 ·rw [List.getElem?_set_ne (Ne.symm hj)] at e
  obtain ⟨u,a,b⟩:=h.2 j d' e n
  exact ⟨u,by rw [List.getElem?_set_ne (Ne.symm hj)];exact a,b⟩
structure FlyX (P:Program) (w:World) (outer:List Env) (H:Hp) (s:Shared) (C:Addr) (H':Hp) (ea:Addr) (s':Shared):Prop where
 os:s'.os=s.os
 bare:AllBare s'.gens
 un:Un (frs outer) [] H H' s.heap s'.heap
 hok:HOk P w H' s'.heap
 same:ax H H'
 new:s.heap.get? ea=none
 fly:∃ a0 B,Heap.FlyingW B outer ea (.ref C) a0 s'.heap/\(∀ b o,s.heap.get? b=some o->H b=none->b∉frs outer->B.get? b=some o)/\(∀ b u o,H' b=some u->s'.heap.get? b=some o->B.get? b=some o)
def ew (X:Cx) (C:Addr) (σ:L2.St) (H':Hp):Prop:=∀ pins H s ea s',Inv X pins σ H s->FlyX X.prog X.w X.stack H s C H' ea s'->X.xe (.ref ea) s'
def em (X:Cx) (C:Addr) (σ:L2.St) (H':Hp):Prop:=∀ pins s h' ea vs,Inv X pins σ H' s->Heap.MadeExcOf s.heap h' ea (.ref C) vs->X.xe (.ref ea) { s with heap:=h' }
structure HeldX (X:Cx) (pins:List ↥12) (σ:L2.St) (C:Addr) (H':Hp) (ea:Addr) (s':Shared):Prop where
 inv:Inv X pins σ H' s'
 new:X.s₀.heap.get? ea=none
 fly:∃ a0 B,Heap.HeldW B X.stack ea (.ref C) a0 X.env.locals s'.heap/\(∀ b o,X.s₀.heap.get? b=some o->X.H₀ b=none->b∉X.fs->B.get? b=some o)/\(∀ b u o,H' b=some u->s'.heap.get? b=some o->B.get? b=some o)
def ehx (X:Cx) (C:Addr) (σ:L2.St) (H':Hp):Prop:=∀ pins ea s',HeldX X pins σ C H' ea s'->X.xe (.ref ea) s'
def RQ (X:Cx) (σ:L2.St) (H:Hp) (r:R D) (Q:VK):Prop:=match r with
 | .ok d=>∀ v H',ax H H'->Rep X.K X.mg H' v d->Q v H'
 | .ex C=>∀ Ca,X.mg C=some (.ref Ca)->∀ H',ax H H'->ew X Ca σ H'
 | .bad=>False
def tE (X:Cx) (g:E):TE:=fun σ H Q=>∃ δ,Stt X.K X.mg H σ δ/\RQ X σ H (g δ) Q
@[irreducible] def SE (X:Cx) (e:Expr) (g:E):Prop:=PE X e (tE X g)
def RT (X:Cx) (σ:L2.St) (H:Hp) (r:R D) (Q:Bool->Hp->Prop):Prop:=match r with
 | .ok (.bl b)=>∀ H',ax H H'->Q b H'
 | .ex C=>∀ Ca,X.mg C=some (.ref Ca)->∀ H',ax H H'->ew X Ca σ H'
 | _=>False
def tT (X:Cx) (g:E):TT:=fun σ H Q=>∃ δ,Stt X.K X.mg H σ δ/\RT X σ H (g δ) Q
@[irreducible] def ST (X:Cx) (e:Expr) (g:E):Prop:=PT X e (tT X g)
@[irreducible] def SW (X:Cx) (e:Expr) (g:E):Prop:=PW X e (tT X g)
def RA (X:Cx) (σ:L2.St) (H:Hp) (r:R (List D)) (Q:List V->Hp->Prop):Prop:=match r with
 | .ok ds=>∀ vs H',ax H H'->Reps X.K X.mg H' vs ds->Q vs H'
 | .ex C=>∀ Ca,X.mg C=some (.ref Ca)->∀ H',ax H H'->ew X Ca σ H'
 | .bad=>False
def tAs (X:Cx) (gs:List E):TA:=fun σ H Q=>∃ δ,Stt X.K X.mg H σ δ/\RA X σ H (evs gs δ) Q
@[irreducible] def SA (X:Cx) (es:List Expr) (gs:List E):Prop:=PA X es (tAs X gs)
unseal SE ST SW SA
section
variable {X:Cx} {σ:L2.St} {H H1:Hp}
theorem PE.weak (h:PE X e t) (w:∀ σ H Q,t' σ H Q->t σ H Q):PE X e t':=fun pins s σ H Q I q=>h pins s σ H Q I (w σ H Q q)
theorem PT.weak (h:PT X e t) (w:∀ σ H Q,t' σ H Q->t σ H Q):PT X e t':=fun pins s σ H Q I q=>h pins s σ H Q I (w σ H Q q)
theorem PW.weak (h:PW X e t) (w:∀ σ H Q,t' σ H Q->t σ H Q):PW X e t':=fun wh pins s σ H Q I q=>h wh pins s σ H Q I (w σ H Q q)
theorem PA.weak (h:PA X es t) (w:∀ σ H Q,t' σ H Q->t σ H Q):PA X es t':=fun pos pins s σ H Q I q=>h pos pins s σ H Q I (w σ H Q q)
theorem PS.weak {st:Stmt} {t t':TS} (h:PS X st t) (w:∀ D σ H,t' D σ H->t D σ H):PS X st t':=fun pins s σ H D I q=>h pins s σ H D I (w D σ H q)
theorem PSs.weak {st:List Stmt} {t t':TS} (h:PSs X st t) (w:∀ D σ H,t' D σ H->t D σ H):PSs X st t':=fun pins s σ H D I q=>h pins s σ H D I (w D σ H q)
theorem RQ.to (h:RQ X σ H r Q) (g:∀ v H',ax H H'->Q v H'->Q' v H'):RQ X σ H r Q':=by
 cases r with
 | ok d=>exact fun v H' s r=>g v H' s (h v H' s r)
 | ex C=>exact h
 | bad=>exact h
theorem RQ.mono (s:ax H H1) (h:RQ X σ H r Q):RQ X σ H1 r Q:=by
 cases r with
 | ok d=>exact fun v H' s' r=>h v H' (s.trans s') r
 | ex C=>exact fun Ca hc H' s'=>h Ca hc H' (s.trans s')
 | bad=>exact h
theorem RT.mono (s:ax H H1) (h:RT X σ H r Q):RT X σ H1 r Q:=by
 cases r with
 | ok d =>
  cases d with
  | bl b=>exact fun H' s'=>h H' (s.trans s')
  | _=>exact False.elim h
 | ex C=>exact fun Ca hc H' s'=>h Ca hc H' (s.trans s')
 | bad=>exact h
theorem RQ.bind (h:RQ X σ H (r.bind f) Q):RQ X σ H r (fun v H'=>ax H H'/\∃ d,Rep X.K X.mg H' v d/\RQ X σ H' (f d) Q):=by
 cases r with
 | ok d=>exact fun v H' s r=>⟨s,d,r,h.mono s⟩
 | ex C=>exact h
 | bad=>exact h
theorem RA.bind (h:RQ X σ H (r.bind f) Q):RA X σ H r (fun vs H'=>ax H H'/\∃ ds,Reps X.K X.mg H' vs ds/\RQ X σ H' (f ds) Q):=by
 cases r with
 | ok d=>exact fun v H' s r=>⟨s,d,r,h.mono s⟩
 | ex C=>exact h
 | bad=>exact h
theorem RT.bind (h:RT X σ H (r.bind f) Q):RQ X σ H r (fun v H'=>ax H H'/\∃ d,Rep X.K X.mg H' v d/\RT X σ H' (f d) Q):=by
 cases r with
 | ok d=>exact fun v H' s r=>⟨s,d,r,h.mono s⟩
 | ex C=>exact h
 | bad=>exact False.elim h
end
structure Sc (X:Cx) (N:List Str):Prop where
 n:X.N=N
 nd:N.Nodup
 vis:∀ x∈N,Vis X.env.scope x
 dbg:∀ x∈N,(x == ("__debug__":Str))=false/\(x == ("__classdict__":Str))=false
def Sto (X:Cx) (x:Str):Prop:=Loc X.env.scope x/\(X.fn x=true\/X.env.scope.names.lookup x=some .local)
structure Gb (X:Cx) (x:Str):Prop where
 g:X.env.scope.names.lookup x=some .globalImplicit
 d:(x == ("__debug__":Str))=false
 n:x≠"__name__"
section
variable {X:Cx} {N:List Str} {pos:Pos} {a b c e:Expr} {ga gb gc g:E}
theorem lU (S:Sc X N) (i:Nat) (hN:N[i]? = some x):SE X (.Name x pos) (var i):=by
 have hm:x∈N:=List.mem_of_getElem? hN
 refine PE.weak (sP (i:=i) (by rw [S.n];exact hN) (S.vis x hm) (S.dbg x hm).1 (S.dbg x hm).2) fun σ H Q ⟨δ,hσ,h⟩ => ?_
 unfold var at h
 split at h
 ·exact False.elim h
 ·rename_i d _ hd
  obtain ⟨v,e,r⟩:=hσ.2 i d hd (by intro ds z;subst z;rename_i q;exact q ds rfl)
  exact ⟨v,e,h v H (ax.refl H) r⟩
 ·exact False.elim h
theorem p0 (h:PE X e (tC v)) (r:∀ H,Rep X.K X.mg H v d):SE X e (con d):=PE.weak h fun σ H Q ⟨δ,hσ,q⟩=>q _ H (ax.refl H) (r H)
theorem af {i j}:SE X (.Constant (.int i) j pos) (con (.int i)):=p0 HF fun _=>.int i
theorem rT {b j}:SE X (.Constant (.bool b) j pos) (con (.bl b)):=p0 Ky fun _=>.bl b
theorem pZ {j}:SE X (.Constant .none j pos) (con .non):=p0 HD fun _=>.non
theorem bC {x j}:SE X (.Constant (.str x) j pos) (con (.str x)):=p0 BO fun _=>.str x
theorem fY (G:Gb X x) (h:∃ t,X.mg x=some (.int i t)):SE X (.Name x pos) (con (.int i)):=by
 obtain ⟨t,h⟩:=h
 exact p0 (rj (v:=.int i) G.g h ⟨t,rfl⟩ G.d) fun _=>.int i
theorem Jc {x:String} {C:Addr} (G:Gb X x) (h:X.mg x=some (.ref C)):SE X (.Name x pos) (con (.cls x)):=p0 (rj (v:=.ref C) G.g h rfl G.d) fun _=>.cls h
theorem IW (G:Gb X x) (h:X.mg x=none) (hv:bootBuiltins x=some (.type n)):SE X (.Name x pos) (con (.ty n)) :=
 p0 (DT (v:=.ty n) G.g h hv rfl G.n G.d) fun _=>.ty n
def rD (X:Cx) (f:D->D->R D):R2:=fun x y H Q=>∃ dx dy d,Rep X.K X.mg H x dx/\Rep X.K X.mg H y dy/\f dx dy=.ok d/\∀ v H',ax H H'->Rep X.K X.mg H' v d->Q v H'
def jq (f:D->D->R D):Prop:=∀ x y C,f x y ≠ .ex C
theorem RQ.op (nx:jq f) (r1:Rep X.K X.mg H x dx) (r2:Rep X.K X.mg H y dy) (h:RQ X σ H (f dx dy) Q):rD X f x y H Q:=by
 cases e:f dx dy with
 | ok d=>rw [e] at h;exact ⟨dx,dy,d,r1,r2,e,h⟩
 | ex C=>exact absurd e (nx dx dy C)
 | bad=>rw [e] at h;exact False.elim h
theorem yt (h:tE X (EV.bin f ga gb) σ H Q):tE X ga σ H fun x H1=>tE X gb σ H1 fun y H2=>∃ dx dy,Rep X.K X.mg H2 x dx/\Rep X.K X.mg H2 y dy/\RQ X σ H2 (f dx dy) Q:=by
 obtain ⟨δ,hσ,h⟩:=h
 refine ⟨δ,hσ,(RQ.bind h).to fun x H1 s1 ⟨_,dx,r1,h1⟩ => ?_⟩
 refine ⟨δ,hσ.mono s1,(RQ.bind h1).to fun y H2 s2 ⟨_,dy,r2,h2⟩ => ?_⟩
 exact ⟨dx,dy,r1.mono s2,r2,h2⟩
theorem la (nx:jq f) (ho:OpR X (binaryOp op) (rD X f)) (ha:SE X a ga) (hb:SE X b gb):SE X (.BinOp a op b pos) (EV.bin f ga gb) :=
 PE.weak (Kw ho ha hb) fun σ H Q h=>by
  obtain ⟨δ,hσ,q⟩:=yt h
  refine ⟨δ,hσ,q.to fun x H1 s1 ⟨δ1,hσ1,q1⟩=>⟨δ1,hσ1,q1.to fun y H2 s2 ⟨dx,dy,r1,r2,q2⟩=>RQ.op nx r1 r2 q2⟩⟩
theorem uR (nx:jq f) (ho:OpR X (compareOp op) (rD X f)) (ha:SE X a ga) (hb:SE X b gb) (hm:behindInMarks op b=false):SE X (.Compare a [op] [b] pos) (EV.bin f ga gb) :=
 PE.weak (wB ho ha hb hm) fun σ H Q h=>by
  obtain ⟨δ,hσ,q⟩:=yt h
  refine ⟨δ,hσ,q.to fun x H1 s1 ⟨δ1,hσ1,q1⟩=>⟨δ1,hσ1,q1.to fun y H2 s2 ⟨dx,dy,r1,r2,q2⟩=>RQ.op nx r1 r2 q2⟩⟩
theorem Fq (h:tT X (EV.bin f ga gb) σ H Q):tE X ga σ H fun x H1=>tE X gb σ H1 fun y H2=>∃ dx dy,Rep X.K X.mg H2 x dx/\Rep X.K X.mg H2 y dy/\RT X σ H2 (f dx dy) Q:=by
 obtain ⟨δ,hσ,h⟩:=h
 refine ⟨δ,hσ,(RT.bind h).to fun x H1 s1 ⟨_,dx,r1,h1⟩ => ?_⟩
 refine ⟨δ,hσ.mono s1,(RT.bind h1).to fun y H2 s2 ⟨_,dy,r2,h2⟩ => ?_⟩
 exact ⟨dx,dy,r1.mono s2,r2,h2⟩
theorem RT.op (nx:jq f) (r1:Rep X.K X.mg H x dx) (r2:Rep X.K X.mg H y dy) (h:RT X σ H (f dx dy) Q):rD X f x y H fun v H'=>∃ k,v=.bl k/\Q k H':=by
 cases e:f dx dy with
 | ok d =>
  rw [e] at h
  cases d with
  | bl k=>exact ⟨dx,dy,_,r1,r2,e,fun v H' s r=>by cases r;exact ⟨k,rfl,h H' s⟩⟩
  | _=>exact False.elim h
 | ex C=>exact absurd e (nx dx dy C)
 | bad=>rw [e] at h;exact False.elim h
theorem oX (nx:jq f) (ho:OpR X (compareOp op) (rD X f)) (ha:SE X a ga) (hb:SE X b gb) (hm:behindInMarks op b=false):ST X (.Compare a [op] [b] pos) (EV.bin f ga gb) :=
 PT.weak (rg ho ha hb hm) fun σ H Q h=>by
  obtain ⟨δ,hσ,q⟩:=Fq h
  refine ⟨δ,hσ,q.to fun x H1 s1 ⟨δ1,hσ1,q1⟩=>⟨δ1,hσ1,q1.to fun y H2 s2 ⟨dx,dy,r1,r2,q2⟩=>RT.op nx r1 r2 q2⟩⟩
theorem pI {F:Value->Value->Sem Value} {f:D->D->R D} {C:Int->Int->Prop} {g:Int->Int->Int} (ho:OpR X F (rI C fun i j=>.int (g i j)))
  (hf:∀ dx dy d,f dx dy=.ok d->∃ i j,dx=.int i/\dy=.int j/\C i j/\d=.int (g i j)):OpR X F (rD X f):=by
 intro pins s σ H x y v u Q I rx ry ⟨dx,dy,d,r1,r2,e,q⟩
 obtain ⟨i,j,rfl,rfl,hc,rfl⟩:=hf dx dy d e
 cases r1
 cases r2
 exact ho pins s σ H _ _ v u Q I rx ry ⟨i,j,rfl,rfl,hc,q _ _ ↥25 (.int _)⟩
theorem nR {F:Value->Value->Sem Value} {f:D->D->R D} {g:Int->Int->Int} (ho:OpR X F (rI0 fun i j=>.int (g i j)))
  (hf:∀ dx dy d,f dx dy=.ok d->∃ i j,dx=.int i/\dy=.int j/\d=.int (g i j)):OpR X F (rD X f):=by
 intro pins s σ H x y v u Q I rx ry ⟨dx,dy,d,r1,r2,e,q⟩
 obtain ⟨i,j,rfl,rfl,rfl⟩:=hf dx dy d e
 cases r1
 cases r2
 exact ho pins s σ H _ _ v u Q I rx ry ⟨i,j,rfl,rfl,q _ _ ↥25 (.int _)⟩
theorem sR {F:Value->Value->Sem Value} {f:D->D->R D} {g:Int->Int->Bool} (ho:OpR X F (rI0 fun i j=>.bl (g i j)))
  (hf:∀ dx dy d,f dx dy=.ok d->∃ i j,dx=.int i/\dy=.int j/\d=.bl (g i j)):OpR X F (rD X f):=by
 intro pins s σ H x y v u Q I rx ry ⟨dx,dy,d,r1,r2,e,q⟩
 obtain ⟨i,j,rfl,rfl,rfl⟩:=hf dx dy d e
 cases r1
 cases r2
 exact ho pins s σ H _ _ v u Q I rx ry ⟨i,j,rfl,rfl,q _ _ ↥25 (.bl _)⟩
end
theorem xk (i:Int):nb i=Builtin.Int.intBits i:=by
 unfold nb Builtin.Int.intBits
 by_cases h:i=0
 ·rw [if_pos h,if_pos (by rw [h];rfl)]
 ·rw [if_neg h,if_neg (by simpa using h)]
theorem AG {i j:Int} (h:MulOk i j):IntMulOk i j:=IntMulOk.of_le (m:=nb i) (n:=nb j) (Nat.le_of_eq (xk i).symm) (Nat.le_of_eq (xk j).symm) h
def Kn (K:PySem.W.Frag):R2:=fun x y H Q=>∃ a b xs ys,x=.ref a/\y=.ref b/\SqL K H a xs/\SqL K H b ys/\xs.length+ys.length<=sizeLine/\∀ p,H p=none->Q (.ref p) (upd H p (.lst (xs++ys)))
section
variable {X:Cx}
theorem bb (h:H p=none) (o:HO):ax H (upd H p o):=fun b u q=>by rw [aW (cI q h)];exact q
theorem xF (l b:Addr) (xs ys:Array Value) (n m:Nat) (d1 d2:Option Addr) (s1 s2:Array (Option Value)) (hz:xs.size+ys.size<=sizeLine) :
  Meets (Builtin.«list.__add__» ⟨[.ref l,.ref b],[]⟩) (fun _ R s=>s.heap.get? l=some { cls:=.type "list",dict:=d1,data:=.seq xs n,slots:=s1 }/\s.heap.get? b=some { cls:=.type "list",dict:=d2,data:=.seq ys m,slots:=s2 } /\
   R (.ok (.ret (Value.ref s.heap.objs.size))) { s with heap:=s.heap.push { cls:=.type "list",data:=.seq (xs++ys) } }) :=
 .of_wp fun prog w A R s h=>by
  obtain ⟨hp,g,dd,tk,os⟩:=s
  obtain ⟨ha,hb,h⟩:=h
  have f3:=AutoSeq1.sub_list_list
  wp_walk using AutoSeq1.wpAny_loadPart' ha,AutoSeq1.wpAny_loadPart' hb
  exact ⟨_,rfl,h⟩
theorem Ee:OpR X (binaryOp .Add) (Kn X.K):=by
 intro pins s σ H x y v u Q I rx ry h
 obtain ⟨l,b,xs,zs,rfl,rfl,hH,hB,hz,q⟩:=h
 cases rx
 cases ry
 obtain ⟨its,r,⟨⟨c1,d1,t1,s1⟩,n,e,g1,g2,g3⟩,_⟩:=I.list hH
 obtain ⟨its2,r2,⟨⟨c2,d2,t2,s2⟩,n2,e2,k1,k2,k3⟩,_⟩:=I.list hB
 simp only at g1 g2 g3 k1 k2 k3
 subst g1 g2 g3 k1 k2 k3
 have hl:=r.length
 have hl2:=r2.length
 refine concat_meets ⟨_,e,rfl⟩ ⟨_,e2,rfl⟩ noFill_list_add seq_list_add F.slot_list_add F.entry_list_add (F.args_list_add_2 _ _) (xF l b its.toArray its2.toArray n n2 _ _ _ _ (by rw [List.size_toArray,List.size_toArray];omega)) ⟨e,e2,?_⟩
 have ea:its.toArray++its2.toArray=(its++its2).toArray:=by simp
 rw [ea]
 exact ⟨.ref _,_,I.lnew (t':=s.toks) (r.append r2) (by rw [List.length_append];omega),rfl,q _ I.fresh⟩
theorem eU [Decidable c]:(if c then R.ok d else R.bad)≠R.ex C:=by split<;>exact fun z=>nomatch z
theorem KS:jq cw:=fun x y C z=>by unfold cw at z;split at z<;>first | cases z | exact eU z
theorem Ef:OpR X (binaryOp .Add) (rD X cw):=by
 intro pins s σ H x y v u Q I rx ry ⟨dx,dy,d,r1,r2,e,q⟩
 unfold cw at e
 split at e
 ·cases e;cases r1;cases r2
  exact HX pins s σ H _ _ v u Q I rx ry ⟨_,_,rfl,rfl,q _ _ ↥25 (.int _)⟩
 ·split at e
  ·rename_i hz
   cases e;cases r1;cases r2
   exact uz pins s σ H _ _ v u Q I rx ry ⟨_,_,rfl,rfl,Nat.le_trans hz (by rw [sizeLine_eq];decide),q _ _ ↥25 (.str _)⟩
  ·cases e
 ·split at e
  ·rename_i hz
   cases e;cases r1;cases r2
   rename_i a xs h1 r1 b ys h2 r2
   exact Ee pins s σ H _ _ v u Q I rx ry ⟨a,b,xs,ys,rfl,rfl,h1,h2,by rw [r1.length,r2.length];exact Nat.le_trans hz (by rw [sizeLine_eq];decide),fun p hp=>q _ _ (bb hp _) (.lst (SqL.of bq) ((r1.append r2).mono (bb hp _)))⟩
  ·cases e
 ·split at e
  ·rename_i hz
   cases e;cases r1;cases r2
   rename_i a xs h1 r1 b ys h2 r2
   refine Ed pins s σ H _ _ v u Q I rx ry ⟨a,b,xs,ys,rfl,rfl,h1,h2,fun z=>hz.1 ?_,by rw [r1.length,r2.length];exact Nat.le_trans hz.2 (by rw [sizeLine_eq];decide),fun z=>q _ _ ↥25 ?_,fun _ p hp=>q _ _ (bb hp _) (.tup (SqT.of bq) ((r1.append r2).mono (bb hp _)))⟩
   ·subst z
    cases r1;rfl
   ·subst z
    cases r2
    rw [List.append_nil]
    exact .tup h1 r1
  ·cases e
 ·cases e
theorem KJ:jq cD:=fun x y C z=>by unfold cD at z;split at z<;>cases z
theorem DW:OpR X (binaryOp .Sub) (rD X cD):=nR HU fun dx dy d e=>by
 unfold cD at e;split at e
 ·cases e;exact ⟨_,_,rfl,rfl,rfl⟩
 ·cases e
theorem KO:jq dH:=fun x y C z=>by unfold dH at z;split at z<;>first | cases z | exact eU z
theorem D0:OpR X (binaryOp .Mult) (rD X dH):=pI (C:=IntMulOk) (opI fun _ _ _ _ _ _ _ hc q=>mul_int q hc) fun dx dy d e=>by
 unfold dH at e;split at e
 ·split at e
  ·rename_i h;cases e;exact ⟨_,_,rfl,rfl,AG h,rfl⟩
  ·cases e
 ·cases e
theorem KR:jq oDiv:=fun x y C z=>by unfold oDiv at z;split at z<;>first | cases z | exact eU z
theorem Ql (h:fP i j):Builtin.divisionGoesByPylong i j=false:=by
 obtain ⟨h0,h⟩:=h
 show (decide ((if j == 0 then 0 else j.natAbs.log2 / 30+1)>300)&&decide ((if i == 0 then 0 else i.natAbs.log2 / 30+1)>(if j == 0 then 0 else j.natAbs.log2 / 30+1)+150))=false
 have ej:(j == 0)=false:=by simp;omega
 unfold nb at h
 rw [if_neg (by omega:¬ j=0)] at h
 rw [ej]
 simp only [Bool.false_eq_true,if_false]
 rw [Bool.and_eq_false_iff,decide_eq_false_iff_not,decide_eq_false_iff_not]
 by_cases hi:i=0
 ·rw [if_pos (by simp [hi])];omega
 ·rw [if_neg (by simp [hi])]
  rw [if_neg hi] at h
  omega
theorem Ec:OpR X (binaryOp .FloorDiv) (rD X oDiv):=pI (C:=fP) (g:=fun i j=>i / j) (opI fun i j _ _ _ _ _ hc q=>by
  have h1:(0:Int)<j:=hc.1
  exact floordiv_int ⋯ (by rw [Int.fdiv_eq_ediv_of_nonneg i ⋯];exact q) (.inl (Ql hc))) fun dx dy d e=>by
 unfold oDiv at e;split at e
 ·split at e
  ·rename_i h;cases e;exact ⟨_,_,rfl,rfl,h,rfl⟩
  ·cases e
 ·cases e
theorem KP:jq oMod:=fun x y C z=>by unfold oMod at z;split at z<;>first | cases z | exact eU z
theorem Ea:OpR X (binaryOp .Mod) (rD X oMod):=pI (C:=fun _ j=>0<j) (g:=fun i j=>i%j) HW fun dx dy d e=>by
 unfold oMod at e;split at e
 ·split at e
  ·rename_i h;cases e;exact ⟨_,_,rfl,rfl,h,rfl⟩
  ·cases e
 ·cases e
theorem KN:jq bZ:=fun x y C z=>by unfold bZ at z;split at z<;>first | cases z | exact eU z
theorem DY:OpR X (binaryOp .LShift) (rD X bZ):=pI (C:=fun i j=>0<=j/\(nb i:Int)+j<=134217728) (g:=fun i j=>i*pw j) (opI fun _ _ _ _ _ _ _ hc q=>lshift_int hc.1 (by rw [<- xk];exact hc.2) q) fun dx dy d e=>by
 unfold bZ at e;split at e
 ·split at e
  ·rename_i h;cases e;exact ⟨_,_,rfl,rfl,h,rfl⟩
  ·cases e
 ·cases e
theorem KL:jq Ai:=fun x y C z=>by unfold Ai at z;split at z<;>first | cases z | exact eU z
theorem DX:OpR X (binaryOp .RShift) (rD X Ai):=pI (C:=fun _ j=>0<=j) (g:=fun i j=>i / 2^j.toNat) HV fun dx dy d e=>by
 unfold Ai at e;split at e
 ·split at e
  ·rename_i h;cases e;exact ⟨_,_,rfl,rfl,h,rfl⟩
  ·cases e
 ·cases e
theorem Ih:jq iG:=fun x y C z=>by unfold iG at z;split at z<;>first | cases z | exact eU z
theorem Ig:jq kJ:=fun x y C z=>by unfold kJ at z;split at z<;>first | cases z | exact eU z
theorem yv (hi:0<=i) (hj:0<=j):Builtin.bitAnd i j=((i.toNat &&& j.toNat:Nat):Int):=by
 unfold Builtin.bitAnd
 rw [decide_eq_true hi,decide_eq_true hj]
theorem Jk (hi:0<=i) (hj:0<=j):Builtin.bitOr i j=((i.toNat ||| j.toNat:Nat):Int):=by
 unfold Builtin.bitOr Builtin.bitAnd Builtin.bitNot
 have h1:decide (0 <= -i - 1)=false:=decide_eq_false ⋯
 have h2:decide (0 <= -j - 1)=false:=decide_eq_false ⋯
 rw [h1,h2]
 dsimp only
 rw [show -(-i - 1) - 1=i by omega,show -(-j - 1) - 1=j by omega]
 omega
theorem uy (x:Nat):∀ y:Nat,x ||| y=(x ^^^ y)+(x &&& y):=by
 induction x using Nat.strongRecOn with
 | ind x ih =>
  intro y
  by_cases h0:x=0
  ·subst h0;simp
  ·have z:=ih (x / 2) ⋯ (y / 2)
   rw [<- Nat.or_div_two,<-Nat.xor_div_two,<-Nat.and_div_two] at z
   have m1 := @Nat.or_mod_two_eq_one x y
   have m2 := @Nat.xor_mod_two_eq_one x y
   have m3 := @Nat.and_mod_two_eq_one x y
   omega
theorem Fn (hi:0<=i) (hj:0<=j):Builtin.bitXor i j=((i.toNat ^^^ j.toNat:Nat):Int):=by
 unfold Builtin.bitXor
 rw [Jk hi hj,yv hi hj]
 have h:i.toNat ||| j.toNat=(i.toNat ^^^ j.toNat)+(i.toNat &&& j.toNat):=uy _ _
 omega
theorem Af:OpR X (binaryOp .BitAnd) (rD X iG):=nR BX fun dx dy d e=>by
 unfold iG at e;split at e
 ·split at e
  ·rename_i h;cases e;exact ⟨_,_,rfl,rfl,by rw [yv h.1 h.2]⟩
  ·cases e
 ·cases e
theorem Ae:OpR X (binaryOp .BitXor) (rD X kJ):=nR HS fun dx dy d e=>by
 unfold kJ at e;split at e
 ·split at e
  ·rename_i h;cases e;exact ⟨_,_,rfl,rfl,by rw [Fn h.1 h.2]⟩
  ·cases e
 ·cases e
theorem JG:jq oLt:=fun x y C z=>by unfold oLt at z;split at z<;>cases z
theorem Ib:jq oLe:=fun x y C z=>by unfold oLe at z;split at z<;>cases z
theorem Ol:jq oGt:=fun x y C z=>by unfold oGt at z;split at z<;>cases z
theorem Om:jq oGe:=fun x y C z=>by unfold oGe at z;split at z<;>cases z
theorem sS:OpR X (compareOp .Lt) (rD X oLt):=sR KC fun dx dy d e=>by
 unfold oLt at e;split at e
 ·cases e;exact ⟨_,_,rfl,rfl,rfl⟩
 ·cases e
theorem pL:OpR X (compareOp .LtE) (rD X oLe):=sR KD fun dx dy d e=>by
 unfold oLe at e;split at e
 ·cases e;exact ⟨_,_,rfl,rfl,rfl⟩
 ·cases e
theorem BU:OpR X (compareOp .Gt) (rD X oGt):=sR KG fun dx dy d e=>by
 unfold oGt at e;split at e
 ·cases e;exact ⟨_,_,rfl,rfl,rfl⟩
 ·cases e
theorem BV:OpR X (compareOp .GtE) (rD X oGe):=sR KH fun dx dy d e=>by
 unfold oGe at e;split at e
 ·cases e;exact ⟨_,_,rfl,rfl,rfl⟩
 ·cases e
end
section
variable {X:Cx} {pos:Pos} {a b c e:Expr} {ga gb gc g:E}
theorem aV (ha:SE X a ga) (hb:SE X b gb):SE X (.BinOp a .Add b pos) (EV.bin cw ga gb):=la KS Ef ha hb
theorem aU (ha:SE X a ga) (hb:SE X b gb):SE X (.BinOp a .Sub b pos) (EV.bin cD ga gb):=la KJ DW ha hb
theorem bE (ha:SE X a ga) (hb:SE X b gb):SE X (.BinOp a .Mult b pos) (EV.bin dH ga gb):=la KO D0 ha hb
theorem fO (ha:SE X a ga) (hb:SE X b gb):SE X (.BinOp a .FloorDiv b pos) (EV.bin oDiv ga gb):=la KR Ec ha hb
theorem b8 (ha:SE X a ga) (hb:SE X b gb):SE X (.BinOp a .Mod b pos) (EV.bin oMod ga gb):=la KP Ea ha hb
theorem aQ (ha:SE X a ga) (hb:SE X b gb):SE X (.BinOp a .LShift b pos) (EV.bin bZ ga gb):=la KN DY ha hb
theorem IY (ha:SE X a ga) (hb:SE X b gb):SE X (.BinOp a .RShift b pos) (EV.bin Ai ga gb):=la KL DX ha hb
theorem yh (ha:SE X a ga) (hb:SE X b gb):SE X (.BinOp a .BitAnd b pos) (EV.bin iG ga gb):=la Ih Af ha hb
theorem tu (ha:SE X a ga) (hb:SE X b gb):SE X (.BinOp a .BitXor b pos) (EV.bin kJ ga gb):=la Ig Ae ha hb
theorem F0 (ha:SE X a ga) (hb:SE X b gb):SE X (.Compare a [.Lt] [b] pos) (EV.bin oLt ga gb):=uR JG sS ha hb (dS _)
theorem Ot (ha:SE X a ga) (hb:SE X b gb):SE X (.Compare a [.Gt] [b] pos) (EV.bin oGt ga gb):=uR Ol BU ha hb (dS _)
theorem K9 (ha:SE X a ga) (hb:SE X b gb):SE X (.Compare a [.GtE] [b] pos) (EV.bin oGe ga gb):=uR Om BV ha hb (dS _)
theorem uc (ha:SE X a ga) (hb:SE X b gb):ST X (.Compare a [.Lt] [b] pos) (EV.bin oLt ga gb):=oX JG sS ha hb (dS _)
theorem OH (ha:SE X a ga) (hb:SE X b gb):ST X (.Compare a [.LtE] [b] pos) (EV.bin oLe ga gb):=oX Ib pL ha hb (dS _)
theorem JB (ha:SE X a ga) (hb:SE X b gb):ST X (.Compare a [.Gt] [b] pos) (EV.bin oGt ga gb):=oX Ol BU ha hb (dS _)
theorem zG (ha:SE X a ga) (hb:SE X b gb):ST X (.Compare a [.GtE] [b] pos) (EV.bin oGe ga gb):=oX Om BV ha hb (dS _)
theorem A7 (ha:SE X a ga):SE X (.UnaryOp .USub a pos) (un En ga) :=
 PE.weak (Ku Gs ha) fun σ H Q ⟨δ,hσ,h⟩=>⟨δ,hσ,(RQ.bind h).to fun v H1 s1 ⟨_,d,r,q⟩=>by
  unfold En at q
  split at q
  ·cases r;exact ⟨_,rfl,q _ _ ↥25 (.int _)⟩
  ·exact False.elim q⟩
end
end ES
namespace ES
open PySem PySem.Spec PyProof.Rows L2 EV
unseal SE ST SW SA
mutual
def py:D->PyData
 | .non=>.none
 | .bl b=>.bool b
 | .int i=>.int i
 | .str x=>.str x
 | .tup ds=>.tuple (pys ds)
 | .lst ds=>.list (pys ds)
 | _=>.dict []
def pys:List D->List PyData
 | []=>[]
 | d::r=>py d::pys r
end
section
variable {X:Cx} {pins:List ↥12} {σ:L2.St} {H:Hp} {s:Shared}
mutual
theorem nM (I:Inv X pins σ H s):∀ {v:V} {d:D} {u:Value},(py d).canLay0=true->Rep X.K X.mg H v d->RelV v u->∃ as,Reads s.heap u (py d) as
 | _,_,u,_,.non,r=>by cases r;exact ⟨_,.none⟩
 | _,_,u,_,.bl b,r=>by cases r;exact ⟨_,.bool b⟩
 | _,_,u,_,.int i,r=>by obtain ⟨t,rfl⟩:=r;exact ⟨_,.int i t⟩
 | _,_,u,_,.str x,r=>by obtain ⟨t,rfl⟩:=r;exact ⟨_,.str x t⟩
 | _,.tup ds,u,hc,.tup hq rs,r=>by
  cases r
  obtain ⟨its,rv,⟨o,h1,h2,n,h3⟩,_⟩:=I.tuple hq
  obtain ⟨as,ra⟩:=ik I (by simpa [py,PyData.canLay0] using hc) rs rv
  exact ⟨_,.tuple h1 h2 h3 (by simpa using ra)⟩
 | _,.lst ds,u,hc,.lst hq rs,r=>by
  cases r
  obtain ⟨its,rv,⟨o,n,h1,h2,_,h3⟩,_⟩:=I.list hq
  obtain ⟨as,ra⟩:=ik I (by simpa [py,PyData.canLay0] using hc) rs rv
  exact ⟨_,.list h1 h2 h3 (by simpa using ra)⟩
 | _,.ty n,u,hc,_,_=>by simp [py,PyData.canLay0] at hc
 | _,.cls a,u,hc,_,_=>by simp [py,PyData.canLay0] at hc
 | _,.exc a,u,hc,_,_=>by simp [py,PyData.canLay0] at hc
 | _,.ins a b,u,hc,_,_=>by simp [py,PyData.canLay0] at hc
theorem ik (I:Inv X pins σ H s):∀ {vs:List V} {ds:List D} {us:List Value},PyData.canLayAll0 (pys ds)=true->Reps X.K X.mg H vs ds->Vals vs us->∃ as,ReadsAll s.heap us (pys ds) as
 | _,_,_,_,.nil,r=>by cases r;exact ⟨_,.nil⟩
 | _,dd::dr,_,hc,.cons r t,q=>by
  cases q with
  | cons q1 q2 =>
   have hc':PyData.canLay0 (py dd)=true/\PyData.canLayAll0 (pys dr)=true:=by simpa [pys,PyData.canLayAll0] using hc
   obtain ⟨a1,r1⟩:=nM I hc'.1 r q1
   obtain ⟨a2,r2⟩:=ik I hc'.2 t q2
   exact ⟨_,.cons r1 r2⟩
end
end
mutual
theorem wA:∀ (n:Nat) (d:D),D.pl n d=true->(py d).canLay0=true/\(py d).depth<=n
 | _,.non,_=>⟨rfl,Nat.zero_le _⟩
 | _,.bl _,_=>⟨rfl,Nat.zero_le _⟩
 | _,.int _,_=>⟨rfl,Nat.zero_le _⟩
 | _,.str x,h=>⟨by simpa [py,PyData.canLay0,PyData.strOk,D.pl] using h,Nat.zero_le _⟩
 | 0,.tup _,h=>by simp [D.pl] at h
 | 0,.lst _,h=>by simp [D.pl] at h
 | n+1,.tup ds,h=>by
  have z:=rh n ds (by simpa [D.pl] using h)
  exact ⟨by simpa [py,PyData.canLay0] using z.1,by simp only [py,PyData.depth];omega⟩
 | n+1,.lst ds,h=>by
  have z:=rh n ds (by simpa [D.pl] using h)
  exact ⟨by simpa [py,PyData.canLay0] using z.1,by simp only [py,PyData.depth];omega⟩
 | n,.own _,h=>by cases n<;>simp [D.pl] at h
 | n,.ty _,h=>by cases n<;>simp [D.pl] at h
 | n,.cls _,h=>by cases n<;>simp [D.pl] at h
 | n,.exc _,h=>by cases n<;>simp [D.pl] at h
 | n,.ins _ _,h=>by cases n<;>simp [D.pl] at h
theorem rh:∀ (n:Nat) (ds:List D),(∀ d∈ds,D.pl n d=true)->PyData.canLayAll0 (pys ds)=true/\PyData.depthAll (pys ds)<=n
 | _,[],_=>⟨rfl,Nat.zero_le _⟩
 | n,d::r,h=>by
  have z1:=wA n d (h d (.head _))
  have z2:=rh n r (fun x hx=>h x (.tail _ hx))
  exact ⟨by simp [pys,PyData.canLayAll0,z1.1,z2.1],by simp only [pys,PyData.depthAll];omega⟩
end
mutual
theorem yu:∀ (n:Nat) (a b:D),D.pl n a=true->D.pl n b=true->D.beq a b=PyData.eqv (py a) (py b)
 | n,a,b,ha,hb=>by
  cases a<;>cases b<;>first
   | rfl
   | (cases n<;>simp [D.pl] at ha;done)
   | (cases n<;>simp [D.pl] at hb;done)
   | skip
  all_goals cases n with
   | zero=>simp [D.pl] at ha
   | succ n =>
    simp only [D.beq,py,PyData.eqv]
    exact tJ n _ _ (by simpa [D.pl] using ha) (by simpa [D.pl] using hb)
theorem tJ:∀ (n:Nat) (as bs:List D),(∀ d∈as,D.pl n d=true)->(∀ d∈bs,D.pl n d=true)->D.beqs as bs=PyData.eqvAll (pys as) (pys bs)
 | _,[],[],_,_=>rfl
 | _,[],_::_,_,_=>rfl
 | _,_::_,[],_,_=>rfl
 | n,a::as,b::bs,ha,hb=>by
  simp only [D.beqs,pys,PyData.eqvAll]
  rw [yu n a b (ha a (.head _)) (hb b (.head _)),tJ n as bs (fun x hx=>ha x (.tail _ hx)) (fun x hx=>hb x (.tail _ hx))]
end
section
variable {X:Cx}
theorem Oo:jq oEq:=fun x y C z=>by unfold oEq at z;exact eU z
theorem Oi:jq oNe:=fun x y C z=>by unfold oNe at z;exact eU z
theorem Le (r1:Rep X.K X.mg H x dx) (r2:Rep X.K X.mg H y dy) (sx:dx.sc=true) (sy:dy.sc=true) (n:JD x y=true):decide (x=y)=D.beq dx dy:=by
 cases r1<;>cases sx<;>cases r2<;>cases sy<;>first
  | exact absurd (show false=true from n) Bool.false_ne_true
  | exact rW
  | exact yj
  | exact rV
  | (simp [D.beq];done)
theorem ye (n:Bool) (hu:X.A.units+64<cLine) (I:Inv X pins σ H s) (rx:RelV x v) (ry:RelV y u) (r1:Rep X.K X.mg H x dx) (r2:Rep X.K X.mg H y dy)
  (hc:D.cmp dx dy=true) (q:Q (.bl (xor n (D.beq dx dy))) H):wpAny ↥6 X.A (compareOp (if n then .NotEq else .Eq) v u) (EP X pins σ Q) X.xe s:=by
 unfold D.cmp at hc
 by_cases hp:(D.pl 8 dx&&D.pl 8 dy)=true
 ·rw [Bool.and_eq_true] at hp
  obtain ⟨l1,d1⟩:=wA 8 dx hp.1
  obtain ⟨l2,d2⟩:=wA 8 dy hp.2
  obtain ⟨as,ra⟩:=nM I l1 r1 rx
  obtain ⟨bs,rb⟩:=nM I l2 r2 ry
  have e:=yu 8 dx dy hp.1 hp.2
  cases n with
  | false =>
   refine (SeqAt.rcAt_reads ra rb l1 l2 ⋯ X.prog X.w X.xe _ ?_:wpAny ↥6 X.A (compareOp .Eq v u) _ _ _)
   exact d4 I q (by rw [Bool.false_xor,e])
  | true =>
   refine (SeqAt.rcNeAt_reads ra rb l1 l2 ⋯ X.prog X.w X.xe _ ?_:wpAny ↥6 X.A (compareOp .NotEq v u) _ _ _)
   exact d4 I q (by rw [Bool.true_xor,e])
 ·have hs:(dx.sc&&dy.sc)=true:=by
   rw [Bool.or_eq_true] at hc
   exact hc.resolve_right hp
  rw [Bool.and_eq_true] at hs
  have hsc:JD x y=true:=by
   cases r1<;>cases (hs.1)<;>cases r2<;>cases (hs.2)<;>first | rfl | exact absurd rfl hp
  have e:=Le r1 r2 hs.1 hs.2 hsc
  cases n with
  | false=>exact KI pins s σ H x y v u Q I rx ry ⟨hsc,by rw [e];rw [Bool.false_xor] at q;exact q⟩
  | true=>exact KA pins s σ H x y v u Q I rx ry ⟨hsc,by rw [e];rw [Bool.true_xor] at q;exact q⟩
theorem BW (hu:X.A.units+64<cLine):OpR X (compareOp .Eq) (rD X oEq):=by
 intro pins s σ H x y v u Q I rx ry ⟨dx,dy,d,r1,r2,e,q⟩
 unfold oEq at e
 split at e
 ·rename_i hc
  cases e
  exact ye false hu I rx ry r1 r2 hc (by rw [Bool.false_xor];exact q _ _ ↥25 (.bl _))
 ·cases e
theorem BQ (hu:X.A.units+64<cLine):OpR X (compareOp .NotEq) (rD X oNe):=by
 intro pins s σ H x y v u Q I rx ry ⟨dx,dy,d,r1,r2,e,q⟩
 unfold oNe at e
 split at e
 ·rename_i hc
  cases e
  exact ye true hu I rx ry r1 r2 hc (by rw [Bool.true_xor];exact q _ _ ↥25 (.bl _))
 ·cases e
theorem nz (r:Rep X.K X.mg H x d) (h:d.sc=true):lT x=true:=by cases r<;>first | rfl | cases h
theorem ku:∀ {xs:List V} {ds:List D},Reps X.K X.mg H xs ds->ds.all D.sc=true->xs.all lT=true
 | _,_,.nil,_=>rfl
 | _,_,.cons r t,h=>by
  rw [List.all_cons,Bool.and_eq_true] at h
  rw [List.all_cons,nz r h.1,ku t h.2];rfl
theorem E7 (r1:Rep X.K X.mg H x dx) (r2:Rep X.K X.mg H y dy) (sx:dx.sc=true) (sy:dy.sc=true):eqV x y=D.beq dx dy:=by
 cases r1<;>cases sx<;>cases r2<;>cases sy<;>rfl
theorem xQ (r:Rep X.K X.mg H x dx) (sx:dx.sc=true):∀ {xs:List V} {ds:List D},Reps X.K X.mg H xs ds->ds.all D.sc=true->inV x xs=ds.any fun y=>D.beq y dx
 | _,_,.nil,_=>rfl
 | _,_,.cons r' t,h=>by
  rw [List.all_cons,Bool.and_eq_true] at h
  unfold inV
  rw [List.any_cons,List.any_cons,E7 r' r h.1 sx]
  exact congrArg _ (xQ r sx t h.2)
theorem xP (neg:Bool) (I:Inv X pins σ H s) (rx:RelV x v) (ry:RelV y u) (r1:Rep X.K X.mg H x dx) (r2:Rep X.K X.mg H y dy)
  (hc:oIn dx dy=.ok (.bl k)) (q:Q (.bl (xor neg k)) H):wpAny ↥6 X.A (compareOp (if neg then .NotIn else .In) v u) (EP X pins σ Q) X.xe s:=by
 have seq:∀ {p:Addr} {xs:List V} {ds:List D},y=.ref p->(SqL X.K H p xs\/SqT X.K H p xs)->Reps X.K X.mg H xs ds->isIn dx ds=some k->wpAny ↥6 X.A (compareOp (if neg then .NotIn else .In) v u) (EP X pins σ Q) X.xe s:=fun {p xs ds} ey hq rs hi=>by
  subst ey
  unfold isIn at hi
  split at hi
  ·rename_i hs
   rw [Bool.and_eq_true] at hs
   cases hi
   have e:=xQ r1 hs.1 rs hs.2
   cases neg with
   | false=>exact wH pins s σ H _ _ v u Q I rx ry ⟨p,xs,rfl,hq,nz r1 hs.1,ku rs hs.2,by rw [if_neg ↥3,e];rw [Bool.false_xor] at q;exact q⟩
   | true=>exact pK pins s σ H _ _ v u Q I rx ry ⟨p,xs,rfl,hq,nz r1 hs.1,ku rs hs.2,by rw [if_pos rfl,e];rw [Bool.true_xor] at q;exact q⟩
  ·cases hi
 have hseq:∀ {ds:List D},(match isIn dx ds with | some k=>R.ok (D.bl k) | none=>R.bad)=.ok (.bl k)->isIn dx ds=some k:=fun {ds} h=>by
  cases e:isIn dx ds with
  | none=>rw [e] at h;cases h
  | some k'=>rw [e] at h;cases h;rfl
 cases r2 with
 | tup hq rs=>exact seq rfl (.inr hq) rs (hseq (by cases dx<;>exact hc))
 | lst hq rs=>exact seq rfl (.inl hq) rs (hseq (by cases dx<;>exact hc))
 | str b =>
  cases r1 with
  | str a =>
   obtain ⟨⟨l⟩⟩:=a
   cases l with
   | nil=>cases hc
   | cons c t =>
    cases t with
    | cons _ _=>cases hc
    | nil =>
     cases hc
     have e:=empty_one b c
     cases neg with
     | false=>exact wG pins s σ H _ _ v u Q I rx ry ⟨_,_,rfl,rfl,by rw [e,Bool.not_not];rw [Bool.false_xor] at q;exact q⟩
     | true=>exact pJ pins s σ H _ _ v u Q I rx ry ⟨_,_,rfl,rfl,by rw [e,Bool.not_not];rw [Bool.true_xor] at q;exact q⟩
  | _=>cases hc
 | _=>cases dx<;>cases hc
theorem sT:(∃ k,oIn a b=.ok (.bl k))\/oIn a b=.bad:=by
 unfold oIn
 split<;>first
  | exact .inr rfl
  | (split<;>first | exact .inl ⟨_,rfl⟩ | exact .inr rfl)
theorem Oj:jq oIn:=fun x y C z=>by rcases sT (a:=x) (b:=y) with ⟨k,e⟩ | e<;>rw [e] at z<;>cases z
theorem Ez:jq gX:=fun x y C z=>by unfold gX at z;rcases sT (a:=x) (b:=y) with ⟨k,e⟩ | e<;>rw [e] at z<;>cases z
theorem BS:OpR X (compareOp .In) (rD X oIn):=by
 intro pins s σ H x y v u Q I rx ry ⟨dx,dy,d,r1,r2,e,q⟩
 rcases sT (a:=dx) (b:=dy) with ⟨k,e'⟩ | e'<;>rw [e'] at e<;>cases e
 exact xP false I rx ry r1 r2 e' (by rw [Bool.false_xor];exact q _ _ ↥25 (.bl _))
theorem wF:OpR X (compareOp .NotIn) (rD X gX):=by
 intro pins s σ H x y v u Q I rx ry ⟨dx,dy,d,r1,r2,e,q⟩
 unfold gX at e
 rcases sT (a:=dx) (b:=dy) with ⟨k,e'⟩ | e'<;>rw [e'] at e<;>cases e
 exact xP true I rx ry r1 r2 e' (by rw [Bool.true_xor];exact q _ _ ↥25 (.bl _))
end
section
variable {X:Cx} {pos:Pos} {a b c e:Expr} {ga gb gc g:E} {k:Nat}
theorem gS (hu:Room k X.A) (ha:SE X a ga) (hb:SE X b gb):SE X (.Compare a [.Eq] [b] pos) (EV.bin oEq ga gb):=uR Oo (BW hu.units) ha hb (dS _)
theorem K7 (hu:Room k X.A) (ha:SE X a ga) (hb:SE X b gb):SE X (.Compare a [.NotEq] [b] pos) (EV.bin oNe ga gb):=uR Oi (BQ hu.units) ha hb (dS _)
theorem eD (hu:Room k X.A) (ha:SE X a ga) (hb:SE X b gb):ST X (.Compare a [.Eq] [b] pos) (EV.bin oEq ga gb):=oX Oo (BW hu.units) ha hb (dS _)
theorem Dg (hu:Room k X.A) (ha:SE X a ga) (hb:SE X b gb):ST X (.Compare a [.NotEq] [b] pos) (EV.bin oNe ga gb):=oX Oi (BQ hu.units) ha hb (dS _)
theorem QT (ha:SE X a ga) (hb:SE X b gb) (hm:behindInMarks .In b=false:=by rfl):SE X (.Compare a [.In] [b] pos) (EV.bin oIn ga gb):=uR Oj BS ha hb hm
theorem JA (ha:SE X a ga) (hb:SE X b gb) (hm:behindInMarks .In b=false:=by rfl):ST X (.Compare a [.In] [b] pos) (EV.bin oIn ga gb):=oX Oj BS ha hb hm
theorem Df (ha:SE X a ga) (hb:SE X b gb) (hm:behindInMarks .NotIn b=false:=by rfl):ST X (.Compare a [.NotIn] [b] pos) (EV.bin gX ga gb):=oX Ez wF ha hb hm
theorem B0 (r:Rep X.K X.mg H v d):qE d=.ok (.bl (decide (v=.non)))/\kI d=.ok (.bl (!decide (v=.non))):=by
 cases r<;>exact ⟨rfl,rfl⟩
theorem BZ (h:tE X (un qE ga) σ H Q):tE X ga σ H fun x H1=>tE X (con .non) σ H1 fun y H2=>y=.non/\Q (.bl (decide (x=.non))) H2:=by
 obtain ⟨δ,hσ,h⟩:=h
 refine ⟨δ,hσ,(RQ.bind h).to fun x H1 s1 ⟨_,d,r,q⟩=>⟨δ,hσ.mono s1,fun v H2 s2 r2 => ?_⟩⟩
 cases r2
 rw [(B0 r).1] at q
 exact ⟨rfl,q _ _ s2 (.bl _)⟩
theorem ED (h:tE X (un kI ga) σ H Q):tE X ga σ H fun x H1=>tE X (con .non) σ H1 fun y H2=>y=.non/\Q (.bl (!decide (x=.non))) H2:=by
 obtain ⟨δ,hσ,h⟩:=h
 refine ⟨δ,hσ,(RQ.bind h).to fun x H1 s1 ⟨_,d,r,q⟩=>⟨δ,hσ.mono s1,fun v H2 s2 r2 => ?_⟩⟩
 cases r2
 rw [(B0 r).2] at q
 exact ⟨rfl,q _ _ s2 (.bl _)⟩
theorem K8 (ha:SE X a ga):SE X (.Compare a [.Is] [.Constant .none j p2] pos) (un qE ga):=PE.weak (wB BR ha pZ (dS _)) fun σ H Q h=>BZ h
theorem j0 (h:tT X g σ H Q):tE X g σ H fun v H'=>∃ k,v=.bl k/\Q k H':=by
 obtain ⟨δ,hσ,h⟩:=h
 refine ⟨δ,hσ,?_⟩
 cases q:g δ with
 | ok d =>
  rw [q] at h
  cases d with
  | bl k=>exact fun v H' s r=>by cases r;exact ⟨k,rfl,h H' s⟩
  | _=>exact False.elim h
 | ex C=>rw [q] at h;exact h
 | bad=>rw [q] at h;exact False.elim h
theorem vV (ha:SE X a ga):ST X (.Compare a [.Is] [.Constant .none j p2] pos) (un qE ga):=PT.weak (rg BR ha pZ (dS _)) fun σ H Q h=>BZ (j0 h)
theorem BH (ha:SE X a ga):ST X (.Compare a [.IsNot] [.Constant .none j p2] pos) (un kI ga):=PT.weak (rg DZ ha pZ (dS _)) fun σ H Q h=>ED (j0 h)
theorem gW (h:SE X e g) (he:∀ whole,isTrue e X.env whole=(do let v<-whole;standAt e.pos;holding [v] (truthy v)):=by intro _;rfl):ST X e g:=PT.weak (Hs h he) fun σ H Q q=>j0 q
theorem RT.truth (h:RT X σ H (r.bind fun d=>truth d t f) Q):RT X σ H r fun k H'=>ax H H'/\if k=true then RT X σ H' t Q else RT X σ H' f Q:=by
 cases r with
 | ok d =>
  cases d with
  | bl k =>
   cases k with
   | true=>exact fun H' s=>⟨s,FY (RT.mono s h)⟩
   | false=>exact fun H' s=>⟨s,FZ (RT.mono s h)⟩
  | _=>exact False.elim h
 | ex C=>exact h
 | bad=>exact False.elim h
theorem RT.to (h:RT X σ H r Q) (g:∀ k H',ax H H'->Q k H'->Q' k H'):RT X σ H r Q':=by
 cases r with
 | ok d =>
  cases d with
  | bl k=>exact fun H' s=>g k H' s (h H' s)
  | _=>exact False.elim h
 | ex C=>exact h
 | bad=>exact False.elim h
theorem RQ.truthT (h:RQ X σ H (r.bind fun d=>truth d t f) Q):RT X σ H r fun k H'=>ax H H'/\if k=true then RQ X σ H' t Q else RQ X σ H' f Q:=by
 cases r with
 | ok d =>
  cases d with
  | bl k =>
   cases k with
   | true=>exact fun H' s=>⟨s,FY (RQ.mono s h)⟩
   | false=>exact fun H' s=>⟨s,FZ (RQ.mono s h)⟩
  | _=>exact False.elim h
 | ex C=>exact h
 | bad=>exact False.elim h
theorem RQ.truth (h:RQ X σ H (r.bind fun d=>truth d t f) Q):RQ X σ H r fun v H'=>∃ k,v=.bl k/\if k=true then RQ X σ H' t Q else RQ X σ H' f Q:=by
 cases r with
 | ok d =>
  cases d with
  | bl k =>
   cases k with
   | true=>exact fun v H' s r=>by cases r;exact ⟨true,rfl,FY (RQ.mono s h)⟩
   | false=>exact fun v H' s r=>by cases r;exact ⟨false,rfl,FZ (RQ.mono s h)⟩
  | _=>exact False.elim h
 | ex C=>exact h
 | bad=>exact False.elim h
theorem l8 {k:Bool} {A B A' B':Prop} (h:if k=true then A else B) (f:A->A') (g:B->B'):if k=true then A' else B':=by
 cases k with
 | true=>exact FY (f (by simpa using h))
 | false=>exact FZ (g (by simpa using h))
theorem iu (h:ST X a ga):ST X (.UnaryOp .Not a pos) (lS ga):=PT.weak (Ht h) fun σ H Q ⟨δ,hσ,q⟩=>⟨δ,hσ,(RT.truth q).to fun k H' s ⟨_,z⟩=>by
 cases k with
 | true=>exact (show RT X σ H' (.ok ↥38) Q by simpa using z) H' ↥25
 | false=>exact (show RT X σ H' (.ok ↥24) Q by simpa using z) H' ↥25⟩
theorem t_w (h:SW X e g):ST X e g:=PW.pt h
theorem sF (h:ST X a ga):SW X (.BoolOp .And [a] pos) ga:=DL h
theorem km (h:ST X a ga):SW X (.BoolOp .Or [a] pos) ga:=Hm h
theorem w_and {rest:List Expr} (h:ST X a ga) (hb:SW X (.BoolOp .And (b::rest) pos) gb):SW X (.BoolOp .And (a::b::rest) pos) (eH ga gb) :=
 PW.weak (Hn h hb) fun σ H Q ⟨δ,hσ,q⟩=>⟨δ,hσ,(RT.truth q).to fun k H' s ⟨_,z⟩=>l8 z (fun z=>⟨δ,hσ.mono s,z⟩) (fun z=>z H' ↥25)⟩
theorem w_or {rest:List Expr} (h:ST X a ga) (hb:SW X (.BoolOp .Or (b::rest) pos) gb):SW X (.BoolOp .Or (a::b::rest) pos) (or_ ga gb) :=
 PW.weak (Ko h hb) fun σ H Q ⟨δ,hσ,q⟩=>⟨δ,hσ,(RT.truth q).to fun k H' s ⟨_,z⟩=>l8 z (fun z=>z H' ↥25) (fun z=>⟨δ,hσ.mono s,z⟩)⟩
theorem cX {op} (h:SE X a g):SE X (.BoolOp op [a] pos) g:=HB h
theorem cL {rest:List Expr} (h:SE X a ga) (hb:SE X (.BoolOp .And (b::rest) pos) gb):SE X (.BoolOp .And (a::b::rest) pos) (eH ga gb) :=
 PE.weak (HI h hb) fun σ H Q ⟨δ,hσ,q⟩=>⟨δ,hσ,(RQ.truth q).to fun v H' s ⟨k,e,z⟩=>⟨k,e,l8 z (fun z=>⟨δ,hσ.mono s,z⟩) (fun z=>z _ H' ↥25 (.bl _))⟩⟩
theorem E9 {rest:List Expr} (h:SE X a ga) (hb:SE X (.BoolOp .Or (b::rest) pos) gb):SE X (.BoolOp .Or (a::b::rest) pos) (or_ ga gb) :=
 PE.weak (Kv h hb) fun σ H Q ⟨δ,hσ,q⟩=>⟨δ,hσ,(RQ.truth q).to fun v H' s ⟨k,e,z⟩=>⟨k,e,l8 z (fun z=>z _ H' ↥25 (.bl _)) (fun z=>⟨δ,hσ.mono s,z⟩)⟩⟩
theorem A6 (h:SE X a ga):SE X (.UnaryOp .Not a pos) (lS ga):=PE.weak (HC h) fun σ H Q ⟨δ,hσ,q⟩=>⟨δ,hσ,(RQ.truth q).to fun v H' s ⟨k,e,z⟩=>⟨k,e,by
 cases k with
 | true=>exact (show RQ X σ H' (.ok ↥38) Q by simpa using z) _ H' ↥25 (.bl _)
 | false=>exact (show RQ X σ H' (.ok ↥24) Q by simpa using z) _ H' ↥25 (.bl _)⟩⟩
theorem A9 (h:ST X c gc) (ha:SE X a ga) (hb:SE X b gb):SE X (.IfExp c a b pos) (ife gc ga gb) :=
 PE.weak (Aa h ha hb) fun σ H Q ⟨δ,hσ,q⟩=>⟨δ,hσ,(RQ.truthT q).to fun k H' s ⟨_,z⟩=>l8 z (fun z=>⟨δ,hσ.mono s,z⟩) (fun z=>⟨δ,hσ.mono s,z⟩)⟩
theorem qH {op op':CmpOp} {f f':D->D->R D} (nx:jq f) (nx':jq f') (ho:OpR X (compareOp op) (rD X f)) (ho':OpR X (compareOp op') (rD X f')) (ha:SE X a ga) (hb:SE X b gb) (hc:SE X c gc)
  (hm:lastMarks [op,op'] [b,c]=false:=by with_unfolding_all rfl):ST X (.Compare a [op,op'] [b,c] pos) (chain f f' ga gb gc):=by
 refine PT.weak (zT ho ho' ha hb hc hm) fun σ H Q h => ?_
 obtain ⟨δ,hσ,q⟩:=j0 h
 refine ⟨δ,hσ,(RQ.bind q).to fun x H1 s1 ⟨_,dx,r1,q1⟩=>⟨δ,hσ.mono s1,(RQ.bind q1).to fun y H2 s2 ⟨_,dy,r2,q2⟩ => ?_⟩⟩
 have q3:=RQ.truth q2
 refine RQ.op nx (r1.mono s2) r2 (q3.to fun v H3 s3 ⟨k,e,z⟩=>⟨k,e,l8 z (fun z=>⟨δ,((hσ.mono s1).mono s2).mono s3,(RQ.bind z).to fun w H4 s4 ⟨_,dw,r4,q4⟩ => ?_⟩) (fun z=>z _ H3 ↥25 (.bl _))⟩)
 exact RQ.op nx' ((r2.mono s3).mono s4) r4 q4
theorem cZ:SA X [] []:=PA.weak BP fun σ H Q ⟨δ,hσ,h⟩=>h [] H (ax.refl H) .nil
theorem RA.cons (h:RA X σ H (evs (g::gs) δ) Q):RQ X σ H (g δ) fun v H1=>RA X σ H1 (evs gs δ) fun vs H2=>ax H1 H2->∀ d,Rep X.K X.mg H1 v d->Q (v::vs) H2:=by
 unfold evs at h
 cases q:g δ with
 | ok d =>
  rw [q] at h
  refine fun v H1 s1 r1 => ?_
  simp only [R.bind] at h
  cases q2:evs gs δ with
  | ok ds =>
   rw [q2] at h
   exact fun vs H2 s2 rs s2' d' r'=>h (v::vs) H2 (s1.trans s2) (.cons (r1.mono s2) rs)
  | ex C=>rw [q2] at h;exact fun Ca hc H' s'=>h Ca hc H' (s1.trans s')
  | bad=>rw [q2] at h;exact h
 | ex C=>rw [q] at h;exact h
 | bad=>rw [q] at h;exact h
theorem RA.to (h:RA X σ H r Q) (g:∀ v H',ax H H'->Q v H'->Q' v H'):RA X σ H r Q':=by
 cases r with
 | ok d=>exact fun v H' s r=>g v H' s (h v H' s r)
 | ex C=>exact h
 | bad=>exact h
theorem ah (ha:SE X e g) (hr:SA X es gs) (hs:starEach (e::es) X.env=(false,eval e X.env)::starEach es X.env:=by rfl):SA X (e::es) (g::gs) :=
 PA.weak (wD ha hr hs) fun σ H Q ⟨δ,hσ,h⟩=>by
  refine ⟨δ,hσ,?_⟩
  cases q:g δ with
  | ok d =>
   have h':=RA.cons h
   rw [q] at h'
   exact fun v H1 s1 r1=>⟨δ,hσ.mono s1,(h' v H1 s1 r1).to fun vs H2 s2 z=>z s2 d r1⟩
  | ex C =>
   have h':=RA.cons h
   rw [q] at h'
   exact h'
  | bad =>
   have h':=RA.cons h
   rw [q] at h'
   exact h'
theorem bo {x1} (h:SA X es gs) (hl:es.length<=1000) (hg:gs.length=es.length:=by rfl):SE X (.Tuple es x1 pos) (d7 gs) :=
 PE.weak (HA h) fun σ H Q ⟨δ,hσ,q⟩=>⟨δ,hσ,by
  have q':=RA.bind q
  cases e:evs gs δ with
  | ok ds =>
   have hd:ds.length=gs.length:=evs_len e
   rw [e] at q'
   refine fun vs H1 s1 rs => ?_
   obtain ⟨_,ds',rs',q2⟩:=q' vs H1 s1 rs
   refine ⟨by rw [rs.length,hd,hg];exact Nat.le_of_lt (kq hl),fun p hp=>q2 _ _ (bb hp _) (.tup (SqT.of bq) (rs'.mono (bb hp _)))⟩
  | ex C=>rw [e] at q';exact q'
  | bad=>rw [e] at q';exact q'⟩
where
 evs_len {δ:Dt}:∀ {gs:List E} {ds:List D},evs gs δ=.ok ds->ds.length=gs.length
  | [],ds,e=>by cases e;rfl
  | g::gs,ds,e=>by
   unfold evs at e
   cases q:g δ with
   | ok d =>
    rw [q] at e
    simp only [R.bind] at e
    cases q2:evs gs δ with
    | ok ds'=>rw [q2] at e;cases e;simp [evs_len q2]
    | ex C=>rw [q2] at e;cases e
    | bad=>rw [q2] at e;cases e
   | ex C=>rw [q] at e;cases e
   | bad=>rw [q] at e;cases e
theorem oz (h:SA X es gs) (hl:es.length<=1000) (hg:gs.length=es.length:=by rfl):SE X (.List es pos) (xy gs) :=
 PE.weak (HE h) fun σ H Q ⟨δ,hσ,q⟩=>⟨δ,hσ,by
  have q':=RA.bind q
  cases e:evs gs δ with
  | ok ds =>
   have hd:ds.length=gs.length:=bo.evs_len e
   rw [e] at q'
   refine fun vs H1 s1 rs => ?_
   obtain ⟨_,ds',rs',q2⟩:=q' vs H1 s1 rs
   refine ⟨by rw [rs.length,hd,hg];exact Nat.le_of_lt (kq hl),fun p hp=>q2 _ _ (bb hp _) (.lst (SqL.of bq) (rs'.mono (bb hp _)))⟩
  | ex C=>rw [e] at q';exact q'
  | bad=>rw [e] at q';exact q'⟩
theorem Qk:jq oIx:=fun x y C z=>by
 unfold oIx at z
 split at z
 ·split at z<;>cases z
 ·split at z<;>cases z
 ·split at z
  ·split at z<;>cases z
  ·cases z
 ·cases z
theorem tK (rs:Reps X.K X.mg H xs ds) (h:((EV.ixN ds.length i).bind fun j=>ds[j]?)=some d):∃ v,atI xs i=some v/\Rep X.K X.mg H v d:=by
 have el:=rs.length
 cases q:EV.ixN ds.length i with
 | none=>rw [q] at h;cases h
 | some j =>
  rw [q] at h
  obtain ⟨v,h1,h2⟩:=rs.get h
  refine ⟨v,?_,h2⟩
  unfold atI
  rw [el,show L2.ixN ds.length i=some j from q]
  exact h1
theorem QA:IxR X (rD X oIx):=by
 intro value slice pins s σ H x y v u Q I rx ry ⟨dx,dy,d,r1,r2,e,q⟩ hs
 unfold oIx at e
 split at e
 ·split at e
  ·rename_i h
   cases e;cases r1;cases r2
   rename_i a xs hq rs
   obtain ⟨w,h1,h2⟩:=tK rs h
   exact l6 value slice pins s σ H _ _ v u Q I rx ry ⟨a,xs,_,w,rfl,rfl,hq,h1,q _ _ ↥25 h2⟩ hs
  ·cases e
 ·split at e
  ·rename_i h
   cases e;cases r1;cases r2
   rename_i a xs hq rs
   obtain ⟨w,h1,h2⟩:=tK rs h
   exact EM value slice pins s σ H _ _ v u Q I rx ry ⟨a,xs,_,w,rfl,rfl,hq,h1,q _ _ ↥25 h2⟩ hs
  ·cases e
 ·split at e
  ·rename_i hz
   split at e
   ·rename_i c h
    cases e;cases r1;cases r2
    refine Iz value slice pins s σ H _ _ v u Q I rx ry ⟨_,_,c,rfl,rfl,Nat.le_trans hz (by rw [sizeLine_eq];decide),?_,q _ _ ↥25 (.str _)⟩ hs
    exact h
   ·cases e
  ·cases e
 ·cases e
theorem A8 (ha:SE X a ga) (hb:SE X b gb) (hs:yJ b:=by intro _ _;rfl):SE X (.Subscript a b pos) (EV.bin oIx ga gb) :=
 PE.weak (Kx QA ha hb hs) fun σ H Q h=>by
  obtain ⟨δ,hσ,q⟩:=yt h
  refine ⟨δ,hσ,q.to fun x H1 s1 ⟨δ1,hσ1,q1⟩=>⟨δ1,hσ1,q1.to fun y H2 s2 ⟨dx,dy,r1,r2,q2⟩=>RQ.op Qk r1 r2 q2⟩⟩
end
end ES
namespace ES
open PySem PySem.Spec PyProof.Rows L2 EV
unseal SE ST SW SA
abbrev Os:=List (Nat×Addr)
def lX (os:Os):List Addr:=os.map (·.2)
def hide (H:Hp) (os:Os):Hp:=fun a=>if a∈lX os then none else H a
theorem oh (H:Hp):hide H []=H:=by
 funext a
 unfold hide lX
 simp
theorem oi {H:Hp} {os:Os} {a:Addr} (h:a∈lX os):hide H os a=none:=if_pos h
theorem dj {H:Hp} {os:Os} {a:Addr} (h:a∉lX os):hide H os a=H a:=if_neg h
theorem cx (H:Hp) (os:Os):ax ↥27 H:=fun b o e=>by
 unfold hide at e
 split at e
 ·cases e
 ·exact e
theorem kU (os:Os) (s:ax H H'):ax ↥27 (hide H' os):=fun b o e=>by
 unfold hide at e ⊢
 split at e
 ·cases e
 ·rename_i h
  rw [if_neg h]
  exact s b o e
structure StO (X:Cx) (H:Hp) (σ:L2.St) (δ:Dt) (os:Os):Prop where
 st:Stt X.K X.mg ↥27 σ δ
 lst:∀ p∈os,∃ xs ds,H p.2=some (.lst xs)/\σ[p.1]? = some (some (.ref p.2))/\δ[p.1]? = some (some (.own ds))/\Reps X.K X.mg ↥27 xs ds
 own:∀ i ds,δ[i]? = some (some (.own ds))->∃ a,(i,a)∈os
 inj:∀ i j a,(i,a)∈os->(j,a)∈os->i=j
theorem iJ {os:Os} {a:Addr} (h:a∈lX os):∃ p∈os,p.2=a:=by
 obtain ⟨p,hp,e⟩:=List.mem_map.mp h
 exact ⟨p,hp,e⟩
theorem oQ {os:Os} {p:Nat×Addr} (h:p∈os):p.2∈lX os:=List.mem_map.mpr ⟨p,h,rfl⟩
def BN (h:Heap) (os:Os):List ↥12:=l4 (lX os) h
section
variable {X:Cx} {pins:List ↥12} {σ:L2.St} {H H':Hp} {s s':Shared} {os:Os}
def Jv (H:Hp) (os:Os):Prop:=∀ a∈lX os,∃ xs,H a=some (.lst xs)
theorem og (I:Inv X pins σ H s) (hl:Jv H os):Inv X (pins++BN s.heap os) σ ↥27 s:=by
 have ne:∀ {b:Addr} {o:HO},H b=some o->(∀ xs,o ≠ .lst xs)->hide H os b=some o:=fun {b o} e n=>by
  rw [dj fun z => ?_];exact e
  obtain ⟨xs,q⟩:=hl b z
  rw [e] at q
  exact n xs (Option.some.inj q)
 refine ⟨I.ok,I.os,I.bare,⟨I.base.keep,I.base.slot,fun b o e n hx => ?_,I.base.there,fun b xs e => ?_,fun b o u e => ?_,fun b ps e => ?_⟩,I.loc,I.cell,?_,fun x c e => ?_,fun p hp => ?_,fun a o e => ?_,I.len⟩
 ·unfold hide;split
  ·rfl
  ·exact I.base.free b o e n hx
 ·exact ne (I.base.tups b xs e) fun _ z=>nomatch z
 ·exact ne (I.base.frzs b o u e) fun _ z=>nomatch z
 ·obtain ⟨more,q⟩:=I.base.tbls b ps e
  exact ⟨more,ne q fun _ z=>nomatch z⟩
 ·unfold hide;split
  ·rfl
  ·exact I.free
 ·unfold hide;split
  ·rfl
  ·exact I.freeC x c e
 ·rw [<- List.append_assoc] at hp
  rcases List.mem_append.mp hp with z | z
  ·obtain ⟨e,n,r⟩:=I.pin p z
   refine ⟨e,?_,r⟩
   unfold hide;split
   ·rfl
   ·exact n
  ·obtain ⟨hb,e⟩:=pM z
   obtain ⟨xs,q⟩:=hl p.1 hb
   obtain ⟨_,its,n,_,e'⟩:=I.hok p.1 _ q
   rw [e] at e'
   have e2:p.2={ cls:=.type "list",data:=.seq its.toArray n }:=Option.some.inj e'
   refine ⟨e,oi hb,fun z => ?_,fun z => ?_,fun v z => ?_⟩
   ·rw [z,I.free] at q;cases q
   ·have hx:p.1∉X.ex:=fun w=>I.ok.exfs p.1 w z
    obtain ⟨_,o0,ho0,_⟩:=I.ok.funs.mem z
    rw [I.base.free p.1 o0 ho0 (I.ok.frf p.1 z) hx] at q;cases q
   ·rw [e2] at z;cases z
 ·have hna:a∉lX os:=fun z=>by rw [oi z] at e;cases e
  rw [dj hna] at e
  exact (I.hok a o e).stay (fun _ _ _ q=>q) (fun b q=>ne q fun _ z=>nomatch z) fun b xs q=>ne q fun _ z=>nomatch z
def ig (H H':Hp) (os:Os):Hp:=fun a=>if a∈lX os then H a else H' a
theorem iN (h:∀ a∈lX os,H' a=none):hide (ig H H' os) os=H':=by
 funext a
 unfold hide ig
 by_cases z:a∈lX os
 ·rw [if_pos z,h a z]
 ·rw [if_neg z,if_neg z]
theorem oa (hx:X.ex=[]) (I0:Inv X pins σ H s) (hl:Jv H os) (I:Inv X (pins++BN s.heap os) σ H' s'):Inv X pins σ (ig H H' os) s'/\∀ a∈lX os,H' a=none:=by
 have pin:∀ a∈lX os,∃ o,s.heap.get? a=some o/\s'.heap.get? a=some o/\H' a=none/\a≠X.env.locals/\a∉X.fs:=fun a ha=>by
  obtain ⟨xs,q⟩:=hl a ha
  obtain ⟨o,e⟩:∃ o,s.heap.get? a=some o:=by
   obtain ⟨_,its,n,_,e⟩:=I0.hok a _ q
   exact ⟨_,e⟩
  obtain ⟨e1,e2,e3,e4,_⟩:=I.pin (a,o) (List.mem_append_right _ (List.mem_append_right _ (dq ha e)))
  exact ⟨o,e,e1,e2,e3,e4⟩
 have hn:∀ a∈lX os,H' a=none:=fun a ha=>(pin a ha).choose_spec.2.2.1
 have vis:∀ {b:Addr} {o:HO},H' b=some o->ig H H' os b=some o:=fun {b o} e=>by
  unfold ig;rw [if_neg fun z => ?_];exact e
  rw [hn b z] at e;cases e
 refine ⟨⟨I.ok,I.os,I.bare,⟨I.base.keep,I.base.slot,fun b o e n hx' => ?_,I.base.there,fun b xs e=>vis (I.base.tups b xs e),fun b o u e=>vis (I.base.frzs b o u e),fun b ps e => ?_⟩,I.loc,I.cell,?_,fun x c e => ?_,fun p hp => ?_,fun a o e => ?_,I.len⟩,hn⟩
 ·unfold ig;split
  ·exact I0.base.free b o e n hx'
  ·exact I.base.free b o e n hx'
 ·obtain ⟨more,q⟩:=I.base.tbls b ps e
  exact ⟨more,vis q⟩
 ·unfold ig;split
  ·exact I0.free
  ·exact I.free
 ·unfold ig;split
  ·exact I0.freeC x c e
  ·exact I.freeC x c e
 ·obtain ⟨e,n,r⟩:=I.pin p (by rw [<- List.append_assoc];exact List.mem_append_left _ hp)
  refine ⟨e,?_,r⟩
  unfold ig;split
  ·exact (I0.pin p hp).2.1
  ·exact n
 ·by_cases z:a∈lX os
  ·obtain ⟨ob,e0,e1,_⟩:=pin a z
   unfold ig at e
   rw [if_pos z] at e
   obtain ⟨xs,q⟩:=hl a z
   rw [e] at q
   have q':o=.lst xs:=Option.some.inj q
   subst q'
   obtain ⟨hz,its,n,r,e2⟩:=I0.hok a _ e
   rw [e0] at e2
   have e3:ob=_:=Option.some.inj e2
   subst e3
   exact ⟨hz,its,n,r,e1⟩
  ·unfold ig at e
   rw [if_neg z] at e
   exact (I.hok a o e).stay (fun _ _ _ q=>q) (fun b q=>vis q) fun b xs q=>vis q
end
section
variable {K:PySem.W.Frag} {mg:Str->Option Value} {H H':Hp}
def NoL (H H':Hp):Prop:=∀ b o,H b=some o->(∀ xs,o ≠ .lst xs)->(∀ ob xs,o ≠ .frz ob (.lst xs))->H' b=some o
theorem zJ (k:NoL H H') (h:SqT K H a xs):SqT K H' a xs:=by
 rcases h with (h | ⟨o,h⟩) | h
 ·exact .inl (.inl (k _ _ h (fun _ z=>nomatch z) fun _ _ z=>nomatch z))
 ·exact .inl (.inr ⟨o,k _ _ h (fun _ z=>nomatch z) fun _ _ z=>by cases z⟩)
 ·exact .inr h
mutual
theorem qX (k:NoL H H'):∀ {v:V} {d:D},d.flat=true->Rep K mg H v d->Rep K mg H' v d
 | _,_,_,.non=>.non
 | _,_,_,.bl b=>.bl b
 | _,_,_,.int i=>.int i
 | _,_,_,.str x=>.str x
 | _,.tup ds,f,.tup h r=>.tup (zJ k h) (j7 k (by simpa [D.flat] using f) r)
 | _,.lst ds,f,_=>by simp [D.flat] at f
 | _,_,_,.ty n=>.ty n
 | _,_,_,.cls h=>.cls h
 | _,_,_,.exc h e=>.exc h (k _ _ e (fun _ z=>nomatch z) fun _ _ z=>nomatch z)
 | _,.ins n ds,f,.ins h e r=>.ins h (k _ _ e (fun _ z=>nomatch z) fun _ _ z=>nomatch z) (sO k (by simpa [D.flat] using f) r)
theorem j7 (k:NoL H H'):∀ {vs:List V} {ds:List D},D.flats ds=true->Reps K mg H vs ds->Reps K mg H' vs ds
 | _,_,_,.nil=>.nil
 | _,d::r,f,.cons h t=>by
  have f':d.flat=true/\D.flats r=true:=by simpa [D.flats] using f
  exact .cons (qX k f'.1 h) (j7 k f'.2 t)
theorem sO (k:NoL H H'):∀ {vs:List (Str×V)} {ds:List (String×D)},D.flatf ds=true->Repf K mg H vs ds->Repf K mg H' vs ds
 | _,_,_,.nil=>.nil
 | _,(_,d)::r,f,.cons h t=>by
  have f':d.flat=true/\D.flatf r=true:=by simpa [D.flatf] using f
  exact .cons (qX k f'.1 h) (sO k f'.2 t)
end
theorem AB {os:Os} (hl:Jv H os):NoL H ↥27:=fun b o e n _=>by
 rw [dj fun z => ?_];exact e
 obtain ⟨xs,q⟩:=hl b z
 rw [e] at q
 exact n xs (Option.some.inj q)
end
section
variable {X:Cx} {σ:L2.St} {δ:Dt} {H H':Hp} {os:Os}
theorem StO.lsts (S:StO X H σ δ os):Jv H os:=fun a ha=>by
 obtain ⟨p,hp,rfl⟩:=iJ ha
 obtain ⟨xs,_,h,_⟩:=S.lst p hp
 exact ⟨xs,h⟩
theorem StO.nil (h:Stt X.K X.mg H σ δ) (hn:∀ (i:Nat) (ds:List D),δ[i]? ≠ some (some (.own ds))):StO X H σ δ []:=⟨by rw [oh];exact h,fun p hp=>(nomatch hp),fun i ds e=>absurd e (hn i ds),fun _ _ _ z=>(nomatch z)⟩
theorem StO.mono (S:StO X H σ δ os) (s:ax H H'):StO X H' σ δ os :=
 ⟨S.st.mono (kU os s),fun p hp=>let ⟨xs,ds,a,b,c,d⟩:=S.lst p hp;⟨xs,ds,s _ _ a,b,c,d.mono (kU os s)⟩,S.own,S.inj⟩
theorem StO.shown (S:StO X H σ δ os) (s:ax ↥27 H') (hn:∀ a∈lX os,H' a=none):StO X (ig H H' os) σ δ os:=by
 have e:=iN (H:=H) hn
 refine ⟨by rw [e];exact S.st.mono s,fun p hp => ?_,S.own,S.inj⟩
 obtain ⟨xs,ds,a,b,c,d⟩:=S.lst p hp
 exact ⟨xs,ds,by unfold ig;rw [if_pos (oQ hp)];exact a,b,c,by rw [e];exact d.mono s⟩
theorem StO.view (S:StO X H σ δ os):Stt X.K X.mg H σ (view δ):=by
 refine ⟨by unfold EV.view;rw [List.length_map];exact S.st.1,fun i d e n => ?_⟩
 unfold EV.view at e
 rw [List.getElem?_map] at e
 cases q:δ[i]? with
 | none=>rw [q] at e;cases e
 | some c =>
  rw [q] at e
  cases c with
  | none=>cases e
  | some d0 =>
   by_cases ho:∃ ds,d0=.own ds
   ·obtain ⟨ds,rfl⟩:=ho
    have e':D.lst ds=d:=Option.some.inj (Option.some.inj e)
    subst e'
    obtain ⟨a,ha⟩:=S.own i ds q
    obtain ⟨xs,ds',h1,h2,h3,h4⟩:=S.lst _ ha
    rw [q] at h3
    cases h3
    exact ⟨.ref a,h2,.lst (SqL.of h1) (h4.mono (cx H os))⟩
   ·have e':d0=d:=by
     cases d0<;>first | exact absurd ⟨_,rfl⟩ ho | exact Option.some.inj (Option.some.inj e)
    subst e'
    obtain ⟨v,h1,h2⟩:=S.st.2 i d0 q n
    exact ⟨v,h1,h2.mono (cx H os)⟩
theorem StO.noOwn (S:StO X H σ δ os) (s:ax ↥27 H'):Stt X.K X.mg H' σ (noOwn δ):=by
 refine ⟨by unfold EV.noOwn;rw [List.length_map];exact S.st.1,fun i d e n => ?_⟩
 unfold EV.noOwn at e
 rw [List.getElem?_map] at e
 cases q:δ[i]? with
 | none=>rw [q] at e;cases e
 | some c =>
  rw [q] at e
  cases c with
  | none=>cases e
  | some d0 =>
   by_cases ho:∃ ds,d0=.own ds
   ·obtain ⟨ds,rfl⟩:=ho
    cases e
   ·have e':d0=d:=by
     cases d0<;>first | exact absurd ⟨_,rfl⟩ ho | exact Option.some.inj (Option.some.inj e)
    subst e'
    obtain ⟨v,h1,h2⟩:=S.st.2 i d0 q n
    exact ⟨v,h1,h2.mono s⟩
end
def FQ (X:Cx) (σ:L2.St) (H:Hp) (os:Os) (δ:Dt) (r:R D) (Q:VK):Prop:=match r with
 | .ok d=>∀ v H',StO X H' σ δ os->ax ↥27 (hide H' os)->Rep X.K X.mg (hide H' os) v d->Q v H'
 | .ex C=>∀ Ca,X.mg C=some (.ref Ca)->∀ H',ax ↥27 H'->Stt X.K X.mg H' σ (noOwn δ)->ew X Ca σ H'
 | .bad=>False
def tF (X:Cx) (g:E):TE:=fun σ H Q=>∃ δ os,StO X H σ δ os/\FQ X σ H os δ (g δ) Q
def FT (X:Cx) (σ:L2.St) (H:Hp) (os:Os) (δ:Dt) (r:R D) (Q:Bool->Hp->Prop):Prop:=match r with
 | .ok (.bl b)=>∀ H',StO X H' σ δ os->ax ↥27 (hide H' os)->Q b H'
 | .ex C=>∀ Ca,X.mg C=some (.ref Ca)->∀ H',ax ↥27 H'->Stt X.K X.mg H' σ (noOwn δ)->ew X Ca σ H'
 | _=>False
def tFT (X:Cx) (g:E):TT:=fun σ H Q=>∃ δ os,StO X H σ δ os/\FT X σ H os δ (g δ) Q
section
variable {X:Cx} {e:Expr} {g:E}
theorem xW (hx:X.ex=[]) (h:SE X e g):PE X e (tF X g):=by
 intro pins s σ H Q I ⟨δ,os,S,q⟩
 have hl:=S.lsts
 have hw:RQ X σ ↥27 (g δ) (fun v H1=>ax ↥27 H1/\∃ d,g δ=.ok d/\Rep X.K X.mg H1 v d):=by
  cases r:g δ with
  | ok d=>exact fun v H' s r=>⟨s,d,rfl,r⟩
  | ex C =>
   rw [r] at q
   exact fun Ca hc H' s'=>q Ca hc H' s' (S.noOwn s')
  | bad=>rw [r] at q;exact q
 refine thn (h _ s σ _ _ (og I hl) ⟨δ,S.st,hw⟩) fun u s' ⟨v,H1,I1,rv,sm,d,e,rd⟩ => ?_
 obtain ⟨I2,hn⟩:=oa hx I hl I1
 rw [e] at q
 have eh:=iN (H:=H) hn
 exact ⟨v,_,I2,rv,q v _ (S.shown sm hn) (by rw [eh];exact sm) (by rw [eh];exact rd)⟩
theorem B4 (hx:X.ex=[]) (h:ST X e g):PT X e (tFT X g):=by
 intro pins s σ H Q I ⟨δ,os,S,q⟩
 have hl:=S.lsts
 have hw:RT X σ ↥27 (g δ) (fun b H1=>ax ↥27 H1/\g δ=.ok (.bl b)):=by
  cases r:g δ with
  | ok d =>
   rw [r] at q
   cases d with
   | bl b=>exact fun H' s=>⟨s,rfl⟩
   | _=>exact False.elim q
  | ex C =>
   rw [r] at q
   exact fun Ca hc H' s'=>q Ca hc H' s' (S.noOwn s')
  | bad=>rw [r] at q;exact False.elim q
 refine thn (h _ s σ _ _ (og I hl) ⟨δ,S.st,hw⟩) fun b s' ⟨H1,I1,sm,e⟩ => ?_
 obtain ⟨I2,hn⟩:=oa hx I hl I1
 rw [e] at q
 have eh:=iN (H:=H) hn
 exact ⟨_,I2,q _ (S.shown sm hn) (by rw [eh];exact sm)⟩
def tB (X:Cx) (g:E):TE:=fun σ H Q=>∃ δ os,StO X H σ δ os/\(∀ d,g (view δ)=.ok d->d.flat=true)/\FQ X σ H os δ (g (view δ)) Q
end
def OQ (X:Cx) (D:Ends) (F:Hp):O->Prop
 | .nx δ=>∀ σ H os,StO X H σ δ os->ax F ↥27->D.nx σ H
 | .bk δ=>∀ σ H os,StO X H σ δ os->ax F ↥27->D.bk σ H
 | .ct δ=>∀ σ H os,StO X H σ δ os->ax F ↥27->D.ct σ H
 | .rt d=>∀ v H,ax F H->Rep X.K X.mg H v d->D.rt v H
 | .ex C δ=>∀ σ H,ax F H->Stt X.K X.mg H σ δ->∀ Ca,X.mg C=some (.ref Ca)->ew X Ca σ H
 | .mk C δ=>∀ σ H,ax F H->∀ Ca,X.mg C=some (.ref Ca)->em X Ca σ H
 | .hx C δ=>∀ σ H,ax F H->Stt X.K X.mg H σ δ->∀ Ca,X.mg C=some (.ref Ca)->ehx X Ca σ H
 | .bad=>False
def tS (X:Cx) (g:S):TS:=fun D σ H=>∃ δ os,StO X H σ δ os/\OQ X D ↥27 (g δ)
@[irreducible] def SS (X:Cx) (st:Stmt) (g:S):Prop:=PS X st (tS X g)
@[irreducible] def SSs (X:Cx) (st:List Stmt) (g:S):Prop:=PSs X st (tS X g)
unseal SS SSs
theorem OQ.mono {X:Cx} {D:Ends} {F F':Hp} {o:O} (s:ax F F') (h:OQ X D F o):OQ X D F' o:=by
 cases o with
 | nx δ=>exact fun σ H os S s'=>h σ H os S (s.trans s')
 | bk δ=>exact fun σ H os S s'=>h σ H os S (s.trans s')
 | ct δ=>exact fun σ H os S s'=>h σ H os S (s.trans s')
 | rt d=>exact fun v H s' r=>h v H (s.trans s') r
 | ex C δ=>exact fun σ H s' S=>h σ H (s.trans s') S
 | mk C δ=>exact fun σ H s'=>h σ H (s.trans s')
 | hx C δ=>exact fun σ H s' S=>h σ H (s.trans s') S
 | bad=>exact h
theorem OQ.lv {X:Cx} {D:Ends} {F:Hp} {o:O} {n:L2.St->Hp->Prop} (hn:∀ δ,o ≠ .nx δ) (h:OQ X D F o):OQ X { D with nx:=n } F o:=by
 cases o with
 | nx δ=>exact absurd rfl (hn δ)
 | _=>exact h
section
variable {X:Cx} {N:List Str} {H:Hp} {σ:L2.St} {δ:Dt} {os:Os}
theorem bg (os:Os) (i:Nat):∀ p∈os.filter (fun p=>p.1 != i),p∈os/\p.1≠i:=fun p hp=>by
 have:=List.mem_filter.mp hp
 exact ⟨this.1,by simpa using this.2⟩
theorem kW (h:∀ p∈os',p∈os):ax ↥27 (hide H os'):=fun b o e=>by
 have hb:b∉lX os:=fun z=>by rw [oi z] at e;cases e
 rw [dj hb] at e
 rw [dj fun z => ?_];exact e
 obtain ⟨p,hp,rfl⟩:=iJ z
 exact hb (oQ (h p hp))
theorem StO.set (S:StO X H σ δ os) (r:Rep X.K X.mg ↥27 v d):StO X H (σ.set i (some v)) (δ.set i (some d)) (os.filter fun p=>p.1 != i)/\ax ↥27 (hide H (os.filter fun p=>p.1 != i)):=by
 have sm:ax ↥27 (hide H (os.filter fun p=>p.1 != i)):=kW fun p hp=>(bg os i p hp).1
 refine ⟨⟨(S.st.mono sm).set (r.mono sm),fun p hp => ?_,fun j ds e => ?_,fun a b c h1 h2=>S.inj a b c (bg os i _ h1).1 (bg os i _ h2).1⟩,sm⟩
 ·obtain ⟨hp',ne⟩:=bg os i p hp
  obtain ⟨xs,ds,h1,h2,h3,h4⟩:=S.lst p hp'
  exact ⟨xs,ds,h1,by rw [List.getElem?_set_ne (Ne.symm ne)];exact h2,by rw [List.getElem?_set_ne (Ne.symm ne)];exact h3,h4.mono sm⟩
 ·by_cases hj:j=i
  ·subst hj
   by_cases hl:j<δ.length
   ·rw [List.getElem?_set_self hl] at e
    have e':d=.own ds:=Option.some.inj (Option.some.inj e)
    subst e'
    cases r
   ·rw [List.getElem?_eq_none (by simp;omega)] at e
    cases e
  ·rw [List.getElem?_set_ne (Ne.symm hj)] at e
   obtain ⟨a,ha⟩:=S.own j ds e
   exact ⟨a,List.mem_filter.mpr ⟨ha,by simpa using hj⟩⟩
structure Sx (X:Cx) (N:List Str):Prop where
 sc:Sc X N
 ex:X.ex=[]
variable {e c:Expr} {g gc:E} {pos:Pos} {st:Stmt} {rest body els:List Stmt} {gs gr gb ge:S}
theorem FQ.then {r:R EV.D} {Q:VK} {D:Ends} {f:EV.D->O} (h:OQ X D ↥27 (match r with | .ok d=>f d | .ex C=>.ex C (noOwn δ) | .bad=>.bad))
  (hq:∀ d v H',r=.ok d->StO X H' σ δ os->ax ↥27 (hide H' os)->Rep X.K X.mg (hide H' os) v d->OQ X D (hide H' os) (f d)->Q v H'):FQ X σ H os δ r Q:=by
 cases r with
 | ok d=>exact fun v H' S s r=>hq d v H' rfl S s r (OQ.mono s h)
 | ex C=>exact fun Ca hc H' s' st=>h σ H' s' st Ca hc
 | bad=>exact h
theorem av:SSs X [] aq:=PSs.weak DM fun D σ H ⟨δ,os,S,h⟩=>h σ H os S ↥25
theorem aj (h:SS X st gs):SSs X [st] gs:=wy h
theorem ae (h:SS X st gs) (hr:SSs X rest gr):SSs X (st::rest) (seq gs gr):=PSs.weak (zU h hr) fun D σ H ⟨δ,os,S,h⟩=>⟨δ,os,S,by
 unfold seq at h
 cases q:gs δ with
 | nx δ' =>
  rw [q] at h
  exact fun σ' H' os' S' s'=>⟨δ',os',S',OQ.mono s' h⟩
 | _=>rw [q] at h;exact OQ.lv (fun _ z=>nomatch z) h⟩
theorem DB (C:Sx X N) (i:Nat) (hN:N[i]? = some x) (hx:Sto X x) (h:SE X e g) (hsw:swapsWith e (some (.Name x pos')) pos.line X.env=pure false:=by rfl):SS X (.Assign [.Name x pos'] e pos) (assign i g) :=
 PS.weak (Hu (i:=i) (by rw [C.sc.n];exact C.sc.nd) (by rw [C.sc.n];exact hN) hx.1 (xW C.ex h) hsw hx.2) fun D σ H ⟨δ,os,S,q⟩=>⟨δ,os,S,FQ.then q fun d v H' e S' s r q'=>by
  obtain ⟨S2,s2⟩:=S'.set (i:=i) r
  exact q' _ _ _ S2 s2⟩
theorem G9 (C:Sx X N) (h:SE X e g) (hs:swapsWith e none pos.line X.env=pure false:=by rfl):SS X (.Expr e pos) (expr g) :=
 PS.weak (DN (xW C.ex h) hs) fun D σ H ⟨δ,os,S,q⟩=>⟨δ,os,S,FQ.then q fun d v H' e S' s r q'=>q' _ _ _ S' ↥25⟩
theorem Ki (C:Sx X N) (h:SE X e g):SS X (.Return (some e) pos) (ret g) :=
 PS.weak (Hv (xW C.ex h)) fun D σ H ⟨δ,os,S,q⟩=>⟨δ,os,S,FQ.then q fun d v H' e S' s r q'=>q' v H' (cx _ _) (r.mono (cx _ _))⟩
theorem FT.then {r:R EV.D} {Q:Bool->Hp->Prop} {D:Ends} {ta fa:O} (h:OQ X D ↥27 (match r with | .ok ↥24=>ta | .ok ↥38=>fa | .ex C=>.ex C (noOwn δ) | _=>.bad))
  (hq:∀ b H',StO X H' σ δ os->ax ↥27 (hide H' os)->OQ X D (hide H' os) (if b=true then ta else fa)->Q b H'):FT X σ H os δ r Q:=by
 cases r with
 | ok d =>
  cases d with
  | bl b =>
   cases b with
   | true=>exact fun H' S s=>hq true H' S s (by rw [if_pos rfl];exact OQ.mono s h)
   | false=>exact fun H' S s=>hq false H' S s (by rw [if_neg ↥3];exact OQ.mono s h)
  | _=>exact h
 | ex C=>exact fun Ca hc H' s' st=>h σ H' s' st Ca hc
 | bad=>exact h
theorem OX (C:Sx X N) (hc:ST X c gc) (ha:SSs X body gb) (hb:SSs X els ge):SS X (.If c body els pos) (ifs gc gb ge) :=
 PS.weak (Kr (B4 C.ex hc) ha hb) fun D σ H ⟨δ,os,S,q⟩=>⟨δ,os,S,FT.then q fun b H' S' s q'=>by
  cases b with
  | true=>exact FY ⟨δ,os,S',by simpa using q'⟩
  | false=>exact FZ ⟨δ,os,S',by simpa using q'⟩⟩
theorem jx {α:Type} {xs:List α} {n:Nat} {x:α} (h:xs[n]? = some x):xs.drop n=x::xs.drop (n+1):=by
 obtain ⟨h1,h2⟩:=List.getElem?_eq_some_iff.mp h
 rw [List.drop_eq_getElem_cons h1,h2]
def Pv (X:Cx) (D:Ends) (F F1:Hp) (i:Nat) (gb:S) (ds:List EV.D) (n:Nat) (σ:L2.St) (H:Hp):Prop:=∃ δ os,StO X H σ δ os/\ax F1 ↥27/\ax F F1/\OQ X D F (forL i gb (ds.drop n) δ)
theorem zz {D:Ends} {F F1:Hp} {i n:Nat} {ds:List EV.D} {d:EV.D} {v:V} {δ:Dt} {os:Os} (hd:ds[n]? = some d) (S:StO X H σ δ os) (s1:ax F1 ↥27) (s0:ax F F1) (q:OQ X D F (forL i gb (ds.drop n) δ)) (r:Rep X.K X.mg ↥27 v d) :
  uN i v σ H fun σ2 H2=>tS X gb { D with nx:=Pv X D F F1 i gb ds (n+1),ct:=Pv X D F F1 i gb ds (n+1),bk:=D.nx } σ2 H2:=by
 rw [jx hd] at q
 obtain ⟨S2,s2⟩:=S.set (i:=i) r
 refine ⟨_,_,S2,?_⟩
 unfold forL trn at q
 have s3:=(s0.trans s1).trans s2
 cases e:gb (δ.set i (some d)) with
 | nx δ1=>rw [e] at q;exact fun σ' H' os' S' s'=>⟨δ1,os',S',(s1.trans s2).trans s',s0,q⟩
 | ct δ1=>rw [e] at q;exact fun σ' H' os' S' s'=>⟨δ1,os',S',(s1.trans s2).trans s',s0,q⟩
 | bk δ1=>rw [e] at q;exact fun σ' H' os' S' s'=>q σ' H' os' S' (s3.trans s')
 | rt d'=>rw [e] at q;exact fun v' H' s' r'=>q v' H' (s3.trans s') r'
 | ex C δ1=>rw [e] at q;exact fun σ' H' s' r'=>q σ' H' (s3.trans s') r'
 | mk C δ1=>rw [e] at q;exact fun σ' H' s'=>q σ' H' (s3.trans s')
 | hx C δ1=>rw [e] at q;exact fun σ' H' s' r'=>q σ' H' (s3.trans s') r'
 | bad=>rw [e] at q;exact q
theorem IU {D:Ends} {F F1:Hp} {i n:Nat} {ds:List EV.D} (hn:ds.length<=n) (p:Pv X D F F1 i gb ds n σ H):D.nx σ H:=by
 obtain ⟨δ,os,S,s1,s0,q⟩:=p
 rw [List.drop_eq_nil_of_le hn] at q
 exact q σ H os S (s0.trans s1)
structure Lp (X:Cx):Prop where
 own:PassesOwn ↥6 X.A X.env X.xe
 calm:X.calm=true
theorem bp {c:E} {b:S}:∀ {n:Nat} {δ:Dt},bF c b n δ ≠ .bad->∀ k,bF c b (n+k) δ=bF c b n δ
 | 0,δ,h,_=>absurd rfl h
 | n+1,δ,h,k=>by
  rw [show n+1+k=(n+k)+1 by omega]
  unfold bF at h ⊢
  split
  ·rename_i q
   rw [q] at h
   simp only at h
   unfold trn at h ⊢
   split
   ·rename_i q2;rw [q2] at h;exact bp h k
   ·rename_i q2;rw [q2] at h;exact bp h k
   ·rfl
   ·rfl
  ·rfl
  ·rfl
theorem sD {c:E} {b:S} {n:Nat} {δ:Dt} {o:O} (h:bF c b n δ=o) (ho:o ≠ .bad):jr c b δ=o:=by
 have hx:∃ n,bF c b n δ ≠ .bad:=⟨n,by rw [h];exact ho⟩
 unfold jr
 rw [dif_pos hx]
 have h1:=bp hx.choose_spec n
 have h2:=bp (show bF c b n δ ≠ .bad by rw [h];exact ho) hx.choose
 rw [Nat.add_comm] at h1
 rw [<- h1,h2,h]
theorem Dz (C:Sx X N) (L:PassesOwn ↥6 X.A X.env X.xe) (hc:ST X c gc) (hb:SSs X body gb):SS X (.While c body [] pos) (jr gc gb):=by
 refine PS.weak (zV L (B4 C.ex hc) hb) fun D σ H ⟨δ,os,S,q⟩ => ?_
 unfold jr at q
 split at q
 ·rename_i hx
  refine ⟨fun m σ H'=>∃ δ os',StO X H' σ δ os'/\ax ↥27 (hide H' os')/\OQ X D ↥27 (bF gc gb m δ),⟨_,δ,os,S,ax.refl _,q⟩,?_⟩
  rintro m σ1 H1 ⟨δ1,os1,S1,s1,q1⟩
  refine ⟨δ1,os1,S1,?_⟩
  cases m with
  | zero=>exact False.elim q1
  | succ m =>
   unfold bF at q1
   cases r:gc δ1 with
   | ok d =>
    rw [r] at q1
    cases d with
    | bl b =>
     cases b with
     | true =>
      intro H2 S2 s2
      refine FY ⟨fun σ' H'=>∃ δ os',StO X H' σ' δ os'/\ax ↥27 (hide H' os')/\OQ X D ↥27 (bF gc gb m δ),fun σ' H' w=>⟨m,Nat.lt_succ_self _,w⟩,δ1,os1,S2,?_⟩
      simp only [trn] at q1
      have s12:=s1.trans s2
      cases e:gb δ1 with
      | nx δ2=>rw [e] at q1;exact fun σ' H' os' S' s'=>⟨δ2,os',S',s12.trans s',q1⟩
      | ct δ2=>rw [e] at q1;exact fun σ' H' os' S' s'=>⟨δ2,os',S',s12.trans s',q1⟩
      | bk δ2=>rw [e] at q1;exact fun σ' H' os' S' s'=>q1 σ' H' os' S' (s12.trans s')
      | rt d'=>rw [e] at q1;exact fun v' H' s' r'=>q1 v' H' (s12.trans s') r'
      | ex C δ1=>rw [e] at q1;exact fun σ' H' s' r'=>q1 σ' H' (s12.trans s') r'
      | mk C δ1=>rw [e] at q1;exact fun σ' H' s'=>q1 σ' H' (s12.trans s')
      | hx C δ1=>rw [e] at q1;exact fun σ' H' s' r'=>q1 σ' H' (s12.trans s') r'
      | bad=>rw [e] at q1;exact q1
     | false=>exact fun H2 S2 s2=>FZ (q1 σ1 H2 os1 S2 (s1.trans s2))
    | _=>exact False.elim q1
   | ex C=>rw [r] at q1;exact False.elim q1
   | bad=>rw [r] at q1;exact False.elim q1
 ·exact False.elim q
end
end ES
namespace ES
open PySem PySem.Spec PyProof.Rows L2 EV
unseal SE ST SW SA SS SSs
theorem kH {P:Program} {w:World} {H:Hp} {h:Heap} {a:Addr} {o:HO} (x:iX P w H h a o):∃ ob,h.get? a=some ob:=by
 cases o with
 | lst xs=>obtain ⟨_,_,_,_,e⟩:=x;exact ⟨_,e⟩
 | tup xs=>obtain ⟨_,_,_,ob,e,_⟩:=x;exact ⟨_,e⟩
 | dK kvs=>obtain ⟨_,_,_,_,ob,_,_,e,_⟩:=x;exact ⟨_,e⟩
 | dT kvs=>obtain ⟨_,_,_,_,ob,_,_,e,_⟩:=x;exact ⟨_,e⟩
 | set S n=>obtain ⟨ob,_,_,_,e,_⟩:=x;exact ⟨_,e⟩
 | ins C dx fs=>obtain ⟨_,_,_,e,_⟩:=x;exact ⟨_,e⟩
 | own y=>exact x
 | xd fs=>obtain ⟨_,⟨_,_,_,e,_⟩,_⟩:=x;exact ⟨_,e⟩
 | rng lo hi=>obtain ⟨_,_,_,e⟩:=x;exact ⟨_,e⟩
 | frz ob u=>obtain ⟨e,_⟩:=x;exact ⟨_,e⟩
 | tbl ps=>exact ⟨_,(show h.get? a=some _ from x)⟩
 | met f y=>exact ⟨_,(show h.get? a=some _ from x)⟩
 | ext φ=>obtain ⟨_,e,_⟩:=x;exact e
theorem oW {fs:List Addr} {H H':Hp} {h h1 h2 B:Heap} (u:Un fs [] H H' h h1) (same:ax H H') (i1:∀ b o,h.get? b=some o->H b=none->b∉fs->B.get? b=some o)
  (i2:∀ b u o,H' b=some u->h1.get? b=some o->B.get? b=some o) (st:B.StaysIn h2) (up:h1.UpToSlots h2) (ff:∀ b∈fs,∀ o,h1.get? b=some o->∀ vs,o.data ≠ .fields vs):Un fs [] H H' h h2:=by
 have slot:∀ b o,h.get? b=some o->H b=none->b∈fs->b∉([]:List Addr)->∃ sl,h2.get? b=some { o with slots:=sl }:=fun b o e n hb hx=>by
  obtain ⟨sl,e1⟩:=u.slot b o e n hb hx
  obtain ⟨sl2,e2⟩:=up b _ e1 (ff b hb _ e1)
  exact ⟨sl2,e2⟩
 refine ⟨fun b o e n hb _=>st b o (i1 b o e n hb),slot,u.free,fun b o e hx => ?_,u.tups,u.frzs,u.tbls⟩
 cases n:H b with
 | none =>
  by_cases hb:b∈fs
  ·obtain ⟨sl,e2⟩:=slot b o e n hb hx
   exact ⟨_,e2⟩
  ·exact ⟨o,st b o (i1 b o e n hb)⟩
 | some x =>
  obtain ⟨o',e1⟩:=u.there b o e hx
  exact ⟨o',st b o' (i2 b x o' (same b x n) e1)⟩
theorem jm {P:Program} {w:World} {H':Hp} {h1 h2 B:Heap} (hok:HOk P w H' h1) (i2:∀ b u o,H' b=some u->h1.get? b=some o->B.get? b=some o) (st:B.StaysIn h2):HOk P w H' h2:=fun a o e =>
 (hok a o e).stay (fun b u hb q=>by
  rcases hb with rfl | hb
  ·exact st b u (i2 b o u e q)
  ·exact st b u (i2 b _ u hb q)) (fun _ q=>q) fun _ _ q=>q
theorem sZ {P:Program} {w:World} {H':Hp} {h1 h2 B:Heap} (hok:HOk P w H' h1) (i2:∀ b u o,H' b=some u->h1.get? b=some o->B.get? b=some o) (st:B.StaysIn h2):∀ b u o,H' b=some u->h2.get? b=some o->B.get? b=some o:=fun b u o e q=>by
 obtain ⟨ob,e1⟩:=kH (hok b u e)
 have e2:=i2 b u ob e e1
 have e3:=st b ob e2
 rw [q] at e3
 cases e3
 exact e2
theorem rQ {base h:Heap} {l:List Env} (x:h.FunFrames base l):∀ b∈frs l,∀ o,h.get? b=some o->∀ vs,o.data ≠ .fields vs:=fun b hb o e=>by
 obtain ⟨_,o',e',d⟩:=x.mem hb
 rw [e] at e'
 cases e'
 exact d
section
variable {X:Cx} {pins:List ↥12} {σ:L2.St} {H H':Hp} {s s':Shared} {C ea:Addr}
structure Own (X:Cx):Prop where
 stk:X.stack=X.env::X.outer
 frm:X.env.frame=some X.env.locals
 ex:X.ex=[]
theorem Own.frs (h:Own X):L2.frs X.stack=X.env.locals::X.fs:=by
 rw [h.stk]
 unfold L2.frs
 rw [List.filterMap_cons,h.frm]
 rfl
theorem iT (I:Inv X pins σ H s) (O:Own X) {B:Heap} (i1:∀ b o,s.heap.get? b=some o->H b=none->b∉L2.frs X.stack->B.get? b=some o):∀ b o,X.s₀.heap.get? b=some o->X.H₀ b=none->b∉X.fs->B.get? b=some o:=fun b o e n hb=>by
 have hx:b∉X.ex:=by rw [O.ex];simp
 refine i1 b o (I.base.keep b o e n hb hx) (I.base.free b o e n hx) fun z => ?_
 rw [O.frs] at z
 rcases List.mem_cons.mp z with q | q
 ·exact absurd (Nat.lt_of_lt_of_le (Heap.lt_size e) I.ok.above) (by rw [q];exact Nat.lt_irrefl _)
 ·exact hb q
theorem xh (I:Inv X pins σ H s) (O:Own X) (h:s.heap.get? ea=none):X.s₀.heap.get? ea=none:=by
 cases q:X.s₀.heap.get? ea with
 | none=>rfl
 | some o =>
  obtain ⟨o',e⟩:=I.base.there ea o q (by rw [O.ex];simp)
  rw [h] at e
  cases e
theorem oJ (I:Inv X pins σ H s) (O:Own X):Un X.fs [] X.H₀ H X.s₀.heap s.heap:=by
 have z:=I.base
 rw [O.ex] at z
 exact z
theorem xZ (I:Inv X pins σ H s) (F:FlyX X.prog X.w X.stack H s C H' ea s'):Inv X pins σ H' s':=I.call' (ch:=[]) F.os F.un F.hok F.bare fun b z=>absurd z (by simp)
theorem xG {M:Model} {E:Value->Shared->Prop} {Q:Unit->Shared->Prop} (I:Inv X pins σ H s) (O:Own X) (F:FlyX X.prog X.w X.stack H s C H' ea s') (same:ax X.H₀ H')
  (hQ:∀ s'',FlyX X.prog X.w X.outer X.H₀ X.s₀ C H' ea s''->Q () s''):wpAny M X.A (leaving X.env (.ref ea)) Q E s':=by
 obtain ⟨a0,B,hfl,i1,i2⟩:=F.fly
 have I':=xZ I F
 have ff:=rQ hfl.2.2.1
 rw [O.stk] at hfl
 refine wpAny_leaves_onW (by rw [I.ok.frames,O.stk]) O.frm hfl fun h' f1 up=>hQ _ ⟨F.os.trans I.os,F.bare,?_,jm F.hok i2 f1.1,same,xh I O F.new,a0,B,f1,iT I O i1,sZ F.hok i2 f1.1⟩
 exact oW (oJ I' O) same (iT I O i1) i2 f1.1 up fun b hb=>ff b (by rw [O.frs];exact List.mem_cons_of_mem _ hb)
theorem rB {M:Model} {E:Value->Shared->Prop} {Q:Unit->Shared->Prop} (O:Own X) (F:HeldX X pins σ C H' ea s') (same:ax X.H₀ H')
  (hQ:∀ s'',FlyX X.prog X.w X.outer X.H₀ X.s₀ C H' ea s''->Q () s''):wpAny M X.A (leaving X.env (.ref ea)) Q E s':=by
 obtain ⟨a0,B,hh,i1,i2⟩:=F.fly
 have I:=F.inv
 have ff:=rQ hh.2.2.1
 rw [O.stk] at hh
 unfold leaving
 refine wpAny_bind (wpAny_noteFrame_againW O.frm hh.2.2.2 ?_)
 refine wpAny_landsW hh fun h' f1 up => ?_
 obtain ⟨k1,k2,⟨_,_,k3⟩,k4⟩:=f1
 refine hQ _ ⟨I.os,I.bare,?_,jm I.hok i2 k1,same,F.new,a0,B,⟨k1,k2,k3,k4⟩,i1,sZ I.hok i2 k1⟩
 exact oW (oJ I O) same i1 i2 k1 up fun b hb=>ff b (by rw [O.frs];exact List.mem_cons_of_mem _ hb)
theorem rA {M:Model} {E:Value->Shared->Prop} {Q:Unit->Shared->Prop} {h1:Heap} {vs:List Value} (I:Inv X pins σ H s) (O:Own X) (made:Heap.MadeExcOf s.heap h1 ea (.ref C) vs) (same:ax X.H₀ H)
  (hQ:∀ s'',FlyX X.prog X.w X.outer X.H₀ X.s₀ C H ea s''->Q () s''):wpAny M X.A (leaving X.env (.ref ea)) Q E { s with heap:=h1 }:=by
 have hst:=I.stack
 have ff:=rQ hst
 have i1:∀ b o,s.heap.get? b=some o->H b=none->b∉L2.frs X.stack->(PySem.W.hideAll s.heap (L2.frs X.stack)).get? b=some o:=fun b o e _ hb=>PySem.W.hideAll_get _ e hb
 have i2:∀ b u o,H b=some u->s.heap.get? b=some o->(PySem.W.hideAll s.heap (L2.frs X.stack)).get? b=some o:=fun b u o e q=>PySem.W.hideAll_get _ q fun z=>by
  rw [I.stkFree b z] at e
  cases e
 have hl:=PySem.W.funFrames_hide (as:=L2.frs X.stack) hst fun env he b hb=>List.mem_filterMap.mpr ⟨env,he,hb⟩
 rw [O.stk] at hl
 refine wpAny_leaves_madeW (s:={ s with heap:=h1 }) (base:=PySem.W.hideAll s.heap (L2.frs X.stack)) (by rw [I.ok.frames,O.stk]) O.frm (fun b o e=>PySem.W.of_hideAll _ e) (by rw [O.stk] at *;exact hl) made fun h' t f1 _ _ up=>hQ _ ⟨I.os,I.bare,?_,jm I.hok i2 f1.1,same,xh I O made.new,_,_,f1,iT I O i1,sZ I.hok i2 f1.1⟩
 exact oW (oJ I O) same (iT I O i1) i2 f1.1 ((Heap.UpToSlots.of_keeps made.keeps).trans up) fun b hb=>ff b (by rw [O.frs];exact List.mem_cons_of_mem _ hb)
end
def CXF (P:Program) (w:World):CXT:=fun outer H s E e s'=>∃ C H' ea,e=.ref ea/\FlyX P w outer H s C H' ea s'/\E (.ref C) none H'
def spP (K:PySem.W.Frag) (mg:Str->Option Value) (f:List D->R D):Sp:=fun vs H Q E=>∃ ds,Reps K mg H vs ds/\match f ds with
 | .ok d=>∀ v H',ax H H'->Rep K mg H' v d->Q v H'
 | .ex C=>∀ Ca,mg C=some (.ref Ca)->∀ H',ax H H'->E (.ref Ca) none H'
 | .bad=>False
theorem nQ {CX:CXT} {P:Program} {w:World} {K:PySem.W.Frag} {mg:Str->Option Value} {base:Heap} {N:List Str} {qual:Str} {sc:Scope} {f:Addr} {cdv:Value} {A:Around} {outer:List Env} {s:Shared} {H:Hp} {E:XK} :
  Own (yk CX P w K mg base N qual sc f cdv A outer s H E):=⟨rfl,rfl,rfl⟩
section
variable {P:Program} {w:World} {K:PySem.W.Frag} {mg:Str->Option Value} {base:Heap} {N:List Str} {qual:Str} {sc:Scope} {f:Addr} {cdv:Value} {A:Around} {outer:List Env} {s:Shared} {H H':Hp} {E:XK} {C:Addr} {σ:L2.St}
theorem IQ (same:ax H H') (hE:E (.ref C) none H'):ew (yk (CXF P w) P w K mg base N qual sc f cdv A outer s H E) C σ H' :=
 fun pins H1 s1 ea s' I F=>xG I nQ F same fun s'' F'=>⟨C,H',ea,rfl,F',hE⟩
theorem E8 (same:ax H H') (hE:E (.ref C) none H'):ehx (yk (CXF P w) P w K mg base N qual sc f cdv A outer s H E) C σ H' :=
 fun pins ea s' F=>rB nQ F same fun s'' F'=>⟨C,H',ea,rfl,F',hE⟩
theorem IV (same:ax H H') (hE:E (.ref C) none H'):em (yk (CXF P w) P w K mg base N qual sc f cdv A outer s H E) C σ H' :=
 fun pins s1 h' ea vs I made=>rA I nQ made same fun s'' F'=>⟨C,H',ea,rfl,F',hE⟩
end
structure ScF (N G ps:List Str) (sc:Scope):Prop where
 fs:FnScope N ps sc
 loc:∀ x∈N,Loc sc x
 glb:∀ x∈G,sc.names.lookup x=some .globalImplicit
 dbg:∀ x∈N,(x == ("__debug__":Str))=false/\(x == ("__classdict__":Str))=false
 dbgG:∀ x∈G,(x == ("__debug__":Str))=false/\x≠"__name__"
structure Pl (X:Cx) (N G:List Str):Prop extends Sx X N where
 sto:∀ x∈N,Sto X x
 gb:∀ x∈G,Gb X x
noncomputable instance locDec {sc:Scope} {x:Str}:Decidable (Loc sc x):=inferInstanceAs (Decidable (_\/_))
theorem Io {sc:Scope} {x:Str} (h:Loc sc x):Vis sc x:=h.elim .inl fun z=>.inr (.inl z)
theorem vX {K:PySem.W.Frag} {mg:Str->Option Value} {H:Hp} {N:List Str} {n m:Nat}:∀ {vs:List V} {ds:List D},Reps K mg H vs ds->ds.length=n->N.length=m->Stt K mg H (L2.start N vs) (EV.start n m ds):=by
 intro vs ds r hn hm
 have hl:=r.length
 refine ⟨by simp [L2.start,EV.start,hl,hn,hm],fun i d e _ => ?_⟩
 unfold EV.start at e
 by_cases hi:i<ds.length
 ·rw [List.getElem?_append_left (by simpa using hi),List.getElem?_map] at e
  cases q:ds[i]? with
  | none=>rw [q] at e;cases e
  | some d' =>
   rw [q] at e
   have e':d'=d:=Option.some.inj (Option.some.inj e)
   subst e'
   obtain ⟨v,h1,h2⟩:=r.get q
   exact ⟨v,by unfold L2.start;rw [List.getElem?_append_left (by simp;omega),List.getElem?_map,h1];rfl,h2⟩
 ·rw [List.getElem?_append_right (by simpa using hi),List.getElem?_replicate] at e
  split at e<;>cases e
theorem qI {K:PySem.W.Frag} {mg:Str->Option Value} {H:Hp} {n m:Nat} {vs:List V} {ds:List D} (r:Reps K mg H vs ds) (i:Nat) (es:List D):(EV.start n m ds)[i]? ≠ some (some (.own es)):=fun e=>by
 unfold EV.start at e
 by_cases hi:i<ds.length
 ·rw [List.getElem?_append_left (by simpa using hi),List.getElem?_map] at e
  cases q:ds[i]? with
  | none=>rw [q] at e;cases e
  | some d' =>
   rw [q] at e
   have e':d'=.own es:=Option.some.inj (Option.some.inj e)
   subst e'
   obtain ⟨v,h1,h2⟩:=r.get q
   cases h2
 ·rw [List.getElem?_append_right (by simpa using hi),List.getElem?_replicate] at e
  split at e<;>cases e
theorem K5 {P:Program} {w:World} {K:PySem.W.Frag} {mg:Str->Option Value} {base:Heap} {x qual:Str} {st:Stmt} {f:Addr} {fd:FuncData} {N G ps:List Str} {k n m:Nat} {g:S}
  (F:Fun K x qual st f fd) (S:ScF N G ps (aa st)) (hn:ps.length=n) (hm:N.length=m)
  (hbody:∀ X:Cx,X.prog=P->X.w=w->X.K=K->X.mg=mg->X.base=base->Room k X.A->Lp X->Own X->Pl X N G->X.env.scope=aa st->SSs X (ai st) g) :
  FnOk P w K mg base (CXF P w) (k+1) f fd ps (spP K mg (fn n m g)):=by
 obtain ⟨oc,od,kV,doc,pm,an,cdv,ct,osl,rfl,lk,hcd⟩:=F.ex
 have len:∀ {ds:List D},fn n m g ds ≠ .bad->ds.length=n:=fun {ds} h=>by
  unfold fn at h
  split at h
  ·assumption
  ·exact absurd rfl h
 refine IK lk hcd S.fs (fun vs H Q E h => ?_) fun A outer s H vs Q E hr h => ?_
 ·obtain ⟨ds,rs,h⟩:=h
  rw [rs.length,hn]
  refine len fun z => ?_
  rw [z] at h
  exact h
 ·obtain ⟨ds,rs,h⟩:=h
  have hl:ds.length=n:=len fun z=>by rw [z] at h;exact h
  refine ⟨_,hbody (yk (CXF P w) P w K mg base N qual (aa st) f cdv A outer s H E) rfl rfl rfl rfl rfl hr ⟨PassesOwn.leaving,rfl⟩ nQ ⟨⟨⟨rfl,S.fs.nd,fun y hy=>Io (S.loc y hy),S.dbg⟩,rfl⟩,fun y hy=>⟨S.loc y hy,.inl rfl⟩,fun y hy=>⟨S.glb y hy,(S.dbgG y hy).1,(S.dbgG y hy).2⟩⟩ rfl,_,[],StO.nil (vX rs hl hm) (qI rs),?_⟩
  rw [oh]
  unfold fn at h
  rw [if_pos hl] at h
  cases e:g (EV.start n m ds) with
  | nx δ=>rw [e] at h;exact fun σ H' os _ s'=>h .non H' (s'.trans (cx _ _)) .non
  | rt d=>rw [e] at h;exact fun v H' s' r=>h v H' s' r
  | ex C δ=>rw [e] at h;exact fun σ H' s' _ Ca hc=>IQ s' (h Ca hc H' s')
  | mk C δ=>rw [e] at h;exact fun σ H' s' Ca hc=>IV s' (h Ca hc H' s')
  | hx C δ=>rw [e] at h;exact fun σ H' s' _ Ca hc=>E8 s' (h Ca hc H' s')
  | bk δ=>rw [e] at h;exact False.elim h
  | ct δ=>rw [e] at h;exact False.elim h
  | bad=>rw [e] at h;exact False.elim h
abbrev at5 (X:Cx) (P:Program) (w:World) (K:PySem.W.Frag) (mg:Str->Option Value) (base:Heap):Cx:={ X with prog:=P,w:=w,K:=K,mg:=mg,base:=base }
theorem pX {P:Program} {w:World} {K:PySem.W.Frag} {mg:Str->Option Value} {base:Heap} {x qual:Str} {st:Stmt} {f:Addr} {fd:FuncData} {N G ps:List Str} {k n m:Nat} {g:S}
  (F:Fun K x qual st f fd) (S:ScF N G ps (aa st)) (hn:ps.length=n) (hm:N.length=m)
  (hbody:∀ X:Cx,Room k (at5 X P w K mg base).A->Lp (at5 X P w K mg base)->Own (at5 X P w K mg base)->Pl (at5 X P w K mg base) N G->(at5 X P w K mg base).env.scope=aa st->SSs (at5 X P w K mg base) (ai st) g) :
  FnOk P w K mg base (CXF P w) (k+1) f fd ps (spP K mg (fn n m g)):=K5 F S hn hm fun X hP hw hK hM hB hr L O Pl hS=>by
 subst hP hw hK hM hB
 exact hbody X hr L O Pl hS
theorem us1 {C:List Value->Prop} (h:∀ a,C [a]) (us:List Value) (hl:us.length=1):C us:=by
 match us,hl with
 | [_],_=>exact h _
theorem us2 {C:List Value->Prop} (h:∀ a b,C [a,b]) (us:List Value) (hl:us.length=2):C us:=by
 match us,hl with
 | a::us,hl=>exact us1 (C:=fun us=>C (a::us)) (h a) us (Nat.succ.inj hl)
theorem us3 {C:List Value->Prop} (h:∀ a b c,C [a,b,c]) (us:List Value) (hl:us.length=3):C us:=by
 match us,hl with
 | a::us,hl=>exact us2 (C:=fun us=>C (a::us)) (h a) us (Nat.succ.inj hl)
theorem us4 {C:List Value->Prop} (h:∀ a b c d,C [a,b,c,d]) (us:List Value) (hl:us.length=4):C us:=by
 match us,hl with
 | a::us,hl=>exact us3 (C:=fun us=>C (a::us)) (h a) us (Nat.succ.inj hl)
theorem us5 {C:List Value->Prop} (h:∀ a b c d e,C [a,b,c,d,e]) (us:List Value) (hl:us.length=5):C us:=by
 match us,hl with
 | a::us,hl=>exact us4 (C:=fun us=>C (a::us)) (h a) us (Nat.succ.inj hl)
theorem us6 {C:List Value->Prop} (h:∀ a b c d e f,C [a,b,c,d,e,f]) (us:List Value) (hl:us.length=6):C us:=by
 match us,hl with
 | a::us,hl=>exact us5 (C:=fun us=>C (a::us)) (h a) us (Nat.succ.inj hl)
theorem da {K:PySem.W.Frag} {x qual:Str} {st:Stmt} {f:Addr} {fd:FuncData} {ps:List Str} (F:Fun K x qual st f fd) (hp:ps.length=1)
  (h:∀ (kV doc pm:Value) (an:Option Addr) (cdv ct:Value) (a:Value),bindArgs ↥1 ⟨[a],[]⟩=pure (ps.zip [a])):Binds K fd ps [] :=
 F.binds fun kV doc pm an cdv ct us hl=>us1 (C:=fun us=>bindArgs ↥1 ⟨us,[]⟩=pure (ps.zip us)) (h kV doc pm an cdv ct) us (hl.trans hp)
theorem ck {K:PySem.W.Frag} {x qual:Str} {st:Stmt} {f:Addr} {fd:FuncData} {ps:List Str} (F:Fun K x qual st f fd) (hp:ps.length=2)
  (h:∀ (kV doc pm:Value) (an:Option Addr) (cdv ct:Value) (a b:Value),bindArgs ↥1 ⟨[a,b],[]⟩=pure (ps.zip [a,b])):Binds K fd ps [] :=
 F.binds fun kV doc pm an cdv ct us hl=>us2 (C:=fun us=>bindArgs ↥1 ⟨us,[]⟩=pure (ps.zip us)) (h kV doc pm an cdv ct) us (hl.trans hp)
theorem f9 {K:PySem.W.Frag} {x qual:Str} {st:Stmt} {f:Addr} {fd:FuncData} {ps:List Str} (F:Fun K x qual st f fd) (hp:ps.length=3)
  (h:∀ (kV doc pm:Value) (an:Option Addr) (cdv ct:Value) (a b c:Value),bindArgs ↥1 ⟨[a,b,c],[]⟩=pure (ps.zip [a,b,c])):Binds K fd ps [] :=
 F.binds fun kV doc pm an cdv ct us hl=>us3 (C:=fun us=>bindArgs ↥1 ⟨us,[]⟩=pure (ps.zip us)) (h kV doc pm an cdv ct) us (hl.trans hp)
theorem jz {K:PySem.W.Frag} {x qual:Str} {st:Stmt} {f:Addr} {fd:FuncData} {ps:List Str} (F:Fun K x qual st f fd) (hp:ps.length=4)
  (h:∀ (kV doc pm:Value) (an:Option Addr) (cdv ct:Value) (a b c d:Value),bindArgs ↥1 ⟨[a,b,c,d],[]⟩=pure (ps.zip [a,b,c,d])):Binds K fd ps [] :=
 F.binds fun kV doc pm an cdv ct us hl=>us4 (C:=fun us=>bindArgs ↥1 ⟨us,[]⟩=pure (ps.zip us)) (h kV doc pm an cdv ct) us (hl.trans hp)
theorem tG {K:PySem.W.Frag} {x qual:Str} {st:Stmt} {f:Addr} {fd:FuncData} {ps:List Str} (F:Fun K x qual st f fd) (hp:ps.length=5)
  (h:∀ (kV doc pm:Value) (an:Option Addr) (cdv ct:Value) (a b c d e:Value),bindArgs ↥1 ⟨[a,b,c,d,e],[]⟩=pure (ps.zip [a,b,c,d,e])):Binds K fd ps [] :=
 F.binds fun kV doc pm an cdv ct us hl=>us5 (C:=fun us=>bindArgs ↥1 ⟨us,[]⟩=pure (ps.zip us)) (h kV doc pm an cdv ct) us (hl.trans hp)
theorem Cc {K:PySem.W.Frag} {x qual:Str} {st:Stmt} {f:Addr} {fd:FuncData} {ps:List Str} (F:Fun K x qual st f fd) (hp:ps.length=6)
  (h:∀ (kV doc pm:Value) (an:Option Addr) (cdv ct:Value) (a b c d e f:Value),bindArgs ↥1 ⟨[a,b,c,d,e,f],[]⟩=pure (ps.zip [a,b,c,d,e,f])):Binds K fd ps [] :=
 F.binds fun kV doc pm an cdv ct us hl=>us6 (C:=fun us=>bindArgs ↥1 ⟨us,[]⟩=pure (ps.zip us)) (h kV doc pm an cdv ct) us (hl.trans hp)
structure FnP (P:Program) (w:World) (K:PySem.W.Frag) (mg:Str->Option Value) (base:Heap) (x:Str) (k:Nat) (f:List D->R D):Prop where
 ex:∃ fa fd ps,FnOk P w K mg base (CXF P w) k fa fd ps (spP K mg f)/\mg x=some (.ref fa)/\PySem.W.keepIn K (.ref fa)=true/\Binds K fd ps []
theorem IL {P:Program} {w:World} {K:PySem.W.Frag} {mg:Str->Option Value} {base:Heap} {x:Str} {fa:Addr} {fd:FuncData} {ps:List Str} {k:Nat} {f:List D->R D}
  (F:FnOk P w K mg base (CXF P w) k fa fd ps (spP K mg f)) (kp:PySem.W.keepIn K (.ref fa)=true) (hm:mg x=some (.ref fa)) (hb:Binds K fd ps []):FnP P w K mg base x k f:=⟨fa,fd,ps,F,hm,kp,hb⟩
structure Callee (X:Cx) (x:Str) (f:List D->R D):Prop where
 ex:∃ k fa fd ps,FnOk X.prog X.w X.K X.mg X.base (CXF X.prog X.w) k fa fd ps (spP X.K X.mg f)/\Room k X.A/\X.mg x=some (.ref fa)/\PySem.W.keepIn X.K (.ref fa)=true/\Binds X.K fd ps []
theorem FnP.callee {X:Cx} {x:Str} {k j:Nat} {f:List D->R D} (F:FnP X.prog X.w X.K X.mg X.base x k f) (hr:Room j X.A) (h:k<=j):Callee X x f:=by
 obtain ⟨fa,fd,ps,a,b,c,d⟩:=F.ex
 exact ⟨k,fa,fd,ps,a,hr.mono h,b,c,d⟩
section
variable {X:Cx} {x:Str} {f:List D->R D} {e:Expr} {es:List Expr} {gs:List E} {p pos:Pos}
theorem Hb {k:Nat} {fa:Addr} {fd:FuncData} {ps:List Str} {pins:List ↥12} {σ:L2.St} {H:Hp} {s:Shared} {Q:VK} {us:List Value} {vs:List V} {ds:List D}
  (F:FnOk X.prog X.w X.K X.mg X.base (CXF X.prog X.w) k fa fd ps (spP X.K X.mg f)) (hr:Room k X.A) (hb:Binds X.K fd ps []) (I:Inv X pins σ H s) (r:Vals vs us) (rs:Reps X.K X.mg H vs ds) (q:RQ X σ H (f ds) Q) :
  wpAny ↥6 X.A (PySem.call (.ref fa) us) (EP X pins σ Q) X.xe s:=by
 have hsp:spP X.K X.mg f vs H Q (fun c _ H'=>∃ C Ca,f ds=.ex C/\X.mg C=some (.ref Ca)/\c=.ref Ca/\ax H H'):=⟨ds,rs,by
  cases e:f ds with
  | ok d=>rw [e] at q;exact q
  | ex C=>exact fun Ca hc H' s'=>⟨C,Ca,rfl,hc,rfl,s'⟩
  | bad=>rw [e] at q;exact q⟩
 have hl:us.length=ps.length:=by rw [<- r.length];exact F.len _ _ _ _ hsp
 have hb':=hb s us I.kIn (by rw [List.append_nil];exact hl)
 rw [List.append_nil] at hb'
 refine wpAny_call (codeAny_mono (F.run X.A X.stack s H ⟨us,[]⟩ us vs _ _ hr I.env0 hb' r hsp) fun r s' hq => ?_)
 cases r with
 | error er =>
  obtain ⟨C',H',ea,rfl,FX,C,Ca,e1,hc,e2,s2⟩:=hq
  cases e2
  rw [e1] at q
  exact q C' hc H' s2 pins H s ea s' I FX
 | ok fl =>
  cases fl with
  | ret u=>exact I.after hq
  | next=>exact False.elim hq
  | brk=>exact False.elim hq
  | cont=>exact False.elim hq
theorem yg (c:Callee X x f) (G:Gb X x) (ha:SA X (e::es) gs) (he:starEach (e::es) X.env=(false,eval e X.env)::starEach es X.env:=by rfl) (hpl:(backTo pos (starEach es X.env)).any (·.1)=false:=by rfl) :
  SE X (.Call (.Name x p) (e::es) [] pos) (EV.call f gs):=by
 obtain ⟨k,fa,fd,ps,F,hr,hm,hk,hb⟩:=c.ex
 intro pins s σ H Q I ⟨δ,hσ,h⟩
 refine wpAny_Call_Name_kw (kQ I G.g hm ?_ G.d)
 refine PySem.W.callWith_K (h₀:=X.base) I.ok.mod.kin hk (thn (ha pos pins s σ H _ I ⟨δ,hσ,RA.bind h⟩) fun us s1 ⟨vs,H1,I1,r,sm,ds,rs,q⟩=>⟨I1.kIn,Hb F hr hb I1 r rs q⟩) he hpl
end
theorem DU {K:PySem.W.Frag} {h:Heap} {C:Addr} {bmB:List Value} {newId:String} (KX:K.In h) (q:PySem.W.excIn K C bmB newId=true) :
  ∃ bm M nm qn bs hd sn sub ab col dd k0 k1 k2 k3 k5 mN,h.get? C=some (excClassObj nm qn C M bs bm hd sn sub ab col dd k0 k1 k2 k3 k5 newId)/\h.Ns M mN/\mN "__init__"=none/\OwnTail h bmB bm:=by
 unfold PySem.W.excIn at q
 split at q
 ·rename_i d1 cd sl hlk
  split at q
  ·rename_i C' bm k0 k1 k2 k3 n k5 e1 e2
   simp only [Bool.and_eq_true,beq_iff_eq,Bool.not_eq_true'] at q
   obtain ⟨⟨⟨⟨⟨r1,r2⟩,r3⟩,r4⟩,r5⟩,r6⟩:=q
   subst r1 r2
   obtain ⟨nm,bs,mro,ns,qn,hd,sn,sub,ab,col,del⟩:=cd
   dsimp only at e1 r3 r5 r6
   subst e1 r3
   have e3:sl = #[k0,k1,k2,k3,some (.builtin n),k5]:=by
    obtain ⟨l⟩:=sl
    simp only at e2
    rw [e2]
   subst e3
   exact ⟨bm,ns,nm,qn,bs,hd,sn,sub,ab,col,d1,k0,k1,k2,k3,k5,_,KX _ _ hlk,.of_isNs (PySem.W.isNs_of_in KX r5),PySem.W.nsMap_none_of_in KX r5 r6,PySem.W.tail_of_in KX r4⟩
  ·cases q
 ·cases q
def bmV:List Value:=[.type "ValueError",.type "Exception",.type "BaseException",.type "object"]
section
variable {X:Cx} {pos:Pos} {x:String} {C:Addr}
theorem fQ (hc:X.calm=true) {np cp p3:Pos} {m:Str} {j:Nat} (G:Gb X x) (hm:X.mg x=some (.ref C)) (hq:PySem.W.excIn X.K C bmV "ValueError.__new__"=true) :
  SS X (.Raise (some (.Call (.Name x np) [.Constant (.str m) j p3] [] cp)) none pos) (raise x):=by
 intro pins s σ H D I ⟨δ,os,S,h⟩
 obtain ⟨bm,M,nm,qn,bs,hd,sn,sub,ab,col,dd,k0,k1,k2,k3,k5,mN,hC,hN,hni,T⟩:=DU I.mod.kin hq
 have FB:ExcBaseFacts "ValueError" "ValueError.__new__" "ValueError.__init__" bmV:=PySem.F.excBase_ValueError
 refine wpAny_Raise_call_subT (C:=C) (nm:=nm) (q:=qn) (N:=M) (bs:=bs) (bm:=bm) (hdct:=hd) (sn:=sn) (sub:=sub) (ab:=ab) (col:=col) (dd:=dd) (k0:=k0) (k1:=k1) (k2:=k2) (k3:=k3) (k5:=k5)
  FB (mN:=mN) (T.hasType FB.hasBase) (I.ok.hd hc) rfl hni (kQ I G.g hm ⟨rfl,?_⟩ G.d)
 have hsp:=(wD (X:=X) (BO (x:=m) (j:=j) (pos:=p3)) BP) cp pins s σ H (fun vs H1=>vs.length=1/\H1=H) I (show (1=1/\H=H) from ⟨rfl,rfl⟩)
 refine Calls.evalArgs_plain (thn hsp fun us s2 ⟨vs,H1,I1,r,q1,q2⟩ => ?_)
 subst q2
 have hl:us.length=1:=by rw [<- r.length];exact q1
 exact ⟨rfl,by show us.length<=_;rw [hl,sizeLine_eq];decide,I1.bk _ _ hC,hN.keeps I1.bk,T.keeps I1.bk,fun h' e1 made=>h σ H1 (cx _ _) C hm pins s2 h' e1 us I1 made⟩
end
section
variable {K:PySem.W.Frag} {M:Model} {h:Heap} {C C' e:Addr}
open PySem.W in
theorem t8 {A:Around} {E:Value->Shared->Prop} {s:Shared} {Q:Bool->Shared->Prop} (KX:K.In s.heap) (he:∃ o,s.heap.get? e=some o/\o.cls=.ref C) (c1:(clsIn K C').isSome=true) (c2:typeIn K (.ref C')=some (.type "type"))
  (c3:subIn K (.type "type") ↥4=some false) (c4:mroIn K C' (.type "BaseException")=some true) (c5:mroIn K C (.ref C')=some true) (h:Q true s):wpAny M A (excMatches (.ref e) (.ref C')) Q E s:=by
 obtain ⟨o,ho,hcl⟩:=he
 have L1:Looks M s.heap (isInstance (.ref C') ↥4) false:=(looks_typeIn KX c2).andThen (looks_subIn KX c3)
 have L2:Looks M s.heap (isType (.ref C')) true:=by
  obtain ⟨cd,c1⟩:=Option.isSome_iff_exists.mp c1
  unfold clsIn at c1
  split at c1
  ·rename_i hlk
   intro A' Q' E' s' k q
   unfold isType loadHead
   exact wpAny_bind (wpAny_loadPart (k _ _ (KX _ _ hlk)) (wpAny_pure q))
  ·cases c1
 have L3:Looks M s.heap (isExcClass (.ref C')) true:=L2.andThen (looks_mroIn KX c4)
 have L4:Looks M s.heap (typeOf (.ref e)) (.ref C):=hcl▸(Looks.ld ho).andThen .now
 have L5:Looks M s.heap (isSubtype (.ref C) (.ref C')) true:=looks_mroIn KX c5
 unfold excMatches
 refine wpAny_bind (L1.here ?_)
 simp only [Bool.false_eq_true,if_false]
 refine wpAny_bind (wpAny_pure ?_)
 simp only [List.forIn_cons,List.forIn_nil]
 refine wpAny_bind (wpAny_bind (wpAny_bind (L3.here ?_)))
 simp only [Bool.not_true,Bool.false_eq_true,if_false]
 refine wpAny_pure ?_
 refine wpAny_pure ?_
 refine wpAny_bind (L4.here ?_)
 refine wpAny_bind (wpAny_bind (wpAny_bind (L5.here ?_)))
 simp only [if_true]
 exact wpAny_pure (wpAny_pure (wpAny_pure h))
end
abbrev qG (X:Cx) (pins:List ↥12) (W:Value->Shared->Prop):Cx:={ X with xe:=W,pn:=X.pn++pins }
abbrev yT (X:Cx) (ea:Addr):Cx:={ X with A:=X.A.mark (some (.ref ea)),calm:=false,xe:=fun _ _=>False }
section
variable {X:Cx} {pins:List ↥12} {σ:L2.St} {H H':Hp} {s s':Shared} {C ea:Addr} {W:Value->Shared->Prop}
theorem HY (o:X.Ok):(qG X pins W).Ok:=⟨o.mod,o.kind,o.glob,o.blt,o.above,o.inj,o.has,o.cab,o.hd,o.frames,o.stk,o.exf,o.bs,o.bsz,o.noex,o.exfs,o.funs,o.frf⟩
theorem xN (I:Inv X pins σ H s):Inv (qG X pins W) [] σ H s :=
 ⟨HY I.ok,I.os,I.bare,I.base,I.loc,I.cell,I.free,I.freeC,fun p hp=>I.pin p (by rw [List.append_nil] at hp;exact hp),I.hok,I.len⟩
theorem pU {p2:List ↥12} (ok:X.Ok) (I:Inv (qG X pins W) p2 σ H s):Inv X pins σ H s :=
 ⟨ok,I.os,I.bare,I.base,I.loc,I.cell,I.free,I.freeC,fun p hp=>I.pin p (List.mem_append_left _ hp),I.hok,I.len⟩
theorem B1 (I:Inv X pins σ H s) (ea:Addr):Inv (yT X ea) pins σ H s :=
 let o:=I.ok
 ⟨⟨o.mod,o.kind,o.glob,o.blt,o.above,o.inj,o.has,o.cab,(fun z=>absurd z Bool.false_ne_true),o.frames,o.stk,o.exf,o.bs,o.bsz,o.noex,o.exfs,o.funs,o.frf⟩,I.os,I.bare,I.base,I.loc,I.cell,I.free,I.freeC,I.pin,I.hok,I.len⟩
theorem EO (ok:X.Ok) (I:Inv (yT X ea) pins σ H s):Inv X pins σ H s:=⟨ok,I.os,I.bare,I.base,I.loc,I.cell,I.free,I.freeC,I.pin,I.hok,I.len⟩
theorem AQ (I:Inv X pins σ H s) {i:Nat} {n:Str} {m:Str->Option Value} {v:Option Value} {h':Heap} {tk:Nat} (hN:X.N.Nodup) (hi:X.N[i]? = some n)
  (hl:∀ (i:Nat) (x:Str) (v:V),X.N[i]? = some x->σ[i]? = some (some v)->Vis X.env.scope x->∃ u,RelV v u/\Look X.env s.heap m x u)
  (hn':h'.Ns X.env.locals (fun x=>if x=n then v else m x)) (hs:Heap.SameBut X.env.locals s.heap h'):Inv X pins (σ.set i none) H { s with heap:=h',toks:=tk }:=by
 have cne:=I.cne
 obtain ⟨m0,hn0,_⟩:=id I.loc
 have iσ:i<σ.length:=by rw [I.len];exact (List.getElem?_eq_some_iff.mp hi).1
 have ne0:∀ {b:Addr} {o:Obj},X.s₀.heap.get? b=some o->b≠X.env.locals:=fun {b o} e=>Nat.ne_of_lt (Nat.lt_of_lt_of_le (Heap.lt_size e) I.ok.above)
 refine ⟨I.ok,I.os,I.bare,⟨fun b o e k hb hx => ?_,fun b o e k hb hx => ?_,I.base.free,fun b o e hx => ?_,I.base.tups,I.base.frzs,I.base.tbls⟩,⟨_,hn',fun j y v' e1 e2 e3 => ?_⟩,fun y c e => ?_,I.free,I.freeC,fun p hp => ?_,fun b ob e => ?_,by rw [List.length_set];exact I.len⟩
 ·exact (hs.2 b (ne0 e)).trans (I.base.keep b o e k hb hx)
 ·obtain ⟨sl,q⟩:=I.base.slot b o e k hb hx
  exact ⟨sl,(hs.2 b (ne0 e)).trans q⟩
 ·obtain ⟨o',q⟩:=I.base.there b o e hx
  exact ⟨o',(hs.2 b (ne0 e)).trans q⟩
 ·by_cases hj:j=i
  ·subst hj
   rw [List.getElem?_set_self iσ] at e2
   cases e2
  ·rw [List.getElem?_set_ne (Ne.symm hj)] at e2
   obtain ⟨u,r,q⟩:=hl j y v' e1 e2 e3
   refine ⟨u,r,?_⟩
   rcases q with ⟨k,e⟩ | ⟨k,c,e,z⟩
   ·refine .inl ⟨k,?_⟩
    have:y≠n:=fun q=>hj (nW hN e1 (q▸hi))
    simp [this,e]
   ·exact .inr ⟨k,c,e,z.sameBut hs (cne y c e)⟩
 ·obtain ⟨w',z⟩:=I.cell y c e
  exact ⟨w',z.sameBut hs (cne y c e)⟩
 ·obtain ⟨e,k,ne,nf,d⟩:=I.pin p hp
  exact ⟨(hs.2 p.1 ne).trans e,k,ne,nf,d⟩
 ·refine (I.hok b ob e).stay (fun c w' hc q=>(hs.2 c ?_).trans q) (fun _ q=>q) fun _ _ q=>q
  rintro rfl
  rcases hc with rfl | hc
  ·rw [I.free] at e;cases e
  ·rw [I.free] at hc;cases hc
theorem zr {fs:List Addr} {h h2:Heap} {o:HO} (u:Un fs [] H H' h h2) (k1:h.get? ea=none) (k2:H' ea=none):Un fs [] H (upd H' ea o) h h2:=by
 have ne1:∀ {b:Addr} {ob:Obj},h.get? b=some ob->b≠ea:=fun {b ob} e z=>by rw [z,k1] at e;cases e
 have ne2:∀ {b:Addr} {x:HO},H' b=some x->b≠ea:=fun {b x} e z=>by rw [z,k2] at e;cases e
 refine ⟨u.keep,u.slot,fun b ob e n hx=>by rw [aW (ne1 e)];exact u.free b ob e n hx,u.there,fun b xs e => ?_,fun b ob x e => ?_,fun b ps e => ?_⟩
 ·have q:=u.tups b xs e
  rw [aW (ne2 q)];exact q
 ·have q:=u.frzs b ob x e
  rw [aW (ne2 q)];exact q
 ·obtain ⟨more,q⟩:=u.tbls b ps e
  exact ⟨more,by rw [aW (ne2 q)];exact q⟩
theorem xR {P:Program} {w:World} {h2:Heap} (hok:HOk P w H' h2) (k2:H' ea=none) (he:∃ o vs,h2.get? ea=some o/\o.cls=.ref C/\o.data=.fields vs):HOk P w (upd H' ea (E5 ea C)) h2:=fun b u e=>by
 by_cases hb:b=ea
 ·subst hb
  rw [bq] at e
  cases e
  obtain ⟨o,vs,h1,h2',h3⟩:=he
  exact ⟨⟨o,vs,h1,h2',h3⟩,⟨o,h1⟩,fun g1 g2 ⟨o1,vs1,q1,q2⟩ k=>⟨o1,vs1,k o1 q1,q2⟩⟩
 ·rw [aW hb] at e
  refine (hok b u e).stay (fun _ _ _ q=>q) (fun c q => ?_) fun c xs q => ?_
  ·rw [aW (fun z=>by rw [z,k2] at q;cases q)];exact q
  ·rw [aW (fun z=>by rw [z,k2] at q;cases q)];exact q
end
structure Catch (K:PySem.W.Frag) (C C':Addr):Prop where
 c1:(PySem.W.clsIn K C').isSome=true
 c2:PySem.W.typeIn K (.ref C')=some (.type "type")
 c3:PySem.W.subIn K (.type "type") ↥4=some false
 c4:PySem.W.mroIn K C' (.type "BaseException")=some true
 c5:PySem.W.mroIn K C (.ref C')=some true
section
variable {X:Cx} {N G:List Str} {pos np hpos:Pos} {n:Str} {cls:String} {C':Addr} {body suite:List Stmt} {b₀:Stmt} {gb gs:S}
def sC (X:Cx) (cls:String) (C':Addr):Prop:=∀ (C:String) (Ca:Addr),oy C cls=true->X.mg C=some (.ref Ca)->Catch X.K Ca C'
theorem wV {K:PySem.W.Frag} {mg:Str->Option Value} {H:Hp} {σ:L2.St} {δ:Dt} (h:Stt K mg H σ δ):Stt K mg H σ (noOwn δ):=by
 refine ⟨by unfold noOwn;rw [List.length_map];exact h.1,fun i d e n => ?_⟩
 unfold noOwn at e
 rw [List.getElem?_map] at e
 cases q:δ[i]? with
 | none=>rw [q] at e;cases e
 | some c =>
  rw [q] at e
  cases c with
  | none=>cases e
  | some d0 =>
   by_cases ho:∃ ds,d0=.own ds
   ·obtain ⟨ds,rfl⟩:=ho
    cases e
   ·have e':d0=d:=by
     cases d0<;>first | exact absurd ⟨_,rfl⟩ ho | exact Option.some.inj (Option.some.inj e)
    subst e'
    exact h.2 i d0 q n
theorem AD {δ:Dt} {i:Nat} {d:D} (hd:∀ ds,d ≠ .own ds) (j:Nat) (ds:List D):((noOwn δ).set i (some d))[j]? ≠ some (some (.own ds)):=fun e=>by
 by_cases hj:j=i
 ·subst hj
  by_cases hl:j<(noOwn δ).length
  ·rw [List.getElem?_set_self hl] at e
   exact hd ds (Option.some.inj (Option.some.inj e))
  ·rw [List.getElem?_eq_none (by rw [List.length_set];omega)] at e
   cases e
 ·rw [List.getElem?_set_ne (Ne.symm hj)] at e
  unfold noOwn at e
  rw [List.getElem?_map] at e
  cases q:δ[j]? with
  | none=>rw [q] at e;cases e
  | some c =>
   rw [q] at e
   cases c with
   | none=>cases e
   | some d0=>cases d0<;>cases e
theorem Ji (P:Pl X N G) (O:Own X) (i:Nat) (hn:N[i]? = some n) (hloc:X.env.scope.names.lookup n=some .local) (GC:Gb X cls) (hm:X.mg cls=some (.ref C')) {C:String} {Ca:Addr} (hC:X.mg C=some (.ref Ca)) (hk:Catch X.K Ca C')
  (hs:∀ ea,SSs (yT X ea) (b₀::suite) gs) {δe δ2:Dt} (eg:gs (δe.set i (some (.exc C)))=.nx δ2)
  (ne':∀ (j:Nat) (ds:List D),(δe.set i (some (.exc C)))[j]? ≠ some (some (.own ds)))
  {pins:List ↥12} {σ:L2.St} {H1 H':Hp} {s1 s':Shared} {ea:Addr} {D:Ends} {hrest:List ExceptHandler}
  (I1:Inv X pins σ H1 s1) (F:FlyX X.prog X.w X.stack H1 s1 Ca H' ea s') (hσ:Stt X.K X.mg H' σ δe) (hD:∀ σ2 H2 os,ax H' (hide H2 os)->StO X H2 σ2 (δ2.set i none) os->D.nx σ2 H2) :
  wpAny ↥6 X.A (noteFrame (.ref ea) X.env) (fun _ s2=>wpAny ↥6 X.A (setFlight (.ref ea) none) (fun _ s3 =>
   wpAny ↥6 X.A (handleBy (.ref ea) X.env (.ExceptHandler (some (.Name cls np)) (some n) (b₀::suite) hpos::hrest)) (SP X pins D) X.xe s3) X.xe s2) X.xe s':=by
 have hmn:n∈N:=List.mem_of_getElem? hn
 obtain ⟨a0,B,hfl,i1,i2⟩:=F.fly
 have ff:=rQ hfl.2.2.1
 have noea:H' ea=none:=by
  cases q:H' ea with
  | none=>rfl
  | some u =>
   obtain ⟨ob,e⟩:=kH (F.hok ea u q)
   have z:=i2 ea u ob q e
   rw [hfl.2.1] at z
   cases z
 rw [O.stk] at hfl
 refine wpAny_looks_onW (by rw [I1.ok.frames,O.stk]) O.frm hfl fun h4 held4 up4 => ?_
 refine wpAny_landsW held4 fun h5 fl5 up5 => ?_
 have up45:=up4.trans up5
 have at_:∀ {h6:Heap} {g:Nat},B.StaysIn h6->s'.heap.UpToSlots h6->Inv X pins σ H' { s' with heap:=h6,toks:=g }:=fun {h6 g} st up =>
  I1.call' (s':={ s' with heap:=h6,toks:=g }) (ch:=[]) F.os (oW F.un F.same i1 i2 st up ff) (jm F.hok i2 st) F.bare fun b z=>absurd z (by simp)
 have I5:=at_ (g:=s'.toks) fl5.1 up45
 refine wpAny_handleBy_cons (codeAny_handlers_test ?_) (by intro q;cases q)
 refine kQ (X:=yT X ea) (B1 I5 ea) GC.g hm ?_ GC.d
 refine t8 (K:=X.K) I5.kIn fl5.there hk.c1 hk.c2 hk.c3 hk.c4 hk.c5 ?_
 refine codeAny_handlers_suite_as ?_
 refine lands_againW fl5 fun h6 fl6 up6 => ?_
 have up456:=up45.trans up6
 have u6:=oW F.un F.same i1 i2 fl6.1 up456 ff
 have fl6':∃ o vs,h6.get? ea=some o/\o.cls=.ref Ca/\o.data=.fields vs:=by
  obtain ⟨_,_,_,oe,vs,_,_,_,he,hc,hd,_⟩:=fl6
  exact ⟨oe,vs,he,hc.1,hd⟩
 have I6:Inv X pins σ (upd H' ea (E5 ea Ca)) { s' with heap:=h6 } :=
  I1.call' (s':={ s' with heap:=h6 }) (ch:=[]) F.os (zr u6 F.new noea) (xR (jm F.hok i2 fl6.1) noea fl6') F.bare fun b z=>absurd z (by simp)
 have same2:ax H' (upd H' ea (E5 ea Ca)):=bb noea _
 have J6:=B1 I6 ea
 refine m7 (X:=yT X ea) (v:=.ref ea) (i:=i) J6 (by rw [show (yT X ea).N=X.N from rfl,P.sc.n];exact P.sc.nd) (by rw [show (yT X ea).N=X.N from rfl,P.sc.n];exact hn) (.inl hloc) rfl (fun s7 J7 => ?_) (.inr hloc)
 have hσ7:Stt X.K X.mg (upd H' ea (E5 ea Ca)) (σ.set i (some (.ref ea))) (δe.set i (some (.exc C))):=(hσ.mono same2).set (.exc hC bq)
 have S7:StO (yT X ea) (upd H' ea (E5 ea Ca)) (σ.set i (some (.ref ea))) (δe.set i (some (.exc C))) []:=StO.nil hσ7 ne'
 refine wpAny_mono (hs ea pins s7 _ _ { nx:=fun σ2 H2=>∃ os,ax (upd H' ea (E5 ea Ca)) (hide H2 os)/\StO X H2 σ2 δ2 os,rt:=fun _ _=>False } J7 ⟨_,[],S7,by rw [eg];exact fun σ2 H2 os S sm=>⟨os,by rw [oh] at sm;exact sm,⟨S.st,S.lst,S.own,S.inj⟩⟩⟩) (fun f s8 q8 => ?_) fun _ _ z=>False.elim z
 cases f with
 | ret v=>obtain ⟨_,_,_,_,_,z⟩:=q8;exact z.elim
 | brk=>obtain ⟨_,_,_,z⟩:=q8;exact z.elim
 | cont=>obtain ⟨_,_,_,z⟩:=q8;exact z.elim
 | next =>
  obtain ⟨σ8,H8,J8,os,sm,S8⟩:=q8
  have I8:=EO I1.ok J8
  obtain ⟨m,hns,hl⟩:=id I8.loc
  refine wpAny_nameGoes_keeps hloc hns (by rw [I8.ok.kind];rfl) fun h9 v hn9 hs9 => ?_
  have hless:ax (hide H8 os) (hide H8 (os.filter fun p=>p.1 != i)):=kW fun p hp=>(bg os i p hp).1
  refine ⟨σ8.set i none,H8,AQ I8 (by rw [P.sc.n];exact P.sc.nd) (by rw [P.sc.n];exact hn) hl hn9 hs9,hD _ _ (os.filter fun p=>p.1 != i) ((same2.trans sm).trans hless) ?_⟩
  have setn:∀ {α:Type} {l:List (Option α)} {j:Nat} {d:α},(l.set i none)[j]? = some (some d)->l[j]? = some (some d)/\j≠i:=fun {α l j d} e=>by
   by_cases hj:j=i
   ·subst hj
    by_cases hjl:j<l.length
    ·rw [List.getElem?_set_self hjl] at e;cases e
    ·rw [List.getElem?_eq_none (by rw [List.length_set];omega)] at e;cases e
   ·rw [List.getElem?_set_ne (Ne.symm hj)] at e
    exact ⟨e,hj⟩
  refine ⟨⟨by rw [List.length_set,List.length_set];exact S8.st.1,fun j d e nd => ?_⟩,fun p hp => ?_,fun j ds e => ?_,fun a b c h1 h2=>S8.inj a b c (bg os i _ h1).1 (bg os i _ h2).1⟩
  ·obtain ⟨e,hj⟩:=setn e
   obtain ⟨v1,q1,q2⟩:=S8.st.2 j d e nd
   exact ⟨v1,by rw [List.getElem?_set_ne (Ne.symm hj)];exact q1,q2.mono hless⟩
  ·obtain ⟨hp',hne⟩:=bg os i p hp
   obtain ⟨xs,ds,h1,h2,h3,h4⟩:=S8.lst p hp'
   exact ⟨xs,ds,h1,by rw [List.getElem?_set_ne (Ne.symm hne)];exact h2,by rw [List.getElem?_set_ne (Ne.symm hne)];exact h3,h4.mono hless⟩
  ·obtain ⟨e,hj⟩:=setn e
   obtain ⟨a,ha⟩:=S8.own j ds e
   exact ⟨a,List.mem_filter.mpr ⟨ha,by simpa using hj⟩⟩
theorem Kh (P:Pl X N G) (O:Own X) (i:Nat) (hn:N[i]? = some n) (hloc:X.env.scope.names.lookup n=some .local) (GC:Gb X cls) (hm:X.mg cls=some (.ref C')) (hk:sC X cls C')
  (hb:∀ pins W,SSs (qG X pins W) body gb) (hs:∀ ea,SSs (yT X ea) (b₀::suite) gs) :
  SS X (.Try body [.ExceptHandler (some (.Name cls np)) (some n) (b₀::suite) hpos] [] [] pos) (Jz gb cls i gs):=by
 intro pins s σ H D I ⟨δ,os,S,h⟩
 refine wpAny_Try_except ?_
 have S':∀ W,StO (qG X pins W) H σ δ os:=fun W=>⟨S.st,S.lst,S.own,S.inj⟩
 unfold Jz BF at h
 cases e:gb δ with
 | nx δ1 =>
  rw [e] at h
  refine wpAny_mono (hb pins _ [] s σ H { nx:=D.nx,rt:=fun _ _=>False } (xN I) ⟨δ,os,S' _,by rw [e];exact fun σ1 H1 os1 S1 s1=>h σ1 H1 os1 ⟨S1.st,S1.lst,S1.own,S1.inj⟩ s1⟩) (fun f s1 q => ?_) fun _ _ z=>z
  cases f with
  | next =>
   obtain ⟨σ1,H1,I1,q⟩:=q
   exact wpAny_execs_nil ⟨σ1,H1,pU I.ok I1,q⟩
  | ret v=>obtain ⟨_,_,_,_,_,z⟩:=q;exact z.elim
  | brk=>obtain ⟨_,_,_,z⟩:=q;exact z.elim
  | cont=>obtain ⟨_,_,_,z⟩:=q;exact z.elim
 | ex C δe =>
  rw [e] at h
  simp only [forget] at h
  split at h
  ·rename_i hcl
   cases eg:gs ((noOwn δe).set i (some (.exc C))) with
   | nx δ2 =>
    rw [eg] at h
    have ho:∀ W,(∀ ea s',(∃ p2 Hc sc σ1 H1 Ca,Inv X pins σ1 Hc sc/\ax ↥27 H1/\Stt X.K X.mg H1 σ1 δe/\X.mg C=some (.ref Ca)/\FlyX X.prog X.w X.stack Hc sc Ca H1 ea s'/\p2=pins)->W (.ref ea) s')->OQ (qG X pins W) { nx:=fun _ _=>False,rt:=fun _ _=>False } ↥27 (gb δ):=fun W hW=>by
     rw [e]
     exact fun σ1 H1 s1 hσ1 Ca hCa p2 Hc sc ea s' Ic F=>hW ea s' ⟨pins,Hc,sc,σ1,H1,Ca,pU I.ok Ic,s1,hσ1,hCa,F,rfl⟩
    refine wpAny_mono (hb pins _ [] s σ H _ (xN I) ⟨δ,os,S' _,ho _ ?_⟩) (fun f s1 q => ?_) fun _ _ z=>z
    ·rintro ea s' ⟨p2,Hc,sc,σ1,H1,Ca,Ic,s1,hσ1,hCa,F,_⟩
     exact Ji P O i hn hloc GC hm hCa (hk C Ca hcl hCa) hs eg (AD (fun _ z=>nomatch z)) Ic F (wV hσ1) fun σ2 H2 os2 sm S2=>h σ2 H2 os2 S2 (s1.trans sm)
    ·cases f with
     | next=>obtain ⟨_,_,_,z⟩:=q;exact z.elim
     | ret v=>obtain ⟨_,_,_,_,_,z⟩:=q;exact z.elim
     | brk=>obtain ⟨_,_,_,z⟩:=q;exact z.elim
     | cont=>obtain ⟨_,_,_,z⟩:=q;exact z.elim
   | _=>rw [eg] at h;exact False.elim h
  ·exact False.elim h
 | _=>rw [e] at h;exact False.elim h
theorem Pl.try (P:Pl X N G) (p:List ↥12) (W:Value->Shared->Prop):Pl (qG X p W) N G:=⟨⟨⟨P.sc.n,P.sc.nd,P.sc.vis,P.sc.dbg⟩,P.ex⟩,P.sto,fun x hx=>⟨(P.gb x hx).g,(P.gb x hx).d,(P.gb x hx).n⟩⟩
theorem Pl.inn (P:Pl X N G) (ea:Addr):Pl (yT X ea) N G:=⟨⟨⟨P.sc.n,P.sc.nd,P.sc.vis,P.sc.dbg⟩,P.ex⟩,P.sto,fun x hx=>⟨(P.gb x hx).g,(P.gb x hx).d,(P.gb x hx).n⟩⟩
end
end ES
namespace ES
open PySem PySem.Spec PyProof.Rows L2 EV
unseal SE ST SW SA SS SSs
def rC (X:Cx) (f:List D->R D):List V->Hp->VK->Prop:=fun vs H Q=>∃ ds d,Reps X.K X.mg H vs ds/\f ds=.ok d/\∀ v H',ax H H'->Rep X.K X.mg H' v d->Q v H'
def NoX (f:List D->R D):Prop:=∀ ds C,f ds ≠ .ex C
theorem RQ.cl (nx:NoX f) (r:Reps X.K X.mg H vs ds) (h:RQ X σ H (f ds) Q):rC X f vs H Q:=by
 cases e:f ds with
 | ok d=>rw [e] at h;exact ⟨ds,d,r,e,h⟩
 | ex C=>exact absurd e (nx ds C)
 | bad=>rw [e] at h;exact False.elim h
section
variable {X:Cx} {x:Str} {id T:String} {f:List D->R D} {e o:Expr} {es:List Expr} {gs:List E} {g:E} {p pos apos:Pos}
theorem fH (hc:jZ X (.builtin id) (rC X f)) (nx:NoX f) (G:Gb X x) (hm:X.mg x=none) (hv:bootBuiltins x=some (.builtin id)) (ha:SA X (e::es) gs)
  (he:starEach (e::es) X.env=(false,eval e X.env)::starEach es X.env:=by rfl) (hpl:(backTo pos (starEach es X.env)).any (·.1)=false:=by rfl):SE X (.Call (.Name x p) (e::es) [] pos) (EV.call f gs) :=
 PE.weak (sQ hc G.g hm hv ha G.n G.d he hpl) fun σ H Q ⟨δ,hσ,h⟩=>⟨δ,hσ,(RA.bind h).to fun vs H' s ⟨_,ds,rs,q⟩=>RQ.cl nx rs q⟩
theorem uv (r:Reps X.K X.mg H vs [d]):∃ v,vs=[v]/\Rep X.K X.mg H v d:=by
 cases r with
 | cons r rr=>cases rr;exact ⟨_,rfl,r⟩
theorem DI (r:Reps X.K X.mg H vs [d,d']):∃ v v',vs=[v,v']/\Rep X.K X.mg H v d/\Rep X.K X.mg H v' d':=by
 cases r with
 | cons r rr =>
  cases rr with
  | cons r' rr=>cases rr;exact ⟨_,_,rfl,r,r'⟩
theorem Az:NoX yV:=fun ds C z=>by unfold yV at z;split at z<;>first | cases z | exact eU z
theorem Bf:jZ X (.builtin "len") (rC X yV):=by
 intro pins s σ H xs us Q I rs ⟨ds,d,r,e,q⟩
 unfold yV at e
 split at e
 ·cases e
  obtain ⟨v,rfl,r1⟩:=uv r
  cases r1 with
  | @lst a ys _ hq rr=>exact jy pins s σ H _ us Q I rs ⟨a,ys,rfl,.inl hq,by rw [rr.length];exact q _ _ ↥25 (.int _)⟩
 ·cases e
  obtain ⟨v,rfl,r1⟩:=uv r
  cases r1 with
  | @tup a ys _ hq rr=>exact jy pins s σ H _ us Q I rs ⟨a,ys,rfl,.inr hq,by rw [rr.length];exact q _ _ ↥25 (.int _)⟩
 ·split at e
  ·rename_i hz
   cases e
   obtain ⟨v,rfl,r1⟩:=uv r
   cases r1
   exact p7 pins s σ H _ us Q I rs ⟨_,rfl,Nat.le_trans hz (by rw [sizeLine_eq];decide),q _ _ ↥25 (.int _)⟩
  ·cases e
 ·cases e
theorem AA:NoX vj:=fun ds C z=>by unfold vj at z;split at z<;>cases z
theorem Bg:jZ X (.builtin "abs") (rC X vj):=by
 intro pins s σ H xs us Q I rs ⟨ds,d,r,e,q⟩
 unfold vj at e
 split at e
 ·cases e
  obtain ⟨v,rfl,r1⟩:=uv r
  cases r1
  exact Be pins s σ H _ us Q I rs ⟨_,rfl,q _ _ ↥25 (.int _)⟩
 ·cases e
theorem EA:NoX Br:=fun ds C z=>by unfold Br at z;split at z<;>cases z
theorem Fl (hc:X.calm=true):jZ X (.builtin "max") (rC X Br):=by
 intro pins s σ H xs us Q I rs ⟨ds,d,r,e,q⟩
 unfold Br at e
 split at e
 ·cases e
  obtain ⟨v,v',rfl,r,r'⟩:=DI r
  cases r;cases r'
  exact yr hc pins s σ H _ us Q I rs ⟨_,_,rfl,q _ _ ↥25 (.int _)⟩
 ·cases e
theorem KQ:NoX Fy:=fun ds C z=>by unfold Fy at z;split at z<;>cases z
theorem Lb (hc:X.calm=true):jZ X (.builtin "min") (rC X Fy):=by
 intro pins s σ H xs us Q I rs ⟨ds,d,r,e,q⟩
 unfold Fy at e
 split at e
 ·cases e
  obtain ⟨v,v',rfl,r,r'⟩:=DI r
  cases r;cases r'
  exact yq hc pins s σ H _ us Q I rs ⟨_,_,rfl,q _ _ ↥25 (.int _)⟩
 ·cases e
theorem pV:∀ {xs:List V} {ds:List D} {ns:List Int} {us:List Value},intsOf ds=some ns->Reps X.K X.mg H xs ds->Vals xs us->∃ ts:List (Int×Tok),us=ts.map (fun p=>Value.int p.1 p.2)/\ts.map (·.1)=ns
 | _,[],_,_,e,.nil,.nil=>by cases e;exact ⟨[],rfl,rfl⟩
 | _,.int i::r,ns,_,e,.cons h t,.cons h' t'=>by
  cases h
  unfold intsOf at e
  cases q:intsOf r with
  | none=>rw [q] at e;cases e
  | some ms =>
   rw [q] at e
   have e':i::ms=ns:=Option.some.inj e
   subst e'
   obtain ⟨tk,rfl⟩:=h'
   obtain ⟨ts,e1,e2⟩:=pV q t t'
   exact ⟨(i,tk)::ts,by rw [e1];rfl,by rw [List.map_cons,e2]⟩
 | _,.non::_,_,_,e,_,_=>by cases e
 | _,.bl _::_,_,_,e,_,_=>by cases e
 | _,.str _::_,_,_,e,_,_=>by cases e
 | _,.tup _::_,_,_,e,_,_=>by cases e
 | _,.lst _::_,_,_,e,_,_=>by cases e
 | _,.own _::_,_,_,e,_,_=>by cases e
 | _,.ty _::_,_,_,e,_,_=>by cases e
 | _,.cls _::_,_,_,e,_,_=>by cases e
 | _,.exc _::_,_,_,e,_,_=>by cases e
 | _,.ins _ _::_,_,_,e,_,_=>by cases e
theorem xl:MtR X "int.bit_length" (fun x xs H Q=>∃ i,x=.int i/\xs=[]/\Q (.int (nb i)) H):=by
 intro pins s σ H x xs v us Q I rx rs ⟨i,ex,exs,q⟩
 subst ex exs
 obtain ⟨t,rfl⟩:=rx
 cases rs
 refine call_int_bit_length ⟨.int (nb i),H,I.tok _,⟨_,by rw [xk]⟩,q⟩
theorem oA (ho:SE X o g) (hbase:attributeBase o "bit_length" X.env (eval o X.env)=eval o X.env:=by rfl) (hline:(apos.endLine == pos.line)=true:=by rfl):SE X (.Call (.Attribute o "bit_length" apos) [] [] pos) (EV.call ip [g]) :=
 PE.weak (HH PySem.F.plainAttrs_int PySem.F.slot_int_bit_length PySem.F.type_int_bit_length xl ho hbase hline) fun σ H Q ⟨δ,hσ,h⟩=>⟨δ,hσ,by
  have h':RQ X σ H ((g δ).bind fun d=>ip [d]) Q:=by
   unfold EV.call evs at h
   cases r:g δ with
   | ok d=>rw [r] at h;exact h
   | ex C=>rw [r] at h;exact h
   | bad=>rw [r] at h;exact h
  refine (RQ.bind h').to fun v H' s ⟨_,d,r,q⟩ => ?_
  unfold ip at q
  split at q
  ·rename_i e
   cases e
   cases r
   exact ⟨rfl,_,rfl,rfl,q _ _ ↥25 (.int _)⟩
  ·exact False.elim q⟩
def tyV (mg:Str->Option Value):D->Option Value
 | .non=>some (.type "NoneType")
 | .bl _=>some (.type "bool")
 | .int _=>some (.type "int")
 | .str _=>some (.type "str")
 | .tup _=>some ↥4
 | .lst _=>some (.type "list")
 | .exc n=>mg n
 | _=>none
def Ov (mg:Str->Option Value):D->Option Value
 | .ty n=>some (.type n)
 | .cls n=>mg n
 | _=>none
def Isi (X:Cx) (c:D):Prop:=∀ d k t u,jX [d,c]=.ok (.bl k)->tyV X.mg d=some t->Ov X.mg c=some u->PySem.W.kitOne X.K t u=some k
def jO (X:Cx):Prop:=∀ (e C:Addr) (n:String),ak.contains n=true->X.mg n=some (.ref C)->PySem.W.KitX X.K (.ref e) (.ref C) (fun h=>∃ o vs,h.get? e=some o/\o.cls=.ref C/\o.data=.fields vs)
theorem yF:(∃ d c k,ds=[d,c]/\jX ds=.ok (.bl k))\/jX ds=.bad:=by
 rcases ds with _ | ⟨d,_ | ⟨c,_ | ⟨x,y⟩⟩⟩
 ·exact .inr rfl
 ·exact .inr rfl
 ·cases c<;>first
   | exact .inr rfl
   | (cases d<;>first
     | exact .inr rfl
     | exact IE rfl)
 ·first
   | exact .inr rfl
   | (cases c<;>exact .inr rfl)
theorem yd (h:jX [.exc n,c]=.ok (.bl k)):ak.contains n=true:=by
 cases c with
 | cls B =>
  have z:=(dE h).1
  rw [Bool.and_eq_true] at z
  exact z.1
 | ty B =>
  have z:=(dE h).1
  rw [Bool.and_eq_true] at z
  exact z.1
 | _=>cases h
theorem Lc (hI:Isi X c) (hE:jO X):jZ X (.builtin "isinstance") (fun vs H Q=>∃ dx d,Reps X.K X.mg H vs [dx,c]/\jX [dx,c]=.ok d/\∀ v H',ax H H'->Rep X.K X.mg H' v d->Q v H'):=by
 intro pins s σ H xs us Q I rs ⟨dx0,d,r,e,q⟩
 rcases yF (ds:=[dx0,c]) with ⟨dx,dc,k,ez,e'⟩ | e'<;>rw [e'] at e<;>cases e
 cases ez
 obtain ⟨v,v',rfl,r1,r2⟩:=DI r
 cases rs with
 | cons h1 h2 =>
  cases h2 with
  | cons h2 h3 =>
   cases h3
   rename_i u w
   have fin:∀ tk,EP X pins σ Q (.bool k) { s with toks:=tk }:=fun tk=>⟨.bl k,H,I.tok tk,rfl,q _ _ ↥25 (.bl k)⟩
   have hw:Ov X.mg c=some w:=by
    cases r2 with
    | ty n=>cases h2;rfl
    | cls hc=>cases h2;exact hc
    | _=>cases dx0<;>cases e'
   cases r1 with
   | non=>cases (show u=Value.none from h1);exact PySem.W.kia_one PySem.W.kitx_none I.kIn True.intro (hI _ k _ _ e' rfl hw) (fun z=>nomatch z) fin
   | bl y=>cases (show u=Value.bool y from h1);exact PySem.W.kia_one PySem.W.kitx_bool I.kIn True.intro (hI _ k _ _ e' rfl hw) (fun z=>nomatch z) fin
   | int i=>obtain ⟨t,z⟩:=(show ∃ t,u=Value.int i t from h1);cases z;exact PySem.W.kia_one PySem.W.kitx_int I.kIn True.intro (hI _ k _ _ e' rfl hw) (fun z=>nomatch z) fin
   | str y=>obtain ⟨t,z⟩:=(show ∃ t,u=Value.str y t from h1);cases z;exact PySem.W.kia_one PySem.W.kitx_str I.kIn True.intro (hI _ k _ _ e' rfl hw) (fun z=>nomatch z) fin
   | @tup a ys ds hq rr =>
    cases (show u=Value.ref a from h1)
    obtain ⟨its,_,⟨o,g1,g2,_⟩,_⟩:=I.tuple hq
    exact PySem.W.kia_one PySem.W.kitx_tuple I.kIn ⟨o,g1,g2⟩ (hI _ k _ _ e' rfl hw) (fun z=>nomatch z) fin
   | @lst a ys ds hq rr =>
    cases (show u=Value.ref a from h1)
    obtain ⟨its,_,⟨o,n,g1,g2,_⟩,_⟩:=I.list hq
    exact PySem.W.kia_one PySem.W.kitx_list I.kIn ⟨o,g1,g2⟩ (hI _ k _ _ e' rfl hw) (fun z=>nomatch z) fin
   | @exc a C n hn hq =>
    cases (show u=Value.ref a from h1)
    exact PySem.W.kia_one (hE a C n (yd e') hn) I.kIn (I.hok a _ hq).1 (hI _ k _ _ e' hn hw) (fun z=>nomatch z) fin
   | ty n=>cases c<;>cases e'
   | cls _=>cases c<;>cases e'
   | ins _ _ _=>cases c<;>cases e'
theorem rR (hI:Isi X c) (hE:jO X) (G:Gb X "isinstance") (hm:X.mg "isinstance"=none) (ha:SE X e g) (hb:SE X e2 (con c))
  (hs:starEach [e,e2] X.env=(false,eval e X.env)::starEach [e2] X.env:=by rfl) (hs2:starEach [e2] X.env=[(false,eval e2 X.env)]:=by rfl) (hpl:(backTo pos (starEach [e2] X.env)).any (·.1)=false:=by rfl) :
  SE X (.Call (.Name "isinstance" p) [e,e2] [] pos) (EV.call jX [g,con c]) :=
 PE.weak (sQ (Lc hI hE) G.g hm PyProof.Rows.boot_isinstance (ah ha (ah hb cZ hs2) hs) G.n G.d hs hpl) fun σ H Q ⟨δ,hσ,h⟩=>⟨δ,hσ,by
  cases r:g δ with
  | ok d =>
   have e1:evs [g,con c] δ=.ok [d,c]:=by simp [evs,r,con,R.bind]
   unfold EV.call at h
   rw [e1] at h ⊢
   refine fun vs H' s rs => ?_
   have h':RQ X σ H' (jX [d,c]) Q:=RQ.mono s h
   rcases yF (ds:=[d,c]) with ⟨_,_,k,_,e'⟩ | e'
   ·rw [e'] at h';exact ⟨d,_,rs,e',h'⟩
   ·rw [e'] at h';exact False.elim h'
  | ex C =>
   have e1:evs [g,con c] δ=.ex C:=by simp [evs,r,R.bind]
   unfold EV.call at h
   rw [e1] at h ⊢
   exact h
  | bad =>
   have e1:evs [g,con c] δ=.bad:=by simp [evs,r,R.bind]
   unfold EV.call at h
   rw [e1] at h
   exact False.elim h⟩
end
end ES
namespace ES
open PySem PySem.Spec PyProof.Rows L2 EV
unseal SE ST SW SA SS SSs
section
variable {prog:Program} {w:World} {A:Around} {s:Shared} {K:PySem.W.Frag} {e C:Addr}
open PySem.W PySem.Builtin PySem.Builtin.Getset_descriptor in
theorem Gj {R:Result->Shared->Prop} {tp:Value} (L1:Looks ↥17 s.heap (isSubtype (.ref C) (.type "object")) true) (L0:Looks ↥17 s.heap (typeOf (.ref e)) (.ref C)) (done:R (.ok (.ret (.ref C))) s) :
  codeAny ↥17 A (.call (.builtin "getset_descriptor.__get__") ⟨[.builtin "object.__class__",.ref e,tp],[]⟩) R s:=by
 obtain ⟨hh,g,dr,t,os⟩:=s
 refine codeAny_call_builtin KF.slot_gs.plain KF.entry_gs (KF.slot_gs.check _ _ _ _ _ _ _ _ KF.type_class (KF.args_gs _ _ tp) ?_)
 unfold Builtin.«getset_descriptor.__get__»;unfold descrGet;rw [dga_obj]
 refine wpAny_bind (wpAny_pure ?_)
 simp only [descrGetter,descrCheckInstance,descrNameAndClass,isInstance,KF.owner_class]
 repeat lk
 refine ⟨Code.quiet_builtin _ (by decide +kernel),?_⟩
 refine codeAny_builtin KF.entry_class ?_
 unfold Builtin.«object.__class__»;unfold shownTypeOf
 repeat lk
 exact done
open PySem.W PySem.Builtin PySem.Builtin.Getset_descriptor in
theorem za {E:Value->Shared->Prop} {Q:Fin->Shared->Prop} {tk:Tok} (L1:Looks ↥17 s.heap (isSubtype (.ref C) (.type "object")) true) (L0:Looks ↥17 s.heap (typeOf (.ref e)) (.ref C))
  (L2:Looks ↥17 s.heap (typeLookup (.ref C) "__class__") (some (.builtin "object.__class__"))) (done:Q (.done (.ret (.ref C))) s) :
  wpAny ↥17 A (Builtin.«object.__getattribute__» ⟨[.ref e,.str "__class__" tk],[]⟩) Q E s:=by
 obtain ⟨hh,g,dr,t,os⟩:=s
 have f5:=F.typeOf_object_class
 have f6:=F.slot_gs_get.lookup
 have f7:=F.slot_gs_set.lookup
 have hT5:(⟨hh,g,dr,t,os⟩:Shared).TypeIs (.builtin "object.__class__") "getset_descriptor":=F.typeOf_object_class
 repeat (any_goals (first | assumption | with_reducible refine L0.at ?_ | with_reducible refine L2.at ?_ | wp_step))
 refine Gj L1 L0 ?_
 repeat (any_goals (first | assumption | wp_step))
open PySem.W PySem.Builtin PySem.Builtin.Getset_descriptor in
theorem zb {M:Model} {E:Value->Shared->Prop} {nameV:Value} {Q:Unit->Shared->Prop} (L3:Looks M s.heap (isSubtype (.ref C) (.type "BaseException")) true) (L0:Looks M s.heap (typeOf (.ref e)) (.ref C)) (done:Q () s) :
  wpAny M A (checkBuiltinCall "BaseException.__getattribute__" ⟨[.ref e,nameV],[]⟩) Q E s:=by
 obtain ⟨hh,g,dr,t,os⟩:=s
 have k1:builtinKind "BaseException.__getattribute__"=some .slot:=by decide +kernel
 have k2:splitId "BaseException.__getattribute__"=some ("BaseException","__getattribute__"):=by decide +kernel
 have ha:=F.args_bexc_ga (.ref e) nameV
 simp only [checkBuiltinCall,k1,k2]
 refine wpAny_bind ?_
 unfold isInstance
 repeat (first | with_reducible refine L0.at ?_ | with_reducible refine L3.at ?_ | wp_step)
 exact done
structure XCls (K:PySem.W.Frag) (C:Addr):Prop where
 c0:PySem.W.mroIn K C (.type "object")=some true
 c1:PySem.W.mroIn K C (.type "BaseException")=some true
 c2:PySem.W.findIn K (.ref C) "__class__"=some (some (.builtin "object.__class__"))
 c3:PySem.W.findIn K (.ref C) "__getattribute__"=some (some (.builtin "BaseException.__getattribute__"))
 c4:PySem.W.findIn K (.ref C) "__getattr__"=some none
 c5:∃ cd,PySem.W.clsIn K C=some cd
open PySem.W PySem.Builtin PySem.Builtin.Getset_descriptor in
theorem JL {E:Value->Shared->Prop} {Q:Value->Shared->Prop} {tk:Tok} (FB:ExcAttrFacts "ValueError") (L0:Looks ↥17 s.heap (typeOf (.ref e)) (.ref C)) (c:XCls K C) (KX:K.In s.heap) (done:Q (.ref C) s) :
  wpAny ↥17 A (getAttrBy (.ref e) (.str "__class__" tk) false) Q E s:=by
 have L1:Looks ↥17 s.heap (isSubtype (.ref C) (.type "object")) true:=looks_mroIn KX c.c0
 have L3:Looks ↥17 s.heap (isSubtype (.ref C) (.type "BaseException")) true:=looks_mroIn KX c.c1
 have L2:Looks ↥17 s.heap (typeLookup (.ref C) "__class__") (some (.builtin "object.__class__")):=looks_findIn KX c.c2
 have L4:Looks ↥17 s.heap (typeLookup (.ref C) "__getattribute__") (some (.builtin "BaseException.__getattribute__")):=looks_findIn KX c.c3
 have L5:Looks ↥17 s.heap (typeLookup (.ref C) "__getattr__") none:=looks_findIn KX c.c4
 obtain ⟨hh,g,dr,t,os⟩:=s
 have f3:=FB.ga.bind (.ref e)
 have q2:(Value.builtin "BaseException.__getattribute__" == Value.builtin "object.__getattribute__")=false:=by decide +kernel
 have q0:(false&&onTheHeap (Value.builtin "BaseException.__getattribute__"))=false:=rfl
 have q1:(onTheHeap (Value.ref C)&&Value.builtin "BaseException.__getattribute__" == Value.builtin "object.__getattribute__")=false:=by rw [q2];rfl
 repeat (any_goals (first | assumption | with_reducible refine L0.at ?_ | with_reducible refine L4.at ?_ | with_reducible refine L5.at ?_ | wp_step))
 refine codeAny_call_builtin FB.ga.plain F.entry_bexc_ga (zb L3 L0 (za L1 L0 L2 ?_))
 repeat (any_goals (first | assumption | wp_step))
open PySem.W in
theorem E3 (c:XCls K C):KitX K (.ref e) (.ref C) (fun h=>∃ o vs,h.get? e=some o/\o.cls=.ref C/\o.data=.fields vs) where
 ty:=fun M h KX ⟨o,vs,h1,h2,h3⟩=>h2▸(Looks.ld h1).andThen .now
 it:=fun M h KX _=>by
  obtain ⟨cd,hc⟩:=c.c5
  unfold clsIn at hc
  split at hc
  ·rename_i hlk
   intro A' Q' E' s' k q
   unfold isType loadHead
   exact wpAny_bind (wpAny_loadPart (k _ _ (KX _ _ hlk)) (wpAny_pure q))
  ·cases hc
 ne:=fun h tp dd its n sl KX htp=>by
  obtain ⟨cd,hc⟩:=c.c5
  unfold clsIn at hc
  split at hc
  ·rename_i hlk
   have h1:=KX _ _ hlk
   by_cases z:C=tp
   ·subst z
    rw [htp] at h1
    cases h1
   ·simpa using z
  ·cases hc
 ca:=fun {prog w A E Q s} KX ⟨o,vs,h1,h2,h3⟩ q=>by
  obtain ⟨hh,g,dr,t,os⟩:=s
  have L0:Looks ↥17 hh (typeOf (.ref e)) (.ref C):=h2▸(Looks.ld h1).andThen .now
  have by_:∀ {tk:Tok} {t':Nat} {E':Value->Shared->Prop} {Q':Value->Shared->Prop},Q' (.ref C) ⟨hh,g,dr,t',os⟩->wpAny ↥17 A (getAttrBy (.ref e) (.str "__class__" tk) false) Q' E' ⟨hh,g,dr,t',os⟩:=fun {tk t' E' Q'} done=>JL (s:=⟨hh,g,dr,t',os⟩) PySem.F.excAttr_ValueError L0 c KX done
  clear h1
  unfold getAttr? getAttrBy?
  repeat (any_goals (first | assumption | with_reducible apply by_ | wp_step))
end
theorem fX (h:∀ (n:String) (C:Addr),ak.contains n=true->X.mg n=some (.ref C)->XCls X.K C):jO X:=fun e C n hx hn=>E3 (h n C hx hn)
end ES
namespace ES
open PySem PySem.Spec PyProof.Rows L2 EV
unseal SE ST SW SA SS SSs
theorem mG {G:List Str} (i:Nat) {x:Str} (h:G[i]? = some x:=by rfl):x∈G:=List.mem_of_getElem? h
structure XF (K:PySem.W.Frag) (mg:Str->Option Value) (n:String):Prop where
 ex:mg n=none\/∃ C,mg n=some (.ref C)/\XCls K C
theorem kj {K:PySem.W.Frag} {mg:Str->Option Value} (h:∀ n∈ak,XF K mg n) (n:String) (C:Addr) (hn:ak.contains n=true) (hm:mg n=some (.ref C)):XCls K C:=by
 rcases (h n (by simpa using hn)).ex with z | ⟨C',z,x⟩
 ·rw [hm] at z;cases z
 ·rw [hm] at z;cases z;exact x
structure CF (K:PySem.W.Frag) (mg:Str->Option Value) (B:Addr) (n:String):Prop where
 ex:mg n=none\/∃ C,mg n=some (.ref C)/\PySem.W.mroIn K C (.ref B)=some true
structure CB (K:PySem.W.Frag) (B:Addr):Prop where
 c1:∃ cd,PySem.W.clsIn K B=some cd
 c2:PySem.W.typeIn K (.ref B)=some (.type "type")
 c3:PySem.W.subIn K (.type "type") ↥4=some false
 c4:PySem.W.mroIn K B (.type "BaseException")=some true
theorem uU (b:CB X.K B) (h:∀ n∈ak,oy n cls=true->CF X.K X.mg B n):sC X cls B:=fun C Ca hs hm=>by
 have hn:C∈ak:=by
  unfold oy at hs
  rw [Bool.and_eq_true] at hs
  simpa using hs.1
 rcases (h C hn hs).ex with z | ⟨C',z,x⟩
 ·rw [hm] at z;cases z
 ·rw [hm] at z;cases z;exact ⟨by obtain ⟨_,e⟩:=b.c1;rw [e];rfl,b.c2,b.c3,b.c4,x⟩
theorem pS (hn:n≠"ValueError") (i0:PySem.W.kitOne X.K (.type "NoneType") (.type n)=some false) (i1:PySem.W.kitOne X.K (.type "bool") (.type n)=some (n == "int"||n == "bool")) (i2:PySem.W.kitOne X.K (.type "int") (.type n)=some (n == "int"))
  (i3:PySem.W.kitOne X.K (.type "str") (.type n)=some (n == "str")) (i4:PySem.W.kitOne X.K ↥4 (.type n)=some (n == "tuple")) (i5:PySem.W.kitOne X.K (.type "list") (.type n)=some (n == "list")):Isi X (.ty n):=by
 intro d k t u e ht hu
 cases hu
 cases d with
 | exc C =>
  have z:=(dE e).1
  rw [Bool.and_eq_true,beq_iff_eq] at z
  exact absurd z.2 hn
 | non=>cases ht;obtain ⟨_,rfl⟩:=dE e;exact i0
 | bl b=>cases ht;obtain ⟨_,rfl⟩:=dE e;exact i1
 | int b=>cases ht;obtain ⟨_,rfl⟩:=dE e;exact i2
 | str b=>cases ht;obtain ⟨_,rfl⟩:=dE e;exact i3
 | tup b=>cases ht;obtain ⟨_,rfl⟩:=dE e;exact i4
 | lst b=>cases ht;obtain ⟨_,rfl⟩:=dE e;exact i5
 | _=>cases e
structure IF (K:PySem.W.Frag) (mg:Str->Option Value) (c:Value) (k:Bool) (n:String):Prop where
 ex:mg n=none\/∃ C,mg n=some (.ref C)/\PySem.W.kitOne K (.ref C) c=some k
theorem IF.get {K:PySem.W.Frag} {mg:Str->Option Value} {c:Value} {k:Bool} {n:String} {C:Addr} (f:IF K mg c k n) (hm:mg n=some (.ref C)):PySem.W.kitOne K (.ref C) c=some k:=by
 rcases f.ex with z | ⟨C',z,x⟩
 ·rw [hm] at z;cases z
 ·rw [hm] at z;cases z;exact x
theorem xM (hB:X.mg B=some (.ref Ba)) (hr:∀ (n:String) u,ak.contains n=true->X.mg n=some u->∃ C,u=.ref C) (i0:PySem.W.kitOne X.K (.type "NoneType") (.ref Ba)=some false) (ix:∀ n∈ak,IF X.K X.mg (.ref Ba) (n == B||B == "MillError") n):Isi X (.cls B):=by
 intro d k t u e ht hu
 have hu':X.mg B=some u:=hu
 rw [hB] at hu'
 cases hu'
 cases d with
 | exc C =>
  obtain ⟨z,rfl⟩:=dE e
  rw [Bool.and_eq_true] at z
  obtain ⟨Ca,rfl⟩:=hr C t z.1 ht
  exact (ix C (by simpa using z.1)).get ht
 | non =>
  cases ht
  obtain ⟨_,rfl⟩:=dE e
  exact i0
 | _=>cases e
theorem BM {K:PySem.W.Frag} {mg:Str->Option Value} (h:∀ n∈ak,XF K mg n) (n:String) (u:Value) (hn:ak.contains n=true) (hm:mg n=some u):∃ C,u=.ref C:=by
 rcases (h n (by simpa using hn)).ex with z | ⟨C',z,x⟩
 ·rw [hm] at z;cases z
 ·rw [hm] at z;cases z;exact ⟨_,rfl⟩
theorem gZ:∀ {ns:List Int},PySem.W.WData.weightAll (ns.map PySem.W.WData.int)<=2^20->∀ n∈ns,nb n<=2^20
 | [],_,_,h=>nomatch h
 | m::r,hw,n,h=>by
  rw [List.map_cons,PySem.W.WData.weightAll] at hw
  rcases List.mem_cons.mp h with rfl | h
  ·have:PySem.W.WData.weight (.int n)=Builtin.Int.intBits n:=by simp only [PySem.W.WData.weight,Builtin.Int.intBits]
   rw [xk]
   omega
  ·exact gZ (ns:=r) ⋯ n h
open PySem.W PySem.Calls Att in
theorem su {l:OpenLaw} {n:Nat} {q:Program} {loose:List Str} {XP:(Str->Option Value)->Heap->Prop} {YP:World->Heap->Prop} {d:DefRec}
  (hn:l.most=some n) (hdf:d.params.defaults=[])
  (call:∀ (w:World) (s₀ s₁:Shared) (mg mb:Str->Option Value) (fa:Addr) (a:Addr) (vs:List Value) (ns:List Int),
   Ground q loose [] XP w s₀ mg mb s₁.heap->YP w s₁.heap->mg d.name=some (.ref fa) ->
   s₁.heap.get? a=some { cls:=.type "list",data:=.seq vs.toArray }->IntsAre vs ns->ns.length<=n->(∀ m∈ns,nb m<=2^20)->s₁.gens = #[] ->
   codeAny (model l.prog w) callerA (.call (.ref fa) ⟨[.ref a],[]⟩) (fun r s'=>r=.ok (.ret (.bool true))/\OldK s₁.heap s'.heap/\s'.os=s₁.os/\AllBare s'.gens) s₁) :
  WalkO q loose XP YP l.row.toRowW d [] (fun f vs=>PySem.call f vs):=by
 intro w s₀ s₁ mg mb G Y fa o pm cd doc dV kV ho hd hcd hD hmg hg args vals as hpre hlay hrd hwl hlo
 obtain rfl:dV=.none:=Dflts.none hD hdf
 obtain rfl:kV=.none:=Dflts.noKw hD
 obtain ⟨a,vs,ns,rfl,rfl,hobj,hints,hlen⟩:=v5 hn hpre hwl
 have hb:∀ m∈ns,nb m<=2^20:=by
  have h1:=(layableW_iff.mp (layW_cons hlay).1).2.2
  rw [WData.weight] at h1
  exact gZ h1
 refine enter_call (codeAny_mono (call w s₀ s₁ mg mb fa a vs ns G Y hmg hobj hints hlen hb hg) fun r s' hq => ?_)
 obtain ⟨rfl,h2,h3,h4⟩:=hq
 exact ⟨.inl ⟨.bool true,.bool true,[],rfl,fun _=>rfl,.bool true,wz l _,fun _=>⟨List.Pairwise.nil,fun _ hm=>(nomatch hm)⟩⟩,h2,h3,h4⟩
end ES
namespace ES
open PySem PySem.Spec PyProof.Rows L2 EV
unseal SE ST SW SA SS SSs
structure FldOk (X:Cx) (cn f:String):Prop where
 ex:∃ C,X.mg cn=some (.ref C)/\Cls X.K C/\iY X.K C f
structure MethOk (X:Cx) (cn m:String) (F:List D->R D):Prop where
 ex:∃ C fa k fd ps,X.mg cn=some (.ref C)/\Cls X.K C/\Meth X.K C m fa/\FnOk X.prog X.w X.K X.mg X.base (CXF X.prog X.w) k fa fd ps (spP X.K X.mg F)/\Room k X.A/\Binds X.K fd ps []
section
variable {X:Cx} {o e:Expr} {es:List Expr} {go:E} {gs:List E} {pos apos p:Pos} {cn f m:String} {F:List D->R D}
theorem yf (h:FldOk X cn f) (ho:SE X o go) (hb:attributeBase o f X.env (eval o X.env)=eval o X.env:=by rfl):SE X (.Attribute o f pos) (un (vi cn f) go):=by
 obtain ⟨C,hC,cl,na⟩:=h.ex
 refine PE.weak (HG ho hb) fun σ H Q ⟨δ,hσ,h⟩=>⟨δ,hσ,(RQ.bind h).to fun v H' s ⟨_,d,r,q⟩ => ?_⟩
 cases r with
 | @ins a C' dx n fs ds hn ha rf =>
  unfold vi at q
  simp only at q
  split at q
  ·rename_i hcn
   rw [beq_iff_eq] at hcn
   subst hcn
   split at q
   ·rename_i d hd
    obtain ⟨v,e1,e2⟩:=rf.lookup hd
    rw [hC] at hn
    cases hn
    exact ⟨a,C,dx,fs,v,rfl,ha,cl,na,e1,q _ _ ↥25 e2⟩
   ·exact False.elim q
  ·exact False.elim q
 | _=>exact False.elim q
theorem EG {σ:L2.St} {H:Hp} {δ:Dt} {d:D} {es:List E} {Q:VK} (h:RQ X σ H (if eX cn m d then (evs es δ).bind fun ds=>F (d::ds) else .bad) Q):eX cn m d=true/\RA X σ H (evs es δ) fun vs H'=>ax H H'/\∃ ds,Reps X.K X.mg H' vs ds/\RQ X σ H' (F (d::ds)) Q:=by
 by_cases hm:eX cn m d=true
 ·rw [if_pos hm] at h
  refine ⟨hm,?_⟩
  have h2:RQ X σ H ((evs es δ).bind fun ds=>F (d::ds)) Q:=h
  cases r:evs es δ with
  | ok ds=>rw [r] at h2;exact fun vs H' s rs=>⟨s,ds,rs,RQ.mono s h2⟩
  | ex C=>rw [r] at h2;exact h2
  | bad=>rw [r] at h2;exact h2
 ·rw [if_neg hm] at h;exact False.elim h
theorem tq (h:MethOk X cn m F) (ho:SE X o go) (ha:SA X (e::es) gs)
  (hst:starEach (e::es) X.env=(false,eval e X.env)::starEach es X.env:=by rfl) (hpl:(backTo pos (starEach es X.env)).any (·.1)=false:=by rfl)
  (ht:eval (.Call (.Attribute o m apos) (e::es) [] pos) X.env=(do
   let ov<-eval o X.env
   standAt apos.atName
   let (f,first)<-holding [ov] (getMethod ov m pl)
   callWith pos f first (backTo pos (starEach (e::es) X.env)) (backToKw pos (keywordEach [] X.env))):=by rfl) :
  SE X (.Call (.Attribute o m apos) (e::es) [] pos) (FW cn m F go gs):=by
 obtain ⟨C,fa,k,fd,ps,hC,cl,hm,FO,hr,hb⟩:=h.ex
 intro pins s σ H Q I ⟨δ,hσ,h⟩
 refine PySem.W.methodCall_KW (pl:=pl) (thn (ho pins s σ H _ I ⟨δ,hσ,RQ.bind h⟩) fun u s1 ⟨x,H1,I1,rx,sm,d,rd,q⟩ => ?_) ht
 obtain ⟨im,qa⟩:=EG q
 cases rd with
 | @ins a C' dx n fs ds hn hA rf =>
  unfold eX at im
  rw [Bool.and_eq_true,beq_iff_eq] at im
  obtain ⟨e1,e2⟩:=im
  subst e1
  rw [hC] at hn
  cases hn
  have l:fs.lookup (m:Str)=none:=rf.lookupN (by simpa using e2)
  obtain rfl:u=Value.ref a:=rx
  refine uL I1 hA cl hm l ?_
  refine PySem.W.callWith_K (first:=[.ref a]) (h₀:=X.base) I.ok.mod.kin hm.kp (thn (ha pos pins s1 σ H1 _ I1 ⟨δ,hσ.mono sm,qa⟩) fun us s2 ⟨vs,H2,I2,r,sm2,ds',rs,q2⟩=>⟨I2.kIn,?_⟩) hst hpl
  exact Hb (us:=.ref a::us) (vs:=.ref a::vs) FO hr hb I2 (.cons rfl r) (.cons (.ins hC (sm2 _ _ hA) (rf.mono sm2)) rs) q2
 | _=>cases im
def spI (K:PySem.W.Frag) (f:Str):Sp:=fun vs H Q _=>∃ x v C dx,vs=[.ref x,v]/\H x=some (.ins C dx [])/\Cls K C/\iY K C f/\Q .non (upd H x (.ins C dx [(f,v)]))
theorem ER {P:Program} {w:World} {K:PySem.W.Frag} {mg:Str->Option Value} {base:Heap} {x qual ps pa f:Str} {st:Stmt} {fa:Addr} {fd:FuncData} {p1 p2 p3 p4:Pos} {k:Nat} (F:Fun K x qual st fa fd)
  (S:FnScope [ps,pa] [ps,pa] (aa st)) (h0:(aa st).names.lookup ps=some .local) (h1:(aa st).names.lookup pa=some .local) (d0:(ps == ("__debug__":Str))=false/\(ps == ("__classdict__":Str))=false) (d1:(pa == ("__debug__":Str))=false/\(pa == ("__classdict__":Str))=false)
  (hb:ai st=[.Assign [.Attribute (.Name ps p1) f p2] (.Name pa p3) p4]) (hsw:∀ env,swapsWith (.Name pa p3) (some (.Attribute (.Name ps p1) f p2)) p4.line env=pure false):FnOk P w K mg base CX0 (k+1) fa fd [ps,pa] (spI K f):=by
 refine F.ok S (fun vs H Q E h => ?_) fun cdv A outer s H vs Q E hr h => ?_
 ·obtain ⟨_,_,_,_,rfl,_⟩:=h
  rfl
 ·obtain ⟨a,v,C,dx,rfl,hH,cl,na,q⟩:=h
  rw [hb]
  refine ⟨_,wy (Hy (sP (i:=0) rfl (.inl h0) d0.1 d0.2) (sP (i:=1) rfl (.inl h1) d1.1 d1.2) (hsw _)),?_⟩
  exact ⟨v,rfl,_,rfl,a,C,dx,[],rfl,hH,cl,na,by decide,q⟩
structure MakeOk (X:Cx) (cn f:String):Prop where
 ex:∃ C fa k fd ps,X.mg cn=some (.ref C)/\Cls X.K C/\iY X.K C f/\Mk X.K C fa/\FnOk X.prog X.w X.K X.mg X.base CX0 k fa fd ps (spI X.K f)/\Room (k+1) X.A/\Binds X.K fd ps []
theorem Fb (h:MakeOk X cn f) (G:Gb X cn) (ha:SA X (e::es) gs) (he:starEach (e::es) X.env=(false,eval e X.env)::starEach es X.env:=by rfl) (hpl:(backTo pos (starEach es X.env)).any (·.1)=false:=by rfl) :
  SE X (.Call (.Name cn p) (e::es) [] pos) (EV.call (mk1 cn f) gs):=by
 obtain ⟨C,fa,k,fd,ps,hC,cl,na,M,F,hr,hb⟩:=h.ex
 refine PE.weak (DS (E:=fun _ _ _=>False) M F hr G.g hC hb .nil Kz ha G.d he hpl) fun σ H Q ⟨δ,hσ,h⟩=>⟨δ,hσ,(RA.bind h).to fun vs H' s ⟨_,ds,rs,q⟩ x dx hx hdx hne => ?_⟩
 unfold mk1 at q
 split at q
 ·rename_i d
  obtain ⟨v,rfl,r⟩:=uv rs
  refine ⟨x,v,C,dx,rfl,bq,cl,na,rfl,?_⟩
  have s1:ax H' (upd H' dx (.own x)):=bb hdx _
  have hx1:(upd H' dx (.own x)) x=none:=by rw [aW (Ne.symm hne)];exact hx
  have s2:ax (upd H' dx (.own x)) (upd (upd H' dx (.own x)) x (.ins C dx [])):=bb hx1 _
  have s3:ax H' (upd (upd (upd H' dx (.own x)) x (.ins C dx [])) x (.ins C dx [((f:Str),v)])):=fun b o e=>by
   have hb:b≠x:=cI e hx
   rw [aW hb,aW hb]
   exact s1 b o e
  exact q _ _ s3 (.ins hC bq (.cons (r.mono s3) .nil))
 ·exact False.elim q
end
end ES
namespace ES
open PySem PySem.Spec PyProof.Rows L2 EV
unseal SE ST SW SA SS SSs
def BC (X:Cx) (J:It) (H:Hp) (ds:List D):Prop:=∀ Hc,ax H Hc ->
 (∀ i d,ds[i]? = some d->J.go i Hc/\∀ x H',J.yld i Hc x H'->ax Hc H'/\∀ Hq,ax H Hq->(∀ b o,H' b=some o->Hc b=none->Hq b=some o)->Rep X.K X.mg Hq x d)/\∀ i,ds.length<=i->J.stop i Hc
theorem vJ {X:Cx} {H Hc H':Hp} {x:V} {d:D} (e:H'=Hc) (r:Rep X.K X.mg H x d):ax Hc H'/\∀ Hq,ax H Hq->(∀ b o,H' b=some o->Hc b=none->Hq b=some o)->Rep X.K X.mg Hq x d :=
 ⟨by rw [e];exact ax.refl _,fun Hq s _=>r.mono s⟩
def RI (X:Cx) (σ:L2.St) (H:Hp) (r:R (List D)) (Q:It->Hp->Prop):Prop:=match r with
 | .ok ds=>∀ J H',ax H H'->BC X J H' ds->Q J H'
 | .ex C=>∀ Ca,X.mg C=some (.ref Ca)->∀ H',ax H H'->ew X Ca σ H'
 | .bad=>False
def tI (X:Cx) (g:IT):TI:=fun σ H Q=>∃ δ,Stt X.K X.mg H σ δ/\RI X σ H (g δ) Q
@[irreducible] def SI (X:Cx) (tg iter:Expr) (g:IT):Prop:=PI X tg iter (tI X g)
unseal SI
section
variable {X:Cx} {tg e a b:Expr} {g ga gb:E} {σ:L2.St} {H H1:Hp}
theorem RI.mono (s:ax H H1) (h:RI X σ H r Q):RI X σ H1 r Q:=by
 cases r with
 | ok d=>exact fun v H' s' r=>h v H' (s.trans s') r
 | ex C=>exact fun Ca hc H' s'=>h Ca hc H' (s.trans s')
 | bad=>exact h
theorem RI.bind (h:RI X σ H (r.bind f) Q):RQ X σ H r (fun v H'=>ax H H'/\∃ d,Rep X.K X.mg H' v d/\RI X σ H' (f d) Q):=by
 cases r with
 | ok d=>exact fun v H' s r=>⟨s,d,r,h.mono s⟩
 | ex C=>exact h
 | bad=>exact h
theorem PI.weak (h:PI X tg e t) (w:∀ σ H Q,t' σ H Q->t σ H Q):PI X tg e t':=fun pins s σ H Q I q=>h pins s σ H Q I (w σ H Q q)
theorem B2 (h:SE X e g):SI X tg e (itL g):=PI.weak (DR h) fun σ H Q ⟨δ,hσ,q⟩=>⟨δ,hσ,(RI.bind q).to fun v H' s ⟨_,d,r,q⟩=>by
 cases d with
 | lst ds =>
  cases r with
  | @lst p xs _ hq rs =>
   refine ⟨p,rfl,⟨xs,hq⟩,q _ _ ↥25 fun Hc sc=>⟨fun i d hd => ?_,fun i hi=>⟨xs,sc.seq hq,by rw [rs.length];exact hi⟩⟩⟩
   obtain ⟨v,e1,r1⟩:=rs.get hd
   exact ⟨⟨xs,v,sc.seq hq,e1⟩,fun x H'' ⟨e2,y⟩=>by
    have:=y xs (sc.seq hq)
    rw [e1] at this
    cases this
    exact vJ e2 r1⟩
 | _=>exact False.elim q⟩
theorem KW (h:SE X e g):SI X tg e (itT g):=PI.weak (Hz h) fun σ H Q ⟨δ,hσ,q⟩=>⟨δ,hσ,(RI.bind q).to fun v H' s ⟨_,d,r,q⟩=>by
 cases d with
 | tup ds =>
  cases r with
  | @tup p xs _ hq rs =>
   refine ⟨p,rfl,⟨xs,hq⟩,q _ _ ↥25 fun Hc sc=>⟨fun i d hd => ?_,fun i hi=>⟨xs,iw sc hq,by rw [rs.length];exact hi⟩⟩⟩
   obtain ⟨v,e1,r1⟩:=rs.get hd
   exact ⟨⟨xs,v,iw sc hq,e1⟩,fun x H'' ⟨e2,y⟩=>by
    have:=y xs (iw sc hq)
    rw [e1] at this
    cases this
    exact vJ e2 r1⟩
 | _=>exact False.elim q⟩
end
def FI (X:Cx) (σ:L2.St) (H:Hp) (os:Os) (δ:Dt) (r:R (List D)) (Q:It->Hp->Prop):Prop:=match r with
 | .ok ds=>∀ J H',StO X H' σ δ os->ax ↥27 (hide H' os)->BC X J (hide H' os) ds->Q J H'
 | .ex C=>∀ Ca,X.mg C=some (.ref Ca)->∀ H',ax ↥27 H'->Stt X.K X.mg H' σ (noOwn δ)->ew X Ca σ H'
 | .bad=>False
def tFI (X:Cx) (g:IT):TI:=fun σ H Q=>∃ δ os,StO X H σ δ os/\FI X σ H os δ (g δ) Q
section
variable {X:Cx} {N:List Str} {tg e:Expr} {g:IT}
theorem IJ (hx:X.ex=[]) (h:SI X tg e g):PI X tg e (tFI X g):=by
 intro pins s σ H Q I ⟨δ,os,S,q⟩
 have hl:=S.lsts
 have hw:RI X σ ↥27 (g δ) (fun J H1=>ax ↥27 H1/\∃ ds,g δ=.ok ds/\BC X J H1 ds):=by
  cases r:g δ with
  | ok d=>exact fun v H' s r=>⟨s,d,rfl,r⟩
  | ex C =>
   rw [r] at q
   exact fun Ca hc H' s'=>q Ca hc H' s' (S.noOwn s')
  | bad=>rw [r] at q;exact q
 refine thn (h _ s σ _ _ (og I hl) ⟨δ,S.st,hw⟩) fun v s1 h1=>thn h1 fun itv s2 h2 => ?_
 obtain ⟨it,fp,tn,J,H1,e1,I1,T,st,fpk,sm,ds,e2,wk⟩:=h2
 obtain ⟨I2,hn⟩:=oa hx I hl I1
 rw [e2] at q
 have eh:=iN (H:=H) hn
 refine ⟨it,fp,tn,J,ig H H1 os,e1,I2,T,st,fun b hb => ?_,q J _ (S.shown sm hn) (by rw [eh];exact sm) (by rw [eh];exact wk)⟩
 obtain ⟨f0,f1,f2,f3,f4,f5⟩:=fpk b hb
 have nb:b∉lX os:=fun z=>by
  obtain ⟨xs,hh⟩:=hl b z
  obtain ⟨o,eo⟩:∃ o,s.heap.get? b=some o:=by
   obtain ⟨_,its,n,_,eo⟩:=I.hok b _ hh
   exact ⟨_,eo⟩
  exact f5 (b,o) (List.mem_append_right _ (List.mem_append_right _ (dq z eo))) rfl
 refine ⟨by unfold ig;rw [if_neg nb];exact f0,f1,f2,f3,f4,fun p hp=>f5 p ?_⟩
 rw [<- List.append_assoc]
 exact List.mem_append_left _ hp
variable {body:List Stmt} {gb:S} {pos:Pos}
theorem sI (C:Sx X N) (L:Lp X) (i:Nat) (hN:N[i]? = some x) (hx:Sto X x) (he:SI X (.Name x pos') e g) (hb:SSs X body gb) (hs:∀ x,foldedSetIterable e X.env x=pure x:=by intro _;rfl) :
  SS X (.For (.Name x pos') e body [] pos) (EZ i g gb):=by
 refine PS.weak (Hw L.own L.calm (IJ C.ex he) (ri (i:=i) (by rw [C.sc.n];exact C.sc.nd) (by rw [C.sc.n];exact hN) hx.1 hx.2) hb hs) fun D σ H ⟨δ,os,S,q⟩=>⟨δ,os,S,?_⟩
 unfold EZ ovI at q
 cases r:g δ with
 | ok ds =>
  rw [r] at q
  intro J H1 S1 s1 wk
  refine ⟨fun n m σ' H'=>m=ds.length - n/\n<=ds.length/\Pv X D ↥27 (hide H1 os) i gb ds n σ' H',⟨ds.length,by simp,Nat.zero_le _,δ,os,S1,ax.refl _,s1,by rw [List.drop_zero];exact q⟩,?_⟩
  rintro n m σ' H' ⟨rfl,hn,p⟩
  obtain ⟨δ',os',S',s',s0,q'⟩:=id p
  have w:=wk H' (s'.trans (cx _ _))
  by_cases hlt:n<ds.length
  ·have hd:ds[n]? = some ds[n]:=List.getElem?_eq_getElem hlt
   refine .inr ⟨(w.1 n _ hd).1,Pv X D ↥27 (hide H1 os) i gb ds (n+1),fun σ2 H2 z=>⟨ds.length - (n+1),⋯,rfl,⋯,z⟩,fun x H'' y => ?_⟩
   obtain ⟨e1,r1⟩:=(w.1 n _ hd).2 x H'' y
   have sm:=s'.trans (kU os' e1)
   exact zz hd (S'.mono e1) sm s0 q' (r1 _ sm fun b o z1 z2=>by
    rw [dj fun z=>by obtain ⟨xs,hx⟩:=S'.lsts b z;rw [z2] at hx;cases hx]
    exact z1)
  ·exact .inl ⟨w.2 n ⋯,IU ⋯ p⟩
 | ex C=>rw [r] at q;exact fun Ca hc H' s' st=>q σ H' s' st Ca hc
 | bad=>rw [r] at q;exact q
end
end ES
namespace ES
open PySem PySem.Spec PyProof.Rows L2 EV
unseal SE ST SW SA SS SSs SI
def yU (env:Env):List (Str×NameKind)->List (Str×Addr)->List (Str×Addr)
 | [],cs=>cs
 | (n,k)::r,cs=>yU env r (if k == .free then (n,(env.cells.lookup n).getD 0)::cs else cs)
theorem uT (h:∀ y,(y,NameKind.free)∈sc.names->∃ c,env.cells.lookup y=some c):closureFor sc env=pure (yU env sc.names []):=by
 unfold closureFor
 have key:∀ (l:List (Str×NameKind)) (cs:List (Str×Addr)),(∀ y,(y,NameKind.free)∈l->∃ c,env.cells.lookup y=some c) ->
   (forIn l cs fun x (r:List (Str×Addr))=>(match x with | (name,kind)=>if (kind == NameKind.free)=true then do let a<-cellOf env name;pure (ForInStep.yield ((name,a)::r)) else pure (ForInStep.yield r)):Sem _)=pure (yU env l cs):=by
  intro l
  induction l with
  | nil=>intro cs _;rfl
  | cons p r ih =>
   intro cs hl
   obtain ⟨n,k⟩:=p
   rw [List.forIn_cons]
   by_cases hk:(k == NameKind.free)=true
   ·obtain ⟨c,hc⟩:=hl n (by rw [beq_iff_eq] at hk;subst hk;exact .head _)
    simp only [hk,if_true,cellOf,hc,yU]
    exact ih _ fun y hy=>hl y (.tail _ hy)
   ·simp only [hk,Bool.false_eq_true,if_false,yU]
    exact ih _ fun y hy=>hl y (.tail _ hy)
 simp only [key sc.names [] h]
 rfl
theorem Cb:∀ {l:List (Str×NameKind)} {cs:List (Str×Addr)},(∀ y,(y,NameKind.free)∈l->∃ c,env.cells.lookup y=some c)->(∀ y c,cs.lookup y=some c->env.cells.lookup y=some c)->∀ y c,(yU env l cs).lookup y=some c->env.cells.lookup y=some c
 | [],_,_,h=>h
 | (n,k)::r,cs,hl,h=>by
  refine Cb (l:=r) (fun y hy=>hl y (.tail _ hy)) fun y c e => ?_
  by_cases hk:(k == NameKind.free)=true
  ·rw [if_pos hk,List.lookup_cons] at e
   cases q:(y == n) with
   | true =>
    rw [q] at e
    obtain ⟨c',hc⟩:=hl n (by rw [beq_iff_eq] at hk;subst hk;exact .head _)
    rw [beq_iff_eq] at q
    subst q
    rw [hc] at e ⊢
    simpa using e
   | false=>rw [q] at e;exact h y c e
  ·rw [if_neg hk] at e;exact h y c e
theorem yo:∀ {l:List (Str×NameKind)} {cs:List (Str×Addr)} {y:Str},((y,NameKind.free)∈l\/∃ c,cs.lookup y=some c)->∃ c,(yU env l cs).lookup y=some c
 | [],_,_,h=>h.elim (fun z=>nomatch z) id
 | (n,k)::r,cs,y,h=>by
  refine yo (l:=r) ?_
  rcases h with h | ⟨c,h⟩
  ·rcases List.mem_cons.mp h with z | z
   ·cases z
    exact .inr ⟨_,by rw [if_pos (show (NameKind.free == NameKind.free)=true from rfl),List.lookup_cons,beq_self_eq_true]⟩
   ·exact .inl z
  ·refine .inr ?_
   by_cases hk:(k == NameKind.free)=true
   ·rw [if_pos hk,List.lookup_cons]
    cases q:(y == n) with
    | true=>exact ⟨_,rfl⟩
    | false=>exact ⟨c,h⟩
   ·rw [if_neg hk];exact ⟨c,h⟩
theorem fR (hk:k ≠ .free):sc.names.lookup x=some k->(relabel sc env).names.lookup x=some k:=by
 unfold relabel
 simp only
 generalize sc.names=l
 induction l with
 | nil=>intro h;cases h
 | cons p r ih =>
  obtain ⟨n,k'⟩:=p
  intro h
  rw [List.lookup_cons] at h
  rw [List.map_cons]
  cases q:(x == n) with
  | true =>
   rw [q] at h
   have e:k'=k:=by simpa using h
   subst e
   have:(k' == NameKind.free)=false:=by simpa using hk
   simp [this,List.lookup_cons,q]
  | false =>
   rw [q] at h
   split<;>(rw [List.lookup_cons,q];exact ih h)
theorem jt (hf:env.scope.kind=.function) (hc:env.kindOf x=some .cell):sc.names.lookup x=some .free->(relabel sc env).names.lookup x=some .cell:=by
 unfold relabel
 simp only
 generalize sc.names=l
 induction l with
 | nil=>intro h;cases h
 | cons p r ih =>
  obtain ⟨n,k'⟩:=p
  intro h
  rw [List.lookup_cons] at h
  rw [List.map_cons]
  cases q:(x == n) with
  | true =>
   rw [q] at h
   have e:k'=.free:=by simpa using h
   subst e
   rw [beq_iff_eq] at q
   subst q
   simp [hf,hc,List.lookup_cons]
  | false =>
   rw [q] at h
   split<;>(rw [List.lookup_cons,q];exact ih h)
theorem lZ:(relabel sc env).names.lookup x=some k->sc.names.lookup x=some k\/(sc.names.lookup x=some .free/\k=.cell):=by
 unfold relabel
 simp only
 generalize sc.names=l
 induction l with
 | nil=>intro h;cases h
 | cons p r ih =>
  obtain ⟨n,k'⟩:=p
  intro h
  rw [List.map_cons] at h
  rw [List.lookup_cons]
  cases q:(x == n) with
  | true =>
   split at h
   ·rename_i hc
    rw [List.lookup_cons,q] at h
    have e:NameKind.cell=k:=by simpa using h
    simp only [Bool.and_eq_true,beq_iff_eq] at hc
    exact .inr ⟨by rw [hc.1.1],e.symm⟩
   ·rw [List.lookup_cons,q] at h
    have e:k'=k:=by simpa using h
    exact .inl (by rw [e])
  | false=>split at h<;>(rw [List.lookup_cons,q] at h;exact ih h)
structure ScU (xs ks G:List Str) (sc:Scope):Prop where
 kind:sc.kind=.function
 noc:∀ y∈sc.names,y.2 ≠ .cell
 nms:∀ y∈sc.names,y.2=.local->sc.names.lookup y.1=some .local
 loc:∀ y∈xs,sc.names.lookup y=some .local
 fre:∀ y∈ks,sc.names.lookup y=some .free
 all:∀ y∈sc.names,y.2=.free->y.1∈ks
 glb:∀ y∈G,sc.names.lookup y=some .globalImplicit
 nd:(xs++ks).Nodup
 dbg:∀ y∈xs++ks,(y == ("__debug__":Str))=false/\(y == ("__classdict__":Str))=false
 dbgG:∀ y∈G,(y == ("__debug__":Str))=false/\y≠"__name__"
def cxU (X:Cx) (xs ks:List Str) (sc:Scope) (C:Addr) (fp:List Addr) (s:Shared) (H:Hp) (W:Value->Shared->Prop):Cx :=
 { X with N:=xs++ks,s₀:=s,H₀:=H,env:={ newEnv sc C X.env.globals (yU X.env sc.names []) X.env.qual none .none (some X.env) X.env.builtins with scope:=relabel sc X.env },outer:=X.stack,stack:=X.stack,ex:=fp,fn:=fun _=>false,pn:=[],xe:=W }
theorem Gu (u:Un fs ex H H' h h1) (hC:h.objs.size<=C) (sb:Heap.SameBut C h1 h2):Un fs ex H H' h h2:=by
 have ne:∀ {b:Addr} {o:Obj},h.get? b=some o->b≠C:=fun {b o} e=>Nat.ne_of_lt (Nat.lt_of_lt_of_le (Heap.lt_size e) hC)
 refine ⟨fun b o e n hb hx=>(sb.2 b (ne e)).trans (u.keep b o e n hb hx),fun b o e n hb hx => ?_,u.free,fun b o e hx => ?_,u.tups,u.frzs,u.tbls⟩
 ·obtain ⟨sl,q⟩:=u.slot b o e n hb hx
  exact ⟨sl,(sb.2 b (ne e)).trans q⟩
 ·obtain ⟨o',q⟩:=u.there b o e hx
  exact ⟨o',(sb.2 b (ne e)).trans q⟩
theorem EX (hok:HOk P w H h1) (hC:H C=none) (sb:Heap.SameBut C h1 h2):HOk P w H h2:=fun b u e =>
 (hok b u e).stay (fun c o hc q=>(sb.2 c (fun z=>by
  subst z
  rcases hc with rfl | hc
  ·rw [hC] at e;cases e
  ·rw [hC] at hc;cases hc)).trans q) (fun _ q=>q) fun _ _ q=>q
def NB (prog:Program) (w:World) (A:Around) (env:Env) (R:Result->Shared->Prop):Value->Shared->Prop:=notedBy ↥17 A env fun x s'=>R (.error x) s'
theorem xC {prog:Program} {w:World} {A:Around} {R:Result->Shared->Prop} {s:Shared} {elt target iter:Expr} {ifs:List Expr} {scope:Scope} {pos:Pos} {it acc:Value} {env:Env} (J:Nat->Shared->Prop)
  (turn:∀ n s,J n s->wpAny ↥17 A (pyNext it) (fun r s1=>match r with
   | none=>R (.ok .next) s1
   | some v=>wpAny ↥17 A (letOwnedTupleGo target it v) (fun _ s2=>wpAny ↥17 A (assign target env v) (fun _ s3 =>
     wpAny ↥17 A (forIn ifs true fun c r=>if r=true then do let ok<-isTrue c env (eval c env);pure (ForInStep.yield ok) else pure (ForInStep.yield r)) (fun ok s4 =>
      if ok=true then wpAny ↥17 A (eval elt env) (fun x s5=>wpAny ↥17 A (PySem.call (.builtin "list.append") [acc,x]) (fun _ s6=>∃ m,m<n/\J m s6) (NB prog w A env R) s5) (NB prog w A env R) s4
      else ∃ m,m<n/\J m s4) (NB prog w A env R) s3) (NB prog w A env R) s2) (NB prog w A env R) s1) (NB prog w A env R) s)
  (n:Nat) (h:J n s):codeAny ↥17 A (.compLoop (.ListComp elt [⟨target,iter,ifs,0⟩] scope pos) 0 it acc env) R s:=by
 refine codeAny_loop rfl J (fun n s hJ => ?_) n h
 show wpAny _ _ ((compTurn (.ListComp elt [⟨target,iter,ifs,0⟩] scope pos) 0 it acc env).onRaise fun x=>do
  noteFrame x env
  theTreesLotGoes x) _ _ s
 refine wpAny_noted ?_
 rw [compTurn_list]
 refine wpAny_bind (wpAny_standAt (wpAny_bind (wpAny_mono (turn n s hJ) (fun r s1 h1 => ?_) fun _ _ z=>z)))
 cases r with
 | none=>exact wpAny_pure h1
 | some v =>
  refine wpAny_bind (wpAny_mono h1 (fun _ s2 h2 => ?_) fun _ _ z=>z)
  refine wpAny_bind (wpAny_mono h2 (fun _ s3 h3 => ?_) fun _ _ z=>z)
  refine wpAny_bind (wpAny_mono h3 (fun ok s4 h4 => ?_) fun _ _ z=>z)
  cases ok with
  | true =>
   rw [if_pos rfl] at h4
   simp only [if_true]
   refine wpAny_bind (wpAny_bind (wpAny_mono h4 (fun x s5 h5 => ?_) fun _ _ z=>z))
   exact wpAny_bind (wpAny_mono h5 (fun _ s6 h6=>wpAny_pure (wpAny_pure ⟨rfl,h6⟩)) fun _ _ z=>z)
  | false =>
   rw [if_neg Bool.false_ne_true] at h4
   simp only [Bool.false_eq_true,if_false]
   first
    | exact wpAny_pure ⟨rfl,h4⟩
    | exact wpAny_bind (wpAny_pure (wpAny_pure ⟨rfl,h4⟩))
def dG (M:Model) (A:Around) (E:Value->Shared->Prop) (use:Option (Value->Sem Unit)) (Q:Value->Shared->Prop) (acc:Value) (C:Addr) (fr:Option Addr) (r:Result) (s':Shared):Prop :=
 match r,use with
 | .ok _,none=>∃ m,s'.heap.Ns C m/\∀ h',Heap.SameBut C s'.heap h'->Q acc { s' with heap:=h' }
 | .ok _,some u=>wpAny M A (u acc) (fun _ s''=>∃ m,s''.heap.Ns C m/\∀ h',Heap.SameBut C s''.heap h'->Q .none { s'' with heap:=h' }) E s'
 | .error x,_=>∃ m,s'.heap.Ns C m/\∀ h',Heap.SameBut C s'.heap h'->∀ cenv:Env,cenv.frame=fr->wpAny M A (passOn "comprehension.variables-let-go" x cenv:Sem Value) (fun _ _=>False) E { s' with heap:=h' }
theorem lg {M:Model} {A:Around} {E:Value->Shared->Prop} {s:Shared} {env:Env} {e:Expr} {scope:Scope} {pos:Pos} {newAcc first:Sem Value} {g:Comprehension} {gs:List Comprehension} {cl:List (Str×Addr)} {use:Option (Value->Sem Unit)}
  {Q:Value->Shared->Prop}
  (hcl:clausesOf e=g::gs) (hs:∀ x,foldedSetIterable g.iter env x=pure x) (hclos:closureFor scope env=pure cl)
  (hkind:scope.kind=.function) (hnames:∀ x∈scope.names,x.2=.local->scope.names.lookup x.1=some .local)
  (h:wpAny M A first (fun x s₁=>wpAny M A (pyIter x) (fun it s₂=>wpAny M A newAcc (fun acc s₃ =>
   wpAny M A (newFunctionEnv scope env.globals cl [] env.qual none .none (some env)) (fun cenv s₄=>cenv.frame=env.frame /\
    codeAny M A (.compStart e 0 it acc { cenv with scope:=relabel scope env }) (dG M A E use Q acc cenv.locals env.frame) s₄) E s₃) E s₂) E s₁) E s) :
  wpAny M A (comprehension e scope env pos newAcc false first use) Q E s:=by
 unfold comprehension
 rw [hclos,hcl]
 refine wpAny_bind (wpAny_mono h (fun x s₁ h₁=>wpAny_bind (wpAny_standAt (wpAny_bind (wpAny_of_eq (hs x) (wpAny_bind (wpAny_holding (wpAny_mono h₁ (fun it s₂ h₂ =>
  wpAny_standIf (wpAny_bind (wpAny_mono h₂ (fun acc s₃ h₃=>wpAny_bind (wpAny_pure (wpAny_bind (wpAny_mono h₃ (fun cenv s₄ h₄ => ?_) fun _ _ h'=>h')))) fun _ _ h'=>h')))
   fun _ _ h'=>h'))))))) fun _ _ h'=>h')
 obtain ⟨hfr,h₄⟩:=h₄
 dsimp only
 have hv:∀ x∈(scope.names.filter fun x=>(x.2 == .local||x.2 == .cell)&&x.1 != (".0":Str)).reverse,x.2=.local ->
   Env.kindOf { cenv with scope:=relabel scope env } x.1=some .local:=fun x hx hl=>lookup_relabel_local (hnames x (List.mem_filter.mp (List.mem_reverse.mp hx)).1 hl)
 have hv':∀ x∈(scope.names.filter fun x=>(x.2 == .local||x.2 == .cell)&&x.1 != (".0":Str)).reverse.drop 1++(scope.names.filter fun x=>(x.2 == .local||x.2 == .cell)&&x.1 != (".0":Str)).reverse.take 1,
   x.2=.local->Env.kindOf { cenv with scope:=relabel scope env } x.1=some .local:=fun x hx hl=>by
  rcases List.mem_append.mp hx with h1 | h1
  ·exact hv x (List.mem_of_mem_drop h1) hl
  ·exact hv x (List.mem_of_mem_take h1) hl
 refine wpAny_holding (wpAny_bind (wpAny_attempt (wpAny_holding (wpAny_run (codeAny_mono h₄ fun r s' hr => ?_)))))
 cases r with
 | ok f =>
  cases use with
  | none =>
   obtain ⟨m,hn,hr⟩:=hr
   exact wpAny_bind (wpAny_holding (wpAny_comp_letGo (cenv:={ cenv with scope:=relabel scope env }) hkind _ s' m hv hn fun h' m' _ hs'=>wpAny_pure (hr h' hs')))
  | some u =>
   refine wpAny_bind (wpAny_rule (wpAny_bind (wpAny_holding (wpAny_mono hr (fun _ s'' hr' => ?_) fun _ _ h'=>h'))))
   obtain ⟨m,hn,hr'⟩:=hr'
   exact wpAny_bind (wpAny_comp_letGo (cenv:={ cenv with scope:=relabel scope env }) hkind _ s'' m hv' hn fun h' m' _ hs'=>wpAny_pure (hr' h' hs'))
 | error x =>
  have hr':∃ m,s'.heap.Ns cenv.locals m/\∀ h',Heap.SameBut cenv.locals s'.heap h'->∀ cenv':Env,cenv'.frame=env.frame->wpAny M A (passOn "comprehension.variables-let-go" x cenv':Sem Value) (fun _ _=>False) E { s' with heap:=h' }:=by cases use<;>exact hr
  obtain ⟨m,hn,hr⟩:=hr'
  exact wpAny_bind (wpAny_holding (wpAny_comp_letGo (cenv:={ cenv with scope:=relabel scope env }) hkind _ s' m hv hn fun h' m' _ hs'=>wpAny_mono (hr h' hs' _ hfr) (fun _ _ f=>f.elim) fun _ _ y=>y))
theorem wj {st:D->R (Option D)} {l:List D} {d:D} {r1:List D} {o:Option D} (h1:runC st l=.ok r1) (h2:st d=.ok o):runC st (l++[d])=.ok (r1++o.toList):=by
 induction l generalizing r1 with
 | nil =>
  cases h1
  rw [List.nil_append]
  unfold runC
  rw [h2]
  cases o<;>rfl
 | cons x l ih =>
  rw [List.cons_append]
  unfold runC at h1 ⊢
  cases q:st x with
  | ok o' =>
   rw [q] at h1
   simp only [R.bind] at h1 ⊢
   cases q2:runC st l with
   | ok r =>
    rw [q2] at h1
    rw [ih q2]
    cases o'<;>(cases h1;rfl)
   | ex C=>rw [q2] at h1;cases h1
   | bad=>rw [q2] at h1;cases h1
  | ex C=>rw [q] at h1;cases h1
  | bad=>rw [q] at h1;cases h1
theorem j8 (h:sV r=.ex C):False:=by cases r<;>cases h
theorem xg (h:sV r=.ok a):r=.ok a:=by
 cases r with
 | ok x=>exact h
 | ex C=>cases h
 | bad=>cases h
theorem qV {st:D->R (Option D)} {d:D} {l2:List D}:∀ {l1 r1:List D},runC st l1=.ok r1->(st d=.bad->runC st (l1++d::l2)=.bad)/\∀ C,st d=.ex C->runC st (l1++d::l2)=.ex C
 | [],_,_=>⟨fun e=>by rw [List.nil_append];unfold runC;rw [e];rfl,fun C e=>by rw [List.nil_append];unfold runC;rw [e];rfl⟩
 | a::l1,r1,h=>by
  unfold runC at h
  cases q:st a with
  | ok o =>
   rw [q] at h
   simp only [R.bind] at h
   cases q2:runC st l1 with
   | ok r =>
    obtain ⟨i1,i2⟩:=qV (d:=d) (l2:=l2) q2
    refine ⟨fun e => ?_,fun C e => ?_⟩
    ·rw [List.cons_append];unfold runC;rw [q,i1 e];rfl
    ·rw [List.cons_append];unfold runC;rw [q,i2 C e];rfl
   | ex C=>rw [q2] at h;cases h
   | bad=>rw [q2] at h;cases h
  | ex C=>rw [q] at h;cases h
  | bad=>rw [q] at h;cases h
theorem md:∀ {a:List D} {r:D},D.flats a=true->D.flat r=true->D.flats (a++[r])=true
 | [],r,_,h=>by show (D.flat r&&D.flats [])=true;rw [h];rfl
 | x::a,r,h,hr=>by
  have h':D.flat x=true/\D.flats a=true:=by simpa [D.flats] using h
  show (D.flat x&&D.flats (a++[r]))=true
  rw [h'.1,md h'.2 hr]
  rfl
def stG (pt:D->Option (List D)) (c elt:E) (ks:List Nat) (δ:Dt) (d:D):R (Option D):=match pt d with
 | some xs=>(sV (c (xs.map some++ks.map fun k=>δ.getD k none))).bind fun b=>truth b ((elt (xs.map some++ks.map fun k=>δ.getD k none)).bind fun r=>if D.flat r=true then .ok (some r) else .bad) (.ok none)
 | none=>.bad
theorem Dp (h:EV.R.bad≠stG pt c elt ks δ d):∃ xs k,pt d=some xs/\c (xs.map some++ks.map fun k=>δ.getD k none)=.ok (.bl k) /\
  ((k=true/\stG pt c elt ks δ d=(elt (xs.map some++ks.map fun k=>δ.getD k none)).bind fun r=>if D.flat r=true then .ok (some r) else .bad)\/(k=false/\stG pt c elt ks δ d=.ok none)):=by
 unfold stG at h ⊢
 cases e:pt d with
 | none=>rw [e] at h;exact absurd rfl h
 | some xs =>
  rw [e] at h
  simp only at h ⊢
  cases q:sV (c (xs.map some++ks.map fun k=>δ.getD k none)) with
  | ok b =>
   have q':=xg q
   rw [q] at h
   simp only [R.bind] at h ⊢
   cases b with
   | bl k =>
    refine ⟨xs,k,rfl,q',?_⟩
    cases k with
    | true=>exact .inl ⟨rfl,rfl⟩
    | false=>exact .inr ⟨rfl,rfl⟩
   | _=>exact absurd rfl h
  | ex C=>exact (j8 q).elim
  | bad=>rw [q] at h;exact absurd rfl h
def Put (σ:L2.St) (vs:List V) (σ':L2.St):Prop:=σ'.length=σ.length/\(∀ (j:Nat) (v:V),vs[j]? = some v->σ'[j]? = some (some v))/\∀ j:Nat,vs.length<=j->σ'[j]? = σ[j]?
structure Tgt (X:Cx) (n:Nat) (pt:D->Option (List D)) (gT:TG):Prop where
 len:∀ d xs,pt d=some xs->xs.length=n
 put:∀ {d:D} {xs:List D} {v:V} {σ:L2.St} {H:Hp} {Q:L2.St->Hp->Prop},pt d=some xs->Rep X.K X.mg H v d->n<=σ.length->(∀ vs σ',Reps X.K X.mg H vs xs->Put σ vs σ'->Q σ' H)->gT v σ H Q
inductive Tst (X':Cx):List Expr->E->Prop
 | nil:Tst X' [] (con ↥24)
 | one {c:Expr} {g:E}:ST X' c g->Tst X' [c] g
theorem C2 {X':Cx} {ifs:List Expr} {g:E} (h:Tst X' ifs g) {pins:List ↥12} {s:Shared} {σ:L2.St} {H:Hp} {δ:Dt} {k:Bool} (I:Inv X' pins σ H s) (hσ:Stt X'.K X'.mg H σ δ) (hg:g δ=.ok (.bl k)) {E:Value->Shared->Prop} (hE:∀ e s,X'.xe e s->E e s) :
  wpAny (model X'.prog X'.w) X'.A (forIn ifs true fun c r=>if r=true then do let ok<-isTrue c X'.env (eval c X'.env);pure (ForInStep.yield ok) else pure (ForInStep.yield r)) (fun ok s'=>ok=k/\∃ H',Inv X' pins σ H' s'/\ax H H') E s:=by
 cases h with
 | nil=>cases hg;exact wpAny_tests_nil ⟨rfl,H,I,ax.refl _⟩
 | one h =>
  refine wpAny_mono (wpAny_tests_one (E:=X'.xe) (thn (h pins s σ H (fun b H'=>b=k/\ax H H') I ⟨δ,hσ,?_⟩) fun b s' ⟨H',I',e,sm⟩=>⟨e,H',I',sm⟩)) (fun _ _ x=>x) hE
  rw [hg]
  exact fun H' sm=>⟨rfl,sm⟩
theorem IM {base h h':Heap}:∀ {l:List Env},h.FunFrames base l->(∀ b∈frs l,h'.get? b=h.get? b)->h'.FunFrames base l
 | [],_,_=>trivial
 | env::r,⟨hk,⟨L,o,hf,hn,ho,hd⟩,hr⟩,k=>by
  have e:frs (env::r)=L::frs r:=by unfold frs;rw [List.filterMap_cons,hf]
  rw [e] at k
  exact ⟨hk,⟨L,o,hf,hn,(k L (.head _)).trans ho,hd⟩,IM hr fun b hb=>k b (.tail _ hb)⟩
theorem Bd {X:Cx} (O:Own X) {xs ksn:List Str} {sc:Scope} {fp:List Addr} {WW:Value->Shared->Prop} {pins pins':List ↥12} {σ σ6:L2.St} {H3 Hx H':Hp} {s3 sx s':Shared} {ea Ca:Addr} {use:Option (Value->Sem Unit)} {Qf:Value->Shared->Prop} {acc:Value} {cenv:Env}
  (I3:Inv X pins σ H3 s3) (f3:∀ b∈fp,vo X pins H3 b) (hcf:cenv.frame=X.env.frame) (Ix:Inv ↥13 pins' σ6 Hx sx) (FX:FlyX X.prog X.w X.stack Hx sx Ca H' ea s')
  (kx:∀ b u,H3 b=some u->∃ u',H' b=some u') (hx:∀ ea s',HeldX X pins σ Ca H' ea s'->X.xe (.ref ea) s') :
  NB X.prog X.w X.A cenv (dG ↥6 X.A X.xe use Qf acc s3.heap.objs.size X.env.frame) (.ref ea) s':=by
 have en:noteFrame (.ref ea) cenv=noteFrame (.ref ea) X.env:=by unfold noteFrame PySem.frameOf;rw [hcf]
 unfold NB notedBy
 rw [en]
 obtain ⟨a0,B,hfl,i1,i2⟩:=FX.fly
 have Iy:Inv ↥13 pins' σ6 H' s':=xZ Ix FX
 have ff:=rQ hfl.2.2.1
 rw [O.stk] at hfl
 refine wpAny_looks_onW (by rw [I3.ok.frames,O.stk]) O.frm hfl fun h4 held up => ?_
 have IX:Inv X pins σ Hx sx:=I3.call' (s':=sx) (ch:=fp) Ix.os Ix.base Ix.hok Ix.bare fun b hb=>⟨(f3 b hb).2.2.2.1,(f3 b hb).2.1,(f3 b hb).2.2.2.2.1,(f3 b hb).2.2.2.2.2⟩
 obtain ⟨m,⟨oC,es,ep,hoC,rC⟩,_⟩:=Ix.loc
 have hoC:sx.heap.get? s3.heap.objs.size=some oC:=hoC
 have nfr:s3.heap.objs.size∉frs X.stack:=fun z=>by
  rw [O.frs] at z
  rcases List.mem_cons.mp z with q | q
  ·exact absurd I3.lt (by rw [<- q];exact Nat.lt_irrefl _)
  ·exact I3.nofs (Nat.le_refl _) q
 have hBC:B.get? s3.heap.objs.size=some oC:=i1 _ _ hoC Ix.free nfr
 have h4C:h4.get? s3.heap.objs.size=some oC:=held.1 _ _ hBC
 refine ⟨m,⟨oC,es,ep,h4C,rC⟩,fun h5 sb5 cenv' hcf' => ?_⟩
 have kB:(PySem.W.hideAll B [s3.heap.objs.size]).StaysIn B:=fun b o e=>PySem.W.of_hideAll _ e
 have held':=PySem.W.heldW_base kB held
 have st4:∀ b o,(PySem.W.hideAll B [s3.heap.objs.size]).get? b=some o->b≠s3.heap.objs.size:=fun b o e z=>by
  rw [z,PySem.W.hideAll_none _ (by simp)] at e
  cases e
 obtain ⟨_,hne,hff,oe,vs,T,oT,ts,he,hcls,hd,h1,hnT,hTe,hT,hdT,h3⟩:=held
 have neC:∀ b,B.get? b=none->b≠s3.heap.objs.size:=fun b e z=>by rw [z,hBC] at e;cases e
 have he5:h5.get? ea=some oe:=(sb5.2 _ (neC _ hne)).trans he
 have hT5:h5.get? T=some oT:=(sb5.2 _ (neC _ hnT)).trans hT
 have hsz3:3<ts.size:=(Array.getElem?_eq_some_iff.mp h3).1
 unfold PySem.passOn
 refine wpAny_bind (wpAny_field he5 hd h1 ?_)
 rw [if_neg (by simp)]
 show wpAny _ _ (setFlight (.ref ea) cenv'.frame >>= _) _ _ _
 refine wpAny_bind ?_
 unfold setFlight
 refine wpAny_bind (wpAny_field he5 hd h1 ?_)
 rw [if_pos (show (Value.ref T != Value.none)=true from by simp),hcf',O.frm]
 refine wpAny_setField hT5 hdT hsz3 ?_
 refine wpAny_throw (hx ea _ ?_)
 have other:∀ b,b≠T->(h5.update T (Obj.mapFields (·.setIfInBounds 3 ((some X.env.locals).elim Value.none fun f=>rawInt f)))).get? b=h5.get? b:=fun b hb=>Heap.get?_update_other _ _ (Ne.symm hb)
 have hT6:=Heap.get?_update_self (Obj.mapFields (·.setIfInBounds 3 ((some X.env.locals).elim Value.none fun f=>rawInt f))) hT5 (Obj.isFreed_of_fields (Obj.data_mapFields hdT _))
 generalize h5.update T (Obj.mapFields (·.setIfInBounds 3 ((some X.env.locals).elim Value.none fun f=>rawInt f)))=h6 at other hT6 ⊢
 have k46:∀ b,b≠T->b≠s3.heap.objs.size->h6.get? b=h4.get? b:=fun b q1 q2=>(other b q1).trans (sb5.2 b q2)
 have st6:(PySem.W.hideAll B [s3.heap.objs.size]).StaysIn h6:=fun b o e=>by
  rw [k46 b (fun z=>by rw [z] at e;have:=kB _ _ e;rw [hnT] at this;cases this) (st4 b o e)]
  exact held'.1 b o e
 have i2':∀ b u o,H' b=some u->s'.heap.get? b=some o->(PySem.W.hideAll B [s3.heap.objs.size]).get? b=some o:=fun b u o e q=>PySem.W.hideAll_get _ (i2 b u o e q) fun z=>by
  have z':b=s3.heap.objs.size:=by simpa using z
  rw [z'] at e
  have:H' s3.heap.objs.size=none:=Iy.free
  rw [this] at e
  cases e
 have i1':∀ b o,s3.heap.get? b=some o->H3 b=none->b∉frs X.stack->b∉fp->(PySem.W.hideAll B [s3.heap.objs.size]).get? b=some o:=fun b o e n hb hp=>PySem.W.hideAll_get _ (i1 b o (Ix.base.keep b o e n hb hp) (Ix.base.free b o e n hp) hb) fun z=>by
  have z':b=s3.heap.objs.size:=by simpa using z
  exact absurd (Heap.lt_size e) (by rw [z'];exact Nat.lt_irrefl _)
 have u6:Un (frs X.stack) fp H3 H' s3.heap h6:=by
  have u:=Iy.base
  have slot:∀ b o,s3.heap.get? b=some o->H3 b=none->b∈frs X.stack->b∉fp->∃ sl,h6.get? b=some { o with slots:=sl }:=fun b o e n hb hp=>by
   obtain ⟨sl,e1⟩:=u.slot b o e n hb hp
   obtain ⟨sl2,e2⟩:=up b _ e1 (ff b hb _ e1)
   refine ⟨sl2,?_⟩
   rw [k46 b (fun z => ?_) (fun z=>nfr (z▸hb))]
   ·exact e2
   ·have:=rQ hff b (by rw [<- O.stk];exact hb) oT (by rw [z];exact hT) ts
    exact this hdT
  refine ⟨fun b o e n hb hp=>st6 b o (i1' b o e n hb hp),slot,u.free,fun b o e hp => ?_,u.tups,u.frzs,u.tbls⟩
  cases n:H3 b with
  | none =>
   by_cases hb:b∈frs X.stack
   ·obtain ⟨sl,e2⟩:=slot b o e n hb hp
    exact ⟨_,e2⟩
   ·exact ⟨o,st6 b o (i1' b o e n hb hp)⟩
  | some x =>
   obtain ⟨o',e1⟩:=u.there b o e hp
   obtain ⟨x',n'⟩:=kx b x n
   exact ⟨o',st6 b o' (i2' b x' o' n' e1)⟩
 refine ⟨I3.call' (s':={ s' with heap:=h6 }) (ch:=fp) Iy.os u6 (jm Iy.hok i2' st6) Iy.bare fun b hb=>⟨(f3 b hb).2.2.2.1,(f3 b hb).2.1,(f3 b hb).2.2.2.2.1,(f3 b hb).2.2.2.2.2⟩,?_,a0,PySem.W.hideAll B [s3.heap.objs.size],?_,fun b o e n hb => ?_,sZ Iy.hok i2' st6⟩
 ·exact xh IX O FX.new
 ·rw [O.stk]
  have nT:∀ b∈frs (X.env::X.outer),h6.get? b=h4.get? b:=fun b hb=>k46 b (fun z=>rQ hff b hb oT (by rw [z];exact hT) ts hdT) (fun z=>nfr (by rw [O.stk];exact z▸hb))
  exact ⟨st6,held'.2.1,IM held'.2.2.1 nT,oe,vs,T,_,_,(k46 ea (Ne.symm hTe) (neC _ hne)).trans he,hcls,hd,h1,PySem.W.fresh_of_stays kB hnT,hTe,hT6,Obj.data_mapFields hdT _,by simp [hsz3]⟩
 ·exact PySem.W.hideAll_get _ (iT IX O i1 b o e n hb) fun z=>by
   have z':b=s3.heap.objs.size:=by simpa using z
   exact absurd (Nat.lt_of_lt_of_le (Heap.lt_size e) I3.sz) (by rw [z'];exact Nat.lt_irrefl _)
section
variable {X:Cx}
set_option maxHeartbeats 2000000 in
theorem p5 (hc:X.calm=true) {N:List Str} (S:Sc X N) {xs ksn G:List Str} {ks:List Nat} {tg elt iter:Expr} {ifs:List Expr} {pos ps:Pos} {sc:Scope} {git:IT} {gc ge:E} {pt:EV.D->Option (List EV.D)} {gT:TG} (SC:ScU xs ksn G sc)
  (hks:ks.map (fun k=>N.getD k "")=ksn) (hlt:∀ k∈ks,k<N.length) (hcell:∀ y∈ksn,X.env.scope.names.lookup y=some .cell)
  (he:SI X tg iter git) (TT:Tgt X xs.length pt gT)
  (htg:∀ C fp s H W,Sc ↥8 (xs++ksn)->(∀ y∈xs,(cxU X xs ksn sc C fp s H W).env.scope.names.lookup y=some .local)->PG ↥8 tg gT)
  (htst:∀ C fp s H W,Sc ↥8 (xs++ksn)->(∀ y∈G,Gb ↥8 y)->Tst ↥8 ifs gc)
  (helt:∀ C fp s H W,Sc ↥8 (xs++ksn)->(∀ y∈G,Gb ↥8 y)->SE ↥8 elt ge)
  (hs:∀ z,foldedSetIterable iter X.env z=pure z) {use:Option (Value->Sem Unit)} {Qf:Value->Shared->Prop}
  {pins:List ↥12} {s:Shared} {σ:L2.St} {H:Hp} {δ:Dt} (I:Inv X pins σ H s) (hσ:Stt X.K X.mg H σ δ)
  (hgit:∀ C,git δ=.ex C->∀ Ca,X.mg C=some (.ref Ca)->∀ H',ax H H'->ew X Ca σ H')
  {ds:List EV.D} (hds:git δ ≠ .bad) (hds':∀ ds',git δ=.ok ds'->ds'=ds/\ds.length<=100000/\runC (stG pt gc ge ks δ) ds ≠ .bad/\∀ rs,runC (stG pt gc ge ks δ) ds=.ok rs->EV.D.flats rs=true)
  (hex:∀ C Ca,runC (stG pt gc ge ks δ) ds=.ex C->X.mg C=some (.ref Ca)->∀ H',ax H H'->∀ ea s',HeldX X pins σ Ca H' ea s'->X.xe (.ref ea) s') (hO:(∃ C,runC (stG pt gc ge ks δ) ds=.ex C)->Own X)
  (hfin:∀ (s1:Shared) (Hc:Hp) (D C:Addr) (ys:List V) (rs:List EV.D),git δ=.ok ds->runC (stG pt gc ge ks δ) ds=.ok rs->EV.D.flats rs=true->H D=none->Hc D=some (.lst ys)->Reps X.K X.mg Hc ys rs->ax H Hc ->
   vo X pins Hc C->Inv X pins σ Hc s1->(∃ m,s1.heap.Ns C m)->(∀ h',Heap.SameBut C s1.heap h'->Inv X pins σ Hc { s1 with heap:=h' })->dG ↥6 X.A X.xe use Qf (.ref D) C X.env.frame (.ok .next) s1) :
  wpAny ↥6 X.A (comprehension (.ListComp elt [⟨tg,iter,ifs,0⟩] sc pos) sc X.env ps (newList []) false (eval iter X.env) use) Qf X.xe s:=by
 have lenks:ksn.length=ks.length:=by rw [<- hks,List.length_map]
 have atk:∀ (j:Nat) (y:Str),ksn[j]? = some y->∃ k,ks[j]? = some k/\N[k]? = some y:=fun j y e=>by
  rw [<- hks,List.getElem?_map] at e
  cases q:ks[j]? with
  | none=>rw [q] at e;cases e
  | some k =>
   rw [q] at e
   have e':N.getD k ""=y:=Option.some.inj e
   have hk:=hlt k (List.mem_of_getElem? q)
   exact ⟨k,rfl,by rw [<- e',List.getD_eq_getElem?_getD,List.getElem?_eq_getElem hk];rfl⟩
 have frec:∀ y,(y,NameKind.free)∈sc.names->∃ c,X.env.cells.lookup y=some c:=fun y hy=>I.ok.has y (.inl (hcell y (SC.all _ hy rfl)))
 refine lg (use:=use) rfl hs (uT frec) SC.kind SC.nms ?_
 have sub:∀ y c,(yU X.env sc.names []).lookup y=some c->X.env.cells.lookup y=some c:=Cb frec fun y c e=>nomatch e
 have hq:RI X σ H (git δ) (fun J H'=>ax H H'/\∃ ds,git δ=.ok ds/\BC X J H' ds):=by
  cases r:git δ with
  | ok ds=>exact fun J H' s w=>⟨s,ds,rfl,w⟩
  | ex C=>exact hgit C r
  | bad=>exact absurd r hds
 refine thn (he pins s σ H _ I ⟨δ,hσ,hq⟩) fun v s1 h1=>thn h1 fun itv s2 h2 => ?_
 obtain ⟨it,fp,tn,J,H2,e,I2,T,st2,f2,sm2,ds',eds,wk⟩:=h2
 subst e
 obtain ⟨eq0,hz,nbad,hfl⟩:=hds' ds' eds
 rw [eq0] at eds wk
 have hσ2:Stt X.K X.mg H2 σ δ:=hσ.mono sm2
 refine wpAny_newList ?_ (Nat.zero_le _)
 have I3:Inv X pins σ (upd H2 s2.heap.objs.size (.lst [])) { s2 with heap:=s2.heap.push { cls:=.type "list",data:=.seq ([]:List Value).toArray } }:=I2.lnew (t':=s2.toks) .nil (Nat.zero_le _)
 have hnew:H2 s2.heap.objs.size=none:=I2.fresh
 have sm3:ax H2 (upd H2 s2.heap.objs.size (.lst [])):=bb hnew _
 generalize hD:s2.heap.objs.size=D at *
 generalize hH3:upd H2 D (.lst [])=H3 at *
 have hD3:H3 D=some (.lst []):=by rw [<- hH3];exact bq
 have keep3:∀ b o,s2.heap.get? b=some o->(s2.heap.push { cls:=.type "list",data:=.seq ([]:List Value).toArray }).get? b=some o:=fun b o q=>Heap.get?_push_of_some _ q
 have st3:tn 0 (s2.heap.push { cls:=.type "list",data:=.seq ([]:List Value).toArray }):=T.keep 0 _ _ st2 fun b _ o q=>keep3 b o q
 have ne3:∀ b∈fp,b≠D:=fun b hb z=>by
  obtain ⟨o,e,_⟩:=T.obj 0 _ st2 b hb
  exact absurd (Heap.lt_size e) (by rw [z,<-hD];exact Nat.lt_irrefl _)
 have f3:∀ b∈fp,vo X pins H3 b:=fun b hb=>⟨by rw [<- hH3,aW (ne3 b hb)];exact (f2 b hb).1,(f2 b hb).2⟩
 generalize hs3:({ s2 with heap:=s2.heap.push { cls:=.type "list",data:=.seq ([]:List Value).toArray } }:Shared)=s3 at *
 have st3':tn 0 s3.heap:=by rw [<- hs3];exact st3
 refine wpAny_newFunctionEnv SC.noc (fun y z=>nomatch z) (fun h4 ns4 sb4=>⟨rfl,?_⟩) SC.kind
 generalize hWW:NB X.prog X.w X.A (cxU X xs ksn sc s3.heap.objs.size fp s3 H3 (fun _ _=>False)).env (dG ↥6 X.A X.xe use Qf (.ref D) s3.heap.objs.size X.env.frame)=WW
 have kp4:∀ b o,s3.heap.get? b=some o->h4.get? b=some o:=fun b o q=>by
  rw [sb4.2 b (Nat.ne_of_lt (Heap.lt_size q))]
  exact Heap.get?_push_of_some _ q
 have nst:∀ b∈fp,b∉frs X.stack:=fun b hb z=>by
  rcases List.mem_cons.mp (I3.stkSub b z) with q | q
  ·exact (f3 b hb).2.1 q
  ·exact (f3 b hb).2.2.1 q
 have neC:∀ b∈fp,b≠s3.heap.objs.size:=fun b hb=>by
  obtain ⟨ob,e,_⟩:=T.obj 0 _ st3' b hb
  exact Nat.ne_of_lt (Heap.lt_size e)
 have fpcl:∀ b∈fp,∀ y c,(yU X.env sc.names []).lookup y=some c->c≠b:=fun b hb y c e=>(f3 b hb).2.2.2.2.1 y c (sub y c e)
 have ok4:(cxU X xs ksn sc s3.heap.objs.size fp s3 H3 WW).Ok:=by
  have o:=I3.ok
  refine ⟨o.mod,SC.kind,o.glob,o.blt,Nat.le_refl _,fun y z c e1 e2=>o.inj y z c (sub y c e1) (sub z c e2),fun y hy => ?_,fun y c z e=>absurd z Bool.false_ne_true,o.hd,o.frames,.inl rfl,fun b hb=>⟨neC b hb,fpcl b hb⟩,I3.bs,Nat.le_trans o.bsz I3.sz,fun b ob e hb => ?_,fun b hb=>nst b hb,I3.stack,I3.stkFree⟩
  ·have hy:(relabel sc X.env).names.lookup y=some .cell\/(relabel sc X.env).names.lookup y=some .free:=hy
   have hf:sc.names.lookup y=some .free:=by
    rcases hy with hy | hy
    ·rcases lZ hy with q | ⟨q,_⟩
     ·exact absurd rfl (SC.noc _ (PySem.mem_of_lookup q))
     ·exact q
    ·rcases lZ hy with q | ⟨_,q⟩
     ·exact q
     ·cases q
   exact yo (.inl (PySem.mem_of_lookup hf))
  ·rcases (f3 b hb).2.2.2.1 with q | q
   ·exact o.noex b ob e q
   ·exact absurd (Heap.lt_size (o.bs b ob e).1) (Nat.not_lt.mpr q)
 have fun4:X.env.scope.kind=.function:=I3.ok.kind
 have S4:Sc ↥13 (xs++ksn):=by
  refine ⟨rfl,SC.nd,fun y hy => ?_,SC.dbg⟩
  rcases List.mem_append.mp hy with z | z
  ·exact .inl (fR ↥3 (SC.loc y z))
  ·exact .inr (.inl (jt fun4 (hcell y z) (SC.fre y z)))
 have G4:∀ y∈G,Gb ↥13 y:=fun y hy=>⟨fR ↥3 (SC.glb y hy),(SC.dbgG y hy).1,(SC.dbgG y hy).2⟩
 have E4:=helt s3.heap.objs.size fp s3 H3 WW S4 G4
 have T4:=htst s3.heap.objs.size fp s3 H3 WW S4 G4
 have P4:=htg s3.heap.objs.size fp s3 H3 WW S4 fun y hy=>fR ↥3 (SC.loc y hy)
 have hCn:H3 s3.heap.objs.size=none:=I3.fresh
 have hσ3:Stt X.K X.mg H3 σ δ:=hσ2.mono sm3
 have lenσ3:σ.length=N.length:=by rw [I3.len,S.n]
 have I4:Inv ↥13 [] (List.replicate xs.length none++ks.map fun k=>σ.getD k none) H3 { s3 with heap:=h4,toks:=s3.toks+([]:List (Str×Value)).length }:=by
  refine ⟨ok4,rfl,I3.bare,Un.kept kp4,⟨_,ns4,fun j y v e1 e2 e3 => ?_⟩,fun y c e => ?_,hCn,fun y c e=>I3.freeC y c (sub y c e),fun p hp=>absurd (show p∈([]:List ↥12) from hp) (by simp),I3.hok.kept kp4,by show _=(xs++ksn).length;rw [List.length_append,List.length_append,List.length_replicate,List.length_map,lenks]⟩
  ·by_cases hj:j<xs.length
   ·rw [List.getElem?_append_left (by rw [List.length_replicate];exact hj),List.getElem?_replicate,if_pos hj] at e2
    cases e2
   ·have e1:(xs++ksn)[j]? = some y:=e1
    rw [List.getElem?_append_right ⋯] at e1
    rw [List.getElem?_append_right (by rw [List.length_replicate];omega),List.length_replicate] at e2
    generalize j - xs.length=j at e1 e2
    have e1':ksn[j]? = some y:=e1
    obtain ⟨k,ek,eN⟩:=atk j y e1'
    rw [List.getElem?_map,ek] at e2
    have e2':σ.getD k none=some v:=Option.some.inj e2
    have eσ:σ[k]? = some (some v):=by
     rw [List.getD_eq_getElem?_getD] at e2'
     cases q:σ[k]? with
     | none=>rw [q] at e2';cases e2'
     | some o=>rw [q] at e2';have:o=some v:=e2';rw [this]
    have hy:=List.mem_of_getElem? e1'
    have hyc:=hcell y hy
    obtain ⟨m',hn',hl'⟩:=I3.loc
    obtain ⟨u,ru,lu⟩:=hl' k y v (by rw [S.n];exact eN) eσ (.inr (.inl hyc))
    refine ⟨u,ru,?_⟩
    rcases lu with ⟨k1,_⟩ | ⟨_,c,hcc,ic⟩
    ·have:(some NameKind.local)=some .cell:=k1.symm.trans hyc
     cases this
    ·obtain ⟨c',hc'⟩:=yo (env:=X.env) (cs:=[]) (.inl (PySem.mem_of_lookup (SC.fre y hy)))
     have:c'=c:=by have:=sub y c' hc';rw [hcc] at this;exact (Option.some.inj this).symm
     subst this
     obtain ⟨oc,hoc,hd⟩:=ic
     exact .inr ⟨.inl (jt fun4 hyc (SC.fre y hy)),c',hc',oc,kp4 _ _ hoc,hd⟩
  ·obtain ⟨v,oc,hoc,hd⟩:=I3.cell y c (sub y c e)
   exact ⟨v,oc,kp4 _ _ hoc,hd⟩
 have fpc:∀ {Hc:Hp},(∀ b∈fp,Hc b=none)->∀ b∈fp,vo ↥13 [] Hc b:=fun {Hc} hn b hb =>
  ⟨hn b hb,neC b hb,nst b hb,.inl hb,fpcl b hb,fun p hp=>absurd (show p∈([]:List ↥12) from hp) (by simp)⟩
 have st4:tn 0 h4:=T.keep 0 _ _ st3' fun b _ o q=>kp4 b o q
 have kc2:∀ {Hc:Hp},(∀ b o,b≠D->H3 b=some o->Hc b=some o)->ax H2 Hc:=fun {Hc} kc b o e=>kc b o (fun z=>by rw [z,hnew] at e;cases e) (sm3 b o e)
 have R4:codeAny ↥6 X.A (.compLoop (.ListComp elt [⟨tg,iter,ifs,0⟩] sc pos) 0 (.ref it) (.ref D) (cxU X xs ksn sc s3.heap.objs.size fp s3 H3 WW).env)
   (dG ↥6 X.A X.xe use Qf (.ref D) s3.heap.objs.size X.env.frame)
   { s3 with heap:=h4,toks:=s3.toks+([]:List (Str×Value)).length }:=by
  refine xC (fun n s'=>∃ i σc Hc ys rsi,Inv ↥13 [] σc Hc s'/\tn i s'.heap/\(∀ b∈fp,Hc b=none)/\n=ds.length - i/\i<=ds.length/\Hc D=some (.lst ys)/\runC (stG pt gc ge ks δ) (ds.take i)=.ok rsi/\ys.length<=i/\Reps X.K X.mg Hc ys rsi/\(∀ b o,b≠D->H3 b=some o->Hc b=some o)/\σc.drop xs.length=(ks.map fun k=>σ.getD k none)/\EV.D.flats rsi=true) ?_ ds.length
   ⟨0,_,H3,[],[],I4,st4,fun b hb=>(f3 b hb).1,rfl,Nat.zero_le _,hD3,by rw [List.take_zero];rfl,Nat.zero_le _,.nil,fun _ _ _ q=>q,by rw [List.drop_append_of_le_length (by rw [List.length_replicate];exact Nat.le_refl _)];simp,rfl⟩
  have hW':NB X.prog X.w X.A (cxU X xs ksn sc s3.heap.objs.size fp s3 H3 WW).env (dG ↥6 X.A X.xe use Qf (.ref D) s3.heap.objs.size X.env.frame)=WW:=hWW
  rw [hW']
  rintro n s' ⟨i,σc,Hc,ys,rsi,Ic,st,fr,rfl,hi,hDc,ersi,hyl,hys,kc,tlσ,fl1⟩
  have smc:=kc2 kc
  have wkc:=wk Hc smc
  by_cases hlt':i<ds.length
  ·have hd:ds[i]? = some ds[i]:=List.getElem?_eq_getElem hlt'
   generalize ds[i]=d at hd
   have etk:ds=ds.take i++(d::ds.drop (i+1)):=by
    have:=List.take_append_drop i ds
    rw [jx hd] at this
    exact this.symm
   have nst':EV.R.bad≠stG pt gc ge ks δ d:=fun z=>nbad (by rw [etk];exact (qV ersi).1 z.symm)
   obtain ⟨xd,k,ept,ek,kcase⟩:=Dp nst'
   have ertk:∀ o,stG pt gc ge ks δ d=.ok o->runC (stG pt gc ge ks δ) (ds.take (i+1))=.ok (rsi++o.toList):=fun o eo=>by
    rw [List.take_add_one,hd]
    exact wj ersi eo
   have lxd:=TT.len d xd ept
   refine thn (T.item ↥13 rfl rfl rfl hc i [] s' σc Hc WW Ic (fpc fr) st (wkc.1 i d hd).1) fun r s1 ⟨u,hr,h4'⟩ => ?_
   subst hr
   refine thn h4' fun _ s5 ⟨v,H5,I5,r5,yl,st5,fr5⟩ => ?_
   obtain ⟨sm5,rd⟩:=(wkc.1 i d hd).2 v H5 yl
   have smc5:=smc.trans sm5
   have rd5:=rd H5 smc5 fun b o z _=>z
   have I5':=I5.pinned (fpc fr5) (T.obj _ _ st5)
   have pinf:∀ {σ7:L2.St} {H7:Hp} {s7:Shared},Inv ↥13 ([]++l4 fp s5.heap) σ7 H7 s7->∀ b∈fp,∀ o,s5.heap.get? b=some o->s7.heap.get? b=some o/\H7 b=none:=fun {σ7 H7 s7} I7 b hb o q =>
    have z:=I7.pin (b,o) (List.mem_append_right _ (List.mem_append_right _ (dq hb q)))
    ⟨z.1,z.2.1⟩
   have lenσ:σc.length=xs.length+ks.length:=by
    have:=Ic.len
    rw [this]
    show (xs++ksn).length=_
    rw [List.length_append,lenks]
   refine thn (P4 _ s5 σc H5 v u (fun σ6 H6=>∃ vs,Reps X.K X.mg H5 vs xd/\Put σc vs σ6/\H6=H5) I5' r5 (TT.put ept rd5 ⋯ fun vs σ' rv pu=>⟨vs,rv,pu,rfl⟩)) fun _ s6 ⟨σ6,H6,I6,vs,rv,pu,e6'⟩ => ?_
   subst e6'
   have lvs:vs.length=xs.length:=by rw [rv.length,lxd]
   have hσ6:Stt X.K X.mg H6 σ6 (xd.map some++ks.map fun k=>δ.getD k none):=by
    refine ⟨by rw [pu.1,lenσ,List.length_append,List.length_map,List.length_map,lxd],fun j d' e nown => ?_⟩
    by_cases hj:j<xd.length
    ·rw [List.getElem?_append_left (by rw [List.length_map];exact hj),List.getElem?_map] at e
     cases q:xd[j]? with
     | none=>rw [q] at e;cases e
     | some d'' =>
      rw [q] at e
      cases e
      obtain ⟨v',e1,e2⟩:=rv.get q
      exact ⟨v',pu.2.1 j v' e1,e2⟩
    ·rw [List.getElem?_append_right (by rw [List.length_map];omega),List.length_map,List.getElem?_map] at e
     cases ek':ks[j - xd.length]? with
     | none=>rw [ek'] at e;cases e
     | some k =>
      rw [ek'] at e
      have e':δ.getD k none=some d':=Option.some.inj e
      have eδ:δ[k]? = some (some d'):=by
       rw [List.getD_eq_getElem?_getD] at e'
       cases q:δ[k]? with
       | none=>rw [q] at e';cases e'
       | some o=>rw [q] at e';have:o=some d':=e';rw [this]
      obtain ⟨w,ew',rw'⟩:=hσ2.2 k d' eδ nown
      refine ⟨w,?_,rw'.mono smc5⟩
      rw [pu.2.2 j ⋯]
      have ht:(σc.drop xs.length)[j - xd.length]? = some (some w):=by
       rw [tlσ,List.getElem?_map,ek']
       show some (σ.getD k none)=_
       rw [List.getD_eq_getElem?_getD,ew']
       rfl
      rw [List.getElem?_drop,show xs.length+(j - xd.length)=j by omega] at ht
      exact ht
   have tl6:σ6.drop xs.length=(ks.map fun k=>σ.getD k none):=by
    rw [<- tlσ]
    refine List.ext_getElem? fun j => ?_
    rw [List.getElem?_drop,List.getElem?_drop]
    exact pu.2.2 _ ⋯
   have hD5:H6 D=some (.lst ys):=sm5 _ _ hDc
   have kc5:∀ b o,b≠D->H3 b=some o->H6 b=some o:=fun b o hb q=>sm5 _ _ (kc b o hb q)
   have hys5:=hys.mono sm5
   refine thn (C2 T4 I6 hσ6 ek (E:=WW) fun _ _ z=>z) fun ok s7 ⟨eok,H7,I7,sm7⟩ => ?_
   subst eok
   rcases kcase with ⟨rfl,eg⟩ | ⟨rfl,eo⟩
   ·rw [if_pos rfl]
    cases eg':ge (xd.map some++ks.map fun k=>δ.getD k none) with
    | bad=>rw [eg'] at eg;exact absurd eg.symm nst'
    | ex C =>
     rw [eg'] at eg
     have ext:runC (stG pt gc ge ks δ) ds=.ex C:=by rw [etk];exact (qV ersi).2 C eg
     refine thn (E4 _ s7 σ6 H7 (fun _ _=>False) I7 ⟨_,hσ6.mono sm7,?_⟩) fun _ _ ⟨_,_,_,_,z⟩=>z.elim
     rw [eg']
     intro Ca hCa H' sm8 pins' Hx sx ea s8 Ix FX
     show WW (.ref ea) s8
     rw [<- hWW]
     exact Bd (hO ⟨C,ext⟩) I3 f3 rfl Ix FX (fun b u e=>by
      by_cases hb:b=D
      ·rw [hb];exact ⟨_,sm8 _ _ (sm7 _ _ hD5)⟩
      ·exact ⟨_,sm8 _ _ (sm7 _ _ (kc5 b u hb e))⟩) (hex C Ca ext hCa H' (((sm2.trans smc5).trans sm7).trans sm8))
    | ok r =>
     rw [eg'] at eg
     simp only [R.bind] at eg
     have flo:EV.D.flat r=true:=by
      refine Classical.byContradiction fun z => ?_
      rw [if_neg z] at eg
      exact nst' eg.symm
     rw [if_pos flo] at eg
     refine thn (E4 _ s7 σ6 H7 (fun v8 H8=>ax H7 H8/\Rep X.K X.mg H8 v8 r) I7 ⟨_,hσ6.mono sm7,by rw [eg'];exact fun v8 H8 sm rp=>⟨sm,rp⟩⟩) fun u8 s8 ⟨v8,H8,I8,r8,sm8,rp8⟩ => ?_
     have sm78:=sm7.trans sm8
     have hD8:H8 D=some (.lst ys):=sm78 _ _ hD5
     refine thn (xm (X:=↥13) _ s8 _ H8 (.ref D) [v8] (.ref D) [u8] (fun _ H9=>H9=upd H8 D (.lst (ys++[v8]))) I8 rfl (.cons r8 .nil) ⟨D,ys,v8,rfl,rfl,hD8,by rw [sizeLine_eq];omega,rfl⟩) fun _ s9 ⟨_,H9,I9,_,e9⟩ => ?_
     subst e9
     have k9:NoL H8 (upd H8 D (.lst (ys++[v8]))):=fun b ob e n _=>by
      rw [aW fun z => ?_];exact e
      rw [z,hD8] at e
      exact n ys (Option.some.inj e).symm
     have k9':∀ b ob,b≠D->H8 b=some ob->upd H8 D (.lst (ys++[v8])) b=some ob:=fun b ob hb q=>by rw [aW hb];exact q
     refine ⟨ds.length - (i+1),⋯,i+1,_,_,ys++[v8],rsi++[r],I9.unpinned,T.keep _ _ _ st5 (fun b hb o q=>(pinf I9 b hb o q).1),fun b hb => ?_,rfl,⋯,bq,ertk _ eg,by rw [List.length_append];simp;omega,?_,fun b ob hb q=>k9' b ob hb (sm78 _ _ (kc5 b ob hb q)),tl6,md fl1 flo⟩
     ·obtain ⟨ob,e,_⟩:=T.obj _ _ st5 b hb
      exact (pinf I9 b hb ob e).2
     ·exact (j7 k9 fl1 (hys5.mono sm78)).append (.cons (qX k9 flo rp8) .nil)
   ·rw [if_neg Bool.false_ne_true]
    refine ⟨ds.length - (i+1),⋯,i+1,_,_,ys,rsi,I7.unpinned,T.keep _ _ _ st5 (fun b hb o q=>(pinf I7 b hb o q).1),fun b hb => ?_,rfl,⋯,sm7 _ _ hD5,by rw [ertk _ eo];simp,⋯,hys5.mono sm7,fun b ob hb q=>sm7 _ _ (kc5 b ob hb q),tl6,fl1⟩
    obtain ⟨ob,e,_⟩:=T.obj _ _ st5 b hb
    exact (pinf I7 b hb ob e).2
  ·have ei:i=ds.length:=⋯
   subst ei
   refine thn (T.done ↥13 rfl rfl rfl hc ds.length [] s' σc Hc WW Ic (fpc fr) st (wkc.2 _ (Nat.le_refl _))) fun r s1 ⟨hr,I9⟩ => ?_
   subst hr
   obtain ⟨m,hns,_⟩:=id I9.loc
   have I10:∀ h',Heap.SameBut s3.heap.objs.size s1.heap h'->Inv X pins σ Hc { s1 with heap:=h' }:=fun h' sb=>I3.call' (s':={ s1 with heap:=h' }) (ch:=fp) I9.os (Gu I9.base (Nat.le_refl _) sb) (EX I9.hok I9.free sb) I9.bare fun b hb =>
    ⟨(f3 b hb).2.2.2.1,(f3 b hb).2.1,(f3 b hb).2.2.2.2.1,(f3 b hb).2.2.2.2.2⟩
   rw [List.take_of_length_le (Nat.le_refl _)] at ersi
   have hHD:H D=none:=by
    cases q:H D with
    | none=>rfl
    | some o=>have:=sm2 D o q;rw [hnew] at this;cases this
   exact hfin s1 Hc D s3.heap.objs.size ys rsi eds ersi fl1 hHD hDc hys (sm2.trans smc) (I3.fpOk (Nat.le_refl _) I9.free)
    (I10 s1.heap (Heap.SameBut.refl _ _)) ⟨m,hns⟩ I10
 exact codeAny_compStart_list R4 (T.self _ 0 _ _ _ st4 R4)
def pt1 (d:D):Option (List D):=some [d]
theorem Lm:Tgt X 1 pt1 (uN 0):=⟨fun d xs e=>by cases e;rfl,fun {d xs v σ H Q} e r hl q=>by
 cases e
 refine q [v] _ (.cons r .nil) ⟨List.length_set ..,fun j w hj => ?_,fun j hj => ?_⟩
 ·cases j with
  | zero=>cases hj;exact List.getElem?_set_self ⋯
  | succ j=>simp at hj
 ·exact List.getElem?_set_ne (by have:1<=j:=hj;omega)⟩
theorem tg1:∀ C fp s H W,Sc ↥14 ([x]++ksn)->(∀ y∈[x],(cxU X [x] ksn sc C fp s H W).env.scope.names.lookup y=some .local)->PG ↥14 (.Name x px) (uN 0) :=
 fun C fp s H W S4 hl=>ri (i:=0) (by rw [S4.n];exact S4.nd) rfl (.inl (hl x (by simp))) (.inr (hl x (by simp)))
theorem G1:∀ {ds rs:List EV.D},runC (EV.stC gc ge ks δ) ds=.ok rs->EV.D.flats rs=true->runC (stG pt1 gc ge ks δ) ds=.ok rs
 | [],rs,h,_=>h
 | d::ds,rs,h,hf=>by
  unfold runC at h ⊢
  cases q:EV.stC gc ge ks δ d with
  | ok o =>
   rw [q] at h
   simp only [R.bind] at h
   cases q2:runC (EV.stC gc ge ks δ) ds with
   | ok r =>
    rw [q2] at h
    have e:o.toList++r=rs:=by cases o<;>simpa using h
    have key:stG pt1 gc ge ks δ d=.ok o/\EV.D.flats r=true:=by
     unfold EV.stC at q
     unfold stG pt1
     simp only
     have ei:inC ks δ d=[d].map some++ks.map fun k=>δ.getD k none:=rfl
     rw [ei] at q
     cases q3:sV (gc ([d].map some++ks.map fun k=>δ.getD k none)) with
     | ok b =>
      rw [q3] at q
      cases b with
      | bl k =>
       cases k with
       | true =>
        simp only [R.bind,truth] at q ⊢
        cases q4:sV (ge ([d].map some++ks.map fun k=>δ.getD k none)) with
        | ok r' =>
         rw [q4] at q
         cases q
         rw [xg q4]
         rw [<- e] at hf
         have hf':EV.D.flat r'=true/\EV.D.flats r=true:=by simpa [EV.D.flats] using hf
         simp only
         rw [if_pos hf'.1]
         exact ⟨rfl,hf'.2⟩
        | ex C=>rw [q4] at q;cases q
        | bad=>rw [q4] at q;cases q
       | false =>
        simp only [R.bind,truth] at q ⊢
        cases q
        exact ⟨rfl,by rw [show r=rs from e];exact hf⟩
      | _=>cases q
     | ex C=>exact (j8 q3).elim
     | bad=>rw [q3] at q;cases q
    rw [key.1]
    simp only [R.bind]
    rw [G1 q2 key.2]
    simp only
    rw [<- e]
    cases o<;>rfl
   | ex C=>rw [q2] at h;cases h
   | bad=>rw [q2] at h;cases h
  | ex C=>rw [q] at h;cases h
  | bad=>rw [q] at h;cases h
structure CompOf (ce:E) (git:IT) (pt:EV.D->Option (List EV.D)) (gc ge:E) (ks:List Nat):Prop where
 ex:∀ δ C,git δ=.ex C->ce δ=.ex C
 bad:∀ δ,git δ=.bad->ce δ=.bad
 ok:∀ δ ds,git δ=.ok ds->ce δ=.bad\/(ds.length<=100000/\∃ rs,runC (stG pt gc ge ks δ) ds=.ok rs/\EV.D.flats rs=true/\ce δ=.ok (.lst rs))
theorem mi (hc:X.calm=true) {N:List Str} (S:Sc X N) {xs ksn G:List Str} {ks:List Nat} {tg elt iter:Expr} {ifs:List Expr} {pos ps:Pos} {sc:Scope} {git:IT} {gc ge ce:E} {pt:EV.D->Option (List EV.D)} {gT:TG} (CE:CompOf ce git pt gc ge ks) (SC:ScU xs ksn G sc)
  (hks:ks.map (fun k=>N.getD k "")=ksn) (hlt:∀ k∈ks,k<N.length) (hcell:∀ y∈ksn,X.env.scope.names.lookup y=some .cell)
  (he:SI X tg iter git) (TT:Tgt X xs.length pt gT)
  (htg:∀ C fp s H W,Sc ↥8 (xs++ksn)->(∀ y∈xs,(cxU X xs ksn sc C fp s H W).env.scope.names.lookup y=some .local)->PG ↥8 tg gT)
  (htst:∀ C fp s H W,Sc ↥8 (xs++ksn)->(∀ y∈G,Gb ↥8 y)->Tst ↥8 ifs gc)
  (helt:∀ C fp s H W,Sc ↥8 (xs++ksn)->(∀ y∈G,Gb ↥8 y)->SE ↥8 elt ge)
  (hs:∀ z,foldedSetIterable iter X.env z=pure z) {use:Option (Value->Sem Unit)} {Qf:Value->Shared->Prop} {Q:VK}
  {pins:List ↥12} {s:Shared} {σ:L2.St} {H:Hp} {δ:Dt} (I:Inv X pins σ H s) (hσ:Stt X.K X.mg H σ δ) (h:RQ X σ H (ce δ) Q)
  (hfin:∀ (s1:Shared) (Hc:Hp) (D C:Addr) (ys:List V) (rs:List EV.D),ce δ=.ok (.lst rs)->EV.D.flats rs=true->H D=none->Hc D=some (.lst ys)->Reps X.K X.mg Hc ys rs->ax H Hc->Q (.ref D) Hc ->
   vo X pins Hc C->Inv X pins σ Hc s1->(∃ m,s1.heap.Ns C m)->(∀ h',Heap.SameBut C s1.heap h'->Inv X pins σ Hc { s1 with heap:=h' })->dG ↥6 X.A X.xe use Qf (.ref D) C X.env.frame (.ok .next) s1) :
  wpAny ↥6 X.A (comprehension (.ListComp elt [⟨tg,iter,ifs,0⟩] sc pos) sc X.env ps (newList []) false (eval iter X.env) use) Qf X.xe s:=by
 have key:git δ ≠ .bad/\(∀ C,git δ=.ex C->∀ Ca,X.mg C=some (.ref Ca)->∀ H',ax H H'->ew X Ca σ H')/\∃ ds,(∀ ds',git δ=.ok ds'->ds'=ds)/\∀ ds',git δ=.ok ds'->ds.length<=100000/\∃ rs,runC (stG pt gc ge ks δ) ds=.ok rs/\EV.D.flats rs=true/\ce δ=.ok (.lst rs):=by
  cases r:git δ with
  | bad=>rw [CE.bad δ r] at h;exact False.elim h
  | ex C=>rw [CE.ex δ C r] at h;exact ⟨(fun z=>nomatch z),(fun C' e=>by cases e;exact h),[],(fun _ e=>nomatch e),(fun _ e=>nomatch e)⟩
  | ok ds =>
   refine ⟨fun z=>(nomatch z),fun C' e=>(nomatch e),ds,fun _ e=>by cases e;rfl,fun _ e => ?_⟩
   rcases CE.ok δ ds r with z | z
   ·rw [z] at h;exact False.elim h
   ·exact z
 obtain ⟨k1,k2,ds,k3,k4⟩:=key
 by_cases g:∃ ds',git δ=.ok ds'
 ·obtain ⟨ds',eds⟩:=g
  obtain ⟨hz,rs,er,fl,ec⟩:=k4 ds' eds
  refine p5 hc S SC hks hlt hcell he TT htg htst helt hs (use:=use) I hσ k2 (ds:=ds) k1 (fun d e=>⟨k3 d e,hz,(fun z=>by rw [er] at z;cases z),(fun rs' e'=>by rw [er] at e';cases e';exact fl)⟩) (fun C Ca e=>by rw [er] at e;cases e) (fun ⟨C,e⟩=>by rw [er] at e;cases e) fun s1 Hc D C ys rs' e1 e2 e3 e4 e5 e6 e7 e8 e9 e10 e11 => ?_
  rw [er] at e2
  cases e2
  rw [ec] at h
  exact hfin s1 Hc D C ys rs ec fl e4 e5 e6 e7 (h _ _ e7 (.lst (SqL.of e5) e6)) e8 e9 e10 e11
 ·have no:∀ d,git δ ≠ .ok d:=fun d e=>g ⟨d,e⟩
  exact p5 hc S SC hks hlt hcell he TT htg htst helt hs (use:=use) I hσ k2 (ds:=[]) k1 (fun d e=>absurd e (no d)) (fun C Ca e=>nomatch e) (fun ⟨C,e⟩=>nomatch e) fun s1 Hc D C ys rs' e1=>absurd e1 (no _)
theorem p6:CompOf (iU git ks gc ge) git pt1 gc ge ks where
 ex:=fun δ C e=>by unfold iU;rw [e];rfl
 bad:=fun δ e=>by unfold iU;rw [e];rfl
 ok:=fun δ ds e=>by
  unfold iU
  rw [e]
  simp only [R.bind]
  by_cases hz:ds.length<=100000
  ·rw [if_pos hz]
   cases r:runC (EV.stC gc ge ks δ) ds with
   | bad=>exact .inl rfl
   | ex C =>
    exfalso
    have:∀ l C,runC (EV.stC gc ge ks δ) l ≠ .ex C:=fun l C=>by
     induction l with
     | nil=>exact fun z=>nomatch z
     | cons a l ih =>
      intro z
      unfold runC at z
      cases q:EV.stC gc ge ks δ a with
      | ok o =>
       rw [q] at z
       simp only [R.bind] at z
       cases q2:runC (EV.stC gc ge ks δ) l with
       | ok r=>rw [q2] at z;cases z
       | ex C'=>exact ih.elim (by rw [q2] at z;cases z;exact q2)
       | bad=>rw [q2] at z;cases z
      | ex C' =>
       unfold EV.stC at q
       cases q3:sV (gc (inC ks δ a)) with
       | ok d =>
        rw [q3] at q
        cases d with
        | bl b =>
         cases b with
         | true =>
          simp only [R.bind,truth] at q
          cases q4:sV (ge (inC ks δ a)) with
          | ok r=>rw [q4] at q;cases q
          | ex C''=>exact j8 q4
          | bad=>rw [q4] at q;cases q
         | false=>cases q
        | _=>cases q
       | ex C''=>exact j8 q3
       | bad=>rw [q3] at q;cases q
      | bad=>rw [q] at z;cases z
    exact this _ _ r
   | ok rs =>
    simp only [pY]
    by_cases hf:EV.D.flats rs=true
    ·rw [if_pos hf]
     exact .inr ⟨hz,rs,G1 r hf,hf,rfl⟩
    ·rw [if_neg hf]
     exact .inl rfl
  ·rw [if_neg hz]
   exact .inl rfl
theorem Fc (hc:X.calm=true) {N:List Str} (S:Sc X N) {xs ksn G:List Str} {ks:List Nat} {tg elt iter:Expr} {ifs:List Expr} {pos:Pos} {sc:Scope} {git:IT} {gc ge ce:E} {pt:EV.D->Option (List EV.D)} {gT:TG} (CE:CompOf ce git pt gc ge ks) (SC:ScU xs ksn G sc)
  (hks:ks.map (fun k=>N.getD k "")=ksn) (hlt:∀ k∈ks,k<N.length) (hcell:∀ y∈ksn,X.env.scope.names.lookup y=some .cell)
  (he:SI X tg iter git) (TT:Tgt X xs.length pt gT)
  (htg:∀ C fp s H W,Sc ↥8 (xs++ksn)->(∀ y∈xs,(cxU X xs ksn sc C fp s H W).env.scope.names.lookup y=some .local)->PG ↥8 tg gT)
  (htst:∀ C fp s H W,Sc ↥8 (xs++ksn)->(∀ y∈G,Gb ↥8 y)->Tst ↥8 ifs gc)
  (helt:∀ C fp s H W,Sc ↥8 (xs++ksn)->(∀ y∈G,Gb ↥8 y)->SE ↥8 elt ge)
  (hs:∀ z,foldedSetIterable iter X.env z=pure z):SE X (.ListComp elt [⟨tg,iter,ifs,0⟩] sc pos) ce:=by
 intro pins s σ H Q I ⟨δ,hσ,h⟩
 rw [eval_ListComp]
 exact mi hc S CE SC hks hlt hcell he TT htg htst helt hs (use:=none) I hσ h fun s1 Hc D C ys rs e1 e2 e3 e4 e5 e6 q fC I1 ⟨m,ns⟩ turn=>⟨m,ns,fun h' sb=>⟨.ref D,Hc,turn h' sb,rfl,q⟩⟩
theorem Bb (hc:X.calm=true) {N:List Str} (S:Sc X N) {x:Str} {ksn G:List Str} {ks:List Nat} {elt iter:Expr} {ifs:List Expr} {px pos:Pos} {sc:Scope} {git:IT} {gc ge:E} (SC:ScU [x] ksn G sc)
  (hks:ks.map (fun k=>N.getD k "")=ksn) (hlt:∀ k∈ks,k<N.length) (hcell:∀ y∈ksn,X.env.scope.names.lookup y=some .cell)
  (he:SI X (.Name x px) iter git)
  (htst:∀ C fp s H W,Sc ↥14 ([x]++ksn)->(∀ y∈G,Gb ↥14 y)->Tst ↥14 ifs gc)
  (helt:∀ C fp s H W,Sc ↥14 ([x]++ksn)->(∀ y∈G,Gb ↥14 y)->SE ↥14 elt ge)
  (hs:∀ z,foldedSetIterable iter X.env z=pure z:=by intro _;rfl):SE X (.ListComp elt [⟨.Name x px,iter,ifs,0⟩] sc pos) (iU git ks gc ge) :=
 Fc hc S p6 SC hks hlt hcell he Lm tg1 htst helt hs
theorem Jb (hc:X.calm=true) {N:List Str} (S:Sc X N) {x:Str} {ksn G:List Str} {ks:List Nat} {elt iter:Expr} {px pos:Pos} {sc:Scope} {git:IT} {ge:E} (SC:ScU [x] ksn G sc)
  (hks:ks.map (fun k=>N.getD k "")=ksn) (hlt:∀ k∈ks,k<N.length) (hcell:∀ y∈ksn,X.env.scope.names.lookup y=some .cell)
  (he:SI X (.Name x px) iter git)
  (helt:∀ C fp s H W,Sc ↥14 ([x]++ksn)->(∀ y∈G,Gb ↥14 y)->SE ↥14 elt ge)
  (hs:∀ z,foldedSetIterable iter X.env z=pure z:=by intro _;rfl):SE X (.ListComp elt [⟨.Name x px,iter,[],0⟩] sc pos) (comp git ks ge) :=
 Bb hc S SC hks hlt hcell he (fun _ _ _ _ _ _ _=>.nil) helt hs
end
end ES
namespace ES
open PySem PySem.Spec PyProof.Rows L2 EV
unseal SE ST SW SA SS SSs SI
structure GC (X:Cx) (x:String) (d:D):Prop where
 ex:∃ v u,X.mg x=some u/\RelV v u/\∀ H,Rep X.K X.mg H v d
section
variable {X:Cx} {pos p:Pos} {x:String} {d:D} {e e2:Expr} {g:E}
theorem La (G:Gb X x) (h:GC X x d):SE X (.Name x pos) (con d):=by
 obtain ⟨v,u,hm,r,hr⟩:=h.ex
 exact p0 (rj (v:=v) G.g hm r G.d) hr
theorem rP {a:Addr} {dd:Option Addr} {ss:List String} {its:Array Value} {n:Nat} {sl:Array (Option Value)} (hm:X.mg x=some (.ref a)) (hk:X.K.lookup a=some ⟨.type "tuple",dd,.seq its n,sl⟩) (hi:Vals (ss.map fun s=>V.str (Str.ofString s)) its.toList) (hz:its.size<=1000):GC X x (.tup (ss.map fun s=>D.str (Str.ofString s))):=by
 refine ⟨.ref a,.ref a,hm,rfl,fun H=>.tup (.inr ⟨_,its,n,hk,rfl,rfl,Nat.le_of_lt (kq hz),hi⟩) ?_⟩
 clear hi
 induction ss with
 | nil=>exact .nil
 | cons s r ih=>exact .cons (.str _) ih
theorem ir:∀ {ss:List String} {ts:List Tok} {its:List Value},its=(ss.zip ts).map (fun p=>Value.str (Str.ofString p.1) p.2)->ts.length=ss.length->Vals (ss.map fun s=>V.str (Str.ofString s)) its
 | [],_,_,e,_=>by subst e;exact .nil
 | s::r,[],_,_,h=>by simp at h
 | s::r,t::ts,_,e,h=>by
  subst e
  exact .cons ⟨t,rfl⟩ (ir (ts:=ts) rfl (by simpa using h))
end
section
variable {X:Cx} {x y:Str} {ksn:List Str} {sc:Scope} {C:Addr} {fp:List Addr} {s:Shared} {H:Hp} {f:List D->R D} {cn m:String} {F:List D->R D}
end
def cY:Stmt->List Stmt
 | .ClassDef _ _ _ b _ _ _ _ _ _ _=>b
 | _=>[]
end ES
namespace ES
open EV
end ES
namespace ES
open PySem PySem.Spec PyProof.Rows L2 EV
unseal SE ST SW SA SS SSs SI
def ROp (X:Cx) (σ:L2.St) (H:Hp) (r:R (Option Int)) (Q:Option Int->Hp->Prop):Prop:=match r with
 | .ok o=>∀ H',ax H H'->Q o H'
 | .ex C=>∀ Ca,X.mg C=some (.ref Ca)->∀ H',ax H H'->ew X Ca σ H'
 | .bad=>False
def tPo (X:Cx) (g:Option E):TO:=fun σ H Q=>∃ δ,Stt X.K X.mg H σ δ/\ROp X σ H (part g δ) Q
@[irreducible] def SO (X:Cx) (e:Option Expr) (g:Option E):Prop:=PO X e (tPo X g)
unseal SO
section
variable {X:Cx} {tg e a:Expr} {lo hi:Option Expr} {g:E} {gl gu:Option E} {σ:L2.St} {H H1:Hp} {pos p2:Pos}
theorem PO.weak (h:PO X o t) (w:∀ σ H Q,t' σ H Q->t σ H Q):PO X o t':=fun pins s σ H Q I q=>h pins s σ H Q I (w σ H Q q)
theorem zX:SO X none none:=PO.weak DP fun σ H Q ⟨δ,hσ,q⟩=>q H ↥25
theorem zW (h:SE X e g):SO X (some e) (some g):=PO.weak (DO h) fun σ H Q ⟨δ,hσ,q⟩=>⟨δ,hσ,by
 simp only [EV.part] at q
 cases r:g δ with
 | ok d =>
  rw [r] at q
  cases d with
  | int i=>exact fun v H' s r=>by cases r;exact ⟨i,rfl,q H' s⟩
  | _=>exact False.elim q
 | ex C=>rw [r] at q;exact q
 | bad=>rw [r] at q;exact q⟩
theorem ROp.bind (h:RQ X σ H (r.bind f) Q):ROp X σ H r (fun o H'=>ax H H'/\RQ X σ H' (f o) Q):=by
 cases r with
 | ok d=>exact fun H' s=>⟨s,h.mono s⟩
 | ex C=>exact h
 | bad=>exact h
theorem ROp.to (h:ROp X σ H r Q) (g:∀ o H',ax H H'->Q o H'->Q' o H'):ROp X σ H r Q':=by
 cases r with
 | ok d=>exact fun H' s=>g d H' s (h H' s)
 | ex C=>exact h
 | bad=>exact h
theorem sN (rs:Reps X.K X.mg H xs ds) (l u:Option Int):Reps X.K X.mg H (B9 xs l u) (EV.cut ds l u):=by
 unfold B9 EV.cut
 rw [rs.length]
 exact (rs.drop _).take _
def rS (X:Cx):V->Option Int->Option Int->Hp->VK->Prop:=fun x l u H Q=>∃ dx d,Rep X.K X.mg H x dx/\oSl dx l u=.ok d/\∀ v H',ax H H'->Rep X.K X.mg H' v d->Q v H'
theorem OW:SlR X (rS X):=by
 intro pins s σ H x v vl vu l u sl Q I rx hs pl pu ⟨dx,d,r,e,q⟩
 unfold oSl at e
 split at e
 ·split at e
  ·cases e
  ·rename_i hn
   cases e;cases r
   rename_i p xs hq rs
   refine G3 pins s σ H _ v vl vu l u sl Q I rx hs pl pu ⟨p,xs,rfl,hq,?_,fun p hp=>q _ _ (bb hp _) (.tup (SqT.of bq) ((sN rs l u).mono (bb hp _)))⟩
   rw [rs.length]
   exact hn
 ·cases e;cases r
  rename_i p xs hq rs
  exact Dq pins s σ H _ v vl vu l u sl Q I rx hs pl pu ⟨p,xs,rfl,hq,fun p hp=>q _ _ (bb hp _) (.lst (SqL.of bq) ((sN rs l u).mono (bb hp _)))⟩
 ·cases e
theorem K6 (ha:SE X a g) (hl:SO X lo gl) (hu:SO X hi gu):SE X (.Subscript a (.Slice lo hi none p2) pos) (slc g gl gu) :=
 PE.weak (zZ OW ha hl hu) fun σ H Q ⟨δ,hσ,q⟩=>⟨δ,hσ,(RQ.bind q).to fun x H1 _ ⟨s1,d,r1,q1⟩=>⟨δ,hσ.mono s1,(ROp.bind q1).to fun l H2 _ ⟨s2,q2⟩=>⟨δ,hσ.mono (s1.trans s2),(ROp.bind q2).to fun u H3 _ ⟨s3,q3⟩=>by
  have r3:=r1.mono (s2.trans s3)
  cases e:oSl d l u with
  | ok z=>rw [e] at q3;exact ⟨d,z,r3,e,q3⟩
  | ex C =>
   exfalso
   unfold oSl at e
   split at e
   ·split at e<;>cases e
   ·cases e
   ·cases e
  | bad=>rw [e] at q3;exact False.elim q3⟩⟩⟩
theorem uK (h:SE X e g):SI X tg e (itA g):=fun pins s σ H Q I ⟨δ,hσ,q⟩=>by
 unfold itA at q
 cases r:g δ with
 | ok d =>
  rw [r] at q
  cases d with
  | lst ds=>exact B2 h pins s σ H Q I ⟨δ,hσ,by unfold itL;rw [r];exact q⟩
  | tup ds=>exact KW h pins s σ H Q I ⟨δ,hσ,by unfold itT;rw [r];exact q⟩
  | _=>exact False.elim q
 | ex C=>exact B2 h pins s σ H Q I ⟨δ,hσ,by unfold itL;rw [r] at q ⊢;exact q⟩
 | bad=>rw [r] at q;exact False.elim q
end
theorem FR {P:String->Prop} (h0:P "MillError") (h1:P "NoSize") (h2:P "NoBits") (h3:P "NoParts") (h4:P "NoRank") (h5:P "NotFinite") (h6:P "NoWay") (h7:P "NoFlags") (h8:P "NoFraction") (h9:P "Unlike") (h10:P "Empty") (h11:P "NoLeft") (h12:P "NoText") (h13:P "NoRow") (h14:P "NoName") (h15:P "Stopped"):∀ n∈ak,P n:=by
 intro n hn
 simp only [ak,List.mem_cons,List.not_mem_nil,or_false] at hn
 rcases hn with rfl | rfl | rfl | rfl | rfl | rfl | rfl | rfl | rfl | rfl | rfl | rfl | rfl | rfl | rfl | rfl
 all_goals assumption
end ES
namespace ES
open PySem PySem.Spec PyProof.Rows L2 EV
unseal SE ST SW SA SS SSs SI SO
section
variable {X:Cx} {tg:Expr} {H:Hp} {a b c:Expr} {ga gb gc:E}
end
end ES
namespace ES
open PySem PySem.Spec PyProof.Rows L2 EV
unseal SE ST SW SA SS SSs SI SO
section
variable {X:Cx} {N:List Str} {H:Hp} {σ:L2.St} {δ:Dt} {os:Os}
theorem StO.pub (S:StO X H σ δ os) (i:Nat):∃ os',StO X H σ (EV.pub i δ) os'/\ax ↥27 (hide H os'):=by
 unfold EV.pub
 split
 ·rename_i ds e
  obtain ⟨a,ha⟩:=S.own i ds e
  obtain ⟨xs,ds',h1,h2,h3,h4⟩:=S.lst _ ha
  rw [e] at h3
  cases h3
  have sm:ax ↥27 (hide H (os.filter fun p=>p.1 != i)):=kW fun p hp=>(bg os i p hp).1
  have hl:i<δ.length:=(List.getElem?_eq_some_iff.mp e).1
  have na:a∉lX (os.filter fun p=>p.1 != i):=fun z=>by
   obtain ⟨p,hp,e2⟩:=iJ z
   obtain ⟨hp',ne⟩:=bg os i p hp
   exact ne (S.inj p.1 i a (by rw [<- e2];exact hp') ha)
  refine ⟨_,⟨?_,fun p hp => ?_,fun j es q => ?_,fun j k b h1 h2=>S.inj j k b (bg os i _ h1).1 (bg os i _ h2).1⟩,sm⟩
  ·have st:=S.st.mono sm
   refine ⟨by rw [List.length_set];exact st.1,fun j d q n => ?_⟩
   by_cases hj:j=i
   ·subst hj
    rw [List.getElem?_set_self hl] at q
    have q':D.lst ds=d:=Option.some.inj (Option.some.inj q)
    subst q'
    exact ⟨.ref a,h2,.lst (SqL.of (by rw [dj na];exact h1)) (h4.mono sm)⟩
   ·rw [List.getElem?_set_ne (Ne.symm hj)] at q
    exact st.2 j d q n
  ·obtain ⟨hp',ne⟩:=bg os i p hp
   obtain ⟨ys,es,q1,q2,q3,q4⟩:=S.lst p hp'
   exact ⟨ys,es,q1,q2,by rw [List.getElem?_set_ne (Ne.symm ne)];exact q3,q4.mono sm⟩
  ·by_cases hj:j=i
   ·subst hj
    rw [List.getElem?_set_self hl] at q
    cases q
   ·rw [List.getElem?_set_ne (Ne.symm hj)] at q
    obtain ⟨b,hb⟩:=S.own j es q
    exact ⟨b,List.mem_filter.mpr ⟨hb,by simpa using hj⟩⟩
 ·exact ⟨os,S,ax.refl _⟩
variable {e:Expr} {g:E} {pos:Pos} {st:Stmt} {gs:S}
theorem Kj (i:Nat) (h:SS X st gs):SS X st (Hr i gs):=PS.weak h fun D σ H ⟨δ,os,S,q⟩=>by
 obtain ⟨os',S',sm⟩:=S.pub i
 exact ⟨_,os',S',OQ.mono sm q⟩
end
end ES
namespace ES
open PySem PySem.Spec PyProof.Rows L2 EV
unseal SE ST SW SA SS SSs SI SO
section
variable {X:Cx} {N:List Str} {H:Hp} {σ:L2.St} {δ:Dt} {os:Os}
theorem StO.adopt (S:StO X H σ δ os) (sm:ax H Hc) (hi:i<σ.length) (hn:H a=none) (ha:Hc a=some (.lst xs)) (r:Reps X.K X.mg Hc xs ds) (fl:EV.D.flats ds=true) :
  StO X Hc (σ.set i (some (.ref a))) (δ.set i (some (.own ds))) ((i,a)::os.filter fun p=>p.1 != i)/\ax ↥27 (hide Hc ((i,a)::os.filter fun p=>p.1 != i)):=by
 have hd:i<δ.length:=by rw [<- S.st.1];exact hi
 have sm2:ax ↥27 (hide Hc ((i,a)::os.filter fun p=>p.1 != i)):=fun b o e=>by
  have hb:b∉lX os:=fun z=>by rw [oi z] at e;cases e
  rw [dj hb] at e
  have ne:b≠a:=fun z=>by rw [z,hn] at e;cases e
  rw [dj fun z => ?_];exact sm b o e
  obtain ⟨p,hp,e2⟩:=iJ z
  rcases List.mem_cons.mp hp with q | q
  ·exact ne (by rw [<- e2,q])
  ·exact hb (by rw [<- e2];exact oQ (bg os i p q).1)
 have naos:∀ p∈os,p.2≠a:=fun p hp z=>by
  obtain ⟨_,_,q,_⟩:=S.lst p hp
  rw [z,hn] at q
  cases q
 have ls:Jv Hc ((i,a)::os.filter fun p=>p.1 != i):=fun b hb=>by
  obtain ⟨p,hp,e2⟩:=iJ hb
  rcases List.mem_cons.mp hp with q | q
  ·exact ⟨xs,by rw [<- e2,q];exact ha⟩
  ·obtain ⟨ys,_,q1,_⟩:=S.lst p (bg os i p q).1
   exact ⟨ys,by rw [<- e2];exact sm _ _ q1⟩
 refine ⟨⟨?_,fun p hp => ?_,fun j es e => ?_,fun j k b h1 h2 => ?_⟩,sm2⟩
 ·have st:=S.st.mono sm2
  refine ⟨by rw [List.length_set,List.length_set];exact st.1,fun j d e n => ?_⟩
  by_cases hj:j=i
  ·subst hj
   rw [List.getElem?_set_self hd] at e
   exact absurd (Option.some.inj (Option.some.inj e)).symm (n ds)
  ·rw [List.getElem?_set_ne (Ne.symm hj)] at e
   obtain ⟨v,e1,e2⟩:=st.2 j d e n
   exact ⟨v,by rw [List.getElem?_set_ne (Ne.symm hj)];exact e1,e2⟩
 ·rcases List.mem_cons.mp hp with q | q
  ·subst q
   exact ⟨xs,ds,ha,List.getElem?_set_self hi,List.getElem?_set_self hd,j7 (AB ls) fl r⟩
  ·obtain ⟨hp',ne⟩:=bg os i p q
   obtain ⟨ys,es,q1,q2,q3,q4⟩:=S.lst p hp'
   exact ⟨ys,es,sm _ _ q1,by rw [List.getElem?_set_ne (Ne.symm ne)];exact q2,by rw [List.getElem?_set_ne (Ne.symm ne)];exact q3,q4.mono sm2⟩
 ·by_cases hj:j=i
  ·subst hj;exact ⟨a,.head _⟩
  ·rw [List.getElem?_set_ne (Ne.symm hj)] at e
   obtain ⟨b,hb⟩:=S.own j es e
   exact ⟨b,.tail _ (List.mem_filter.mpr ⟨hb,by simpa using hj⟩)⟩
 ·rcases List.mem_cons.mp h1 with q1 | q1<;>rcases List.mem_cons.mp h2 with q2 | q2
  ·cases q1;cases q2;rfl
  ·cases q1;exact absurd rfl (naos _ (bg os i _ q2).1)
  ·cases q2;exact absurd rfl (naos _ (bg os i _ q1).1)
  ·exact S.inj j k b (bg os i _ q1).1 (bg os i _ q2).1
theorem vZ {pins:List ↥12} {s:Shared} {i:Nat} {y:Str} {py:Pos} {a C:Addr} {m:Str->Option Value} (Cx:Sx X N) (hN:N[i]? = some y) (hy:Sto X y) (I:Inv X pins σ H s) (fC:vo X pins H C) (ns:s.heap.Ns C m) :
  wpAny ↥6 X.A (assign (.Name y py) X.env (.ref a)) (fun _ s2=>∃ m,s2.heap.Ns C m/\∀ h',Heap.SameBut C s2.heap h'->Inv X pins (σ.set i (some (.ref a))) H { s2 with heap:=h' }) X.xe s:=by
 obtain ⟨o,es,ep,ho,hd,hk⟩:=id ns
 have Ip:=I.pinned (fp:=[C]) (fun b hb=>by rw [List.mem_singleton] at hb;rw [hb];exact fC) (fun b hb=>by
  rw [List.mem_singleton] at hb
  rw [hb]
  exact ⟨o,ho,fun v z=>by rw [hd] at z;cases z⟩)
 refine thn (ri (X:=X) (pos:=py) (i:=i) (x:=y) (by rw [Cx.sc.n];exact Cx.sc.nd) (by rw [Cx.sc.n];exact hN) hy.1 hy.2 _ s σ H (.ref a) (.ref a) (fun σ6 H6=>σ6=σ.set i (some (.ref a))/\H6=H) Ip rfl ⟨rfl,rfl⟩) fun _ s2 ⟨σ6,H6,I6,e6,e7⟩ => ?_
 subst e6 e7
 have hp:=(I6.pin (C,o) (List.mem_append_right _ (List.mem_append_right _ (dq (List.mem_singleton.mpr rfl) ho)))).1
 refine ⟨m,ns.at' fun o' e' => ?_,fun h' sb => ?_⟩
 ·rw [ho] at e'
  cases e'
  exact hp
 ·obtain ⟨f0,f1,f2,f3,f4,f5⟩:=fC
  exact I6.unpinned.turned (t':=s2.toks) (fun b o hb e=>(sb.2 b hb).trans e) f0 f1 f3 f4 f5
variable {e c k v:Expr} {g gc gk gv:E} {pos:Pos} {st:Stmt} {body els:List Stmt} {gs gb ge:S}
theorem vW (hS:env.scope=sc0)
  (h:((if sc0.kind.isAnnotationScope then ScopeKind.function else sc0.kind) == ScopeKind.function&&sc0.names.lookup t == some NameKind.local&&pt.line == (Expr.ListComp elt gens sc pos).pos.line && !(sc.names.any fun (n,k)=>n == t&&(k == .local||k == .cell)))=true) :
  swapsWith (.ListComp elt gens sc pos) (some (.Name t pt)) line env=pure true:=by
 subst hS
 show (pure ((if env.scope.kind.isAnnotationScope then ScopeKind.function else env.scope.kind) == ScopeKind.function&&env.scope.names.lookup t == some NameKind.local&&pt.line == (Expr.ListComp elt gens sc pos).pos.line && !(sc.names.any fun (n,k)=>n == t&&(k == .local||k == .cell))):Sem Bool)=pure true
 rw [h]
theorem uo (Cx:Sx X N) (hc:X.calm=true) (i:Nat) {y:Str} {py spos:Pos} (hN:N[i]? = some y) (hy:Sto X y) {xs ksn G:List Str} {ks:List Nat} {tg elt iter:Expr} {ifs:List Expr} {sc:Scope} {git:IT} {gt ge' ce:E} {pt:EV.D->Option (List EV.D)} {gT:TG} (CE:CompOf ce git pt gt ge' ks) (SC:ScU xs ksn G sc)
  (hks:ks.map (fun k=>N.getD k "")=ksn) (hlt:∀ k∈ks,k<N.length) (hcell:∀ y∈ksn,X.env.scope.names.lookup y=some .cell)
  (he:SI X tg iter git) (TT:Tgt X xs.length pt gT)
  (htg:∀ C fp s H W,Sc ↥8 (xs++ksn)->(∀ y∈xs,(cxU X xs ksn sc C fp s H W).env.scope.names.lookup y=some .local)->PG ↥8 tg gT)
  (htst:∀ C fp s H W,Sc ↥8 (xs++ksn)->(∀ y∈G,Gb ↥8 y)->Tst ↥8 ifs gt)
  (helt:∀ C fp s H W,Sc ↥8 (xs++ksn)->(∀ y∈G,Gb ↥8 y)->SE ↥8 elt ge')
  (hsw:swapsWith (.ListComp elt [⟨tg,iter,ifs,0⟩] sc pos) (some (.Name y py)) spos.line X.env=pure true)
  (hs:∀ z,foldedSetIterable iter X.env z=pure z) :
  SS X (.Assign [.Name y py] (.ListComp elt [⟨tg,iter,ifs,0⟩] sc pos) spos) (il i ce):=by
 intro pins s σ H D I ⟨δ,os,S,q⟩
 have hi:i<σ.length:=by
  rw [I.len,Cx.sc.n]
  exact (List.getElem?_eq_some_iff.mp hN).1
 unfold il BG at q
 rw [exec_Assign_Name_used _ _ _ _ hsw]
 refine wpAny_bind (wpAny_standAt (wpAny_bind ?_))
 show wpAny _ X.A (do let _<-comprehension (.ListComp elt [⟨tg,iter,ifs,0⟩] sc pos) sc X.env _ (newList []) false (eval iter X.env) (some (assign (.Name y py) X.env))) _ _ s
 refine wpAny_bind (wpAny_mono (mi (Q:=fun _ _=>True) (Qf:=fun _ s'=>SP X pins D .next s') hc Cx.sc CE SC hks hlt hcell he TT htg htst helt hs (use:=some (assign (.Name y py) X.env)) I S.view ?_ ?_) (fun _ s' hq=>wpAny_pure (wpAny_pure hq)) fun _ _ e=>e)
 ·cases r:ce (view δ) with
  | ok d=>exact fun _ _ _ _=>trivial
  | ex C=>rw [r] at q;exact fun Ca hc H' s'=>q σ H' ((cx H os).trans s') (S.noOwn ((cx H os).trans s')) Ca hc
  | bad=>rw [r] at q;exact False.elim q
 ·intro s1 Hc A C ys rs e1 fl hA hAc rr sm _ fC I1 ⟨m,ns⟩ _
  rw [e1] at q
  obtain ⟨S2,sm2⟩:=S.adopt sm hi hA hAc rr fl
  refine thn (vZ (a:=A) (py:=py) Cx hN hy I1 fC ns) fun _ s2 ⟨m2,ns2,hq⟩=>⟨m2,ns2,fun h' sb=>⟨_,Hc,hq h' sb,q _ _ _ S2 sm2⟩⟩
theorem wg (Cx:Sx X N) (hc:X.calm=true) (i:Nat) {y:Str} {py spos:Pos} (hN:N[i]? = some y) (hy:Sto X y) {x:Str} {ksn G:List Str} {ks:List Nat} {elt iter:Expr} {ifs:List Expr} {px:Pos} {sc:Scope} {git:IT} {gt ge':E} (SC:ScU [x] ksn G sc)
  (hks:ks.map (fun k=>N.getD k "")=ksn) (hlt:∀ k∈ks,k<N.length) (hcell:∀ y∈ksn,X.env.scope.names.lookup y=some .cell)
  (he:SI X (.Name x px) iter git)
  (htst:∀ C fp s H W,Sc ↥14 ([x]++ksn)->(∀ y∈G,Gb ↥14 y)->Tst ↥14 ifs gt)
  (helt:∀ C fp s H W,Sc ↥14 ([x]++ksn)->(∀ y∈G,Gb ↥14 y)->SE ↥14 elt ge')
  (hsw:swapsWith (.ListComp elt [⟨.Name x px,iter,ifs,0⟩] sc pos) (some (.Name y py)) spos.line X.env=pure true)
  (hs:∀ z,foldedSetIterable iter X.env z=pure z:=by intro _;rfl) :
  SS X (.Assign [.Name y py] (.ListComp elt [⟨.Name x px,iter,ifs,0⟩] sc pos) spos) (il i (iU git ks gt ge')) :=
 uo Cx hc i hN hy p6 SC hks hlt hcell he Lm tg1 htst helt hsw hs
end
end ES
namespace ES
open PySem PySem.Spec PyProof.Rows L2 EV
unseal SE ST SW SA SS SSs SI SO
def OQF (X:Cx) (D:Ends) (F:Hp):O->Prop
 | .rt (.lst rs)=>∀ a xs H,ax F H->F a=none->H a=some (.lst xs)->Reps X.K X.mg H xs rs->EV.D.flats rs=true->D.rt (.ref a) H
 | .rt _=>False
 | o=>OQ X D F o
def tSF (X:Cx) (g:S):TS:=fun D σ H=>∃ δ os,StO X H σ δ os/\OQF X D ↥27 (g δ)
@[irreducible] def SSF (X:Cx) (st:List Stmt) (g:S):Prop:=PSs X st (tSF X g)
unseal SSF
section
variable {X:Cx} {N:List Str}
variable {st:Stmt} {rest:List Stmt} {gs gr:S} {e:Expr} {g:E} {pos:Pos}
end
def spF (K:PySem.W.Frag) (mg:Str->Option Value) (f:List D->R D):Sp:=fun vs H Q E=>∃ ds,Reps K mg H vs ds/\match f ds with
 | .ok (.lst rs)=>∀ a xs H',ax H H'->H a=none->H' a=some (.lst xs)->Reps K mg H' xs rs->EV.D.flats rs=true->Q (.ref a) H'
 | .ex C=>∀ Ca,mg C=some (.ref Ca)->∀ H',ax H H'->E (.ref Ca) none H'
 | _=>False
structure FnF (P:Program) (w:World) (K:PySem.W.Frag) (mg:Str->Option Value) (base:Heap) (x:Str) (k:Nat) (f:List D->R D):Prop where
 ex:∃ fa fd ps,FnOk P w K mg base (CXF P w) k fa fd ps (spF K mg f)/\mg x=some (.ref fa)/\PySem.W.keepIn K (.ref fa)=true/\Binds K fd ps []
structure CalleeF (X:Cx) (x:Str) (f:List D->R D):Prop where
 ex:∃ k fa fd ps,FnOk X.prog X.w X.K X.mg X.base (CXF X.prog X.w) k fa fd ps (spF X.K X.mg f)/\Room k X.A/\X.mg x=some (.ref fa)/\PySem.W.keepIn X.K (.ref fa)=true/\Binds X.K fd ps []
section
variable {X:Cx} {N:List Str} {x:Str} {f:List D->R D} {e:Expr} {es:List Expr} {gs:List E} {p pos:Pos} {g:E}
end
end ES
namespace EV
def oP (k:Int):List D->R D
 | [.lst ds]=>match intsOf ds with
  | some []=>.ok (.int k)
  | some (n::ns)=>.ok (.int (ns.foldl min n))
  | none=>.bad
 | _=>.bad
end EV
namespace ES
open PySem PySem.Spec PyProof.Rows L2 EV
unseal SE ST SW SA SS SSs SI SO
section
variable {X:Cx} {N:List Str} {e:Expr} {g:E} {pos:Pos}
end
end ES
namespace ES
open PySem PySem.Spec PyProof.Rows L2 EV
unseal SE ST SW SA SS SSs SI SO
section
variable {prog:Program} {w:World} {A:Around} {R:Result->Shared->Prop} {I:Addr} {fp wr:List Addr} {n:Nat} {P:Nat->Value->Prop} {St:Nat->Heap->Prop}
abbrev dfl (d:Value):List (Str×Value):=[(Str.ofString "default",d)]
theorem nX:(toString "min"++toString ".loop":String)="min.loop":=by decide
theorem xw (W:Walks prog w A.in1 I fp wr n P St) (bt:Nat->Nat->Bool) (hcmp:CmpOf prog w A.in1 .Lt P bt) (S:Addr) (hSf:S∉fp) :
  ∀ (k j:Nat) (s:Shared) (vb:Value) (c:Nat),n - (j+1)=k->j+1<=n->St (j+1) s.heap->P (argBest bt j) vb->s.heap.get? S=some { cls:=.type "list",dict:=none,data:=.seq #[vb,vb] c,slots := #[] } ->
   (∀ v h' tk,P (argBest bt (n - 1)) v->(∀ b o,b∉wr->b≠S->s.heap.get? b=some o->h'.get? b=some o)->R (.ok (.ret v)) { s with heap:=h',toks:=tk }) ->
   codeAny ↥17 A (.builtin "min.loop" ⟨[.ref I,.none,.ref S],dfl d⟩) R s:=by
 have hSw:S∉wr:=fun z=>hSf (W.sub _ z)
 intro k
 induction k with
 | zero =>
  intro j s vb c hk hj hst hPb hS hR
  have hin:j+1=n:=⋯
  refine codeAny_builtin PySem.F.entry_min_loop ?_;rw [Around.under_plainId PySem.F.plain_min_loop _]
  (show wpAny _ A.in1 (seqItems? (.ref S) >>= _) _ _ s);refine wpAny_bind (wpAny_seqItems hS rfl ?_)
  (show wpAny _ A.in1 (tryCatch (pyNext (.ref I)) _ >>= _) _ _ s);refine wpAny_bind (wpAny_tryCatch (W.done s _ _ (hin▸hst) fun h' tk hk' => ?_))
  have hS':=hk' S _ hSw hS
  (show wpAny _ A.in1 (updateSeq S (fun _ => #[]) >>= _) _ _ _);refine wpAny_bind ?_;refine wpAny_updateSeq hS' rfl (wpAny_bind (wpAny_letGo (wpAny_pure ?_)))
  exact hR vb _ tk (by rw [<- hin];exact hPb) fun b o hbw hbS e=>(Heap.get?_update_other _ _ (Ne.symm hbS)).trans (hk' b o hbw e)
 | succ k ih =>
  intro j s vb c hk hj hst hPb hS hR
  have hlt:j+1<n:=⋯
  refine codeAny_builtin PySem.F.entry_min_loop ?_;rw [Around.under_plainId PySem.F.plain_min_loop _]
  (show wpAny _ A.in1 (seqItems? (.ref S) >>= _) _ _ s);refine wpAny_bind (wpAny_seqItems hS rfl ?_)
  (show wpAny _ A.in1 (tryCatch (pyNext (.ref I)) _ >>= _) _ _ s);refine wpAny_bind (wpAny_tryCatch (W.item (j+1) s _ _ hlt hst fun v h' tk hP hst' hk' => ?_))
  have hS':=hk' S _ hSw hS
  (show wpAny _ A.in1 (tryCatch (holding [v,v] (richCompare .Lt v vb >>= _)) _ >>= _) _ _ _);refine wpAny_bind (wpAny_tryCatch (wpAny_holding (wpAny_bind (hcmp (j+1) (argBest bt j) v vb _ _ _ hP hPb ?_))))
  refine wpAny_bind (wpAny_holding (wpAny_truthy_bool ?_));refine wpAny_bind (wpAny_letGo (wpAny_pure ?_))
  cases hb:bt (j+1) (argBest bt j) with
  | true =>
   simp only [if_true];refine wpAny_bind ?_;refine wpAny_updateSeq hS' rfl (wpAny_bind (wpAny_letGo ?_));rw [nX]
   refine wpAny_pure ⟨plainId_quiet PySem.F.plain_min_loop _,ih (j+1) _ v _ ⋯ hlt (W.frame _ _ _ hst' fun b hbf o e => ?_) (by simp only [argBest,hb,if_true];exact hP) (Heap.get?_update_self _ hS' rfl) fun v' h'' tk'' hP' hk'' => ?_⟩
   ·exact (Heap.get?_update_other _ _ (fun z:S=b=>hSf (by rw [z];exact hbf))).trans e
   ·exact hR v' h'' tk'' hP' fun b o hbw hbS e=>hk'' b o hbw hbS ((Heap.get?_update_other _ _ (Ne.symm hbS)).trans (hk' b o hbw e))
  | false =>
   simp only [Bool.false_eq_true,if_false];refine wpAny_bind (wpAny_letGo ?_);rw [nX]
   exact wpAny_pure ⟨plainId_quiet PySem.F.plain_min_loop _,ih (j+1) _ vb c ⋯ hlt hst' (by simp only [argBest,hb,Bool.false_eq_true,if_false];exact hPb) hS' fun v' h'' tk'' hP' hk''=>hR v' h'' tk'' hP' fun b o hbw hbS e=>hk'' b o hbw hbS (hk' b o hbw e)⟩
theorem uC (W:Walks prog w A.in1 I fp wr n P St) (bt:Nat->Nat->Bool) (hcmp:CmpOf prog w A.in1 .Lt P bt) (S:Addr) (hSf:S∉fp) (hst:St 0 s.heap)
  (hS:s.heap.get? S=some { cls:=.type "list",dict:=none,data:=.seq #[] c,slots := #[] })
  (h0:n=0->∀ h' tk,(∀ b o,b∉wr->s.heap.get? b=some o->h'.get? b=some o)->R (.ok (.ret d)) { s with heap:=h',toks:=tk })
  (hR:0<n->∀ v h' tk,P (argBest bt (n - 1)) v->(∀ b o,b∉wr->b≠S->s.heap.get? b=some o->h'.get? b=some o)->R (.ok (.ret v)) { s with heap:=h',toks:=tk }) :
  codeAny ↥17 A (.builtin "min.loop" ⟨[.ref I,.none,.ref S],dfl d⟩) R s:=by
 have hSw:S∉wr:=fun z=>hSf (W.sub _ z)
 refine codeAny_builtin PySem.F.entry_min_loop ?_;rw [Around.under_plainId PySem.F.plain_min_loop _]
 (show wpAny _ A.in1 (seqItems? (.ref S) >>= _) _ _ s);refine wpAny_bind (wpAny_seqItems hS rfl ?_)
 by_cases hn:n=0
 ·(show wpAny _ A.in1 (tryCatch (pyNext (.ref I)) _ >>= _) _ _ s);refine wpAny_bind (wpAny_tryCatch (W.done s _ _ (hn▸hst) fun h' tk hk' => ?_))
  (show wpAny _ A.in1 (rule _ >>= _) _ _ _);refine wpAny_bind (wpAny_rule (wpAny_pure ?_))
  exact h0 hn h' tk hk'
 ·(show wpAny _ A.in1 (tryCatch (pyNext (.ref I)) _ >>= _) _ _ s);refine wpAny_bind (wpAny_tryCatch (W.item 0 s _ _ ⋯ hst fun v h' tk hP hst' hk' => ?_))
  have hS':=hk' S _ hSw hS
  (show wpAny _ A.in1 (updateSeq S (fun _ => #[v,v]) >>= _) _ _ _);refine wpAny_bind ?_;refine wpAny_updateSeq hS' rfl ?_;rw [nX]
  refine wpAny_pure ⟨plainId_quiet PySem.F.plain_min_loop _,xw W bt hcmp S hSf _ 0 _ v _ rfl ⋯ (W.frame _ _ _ hst' fun b hbf o e => ?_) hP (Heap.get?_update_self _ hS' rfl) fun v' h'' tk'' hP' hk'' => ?_⟩
  ·exact (Heap.get?_update_other _ _ (fun z:S=b=>hSf (by rw [z];exact hbf))).trans e
  ·exact hR ⋯ v' h'' tk'' hP' fun b o hbw hbS e=>hk'' b o hbw hbS ((Heap.get?_update_other _ _ (Ne.symm hbS)).trans (hk' b o hbw e))
end
section
variable {prog:Program} {w:World} {A:Around} {E:Value->Shared->Prop} {s:Shared} {l:Addr} {xs:Array (Int×Tok)}
theorem EL (h1:builtinKind i=none) (h2:plainId i=true) (h3:entryFor table i=some f) (h4:argsOk i ⟨us,ks⟩)
  (h:wpAny ↥17 A.in1 (f ⟨us,ks⟩) (fun x s'=>match x with | .done r=>(match (Except.ok r:Result) with | .ok (.ret v)=>Q v s' | .ok _=>False | .error e=>E e s') | .again c=>c.quiet=true/\codeAny ↥17 A c (fun r s'=>match r with | .ok (.ret v)=>Q v s' | .ok _=>False | .error e=>E e s') s') E s) :
  wpAny ↥17 A (call (.builtin i) us ks) Q E s:=by
 refine wpAny_call (codeAny_call_builtin h2 h3 ?_);simp only [checkBuiltinCall,h1]
 cases q:Manifest.signature? i with
 | none=>exact wpAny_pure h
 | some sg=>simp only [show Bind.checkArgs i sg ⟨us,ks⟩=pure () by simpa only [argsOk,q] using h4];exact wpAny_pure h
theorem yI (a v:Value):argsOk "min" ⟨[a],dfl v⟩:=by unfold argsOk;kernel_rfl
theorem xx (hh:A.handled=none) (hl:s.heap.IsList l (intItems xs))
  (h:∀ v h' tk,(xs.size=0/\v=d\/0<xs.size/\(intItems xs)[argBest (fun i j=>decide (numAt xs i<numAt xs j)) (xs.size - 1)]? = some v)->(∀ b o,s.heap.get? b=some o->h'.get? b=some o)->Q v { s with heap:=h',toks:=tk }) :
  wpAny ↥17 A (call (.builtin "min") [.ref l] (dfl d)) Q E s:=by
 refine EL PySem.F.kind_min PySem.F.plain_min PySem.F.entry_min (yI _ _) ?_
 (show wpAny _ A.in1 (Builtin.Builtins.bindParams "min" ["key","default"] 0 ⟨[],dfl d⟩ >>= _) _ _ s);refine wpAny_bind (wpAny_of_eq (show Builtin.Builtins.bindParams "min" ["key","default"] 0 ⟨[],dfl d⟩=pure [none,some d] from rfl) ?_)
 refine wpAny_bind (wpAny_pure ?_);refine wpAny_bind (iter_intList hl fun s₂ e st hfp hlI => ?_)
 subst e
 refine wpAny_bind (wpAny_newObj_type ?_);rw [nX]
 have hz:(intItems xs).size=xs.size:=by simp [intItems]
 refine wpAny_pure ⟨plainId_quiet PySem.F.plain_min_loop _,uC (Walks.list (A:=A.in1) hh _ l hlI (intItems xs)) _ (CmpOf.ints_lt (numAt xs) (fun _ _=>intItems_at)) _ (fun z=>Nat.lt_irrefl _ (hfp _ z)) ((Walks.list (prog:=prog) (w:=w) (A:=A.in1) hh _ l hlI (intItems xs)).frame _ _ _ st fun b _ o e=>Heap.get?_push_of_some _ e) (Heap.get?_push_size _ rfl) (fun z h' tk hk => ?_) fun z v h' tk hP hk => ?_⟩
 ·exact h d h' tk (.inl ⟨by rw [<- hz];exact z,rfl⟩) (old_kept (l:=l) fun b o hb e=>hk b o hb (Heap.get?_push_of_some _ e))
 ·exact h v h' tk (.inr ⟨by rw [<- hz];exact z,by rw [<- hz];exact hP⟩) (old_kept (l:=l) fun b o hb e=>hk b o hb (Nat.ne_of_lt (Heap.lt_size e)) (Heap.get?_push_of_some _ e))
end
theorem tH {f:Nat->Int} {n:Int} {ns:List Int} (h0:f 0=n) (h1:∀ i,i<ns.length->ns[i]? = some (f (i+1))):∀ k,k<=ns.length->f (argBest (fun i j=>decide (f i<f j)) k)=(ns.take k).foldl min n
 | 0,_=>by rw [List.take_zero];exact h0
 | k+1,hk=>by
  have ih:=tH h0 h1 k ⋯
  rw [List.take_succ,h1 k ⋯,List.foldl_append]
  show f (if decide (f (k+1)<f (argBest _ k))=true then k+1 else argBest _ k)=min ((ns.take k).foldl min n) (f (k+1))
  rw [<- ih]
  by_cases g:f (k+1)<f (argBest (fun i j=>decide (f i<f j)) k)
  ·rw [if_pos (by simpa using g)];omega
  ·rw [if_neg (by simpa using g)];omega
section
variable {X:Cx} {N:List Str} {e:Expr} {g:E} {pos:Pos}
theorem Ia:NoX (oP k):=fun ds C z=>by
 unfold oP at z
 split at z
 ·split at z<;>cases z
 ·cases z
theorem Jj (hc:X.calm=true) {k:Int} {t:Tok} (pins:List ↥12) (s:Shared) (σ:L2.St) (H:Hp) (xs:List V) (us:List Value) (Q:VK) (I:Inv X pins σ H s) (rs:Vals xs us) (h:rC X (oP k) xs H Q) :
  wpAny ↥6 X.A (call (.builtin "min") us (dfl (.int k t))) (EP X pins σ Q) X.xe s:=by
 obtain ⟨ds,d,r,e,q⟩:=h
 unfold oP at e
 split at e
 ·rename_i ds'
  cases hns:intsOf ds' with
  | none=>rw [hns] at e;cases e
  | some ns =>
   obtain ⟨v,rfl,r1⟩:=uv r
   cases r1 with
   | @lst a ys _ hq rr =>
    obtain ⟨its,rv,pl,_⟩:=I.list hq
    obtain ⟨ts,e1,e2⟩:=pV hns rr rv
    cases rs with
    | cons h1 h2 =>
     cases h2
     cases h1
     have hl:s.heap.IsList a (intItems ts.toArray):=by
      have:=pl.isList
      rw [e1] at this
      rw [show intItems ts.toArray=(ts.map fun p=>Value.int p.1 p.2).toArray by simp [intItems]]
      exact this
     refine xx (I.ok.hd hc) hl fun v h' tk hv hk => ?_
     have fin:∀ (m:Int) (t':Tok),v=.int m t'->d=.int m->EP X pins σ Q v { s with heap:=h',toks:=tk }:=fun m t' ev ed=>by
      subst ev ed
      exact ⟨.int m,H,I.kept (t':=tk) hk,⟨_,rfl⟩,q _ _ ↥25 (.int _)⟩
     have hlen:ts.length=ns.length:=by rw [<- e2,List.length_map]
     cases ns with
     | nil =>
      rw [hns] at e
      rcases hv with ⟨_,hv⟩ | ⟨z,_⟩
      ·exact fin k t hv (R.ok.inj e).symm
      ·rw [List.size_toArray,hlen] at z;exact absurd z (Nat.lt_irrefl 0)
     | cons n ns =>
      rw [hns] at e
      rcases hv with ⟨z,_⟩ | ⟨_,hv⟩
      ·rw [List.size_toArray] at z;rw [z] at hlen;cases hlen
      ·obtain ⟨t',ev⟩:=intItems_at hv
       have at_:∀ i,numAt ts.toArray i=((n::ns)[i]?).getD 0:=fun i=>by
        rw [<- e2];unfold numAt;simp
       have bm:=tH (f:=numAt ts.toArray) (n:=n) (ns:=ns) (by rw [at_];rfl) (fun i hi=>by rw [at_];simp [List.getElem?_eq_getElem hi]) ns.length (Nat.le_refl _)
       rw [List.take_length] at bm
       have hs:ts.toArray.size - 1=ns.length:=by rw [List.size_toArray,hlen,List.length_cons];omega
       rw [hs,bm] at ev
       exact fin _ t' ev (R.ok.inj e).symm
 ·cases e
theorem IZ (hc:X.calm=true) (G:Gb X "min") (hm:X.mg "min"=none) {j} (ha:SA X [e] [g])
  (he:backTo pos (starEach [e] X.env)=(false,eval e X.env)::backTo pos (starEach [] X.env):=by rfl) (hpl:(backTo pos (starEach [e] X.env)).any (·.1)=false:=by rfl) :
  SE X (.Call (.Name "min" p) [e] [⟨some "default",.Constant (.int k) j cp,kp⟩] pos) (EV.call (oP k) [g]):=by
 intro pins s σ H Q I ⟨δ,hσ,q⟩
 refine wpAny_Call_Name_kw (xH I G.g hm boot_min ?_ G.n G.d)
 refine callWith_kw (thn (ha pos pins s σ H (fun vs H'=>∃ ds,ax H H'/\Reps X.K X.mg H' vs ds/\RQ X σ H' (oP k ds) Q) I ⟨δ,hσ,?_⟩) fun us s1 ⟨vs,H1,I1,r1,ds,s01,rp,q1⟩ => ?_) he hpl
 ·exact (RA.bind q).to fun vs H' s ⟨s',ds,rs,q⟩=>⟨ds,s',rs,q⟩
 ·refine kws_cons (thn (af pins s1 σ H1 (fun v H'=>v=.int k/\ax H1 H') I1 ⟨δ,hσ.mono s01,fun v H' s' r=>by cases r;exact ⟨rfl,s'⟩⟩) fun u s2 ⟨v,H2,I2,rv,ev,sm⟩=>kws_nil ?_)
  subst ev
  obtain ⟨t,rfl⟩:=rv
  obtain ⟨ds',d,r,e',q'⟩:=RQ.cl Ia rp q1
  exact Jj hc pins s2 σ H2 vs us Q I2 r1 ⟨ds',d,r.mono sm,e',fun v H' s'=>q' v H' (sm.trans s')⟩
end
end ES
namespace ES
open PySem PySem.Spec PyProof.Rows L2 EV
unseal SE ST SW SA SS SSs SI SO
section
variable {X:Cx} {N:List Str} {e:Expr} {g:E} {pos:Pos}
end
end ES
namespace ES
open PySem PySem.Spec PyProof.Rows L2 EV
structure DA (K:PySem.W.Frag) (n:Str) (st:Stmt):Prop where
 ex:∃ f fd,PySem.W.nsIn K mainGlobals n=some (some (.ref f))/\Fun K n n st f fd
theorem Jd {K:PySem.W.Frag} {n:Str} {st:Stmt} {f:Addr} {oc:Value} {od an:Option Addr} {osl:Array (Option Value)} {kV doc pm cdv ct:Value} (a:PySem.W.nsIn K mainGlobals n=some (some (.ref f))) (l:K.lookup f=some ⟨oc,od,.func (PySem.W.fnOf n n (eC st) (ai st) (aa st) .none kV doc pm an cdv ct),osl⟩)
  (c:PySem.W.codeIn K cdv n=true) (k:PySem.W.keepIn K (.ref f)=true):DA K n st:=⟨_,_,a,ma l c k⟩
theorem DA.fn {P:Program} {w:World} {K:PySem.W.Frag} {h:Heap} {mg:Str->Option Value} {base:Heap} {n:Str} {st:Stmt} {N G ps:List Str} {k a m:Nat} {g:S}
  (q:DA K n st) (KX:K.In h) (GG:h.Ns mainGlobals mg) (S:ScF N G ps (aa st)) (hn:ps.length=a) (hm:N.length=m) (B:∀ {f:Addr} {fd:FuncData},Fun K n n st f fd->Binds K fd ps [])
  (hbody:∀ X:Cx,Room k (at5 X P w K mg base).A->Lp (at5 X P w K mg base)->Own (at5 X P w K mg base)->Pl (at5 X P w K mg base) N G->(at5 X P w K mg base).env.scope=aa st->SSs (at5 X P w K mg base) (ai st) g) :
  FnP P w K mg base n (k+1) (fn a m g):=by
 obtain ⟨f,fd,a,F⟩:=q.ex
 exact IL (pX F S hn hm hbody) F.kp (PySem.W.mg_of KX GG a) (B F)
theorem FnP.c (F:FnP X.prog X.w X.K X.mg X.base x k f) (hr:Room j X.A) (h:k<=j:=by decide):Callee X x f:=F.callee hr h
end ES
local macro_rules | `(tactic| walk_at "S")=>`(tactic| exact ⟨⟨rfl,rfl,rfl,by decide +kernel,by decide +kernel,by decide +kernel,by decide +kernel⟩,by decide +kernel,by decide +kernel,by decide +kernel,by decide +kernel⟩)
namespace EV
def Lq:List Nat->Dt->List D->Option Dt
 | [],δ,[]=>some δ
 | i::is,δ,d::ds=>Lq is (δ.set i (some d)) ds
 | _,_,_=>none
end EV
namespace ES
open PySem PySem.Spec PyProof.Rows L2 EV
unseal SE ST SW SA SS SSs SI SO
section
variable {X:Cx}
end
end ES
namespace ES
open PySem PySem.Spec PyProof.Rows L2 EV
unseal SE ST SW SA SS SSs SI SO
def gIs:List Nat->TGs
 | []=>QI
 | i::is=>KZ (uN i) (gIs is)
section
variable {X:Cx} {N:List Str} {e:Expr} {es:List Expr} {g:IT} {gb:S} {body:List Stmt} {is:List Nat} {pos:Pos}
theorem O6:∀ {is:List Nat} {xs:List V} {ds:List D} {σ:L2.St} {δ δ2:Dt} {os:List (Nat×Addr)},StO X H σ δ os->Reps X.K X.mg ↥27 xs ds->Lq is δ ds=some δ2->(∀ σ2 os2,StO X H σ2 δ2 os2->ax ↥27 (hide H os2)->Q σ2 H)->gIs is xs σ H Q
 | [],xs,ds,σ,δ,δ2,os,S,r,e,q=>by
  cases r with
  | nil=>cases e;exact ⟨rfl,q _ _ S ↥25⟩
  | cons _ _=>cases e
 | i::is,xs,ds,σ,δ,δ2,os,S,r,e,q=>by
  cases r with
  | nil=>cases e
  | cons ra rr =>
   obtain ⟨S2,s2⟩:=S.set (i:=i) ra
   exact ⟨_,_,rfl,O6 S2 (rr.mono s2) e fun σ2 os2 S3 s3=>q σ2 os2 S3 (s2.trans s3)⟩
end
end ES
namespace ES
open PySem PySem.Spec PyProof.Rows L2 EV
section
variable {X:Cx} {N G:List Str} {e e1 e2 e3 e4:Expr} {es:List Expr} {g g1 g2 g3 g4:E} {gs:List E} {x:Str} {p pos:Pos} {f:List D->R D}
theorem Pl.v (P:Pl X N G) (i:Nat) (h:N[i]? = some x:=by rfl):SE X (.Name x pos) (var i):=lU P.sc i h
theorem Pl.w (P:Pl X N G) (i:Nat) (h:G[i]? = some x:=by rfl):Gb X x:=P.gb _ (mG i h)
theorem Pl.set (P:Pl X N G) (i:Nat) (h:SE X e g) (hN:N[i]? = some x:=by rfl) (hsw:swapsWith e (some (.Name x p)) pos.line X.env=pure false:=by rfl):SS X (.Assign [.Name x p] e pos) (assign i g):=DB P.toSx i hN (P.sto _ (mG i hN)) h hsw
theorem Pl.ret (P:Pl X N G) (h:SE X e g):SS X (.Return (some e) pos) (ret g):=Ki P.toSx h
theorem Pl.if_ {c:Expr} {gc:E} {body els:List Stmt} {gb ge:S} (P:Pl X N G) (hc:ST X c gc) (ha:SSs X body gb) (hb:SSs X els ge):SS X (.If c body els pos) (ifs gc gb ge):=OX P.toSx hc ha hb
theorem Pl.xp (P:Pl X N G) (h:SE X e g) (hs:swapsWith e none pos.line X.env=pure false:=by rfl):SS X (.Expr e pos) (expr g):=G9 P.toSx h hs
theorem Pl.y {j} (P:Pl X N G) (i:Nat) (h:N[i]? = some x:=by rfl):SE X (.Subscript (.Name x p1) (.Constant (.int k) j p2) pos) (bin oIx (var i) (con (.int k))):=A8 (lU P.sc i h) af
theorem Pl.call (P:Pl X N G) (i:Nat) (c:Callee X x f) (ha:SA X (e::es) gs) (h:G[i]? = some x:=by rfl) (he:starEach (e::es) X.env=(false,eval e X.env)::starEach es X.env:=by rfl) (hpl:(backTo pos (starEach es X.env)).any (·.1)=false:=by rfl) :
  SE X (.Call (.Name x p) (e::es) [] pos) (EV.call f gs):=yg c (P.gb _ (mG i h)) ha he hpl
theorem a1 (h1:SE X e1 g1) (s1:starEach [e1] X.env=(false,eval e1 X.env)::starEach [] X.env:=by rfl):SA X [e1] [g1]:=ah h1 cZ s1
theorem a2 (h1:SE X e1 g1) (h2:SE X e2 g2) (s1:starEach [e1,e2] X.env=(false,eval e1 X.env)::starEach [e2] X.env:=by rfl) (s2:starEach [e2] X.env=(false,eval e2 X.env)::starEach [] X.env:=by rfl):SA X [e1,e2] [g1,g2]:=ah h1 (ah h2 cZ s2) s1
theorem a3 (h1:SE X e1 g1) (h2:SE X e2 g2) (h3:SE X e3 g3) (s1:starEach [e1,e2,e3] X.env=(false,eval e1 X.env)::starEach [e2,e3] X.env:=by rfl) (s2:starEach [e2,e3] X.env=(false,eval e2 X.env)::starEach [e3] X.env:=by rfl) (s3:starEach [e3] X.env=(false,eval e3 X.env)::starEach [] X.env:=by rfl):SA X [e1,e2,e3] [g1,g2,g3]:=ah h1 (ah h2 (ah h3 cZ s3) s2) s1
end
end ES
local macro_rules | `(tactic| walk_at "C")=>`(tactic| exact ⟨rfl,by decide +kernel,by decide +kernel,by decide +kernel,by decide +kernel,by decide +kernel,by decide +kernel,by decide +kernel,by decide +kernel,by decide +kernel⟩)
namespace ES
open PySem PySem.Spec PyProof.Rows L2 EV
unseal SE ST SW SA SS SSs SI SO
section
variable {X:Cx} {pos:Pos} {a b:Expr} {ga gb:E}
end
end ES
namespace EV
def gY:D->D->R D
 | .int i,.int j=>if 0<=i/\j<0 then .ok (.int (i - ((i.toNat &&& (-j - 1).toNat:Nat):Int))) else .bad
 | _,_=>.bad
end EV
namespace ES
open PySem PySem.Spec PyProof.Rows L2 EV
unseal SE ST SW SA SS SSs SI SO
section
variable {X:Cx} {pos:Pos} {a b:Expr} {ga gb:E}
theorem EB:jq gY:=fun x y C z=>by unfold gY at z;split at z<;>first | cases z | exact eU z
theorem Ft (hi:0<=i) (hj:j<0):Builtin.bitAnd i j=i - ((i.toNat &&& (-j - 1).toNat:Nat):Int):=by
 unfold Builtin.bitAnd Builtin.bitNot
 rw [decide_eq_true hi,decide_eq_false ⋯]
theorem wI:OpR X (binaryOp .BitAnd) (rD X gY):=nR BX fun dx dy d e=>by
 unfold gY at e;split at e
 ·split at e
  ·rename_i h;cases e;exact ⟨_,_,rfl,rfl,by rw [Ft h.1 h.2]⟩
  ·cases e
 ·cases e
theorem Fd (ha:SE X a ga) (hb:SE X b gb):SE X (.BinOp a .BitAnd b pos) (EV.bin gY ga gb):=la EB wI ha hb
end
end ES
namespace EV
end EV
namespace ES
open PySem PySem.Spec PyProof.Rows L2 EV
unseal SE ST SW SA SS SSs SI SO
section
variable {X:Cx} {pos p p2:Pos} {a e:Expr} {g:E} {lo hi:Option Expr} {gl gu:Option E}
structure IsW (X:Cx) (n:String) (C:Addr):Prop where
 mg:X.mg n=some (.ref C)
 cl:Cls X.K C
 ha:PySem.W.findIn X.K (.ref C) "__class__"=some (some (.builtin "object.__class__"))
 hn:PySem.W.specialIn X.K (.builtin "object.__class__") "__get__"=some (some (.builtin "getset_descriptor.__get__"))
 htk:PySem.W.takesIn X.K (.builtin "object.__class__")=some true
 hm:PySem.W.mroIn X.K C (.type "object")=some true
 kit:PySem.W.kitOne X.K (.ref C) (.ref C)=some true
end
end ES
namespace EV
def zf (x:PySem.Str) (i:Int):PySem.Str:=if i<=x.cps.size then x else ⟨(List.replicate (i.toNat - x.cps.size) 48).toArray++x.cps⟩
end EV
namespace ES
open PySem PySem.Spec PyProof.Rows L2 EV
unseal SE ST SW SA SS SSs SI SO
section
variable {X:Cx} {pos:Pos} {a b:Expr} {ga gb:E}
end
end ES
namespace EV
end EV
namespace ES
open PySem PySem.Spec PyProof.Rows L2 EV
unseal SE ST SW SA SS SSs SI SO
section
variable {X:Cx} {pos:Pos} {a b:Expr} {ga gb:E}
end
end ES
namespace EV
def dv (l:List Nat):Nat:=l.foldl (fun a c=>a*10+(c - 48)) 0
end EV
namespace ES
open PySem PySem.Spec PyProof.Rows L2 EV
unseal SE ST SW SA SS SSs SI SO
section
variable {X:Cx} {pos:Pos} {tg e a b:Expr} {g ga gb:E}
end
end ES
namespace EV
end EV
namespace ES
open PySem PySem.Spec PyProof.Rows L2 EV
abbrev IsZ (h:Heap) (z TI TO:Addr) (f0:Value) (b:Bool):Prop :=
 h.get? z=some { cls:=.type "zip",dict:=none,data:=.fields #[f0,.bool b,.bool false,.ref TI,.ref TO],slots := #[] }
section
variable {prog:Program} {w:World} {A:Around} {E:Value->Shared->Prop} {s:Shared}
end
structure Zs (h:Heap) (z TI TO i1 i2 l1 l2 S N0:Addr) (xs ys:Array Value) (i:Nat) (acc:Array Value):Prop where
 zf:(IsZip h z TI TO .none/\∃ a b,IsPair h TO a b)\/∃ (T:Addr) (b:Bool),IsZ h z TI TO (rawInt T) b/\(∃ o,h.get? T=some o)/\N0<=T
 ti:IsPair h TI (.ref i1) (.ref i2)
 h1:h.IsListIter i1 l1 i
 h2:h.IsListIter i2 l2 i
 hl1:h.IsList l1 xs
 hl2:h.IsList l2 ys
 sz:N0<=h.objs.size
 al:acc.size=i
 ac:∀ (j:Nat) (v:Value),acc[j]? = some v->∃ (a:Addr) (x y:Value),v=Value.ref a/\xs[j]? = some x/\ys[j]? = some y/\IsPair h a x y/\N0<=a
 inj:∀ (j j':Nat) (a:Addr),acc[j]? = some (Value.ref a)->acc[j']? = some (Value.ref a)->j=j'
structure Zap (z TI TO i1 i2 l1 l2 S N0:Addr):Prop where
 D:ZipApart z TI TO i1 i2 l1 l2
 zN:z<N0
 TIN:TI<N0
 TON:TO<N0
 i1N:i1<N0
 i2N:i2<N0
 SN:S<N0
 Sz:S≠z
 STI:S≠TI
 STO:S≠TO
 Si1:S≠i1
 Si2:S≠i2
 Sl1:S≠l1
 Sl2:S≠l2
section
variable {prog:Program} {w:World} {A:Around} {R:Result->Shared->Prop} {z TI TO i1 i2 l1 l2 S N0:Addr} {xs ys:Array Value}
end
section
variable {prog:Program} {w:World} {A:Around} {E:Value->Shared->Prop} {s:Shared} {xs ys:Array Value}
end
section
variable {X:Cx} {pins:List ↥12} {σ:L2.St} {H H':Hp} {s:Shared}
end
unseal SE ST SW SA SS SSs SI SO
section
variable {X:Cx} {a b:Expr} {ga gb:E} {p p2 pos pos2:Pos}
end
end ES
namespace ES
open PySem PySem.Spec PyProof.Rows L2 EV
unseal SE ST SW SA SS SSs SI SO
section
variable {X:Cx} {N:List Str} {e e2:Expr} {g g2:E} {pos:Pos}
end
end ES
namespace EV
end EV
namespace ES
open PySem PySem.Spec PyProof.Rows L2 EV
unseal SE ST SW SA SS SSs SI SO
section
variable {prog:Program} {w:World} {A:Around} {E:Value->Shared->Prop} {s:Shared}
end
section
variable {X:Cx} {a b:Expr} {ga gb:E} {p p2 pos pos2:Pos}
end
end ES
namespace ES
open PySem PySem.Spec PyProof.Rows L2 EV
unseal SE ST SW SA SS SSs SI SO
section
variable {X:Cx} {pins:List ↥12} {σ:L2.St} {H:Hp} {s:Shared} {h':Heap}
end
section
variable {X:Cx} {a b:Expr} {ga gb:E} {p pos:Pos}
end
section
variable {X:Cx}
end
section
variable {prog:Program} {w:World} {A:Around} {E:Value->Shared->Prop} {s:Shared}
end
section
variable {X:Cx} {N:List Str} {e:Expr} {es:List Expr} {g:E} {is:List Nat} {pos:Pos}
end
end ES
namespace ES
open PySem PySem.Spec PyProof.Rows L2 EV
def tabI (K:PySem.W.Frag) (Cs:List (String×Addr)) (q:String×Addr):Bool:=PySem.W.kitOne K (.type "NoneType") (.ref q.2) == some false&&Cs.all fun p=>PySem.W.kitOne K (.ref p.2) (.ref q.2) == some (p.1 == q.1||q.1 == "MillError")
def FU (mg:Str->Option Value) (Cs:List (String×Addr)) (x:String):Prop:=mg x=none\/∃ C,mg x=some (.ref C)/\(x,C)∈Cs
theorem mP {ns:List (String×Addr)} (i:Nat) {x:String×Addr} (h:ns[i]? = some x:=by rfl):x∈ns:=List.mem_of_getElem? h
section
variable {K:PySem.W.Frag} {mg:Str->Option Value} {Cs ns:List (String×Addr)} {q:String×Addr}
theorem vT (t:ns.all (tabI K Cs)=true) (m:q∈ns):PySem.W.kitOne K (.type "NoneType") (.ref q.2)=some false:=by
 have:=List.all_eq_true.mp t q m
 unfold tabI at this
 rw [Bool.and_eq_true] at this
 exact eq_of_beq this.1
theorem vU (hC:∀ x∈ak,FU mg Cs x) (t:ns.all (tabI K Cs)=true) (m:q∈ns):∀ x∈ak,IF K mg (.ref q.2) (x == q.1||q.1 == "MillError") x:=fun x hx=>by
 have:=List.all_eq_true.mp t q m
 unfold tabI at this
 rw [Bool.and_eq_true] at this
 rcases hC x hx with z | ⟨C,e,mC⟩
 ·exact ⟨.inl z⟩
 ·exact ⟨.inr ⟨C,e,eq_of_beq (List.all_eq_true.mp this.2 (x,C) mC)⟩⟩
end
end ES
namespace EV
def few (rs:List D) (o:O):O:=if rs.length<100000 then o else .bad
end EV
namespace ES
open PySem PySem.Spec PyProof.Rows L2 EV
unseal SE ST SW SA SS SSs SI SO SSF
def Fr (K:PySem.W.Frag) (mg:Str->Option Value) (H H':Hp) (v:V) (d:D):Prop:=(∃ i,v=.int i/\d=.int i)\/∃ b vs ds,v=.ref b/\d=.lst ds/\H b=none/\H' b=some (.lst vs)/\Reps K mg H' vs ds/\EV.D.flats ds=true
def FrT (K:PySem.W.Frag) (mg:Str->Option Value) (H H':Hp) (v:V) (d:D):Prop:=∃ t v1 v2 d1 d2,v=.ref t/\d=.tup [d1,d2]/\H' t=some (.tup [v1,v2])/\Fr K mg H H' v1 d1/\Fr K mg H H' v2 d2
section
variable {K:PySem.W.Frag} {mg:Str->Option Value} {F F' H:Hp} {v:V} {d:D}
end
def TQ (K:PySem.W.Frag) (mg:Str->Option Value) (H:Hp) (d:D) (Q:VK):Prop:=(∀ v H',ax H H'->FrT K mg H H' v d->Q v H')/\(d=.non->∀ H',ax H H'->Q .non H')
def OQT (X:Cx) (D:Ends) (F:Hp):O->Prop
 | .rt d=>∀ v H,ax F H->FrT X.K X.mg F H v d->D.rt v H
 | o=>OQ X D F o
def tST (X:Cx) (g:S):TS:=fun D σ H=>∃ δ os,StO X H σ δ os/\OQT X D ↥27 (g δ)
@[irreducible] def SST (X:Cx) (st:List Stmt) (g:S):Prop:=PSs X st (tST X g)
unseal SST
section
variable {X:Cx} {N:List Str}
variable {st:Stmt} {rest:List Stmt} {gs gr:S} {e:Expr} {g:E} {pos:Pos}
end
def spT (K:PySem.W.Frag) (mg:Str->Option Value) (f:List D->R D):Sp:=fun vs H Q E=>∃ ds,Reps K mg H vs ds/\match f ds with
 | .ok d=>TQ K mg H d Q
 | .ex C=>∀ Ca,mg C=some (.ref Ca)->∀ H',ax H H'->E (.ref Ca) none H'
 | .bad=>False
structure FnT (P:Program) (w:World) (K:PySem.W.Frag) (mg:Str->Option Value) (base:Heap) (x:Str) (k:Nat) (f:List D->R D):Prop where
 ex:∃ fa fd ps,FnOk P w K mg base (CXF P w) k fa fd ps (spT K mg f)/\mg x=some (.ref fa)/\PySem.W.keepIn K (.ref fa)=true/\Binds K fd ps []
structure CalleeT (X:Cx) (x:Str) (f:List D->R D):Prop where
 ex:∃ k fa fd ps,FnOk X.prog X.w X.K X.mg X.base (CXF X.prog X.w) k fa fd ps (spT X.K X.mg f)/\Room k X.A/\X.mg x=some (.ref fa)/\PySem.W.keepIn X.K (.ref fa)=true/\Binds X.K fd ps []
section
variable {X:Cx} {N:List Str} {x:Str} {f:List D->R D} {e:Expr} {es:List Expr} {gs:List E} {p pos:Pos} {g:E}
end
section
variable {X:Cx} {D:Ends} {F:Hp} {r:R EV.D}
end
section
variable {K:PySem.W.Frag} {mg:Str->Option Value} {H H' H'':Hp} {σ:L2.St} {δ:Dt} {i:Nat} {v:V} {d:D}
end
section
variable {X:Cx} {N:List Str}
end
section
variable {X:Cx} {N:List Str} {D:Ends} {F:Hp} {r:R EV.D}
end
end ES
namespace EV
def lR:D->D->R D
 | .int i,.int j=>if 0<j then .ok (.int (i / j)) else .bad
 | _,_=>.bad
theorem sU {i j:Int} (h:0<j):lR (.int i) (.int j)=.ok (.int (i / j)):=by unfold lR;simp only;rw [if_pos h]
end EV
namespace ES
open PySem PySem.Spec PyProof.Rows L2 EV
unseal SE ST SW SA SS SSs SI SO SSF SST
section
variable {X:Cx} {a b:Expr} {ga gb:E} {pos:Pos}
theorem Ie:jq lR:=fun x y C z=>by unfold lR at z;split at z<;>first | cases z | exact eU z
theorem Eb (O:Own X) (hN:X.base.NoSeer) (ht:X.prog.given.tree=none) (hgen:X.env.scope.isGenerator=false) (hco:X.env.scope.isCoroutine=false) {k:Nat} (hr:Room k X.A) (hk:32<=k):OpR X (binaryOp .FloorDiv) (rD X lR):=by
 intro pins s σ H x y v u Q I rx ry ⟨dx,dy,d,r1,r2,e,q⟩
 unfold lR at e
 split at e
 ·split at e
  ·rename_i i j h0
   cases e
   cases r1
   cases r2
   obtain ⟨t,rfl⟩:=rx
   obtain ⟨t',rfl⟩:=ry
   refine floordiv_int ⋯ ?_ (.inr (PylongRoom.of I.nolimit ?_ (SeerAt.of (hN.keeps I.bk) ht (by rw [I.ok.frames,O.stk]) hgen hco I.ok.blt I.ok.glob)))
   ·rw [Int.fdiv_eq_ediv_of_nonneg i ⋯]
    exact ⟨.int (i / j),H,I.tok _,⟨_,rfl⟩,q _ _ ↥25 (.int _)⟩
   ·have:=hr.dp
    show X.A.depth+100<_
    omega
  ·cases e
 ·cases e
theorem Ja (O:Own X) (hN:X.base.NoSeer) (ht:X.prog.given.tree=none) (hgen:X.env.scope.isGenerator=false) (hco:X.env.scope.isCoroutine=false) {k:Nat} (hr:Room k X.A) (hk:32<=k) (ha:SE X a ga) (hb:SE X b gb):SE X (.BinOp a .FloorDiv b pos) (EV.bin lR ga gb) :=
 la Ie (Eb O hN ht hgen hco hr hk) ha hb
end
theorem xI {P:Program} {w:World} {K:PySem.W.Frag} {mg mb:Str->Option Value} {CX:CXT} {k:Nat} {fa a:Addr} {fd:FuncData} {x:Str} {sp:Sp} {s₁:Shared} {vs:List Value} {ns:List Int}
  (KX:K.In s₁.heap) (hns:s₁.heap.Ns mainGlobals mg) (hb:s₁.heap.Ns builtinsNs mb) (hbb:∀ x:Str,x≠"__name__"->mb x=bootBuiltins x) (hlim:s₁.heap.NoLimit) (hN:s₁.heap.NoSeer) (hg:s₁.gens = #[])
  (ha:s₁.heap.get? a=some { cls:=.type "list",data:=.seq vs.toArray }) (hi:IntsAre vs ns) (hl:ns.length<=sizeLine) (hr:Room k callerA)
  (F:∀ base:Heap,K.In base->base.Ns mainGlobals mg->base.NoSeer->FnOk P w K mg base CX k fa fd [x] sp) (hbind:∀ (s:Shared) (u:Value),BindsTo s fd ⟨[u],[]⟩ [(x,u)])
  (hsp:∀ H:Hp,Ox H->SqL K H a (ns.map V.int)->sp [.ref a] H (fun v _=>v=.bl true) fun _ _ _=>False)
  (hCX:∀ H e s',CX [] H s₁ (fun _ _ _=>False) e s'->False) :
  codeAny (model P w) callerA (.call (.ref fa) ⟨[.ref a],[]⟩) (fun r s'=>r=.ok (.ret (.bool true))/\OldK s₁.heap s'.heap/\s'.os=s₁.os/\AllBare s'.gens) s₁:=by
 have rv:=oV hi
 have lenV:=hi.length
 obtain ⟨H,hO,hS,hok,hA,hK⟩:∃ H:Hp,Ox H/\SqL K H a (ns.map V.int)/\HOk P w H s₁.heap/\(∀ b,H b≠none->b=a)/\(H a≠none->K.lookup a=none):=by
  cases hk:K.lookup a with
  | some o =>
   have e:=KX a o hk
   rw [ha] at e
   cases e
   exact ⟨fun _=>none,fun _=>.inl rfl,.inr ⟨_,vs.toArray,_,hk,rfl,rfl,rfl,by rw [List.size_toArray,lenV];exact hl,by simpa using rv⟩,fun b u z=>(nomatch z),fun b z=>absurd rfl z,fun z=>absurd rfl z⟩
  | none =>
   refine ⟨fun b=>if b=a then some (.frz { cls:=.type "list",data:=.seq vs.toArray } (.lst (ns.map V.int))) else none,fun b => ?_,.inl (.inr ⟨_,if_pos rfl⟩),fun b u z => ?_,fun b z => ?_,fun _=>rfl⟩
   ·by_cases q:b=a
    ·exact .inr ⟨_,_,if_pos q⟩
    ·exact .inl (if_neg q)
   ·by_cases q:b=a
    ·have z':=(if_pos q).symm.trans z
     cases z'
     rw [q]
     exact ⟨ha,by rw [List.length_map];exact hl,vs,_,rv,ha⟩
    ·have z':=(if_neg q).symm.trans z
     cases z'
   ·by_cases q:b=a
    ·exact q
    ·exact absurd (if_neg q) z
 have free:∀ {b:Addr} {o:Obj},s₁.heap.get? b=some o->(o.cls ≠ .type "list"\/∃ es ep,o.data=.dict es ep)->H b=none:=fun {b o} e n=>by
  cases q:H b with
  | none=>rfl
  | some u =>
   have e':b=a:=hA b (by rw [q];simp)
   rw [e',ha] at e
   cases e
   rcases n with n | ⟨es,ep,n⟩
   ·exact absurd rfl n
   ·cases n
 have nsK:∀ {b:Addr} {m:Str->Option Value},s₁.heap.Ns b m->(B3 s₁.heap H).Ns b m:=fun {b m} ⟨o,es,ep,e,d,r⟩=>⟨o,es,ep,oj e (free e (.inr ⟨es,ep,d⟩)),d,r⟩
 have hKb:K.In (B3 s₁.heap H):=fun b o e=>oj (KX b o e) (by
  cases q:H b with
  | none=>rfl
  | some u =>
   have e':b=a:=hA b (by rw [q];simp)
   rw [e'] at e q
   rw [hK (by rw [q];simp)] at e
   cases e)
 have hNb:(B3 s₁.heap H).NoSeer:=⟨let ⟨m,p,q⟩:=hN.statics;⟨m,nsK p,q⟩,let ⟨m,p,q⟩:=hN.mods;⟨m,nsK p,q⟩,let ⟨m,p,q⟩:=hN.imp;⟨m,nsK p,q⟩,let ⟨m,bm,ob,p,q,r,t,u⟩:=hN.main;⟨m,bm,ob,nsK p,q,oj r (free r (.inl (by rw [t];simp))),t,u⟩⟩
 have e0:Env0 P w K mg (B3 s₁.heap H) callerA [] s₁ H:=⟨rfl,⟨hKb,nsK hns,⟨mb,nsK hb,hbb⟩,let ⟨mc,h1,h2⟩:=hlim;⟨mc,nsK h1,h2⟩⟩,fun b o e=>Ej e,Nat.le_of_eq (xS _ _),trivial,fun b hb=>absurd (show b∈([]:List Addr) from hb) (by simp),hok,.of_eq hg⟩
 refine codeAny_mono ((F _ hKb (nsK hns) hNb).run callerA [] s₁ H ⟨[.ref a],[]⟩ [.ref a] [.ref a] _ _ hr e0 (hbind s₁ (.ref a)) (.cons rfl .nil) (hsp H hO hS)) fun r s' h => ?_
 cases r with
 | error e=>exact (hCX H e s' h).elim
 | ok fl =>
  cases fl with
  | next=>exact False.elim h
  | brk=>exact False.elim h
  | cont=>exact False.elim h
  | ret u =>
   obtain ⟨v,H',os,bare,un,hok',r',q⟩:=h
   have q':v=.bl true:=q
   subst q'
   obtain rfl:u=Value.bool true:=r'
   refine ⟨rfl,OldK.of_keep fun b o e => ?_,os,bare⟩
   cases q:H b with
   | none=>exact un.keep b o e q (by intro z;exact absurd (show b∈([]:List Addr) from z) (by simp)) (by simp)
   | some u =>
    rcases hO b with z | ⟨ob,xs,z⟩
    ·rw [q] at z;cases z
    ·obtain ⟨e1,_⟩:=hok b _ z
     obtain ⟨e2,_⟩:=hok' b _ (un.frzs b ob _ z)
     rw [e] at e1
     cases e1
     exact e2
theorem vH {l:PySem.W.OpenLaw} {k:Nat} {q:Program} {loose:List Str} {XP:(Str->Option Value)->Heap->Prop} {YP:World->Heap->Prop} {d:DefRec} {K:Params->PySem.W.Frag} {x:Str} {f:List D->R D}
  (hf:Good f) (hn:l.most=some 63) (hdf:d.params.defaults=[]) (hr:Room k callerA) (hq:importsNone q=true)
  (hY:∀ (w:World) (h:Heap),YP w h->(K w.params).In h)
  (F:∀ (w:World) (mg:Str->Option Value) (fa:Addr) (h:Heap),(K w.params).In h->h.Ns mainGlobals mg->mg d.name=some (.ref fa) ->
   ∃ fd:FuncData,(∀ (s:Shared) (u:Value),BindsTo s fd ⟨[u],[]⟩ [(x,u)]) /\
    ∀ base:Heap,(K w.params).In base->base.Ns mainGlobals mg->base.NoSeer->FnOk l.prog w (K w.params) mg base (CXF l.prog w) k fa fd [x] (spP (K w.params) mg f)) :
  PySem.W.WalkO q loose XP YP l.row.toRowW d [] (fun f vs=>PySem.call f vs):=by
 refine su hn hdf fun w s₀ s₁ mg mb fa a vs ns G Y hmg hobj hints hlen hbits hg => ?_
 have KX:=hY w _ Y
 obtain ⟨fd,hb,hF⟩:=F w mg fa _ KX G.T.g hmg
 refine xI KX G.T.g G.T.b G.T.builtins G.T.nolimit (G.T.seer hq) hg hobj hints (Nat.le_trans hlen ↥3) hr hF hb (fun H hO hS=>⟨[.lst (ns.map .int)],.cons (.lst hS (Reps.ints ns)) .nil,?_⟩) fun H e s' ⟨_,_,_,_,_,z⟩=>z
 rw [hf ns hlen hbits]
 exact fun v H' _ r=>by cases r;rfl
end ES
namespace T
open EV
def dk:S :=
 seq (assign 1 (bin oMod (var 0) ⇑8))
 (seq (assign 2 (bin oDiv (var 0) ⇑8))
 (seq (ifs (bin oLt (var 1) ⇑4) (ret (bin oIx (xy [d7 [⇑5,⇑10],d7 [⇑8,⇑23],d7 [⇑11,⇑52],d7 [⇑15,⇑112]]) (var 1))) (aq))
 (seq (ifs (bin oLt (var 1) ⇑6) (ret (d7 [bin cw ⇑2 (bin oMod (var 2) ⇑14),bin cw ⇑1 (bin oMod (bin oDiv (var 2) ⇑14) ⇑112)])) (aq))
 (ret (d7 [bin cw ⇑2 (bin oMod (var 2) ⇑4),bin cw ⇑1 (bin oMod (bin oDiv (var 2) ⇑4) ⇑5)])))))
def cv:List D->R D:=fn 1 3 dk
def dX:S :=
 ret (bin oIx (xy [con (.str "even"),con (.str "away"),con (.str "nought"),con (.str "up"),con (.str "down")]) (bin oMod (var 0) ⇑5))
def cT:List D->R D:=fn 1 1 dX
def cA:S :=
 seq (assign 2 (bin bZ ⇑1 (bin cw ↥33 ↥10)))
 (seq (assign 3 (bin cD (var 2) (bin bZ ⇑1 ↥10)))
 (seq (assign 4 (bin oMod (var 1) ⇑6))
 (seq (assign 5 (bin oDiv (var 1) ⇑6))
 (seq (ifs (bin oLt (var 4) ⇑2) (seq (assign 10 (bin oMod (bin dH (var 5) ⇑73846150927364518273645509182736455091829) (bin dH ⇑2 (var 3))))
 (ret (bin cw (bin dH (bin oDiv (var 10) (var 3)) (var 2)) (bin oMod (var 10) (var 3))))) (aq))
 (seq (assign 6 (bin dH (bin oMod (var 5) ⇑2) (var 2)))
 (seq (assign 5 (bin oDiv (var 5) ⇑2))
 (seq (ifs (bin oEq (var 4) ⇑2) (ret (bin cw (var 6) (bin oMod (var 5) ⇑6))) (aq))
 (seq (ifs (bin oEq (var 4) ⇑3) (ret (bin cD (bin cD (bin cw (var 6) (var 3)) ⇑1) (bin oMod (var 5) ⇑4))) (aq))
 (seq (assign 7 (bin cD (bin bZ ⇑1 (bin cD ↥33 ⇑1)) ⇑1))
 (seq (ifs (bin oEq (var 4) ⇑4) (ret (bin cw (bin cD (bin cw (var 6) (bin bZ (var 7) ↥10)) ⇑2) (bin oMod (var 5) ⇑5))) (aq))
 (seq (assign 8 (call Br [⇑0,call Fy [bin cD (bin bZ ⇑1 ↥33) ⇑2,bin cw (bin cD (var 7) ⇑3) (bin oMod (var 5) ⇑8)]]))
 (seq (assign 9 (bin oMod (bin dH (bin oDiv (var 5) ⇑8) ⇑73846150927364518273645509182736455091829) (bin bZ ⇑1 ↥10)))
 (ret (bin cw (bin cw (var 6) (bin bZ (var 8) ↥10)) (var 9)))))))))))))))
def bf:List D->R D:=fn 2 11 cA
def dm:S :=
 seq (ifs (bin oLt (var 1) (call yV [var 0])) (ret (bin oIx (var 0) (var 1))) (aq))
 (ret ⇑0)
def bx:List D->R D:=fn 2 2 dm
def kd:S :=
 seq (ifs (bin gX (var 0) (con (.tup [.str "even",.str "away",.str "nought",.str "up",.str "down"]))) (raise "NoWay") (aq))
 (ret (call (mk1 "Way" "name") [var 0]))
def br:List D->R D:=fn 1 1 kd
def gF:S :=
 ret (bin bZ ⇑1 (bin cw ↥33 ↥10))
def b9:List D->R D:=fn 1 1 gF
def oo:S :=
 ret (bin cw (bin cw ↥33 ↥10) ⇑1)
def kE:List D->R D:=fn 1 1 oo
def kh:S :=
 seq (ifs (or_ (bin oLt (var 1) ⇑0) (bin oGe (var 1) (bin bZ ⇑1 (call kE [var 0])))) (raise "NoBits") (aq))
 (seq (assign 2 (bin oMod (var 1) (call b9 [var 0])))
 (seq (assign 3 (bin bZ ⇑1 ↥10))
 (ret (d7 [bin oDiv (var 1) (call b9 [var 0]),bin oDiv (var 2) (var 3),bin oMod (var 2) (var 3)]))))
def aR:List D->R D:=fn 2 4 kh
def dZ:S :=
 EZ 2 (itA (var 1)) (expr (call aR [var 0,var 2]))
def cU:List D->R D:=fn 2 3 dZ
def dY:S :=
 ret (bin cD (bin bZ ⇑1 ↥33) ⇑1)
def aY:List D->R D:=fn 1 1 dY
def tf:S :=
 seq (assign 2 (call aR [var 0,var 1]))
 (seq (assign 3 (bin oIx (var 2) ⇑1))
 (seq (assign 4 (bin oIx (var 2) ⇑2))
 (seq (ifs (bin oEq (var 3) ⇑0) (ret (ife (bin oEq (var 4) ⇑0) (con (.str "nought")) (con (.str "faint")))) (aq))
 (seq (ifs (bin oEq (var 3) (call aY [var 0])) (ret (ife (bin oEq (var 4) ⇑0) (con (.str "endless")) (con (.str "none")))) (aq))
 (ret (con (.str "plain")))))))
def aX:List D->R D:=fn 2 5 tf
def cP:S :=
 seq (expr (call cU [var 0,var 1]))
 (EZ 2 (itA (var 1)) (ifs (bin oIn (call aX [var 0,var 2]) (con (.tup [.str "endless",.str "none"]))) (raise "NotFinite") (aq)))
def aE:List D->R D:=fn 2 3 cP
def bO:S :=
 seq (ifs (or_ (bin oIn (call aX [var 0,bin oIx (var 1) ⇑0]) (con (.tup [.str "endless",.str "none"]))) (bin oNe (bin iG (bin oIx (var 1) ⇑1) ⇑4) ⇑0)) (raise "NoLeft") (aq))
 (ret (bin oIx (var 1) ⇑0))
def aw:List D->R D:=fn 2 2 bO
def fc:S :=
 seq (il 2 (iU (itA (var 1)) [0] (con ↥24) (call aX [var 1,var 0])))
 (Hr 2 (ret (bin oIn (con (.str "none")) (var 2))))
def bN:List D->R D:=fn 2 3 fc
def bX:S :=
 ifs (or_ (bin oLt (var 0) ⇑0) (bin oLt (var 1) ⇑1)) (raise "NoFraction") (aq)
def aO:List D->R D:=fn 2 2 bX
def kg:S :=
 seq (ifs (bin oGe (var 2) ⇑0) (ret (d7 [var 0,bin bZ (var 1) (var 2)])) (aq))
 (ret (d7 [bin bZ (var 0) (un En (var 2)),var 1]))
def di:List D->R D:=fn 3 3 kg
def tj:S :=
 ret (bin cD (bin bZ ⇑1 (bin cD ↥33 ⇑1)) ⇑1)
def pG:List D->R D:=fn 1 1 tj
def AU:S :=
 ret (bin cD (bin cD ⇑1 (call pG [var 0])) ↥10)
def iF:List D->R D:=fn 1 1 AU
def bW:S :=
 seq (ifs (bin oEq (var 0) ⇑0) (ret ⇑0) (aq))
 (seq (ifs (bin oLt (var 1) (var 2)) (ret ⇑1) (aq))
 (ret (ife (bin oEq (var 1) (var 2)) ⇑2 ⇑3)))
def aM:List D->R D:=fn 3 3 bW
def iP:S :=
 ret (call aM [var 0,bin dH ⇑2 (var 0),var 1])
def fS:List D->R D:=fn 2 2 iP
def ki:S :=
 seq (assign 2 (bin cD (call ip [var 0]) (call ip [var 1])))
 (seq (assign 3 (call di [var 0,var 1,var 2]))
 (ret (ife (bin oLt (bin oIx (var 3) ⇑0) (bin oIx (var 3) ⇑1)) (var 2) (bin cw (var 2) ⇑1))))
def fw:List D->R D:=fn 2 4 ki
def xV:S :=
 seq (expr (call aO [var 1,var 2]))
 (seq (ifs (bin oEq (var 1) ⇑0) (ret (d7 [⇑0,call iF [var 0],⇑0])) (aq))
 (seq (assign 3 (call Br [call iF [var 0],bin cD (bin cD (call fw [var 1,var 2]) ↥10) ⇑1]))
 (seq (assign 4 (call di [var 1,var 2,var 3]))
 (ret (d7 [bin oDiv (bin oIx (var 4) ⇑0) (bin oIx (var 4) ⇑1),var 3,call fS [bin oMod (bin oIx (var 4) ⇑0) (bin oIx (var 4) ⇑1),bin oIx (var 4) ⇑1]])))))
def rl:List D->R D:=fn 3 5 xV
def iR:S :=
 ret (bin bZ (call aY [var 0]) ↥10)
def aZ:List D->R D:=fn 1 1 iR
def kf:S :=
 ret (bin cw (bin dH (var 1) (call b9 [var 0])) (var 2))
def cu:List D->R D:=fn 3 3 kf
def dW:S :=
 seq (ifs (bin oEq (var 2) (call aZ [var 0])) (ret (bin cw ⇑1 ⇑4)) (aq))
 (seq (assign 3 (bin oLt (var 1) (bin bZ ⇑1 ↥10)))
 (ret (ife (var 3) (bin cw ⇑1 ⇑2) ⇑1)))
def cS:List D->R D:=fn 3 4 dW
def a9:S :=
 seq (ifs (bin oEq (un (vi "Way" "name") (var 0)) (con (.str "up"))) (ret (bin oEq (var 1) ⇑0)) (aq))
 (ret (eH (bin oEq (un (vi "Way" "name") (var 0)) (con (.str "down"))) (bin oEq (var 1) ⇑1)))
def aK:List D->R D:=fn 2 2 a9
def dF:S :=
 seq (ifs (bin oEq (var 3) ⇑0) (ret (con ↥38)) (aq))
 (seq (ifs (bin oEq (un (vi "Way" "name") (var 0)) (con (.str "even"))) (ret (or_ (bin oEq (var 3) ⇑3) (eH (bin oEq (var 3) ⇑2) (var 2)))) (aq))
 (seq (ifs (bin oEq (un (vi "Way" "name") (var 0)) (con (.str "away"))) (ret (bin oGe (var 3) ⇑2)) (aq))
 (ret (FW "Way" "flees_nought" aK (var 0) [var 1]))))
def fz:List D->R D:=fn 4 4 dF
def cV:S :=
 seq (ifs (bin oIn (un (vi "Way" "name") (var 0)) (d7 [con (.str "even"),con (.str "away")])) (ret (con ↥24)) (aq))
 (ret (FW "Way" "flees_nought" aK (var 0) [var 1]))
def dR:List D->R D:=fn 2 2 cV
def iO:S :=
 seq (assign 6 (call br [var 1]))
 (seq (assign 7 (bin cw (bin bZ (bin cD (var 4) (call iF [var 0])) ↥10) (var 3)))
 (seq (assign 8 (call aZ [var 0]))
 (seq (ifs (bin oGe (var 7) (var 8)) (seq (assign 9 (ife (FW "Way" "bursts" dR (var 6) [var 2]) (var 8) (bin cD (var 8) ⇑1)))
 (ret (d7 [call cu [var 0,var 2,var 9],bin cw ⇑1 ⇑4]))) (aq))
 (seq (ifs (bin oEq (var 5) ⇑0) (ret (d7 [call cu [var 0,var 2,var 7],⇑0])) (aq))
 (seq (assign 9 (ife (FW "Way" "grows" fz (var 6) [var 2,bin oEq (bin iG (var 7) ⇑1) ⇑1,var 5]) (bin cw (var 7) ⇑1) (var 7)))
 (ret (d7 [call cu [var 0,var 2,var 9],call cS [var 0,var 7,var 9]])))))))
def dA:List D->R D:=fn 6 10 iO
def fU:S :=
 seq (expr (call br [var 1]))
 (seq (assign 5 (call rl [var 0,var 3,var 4]))
 (ret (call dA [var 0,var 1,var 2,bin oIx (var 5) ⇑0,bin oIx (var 5) ⇑1,bin oIx (var 5) ⇑2])))
def bJ:List D->R D:=fn 5 6 fU
def gI:S :=
 ret (call bJ [var 0,var 1,bin kJ (bin oIx (var 2) ⇑0) (bin oIx (var 3) ⇑0),bin dH (bin oIx (var 2) ⇑1) (bin oIx (var 3) ⇑2),bin dH (bin oIx (var 2) ⇑2) (bin oIx (var 3) ⇑1)])
def eQ:List D->R D:=fn 4 4 gI
def bV:S :=
 seq (assign 1 ↥10)
 (seq (assign 2 (bin oIx (var 0) ⇑2))
 (seq (ifs (bin oGe (var 2) ⇑0) (ret (d7 [bin oIx (var 0) ⇑0,bin bZ (var 1) (var 2),⇑1])) (aq))
 (ret (d7 [bin oIx (var 0) ⇑0,var 1,bin bZ ⇑1 (un En (var 2))]))))
def aL:List D->R D:=fn 1 3 bV
def om:S :=
 seq (assign 2 (call aR [var 0,var 1]))
 (seq (assign 3 (bin oIx (var 2) ⇑0))
 (seq (assign 4 (bin oIx (var 2) ⇑1))
 (seq (assign 5 (bin oIx (var 2) ⇑2))
 (seq (ifs (bin oEq (var 4) (call aY [var 0])) (raise "NotFinite") (aq))
 (seq (ifs (bin oEq (var 4) ⇑0) (ret (d7 [var 3,var 5,call iF [var 0]])) (aq))
 (ret (d7 [var 3,bin cw (bin bZ ⇑1 ↥10) (var 5),bin cD (bin cw (call iF [var 0]) (var 4)) ⇑1])))))))
def cE:List D->R D:=fn 2 6 om
def gR:S :=
 ret (call aL [call cE [var 0,var 1]])
def bM:List D->R D:=fn 2 2 gR
def fE:S :=
 ret (bin cw (call aZ [var 0]) (bin bZ ⇑1 (bin cD ↥10 ⇑1)))
def bw:List D->R D:=fn 1 1 fE
def iS:S :=
 seq (expr (call br [var 1]))
 (seq (ifs (call bN [var 0,xy [var 2,var 3]]) (ret (d7 [call bw [var 0],⇑0])) (aq))
 (seq (assign 4 (call aX [var 0,var 2]))
 (seq (assign 5 (call aX [var 0,var 3]))
 (seq (ifs (eH (bin oEq (var 4) (var 5)) (bin oIn (var 4) (d7 [con (.str "nought"),con (.str "endless")]))) (ret (d7 [call bw [var 0],⇑16])) (aq))
 (seq (assign 6 (bin kJ (bin oIx (call aR [var 0,var 2]) ⇑0) (bin oIx (call aR [var 0,var 3]) ⇑0)))
 (seq (ifs (bin oEq (var 4) (con (.str "endless"))) (ret (d7 [call cu [var 0,var 6,call aZ [var 0]],⇑0])) (aq))
 (seq (ifs (or_ (bin oEq (var 4) (con (.str "nought"))) (bin oEq (var 5) (con (.str "endless")))) (ret (d7 [call cu [var 0,var 6,⇑0],⇑0])) (aq))
 (seq (ifs (bin oEq (var 5) (con (.str "nought"))) (ret (d7 [call cu [var 0,var 6,call aZ [var 0]],⇑8])) (aq))
 (ret (call eQ [var 0,var 1,call bM [var 0,var 2],call bM [var 0,var 3]]))))))))))
def bQ:List D->R D:=fn 4 7 iS
def ou:S :=
 ret (d7 [bin cD ⇑1 ↥33,bin oIx (var 0) ⇑1,bin oIx (var 0) ⇑2])
def fT:List D->R D:=fn 1 1 ou
def oq:S :=
 seq (assign 1 (call (oP 0) [comp (itA (var 0)) [] (bin oIx (var 0) ⇑2)]))
 (seq (assign 2 ⇑0)
 (seq (EZ 3 (itA (var 0)) (seq (assign 4 (bin bZ (bin oIx (var 3) ⇑1) (bin cD (bin oIx (var 3) ⇑2) (var 1))))
 (assign 2 (ife (bin oEq (bin oIx (var 3) ⇑0) ⇑1) (bin cD (var 2) (var 4)) (bin cw (var 2) (var 4))))))
 (ret (d7 [ife (bin oLt (var 2) ⇑0) ⇑1 ⇑0,call vj [var 2],var 1]))))
def kF:List D->R D:=fn 1 5 oq
def fV:S :=
 seq (assign 2 (call aL [call kF [var 1]]))
 (seq (assign 3 (call bJ [var 0,con (.str "even"),bin oIx (var 2) ⇑0,bin oIx (var 2) ⇑1,bin oIx (var 2) ⇑2]))
 (seq (ifs (bin oNe (bin oIx (var 3) ⇑1) ⇑0) (raise "NoLeft") (aq))
 (ret (bin oIx (var 3) ⇑0))))
def bK:List D->R D:=fn 2 4 fV
def cy:S :=
 seq (ifs (bin oEq (call aX [var 0,var 1]) (con (.str "endless"))) (ret (d7 [bin oIx (call aR [var 0,var 1]) ⇑0,con .non,⇑0])) (aq))
 (ret (call cE [var 0,var 1]))
def aS:List D->R D:=fn 2 2 cy
def cO:S :=
 seq (assign 3 (call aS [var 0,var 1]))
 (seq (assign 4 (call aS [var 0,var 2]))
 (seq (assign 5 (bin kJ (bin oIx (var 3) ⇑0) (bin oIx (var 4) ⇑0)))
 (seq (ifs (or_ (un qE (bin oIx (var 3) ⇑1)) (un qE (bin oIx (var 4) ⇑1))) (ret (d7 [var 5,con .non,⇑0])) (aq))
 (ret (d7 [var 5,bin dH (bin oIx (var 3) ⇑1) (bin oIx (var 4) ⇑1),bin cw (bin oIx (var 3) ⇑2) (bin oIx (var 4) ⇑2)])))))
def aD:List D->R D:=fn 3 6 cO
def bh:S :=
 seq (expr (call br [var 1]))
 (seq (expr (call aE [var 0,xy [var 2,var 3]]))
 (seq (assign 4 (call aw [var 0,call bQ [var 0,var 1,var 2,var 3]]))
 (seq (assign 5 (xy [call cE [var 0,var 2],call fT [call aD [var 0,var 4,var 3]]]))
 (ret (d7 [var 4,call bK [var 0,var 5]])))))
def aB:List D->R D:=fn 4 6 bh
def dU:S :=
 seq (ifs (bin oLt (var 0) ⇑0) (raise "NoFraction") (aq))
 (seq (assign 1 (bin bZ ⇑1 (bin oDiv (bin cw (call ip [var 0]) ⇑1) ⇑2)))
 (seq (jr (bin oGt (bin dH (var 1) (var 1)) (var 0)) (assign 1 (bin oDiv (bin cw (var 1) (bin oDiv (var 0) (var 1))) ⇑2)))
 (ret (var 1))))
def cR:List D->R D:=fn 1 2 dU
def fD:S :=
 seq (assign 3 (bin dH (bin dH (bin cw (bin dH ⇑2 (var 2)) ⇑1) (bin cw (bin dH ⇑2 (var 2)) ⇑1)) (var 1)))
 (ret (call aM [bin cD (var 0) (bin dH (bin dH (var 2) (var 2)) (var 1)),bin dH ⇑4 (var 0),var 3]))
def dB:List D->R D:=fn 3 4 fD
def gH:S :=
 seq (expr (call aO [var 1,var 2]))
 (seq (ifs (bin oEq (var 1) ⇑0) (ret (d7 [⇑0,call iF [var 0],⇑0])) (aq))
 (seq (assign 3 (bin oDiv (bin cw (call fw [var 1,var 2]) ⇑1) ⇑2))
 (seq (assign 4 (call Br [call iF [var 0],bin cD (bin cD (var 3) ↥10) ⇑1]))
 (seq (assign 5 (call di [var 1,var 2,bin dH ⇑2 (var 4)]))
 (seq (assign 6 (call cR [bin oDiv (bin oIx (var 5) ⇑0) (bin oIx (var 5) ⇑1)]))
 (ret (d7 [var 6,var 4,call dB [bin oIx (var 5) ⇑0,bin oIx (var 5) ⇑1,var 6]])))))))
def eO:List D->R D:=fn 3 7 gH
def gG:S :=
 seq (expr (call br [var 1]))
 (seq (ifs (call bN [var 0,xy [var 2]]) (ret (d7 [call bw [var 0],⇑0])) (aq))
 (seq (ifs (or_ (bin oEq (call aX [var 0,var 2]) (con (.str "nought"))) (bin oEq (var 2) (call aZ [var 0]))) (ret (d7 [var 2,⇑0])) (aq))
 (seq (ifs (bin oEq (bin oIx (call aR [var 0,var 2]) ⇑0) ⇑1) (ret (d7 [call bw [var 0],⇑16])) (aq))
 (seq (assign 3 (call bM [var 0,var 2]))
 (seq (assign 4 (call eO [var 0,bin oIx (var 3) ⇑1,bin oIx (var 3) ⇑2]))
 (ret (call dA [var 0,var 1,⇑0,bin oIx (var 4) ⇑0,bin oIx (var 4) ⇑1,bin oIx (var 4) ⇑2])))))))
def bD:List D->R D:=fn 3 5 gG
def cK:S :=
 seq (expr (call br [var 1]))
 (seq (expr (call aE [var 0,xy [var 2]]))
 (seq (assign 3 (call aw [var 0,call bD [var 0,var 1,var 2]]))
 (seq (assign 4 (xy [call cE [var 0,var 2],call fT [call aD [var 0,var 3,var 3]]]))
 (ret (d7 [var 3,call bK [var 0,var 4]])))))
def bu:List D->R D:=fn 3 5 cK
def bA:S :=
 seq (ifs (un qE (var 3)) (ret (call bu [var 0,var 1,var 2])) (aq))
 (ret (call aB [var 0,var 1,var 2,var 3]))
def au:List D->R D:=fn 4 4 bA
def fG:S :=
 seq (assign 2 (bin Ai (var 1) ↥10))
 (seq (ifs (bin oEq (var 2) ⇑0) (ret (var 1)) (aq))
 (ret (bin bZ (bin cw (bin bZ ⇑1 ↥10) (bin oMod (var 1) (bin bZ ⇑1 ↥10))) (bin cD (var 2) ⇑1))))
def ay:List D->R D:=fn 2 3 fG
def iQ:S :=
 seq (ifs (bin oEq (var 0) (con (.str "even"))) (ret (or_ (bin oGt (var 2) ⇑0) (eH (bin oEq (var 2) ⇑0) (var 3)))) (aq))
 (seq (ifs (bin oEq (var 0) (con (.str "away"))) (ret (bin oGe (var 2) ⇑0)) (aq))
 (ret (var 1)))
def dC:List D->R D:=fn 4 4 iQ
def fF:S :=
 ret (eH (call jX [var 0,con (.ty "int")]) (lS (call jX [var 0,con (.ty "bool")])))
def aN:List D->R D:=fn 1 1 fF
def gO:S :=
 seq (ifs (bin oEq (var 0) (con (.str "even"))) (ret (or_ (bin oLt (var 2) ⇑0) (eH (bin oEq (var 2) ⇑0) (var 3)))) (aq))
 (seq (ifs (bin oEq (var 0) (con (.str "away"))) (ret (bin oLt (var 2) ⇑0)) (aq))
 (ret (lS (var 1))))
def cG:List D->R D:=fn 4 4 gO
def cg:S :=
 seq (ifs (or_ (lS (call jX [var 5,con (.ty "tuple")])) (or_ (bin oNe (call yV [var 5]) ⇑2) (or_ (lS (call aN [bin oIx (var 5) ⇑0])) (lS (call aN [bin oIx (var 5) ⇑1]))))) (ret (con ↥38)) (aq))
 (seq (assign 6 (bin cD (bin oIx (var 5) ⇑0) (bin bZ (var 2) (bin cw ↥33 ↥10))))
 (seq (assign 7 (bin bZ (bin cD (bin bZ ⇑1 ↥33) ⇑1) ↥10))
 (seq (ifs (lS (chain oLe oLe ⇑0 (var 6) (var 7))) (ret (con ↥38)) (aq))
 (seq (assign 8 (bin dH (call ay [var 0,var 6]) (var 4)))
 (seq (assign 9 (or_ ↥18 ↥16))
 (seq (ifs (eH (bin oEq (var 6) (var 7)) (bin oGe (var 3) (var 8))) (ret (eH (bin oEq (bin oIx (var 5) ⇑1) ⇑5) (or_ (bin oEq (var 1) (con (.str "even"))) ↥36))) (aq))
 (seq (ifs (bin oEq (var 3) (var 8)) (ret (bin oEq (bin oIx (var 5) ⇑1) ⇑0)) (aq))
 (seq (assign 10 ⇑1)
 (seq (ifs (bin oLt (var 3) (bin bZ (var 4) ↥10)) (assign 10 ⇑3) (aq))
 (seq (ifs (bin oGt (var 3) (var 8)) (seq (assign 12 (bin dH (call ay [var 0,bin cw (var 6) ⇑1]) (var 4)))
 (seq (ifs (bin oGe (var 3) (var 12)) (ret (eH (bin oEq (bin oIx (var 5) ⇑1) ⇑5) (eH (bin oEq (var 6) (bin cD (var 7) ⇑1)) (eH (bin oNe (var 1) (con (.str "even"))) ↥22)))) (aq))
 (ret (eH (bin oEq (bin oIx (var 5) ⇑1) (var 10)) (call cG [var 1,var 9,bin cD (bin cD (bin dH ⇑2 (var 3)) (var 8)) (var 12),bin oEq (bin oMod (var 6) ⇑2) ⇑0]))))) (aq))
 (seq (ifs (bin oEq (var 6) (var 7)) (assign 10 ⇑5) (aq))
 (seq (assign 11 (bin dH (call ay [var 0,bin cD (var 6) ⇑1]) (var 4)))
 (seq (ifs (bin oLe (var 3) (var 11)) (ret (con ↥38)) (aq))
 (ret (eH (bin oEq (bin oIx (var 5) ⇑1) (var 10)) (call dC [var 1,var 9,bin cD (bin cD (bin dH ⇑2 (var 3)) (var 8)) (var 11),bin oEq (bin oMod (var 6) ⇑2) ⇑0]))))))))))))))))
def aJ:List D->R D:=fn 6 13 cg
def gM:S :=
 ret (eH (call jX [var 0,con (.ty "tuple")]) (eH (bin oEq (call yV [var 0]) ⇑2) (eH (call aN [bin oIx (var 0) ⇑0]) (call aN [bin oIx (var 0) ⇑1]))))
def cF:List D->R D:=fn 1 1 gM
def gJ:S :=
 seq (assign 4 (bin oIx (var 3) ⇑0))
 (seq (ifs (lS (chain oLe oLt ⇑0 (var 4) (bin bZ (bin cD (bin bZ ⇑1 ↥33) ⇑1) ↥10))) (ret (con ↥38)) (aq))
 (seq (assign 5 (call ay [var 0,var 4]))
 (seq (ifs (bin oEq (bin dH (var 5) (var 5)) (var 2)) (ret (bin oEq (bin oIx (var 3) ⇑1) ⇑0)) (aq))
 (seq (assign 6 ⇑1)
 (seq (ifs (bin oLt (var 2) (bin bZ ⇑1 (bin dH ⇑2 ↥10))) (assign 6 ⇑3) (aq))
 (seq (ifs (bin oGt (var 2) (bin dH (var 5) (var 5))) (seq (assign 9 (call ay [var 0,bin cw (var 4) ⇑1]))
 (seq (assign 8 (bin cD (bin dH ⇑4 (var 2)) (bin dH (bin cw (var 5) (var 9)) (bin cw (var 5) (var 9)))))
 (ret (eH (bin oGt (bin dH (var 9) (var 9)) (var 2)) (eH (bin oEq (bin oIx (var 3) ⇑1) (var 6)) (call cG [var 1,bin oEq (var 1) (con (.str "up")),var 8,bin oEq (bin oMod (var 4) ⇑2) ⇑0])))))) (aq))
 (seq (assign 7 (call ay [var 0,bin cD (var 4) ⇑1]))
 (seq (assign 8 (bin cD (bin dH ⇑4 (var 2)) (bin dH (bin cw (var 5) (var 7)) (bin cw (var 5) (var 7)))))
 (ret (eH (bin oLt (bin dH (var 7) (var 7)) (var 2)) (eH (bin oEq (bin oIx (var 3) ⇑1) (var 6)) (call dC [var 1,bin oEq (var 1) (con (.str "up")),var 8,bin oEq (bin oMod (var 4) ⇑2) ⇑0]))))))))))))
def eR:List D->R D:=fn 4 10 gJ
def gP:S :=
 seq (assign 2 (bin bZ ⇑1 (bin cw ↥33 ↥10)))
 (seq (assign 3 (call ay [var 0,bin oMod (var 1) (var 2)]))
 (seq (ifs (bin oGe (var 1) (var 2)) (ret (un En (var 3))) (aq))
 (ret (var 3))))
def aT:List D->R D:=fn 2 4 gP
def cj:S :=
 seq (assign 5 (bin bZ ⇑1 (bin cw ↥33 ↥10)))
 (seq (assign 6 (bin cw (bin cD (bin bZ ⇑1 (bin cD ↥33 ⇑1)) ⇑2) ↥10))
 (seq (ifs (lS (call cF [var 4])) (ret (con ↥38)) (aq))
 (seq (ifs (un qE (var 3)) (seq (ifs (bin oEq (bin oMod (var 2) (var 5)) ⇑0) (ret (bin oEq (var 4) (d7 [var 2,⇑0]))) (aq))
 (ret (call eR [var 0,var 1,bin bZ (call aT [var 0,var 2]) (var 6),var 4]))) (aq))
 (seq (assign 7 (bin kJ (bin oDiv (var 2) (var 5)) (bin oDiv (var 3) (var 5))))
 (seq (ifs (bin oEq (bin oMod (var 2) (var 5)) ⇑0) (ret (bin oEq (var 4) (d7 [bin dH (var 7) (var 5),⇑0]))) (aq))
 (ret (call aJ [var 0,var 1,var 7,bin bZ (call vj [call aT [var 0,var 2]]) (var 6),call vj [call aT [var 0,var 3]],var 4])))))))
def aG:List D->R D:=fn 5 8 cj
def gQ:S :=
 seq (assign 5 (bin bZ ⇑1 (bin cw ↥33 ↥10)))
 (seq (assign 6 (bin cD (var 5) (bin bZ ⇑1 ↥10)))
 (seq (ifs (or_ (lS (call jX [var 1,con (.ty "tuple")])) (or_ (bin oNe (call yV [var 1]) ⇑2) (or_ (lS (call aN [bin oIx (var 1) ⇑0])) (lS (call aN [bin oIx (var 1) ⇑1]))))) (ret (con ↥38)) (aq))
 (seq (ifs (or_ (bin oNe (bin oIx (var 1) ⇑0) (var 2)) (or_ (lS (chain oLe oLt ⇑0 (bin oIx (var 1) ⇑1) (bin dH ⇑2 (var 5)))) (bin oGe (bin oMod (bin oIx (var 1) ⇑1) (var 5)) (var 6)))) (ret (con ↥38)) (aq))
 (ret (eH (bin oEq (bin bZ (call aT [var 0,bin oIx (var 1) ⇑1]) (var 4)) (var 3)) (or_ (bin oNe (var 3) ⇑0) (bin oEq (bin oIx (var 1) ⇑1) ⇑0)))))))
def eS:List D->R D:=fn 5 7 gQ
def eZ:S :=
 seq (assign 3 (bin bZ (bin cD (bin bZ ⇑1 ↥33) ⇑1) ↥10))
 (seq (assign 4 (call vj [var 1]))
 (seq (ifs (bin oNe (bin oMod (var 4) (bin bZ ⇑1 (var 2))) ⇑0) (ret (con ↥38)) (aq))
 (seq (assign 4 (bin Ai (var 4) (var 2)))
 (seq (ifs (bin oEq (var 4) ⇑0) (ret (con ↥24)) (aq))
 (ret (eH (bin oLt (var 4) (call ay [var 0,var 3])) (bin oLt (bin lR (var 4) (bin gY (var 4) (un En (var 4)))) (bin bZ ⇑2 ↥10))))))))
def cH:List D->R D:=fn 3 5 eZ
def b7:S :=
 seq (assign 5 (bin bZ ⇑1 (bin cw ↥33 ↥10)))
 (seq (assign 6 (con .non))
 (seq (assign 7 (con .non))
 (seq (Jz (assign 7 (call au [var 0,var 1,var 2,var 3])) "MillError" 8 (assign 6 (var 8)))
 (seq (assign 9 (eH (call jX [var 6,con (.cls "NoLeft")]) (lS (call jX [var 6,con (.cls "NotFinite")]))))
 (seq (ifs (or_ (eH (un qE (var 3)) (bin oGt (var 2) (var 5))) (eH (un kI (var 3)) (bin oEq (bin oMod (var 3) (var 5)) ⇑0))) (ret (eH (var 9) (eH (call cF [var 4]) (bin oGe (bin oMod (bin oIx (var 4) ⇑0) (var 5)) (bin cD (var 5) (bin bZ ⇑1 ↥10)))))) (aq))
 (seq (ifs (lS (call aG [var 0,var 1,var 2,var 3,var 4])) (ret (con ↥38)) (aq))
 (seq (assign 10 (bin oIx (var 4) ⇑0))
 (seq (ifs (un kI (var 3)) (assign 10 (var 3)) (aq))
 (seq (assign 11 (bin cw (bin cD (bin bZ ⇑1 (bin cD ↥33 ⇑1)) ⇑2) ↥10))
 (seq (assign 12 (bin cD (bin bZ (call aT [var 0,var 2]) (var 11)) (bin dH (call aT [var 0,bin oIx (var 4) ⇑0]) (call aT [var 0,var 10]))))
 (seq (ifs (or_ (bin oGe (bin oMod (bin oIx (var 4) ⇑0) (var 5)) (bin cD (var 5) (bin bZ ⇑1 ↥10))) (or_ (bin oNe (bin iG (bin oIx (var 4) ⇑1) ⇑4) ⇑0) (lS (call cH [var 0,var 12,var 11])))) (ret (var 9)) (aq))
 (ret (eH (un qE (var 6)) (call eS [var 0,var 7,bin oIx (var 4) ⇑0,var 12,var 11]))))))))))))))
def aC:List D->R D:=fn 5 13 b7
def AV:S :=
 seq (assign 1 (call cv [call bx [var 0,⇑0]]))
 (seq (assign 2 (call cT [call bx [var 0,⇑1]]))
 (seq (assign 3 (call bf [var 1,bin oDiv (call bx [var 0,⇑1]) ⇑5]))
 (seq (EZ 4 (itA (bin cw (slc (var 0) (some ⇑2) none) (xy [⇑4]))) (seq (assign 5 (call bf [var 1,var 4]))
 (seq (ifs (lS (call aC [var 1,var 2,var 3,var 5,call bQ [var 1,var 2,var 3,var 5]])) (ret (con ↥38)) (aq))
 (seq (ifs (lS (call aC [var 1,var 2,var 5,con .non,call bD [var 1,var 2,var 5]])) (ret (con ↥38)) (aq))
 (assign 3 (var 5))))))
 (ret (con ↥24)))))
def Ad:List D->R D:=fn 1 6 AV
end T
namespace T
open PySem PySem.Spec PyProof.Rows L2 EV ES
def top (i:Nat):Stmt:=PySem.Challenge.pw_roundmill_k44_quotient_and_root_left.main.body.getD i (.Pass ⟨0,0,0,0⟩)
set_option maxHeartbeats 4000000
def gD:Stmt:=(cY (top 40)).getD 0 (.Pass ⟨0,0,0,0⟩)
def df:Stmt:=top 67
abbrev i6:List Str:=["_law_cell","_law_way","_law_rest"]
abbrev ja:List Str:=[]
theorem lN:ScF i6 ja ["_law_cell"] (aa df):=by walk_at "S"
def dN:Stmt:=top 68
abbrev jC:List Str:=["_law_cell"]
abbrev jJ:List Str:=[]
theorem nh:ScF jC jJ ["_law_cell"] (aa dN):=by walk_at "S"
def cq:Stmt:=top 69
abbrev gf:List Str:=["_law_size","_law_cell","_law_half","_law_last","_law_way","_law_rest","_law_side","_law_middle","_law_field","_law_figures","_law_mixed"]
abbrev gi:List Str:=["max","min"]
theorem jS:ScF gf gi ["_law_size","_law_cell"] (aa cq):=by walk_at "S"
def dg:Stmt:=top 65
abbrev i7:List Str:=["_law_script","_law_k"]
abbrev jb:List Str:=["len"]
theorem lO:ScF i7 jb ["_law_script","_law_k"] (aa dg):=by walk_at "S"
def j1:Stmt:=top 41
abbrev tL:List Str:=["name"]
abbrev tR:List Str:=["NAMES","NoWay","Way"]
theorem v7:ScF tL tR ["name"] (aa j1):=by walk_at "S"
def gj:Stmt:=top 11
abbrev mj:List Str:=["size"]
abbrev mJ:List Str:=[]
theorem qJ:ScF mj mJ ["size"] (aa gj):=by walk_at "S"
def nH:Stmt:=top 8
abbrev yL:List Str:=["size"]
abbrev yQ:List Str:=[]
theorem zL:ScF yL yQ ["size"] (aa nH):=by walk_at "S"
def j5:Stmt:=top 31
abbrev tP:List Str:=["size","bits","code","step"]
abbrev tX:List Str:=["width","NoBits","sign_bit"]
theorem wd:ScF tP tX ["size","bits"] (aa j5):=by walk_at "S"
def dQ:Stmt:=top 32
abbrev jF:List Str:=["size","numbers","bits"]
abbrev jM:List Str:=["parted"]
theorem nC:ScF jF jM ["size","numbers"] (aa dQ):=by walk_at "S"
def dP:Stmt:=top 12
abbrev jE:List Str:=["size"]
abbrev jL:List Str:=[]
theorem nu:ScF jE jL ["size"] (aa dP):=by walk_at "S"
def sH:Stmt:=top 33
abbrev Cf:List Str:=["size","bits","parts","field","figures"]
abbrev Ci:List Str:=["parted","last_field"]
theorem Dx:ScF Cf Ci ["size","bits"] (aa sH):=by walk_at "S"
def cN:Stmt:=top 58
abbrev ia:List Str:=["size","numbers","bits"]
abbrev ie:List Str:=["check_bits","kind","NOT_FINITE","NotFinite"]
theorem ky:ScF ia ie ["size","numbers"] (aa cN):=by walk_at "S"
def dh:Stmt:=top 59
abbrev i8:List Str:=["size","pair"]
abbrev jc:List Str:=["kind","NOT_FINITE","GREAT","NoLeft"]
theorem lP:ScF i8 jc ["size","pair"] (aa dh):=by walk_at "S"
def gC:Stmt:=top 49
abbrev mI:List Str:=["size","numbers","kinds"]
abbrev mW:List Str:=[]
theorem qU:ScF mI mW ["size","numbers"] (aa gC):=by walk_at "S"
def bU:Stmt:=top 16
abbrev fK:List Str:=["top","bottom"]
abbrev fN:List Str:=["NoFraction"]
theorem ji:ScF fK fN ["top","bottom"] (aa bU):=by walk_at "S"
def j3:Stmt:=top 17
abbrev tN:List Str:=["top","bottom","power"]
abbrev tV:List Str:=[]
theorem wb:ScF tN tV ["top","bottom","power"] (aa j3):=by walk_at "S"
def sJ:Stmt:=top 9
abbrev Cg:List Str:=["size"]
abbrev Cj:List Str:=[]
theorem Dy:ScF Cg Cj ["size"] (aa sJ):=by walk_at "S"
def zP:Stmt:=top 10
abbrev Js:List Str:=["size"]
abbrev Jw:List Str:=["bias"]
theorem G6:ScF Js Jw ["size"] (aa zP):=by walk_at "S"
def bT:Stmt:=top 19
abbrev fJ:List Str:=["over","number","middle"]
abbrev fM:List Str:=[]
theorem jh:ScF fJ fM ["over","number","middle"] (aa bT):=by walk_at "S"
def iA:Stmt:=top 20
abbrev qq:List Str:=["over","step"]
abbrev qy:List Str:=["rest_by_middle"]
theorem uh:ScF qq qy ["over","step"] (aa iA):=by walk_at "S"
def j6:Stmt:=top 18
abbrev tQ:List Str:=["top","bottom","guess","parts"]
abbrev tY:List Str:=["scaled"]
theorem we:ScF tQ tY ["top","bottom"] (aa j6):=by walk_at "S"
def zQ:Stmt:=top 21
abbrev Ju:List Str:=["size","top","bottom","power","parts"]
abbrev Jy:List Str:=["check_fraction","low","max","height","scaled","rest_of"]
theorem G8:ScF Ju Jy ["size","top","bottom"] (aa zQ):=by walk_at "S"
def iD:Stmt:=top 13
abbrev qt:List Str:=["size"]
abbrev qB:List Str:=["last_field"]
theorem uk:ScF qt qB ["size"] (aa iD):=by walk_at "S"
def j2:Stmt:=top 37
abbrev tM:List Str:=["size","sign","code"]
abbrev tU:List Str:=["sign_bit"]
theorem wa:ScF tM tU ["size","sign","code"] (aa j2):=by walk_at "S"
def dM:Stmt:=top 44
abbrev jB:List Str:=["size","code","taken","faint"]
abbrev jI:List Str:=["endless","INEXACT","GREAT","SMALL"]
theorem ng:ScF jB jI ["size","code","taken"] (aa dM):=by walk_at "S"
def aA:Stmt:=(cY (top 40)).getD 3 (.Pass ⟨0,0,0,0⟩)
abbrev d5:List Str:=["self","sign"]
abbrev d6:List Str:=[]
theorem ij:ScF d5 d6 ["self","sign"] (aa aA):=by walk_at "S"
def bY:Stmt:=(cY (top 40)).getD 1 (.Pass ⟨0,0,0,0⟩)
abbrev lD:List Str:=["self","sign","odd","rest"]
abbrev lL:List Str:=[]
theorem pB:ScF lD lL ["self","sign","odd","rest"] (aa bY):=by walk_at "S"
def bI:Stmt:=(cY (top 40)).getD 2 (.Pass ⟨0,0,0,0⟩)
abbrev jG:List Str:=["self","sign"]
abbrev jN:List Str:=[]
theorem nD:ScF jG jN ["self","sign"] (aa bI):=by walk_at "S"
def iy:Stmt:=top 43
abbrev qo:List Str:=["size","way","sign","whole","power","rest","chosen","code","end","taken"]
abbrev qv:List Str:=["way_of","low","endless","signed","INEXACT","GREAT","lost_flags"]
theorem uf:ScF qo qv ["size","way","sign","whole","power","rest"] (aa iy):=by walk_at "S"
def iz:Stmt:=top 45
abbrev qp:List Str:=["size","way","sign","top","bottom","parts"]
abbrev qw:List Str:=["way_of","cut","settled"]
theorem ug:ScF qp qw ["size","way","sign","top","bottom"] (aa iz):=by walk_at "S"
def gn:Stmt:=top 54
abbrev mr:List Str:=["size","way","over","under"]
abbrev mL:List Str:=["rounded"]
theorem qL:ScF mr mL ["size","way","over","under"] (aa gn):=by walk_at "S"
def bS:Stmt:=top 35
abbrev fI:List Str:=["value","whole","power"]
abbrev fL:List Str:=[]
theorem jg:ScF fI fL ["value"] (aa bS):=by walk_at "S"
def nG:Stmt:=top 34
abbrev yK:List Str:=["size","bits","parts","sign","field","figures"]
abbrev yP:List Str:=["parted","last_field","NotFinite","low"]
theorem zK:ScF yK yP ["size","bits"] (aa nG):=by walk_at "S"
def gB:Stmt:=top 36
abbrev mH:List Str:=["size","bits"]
abbrev mV:List Str:=["worth_fraction","worth"]
theorem qT:ScF mH mV ["size","bits"] (aa gB):=by walk_at "S"
def fh:Stmt:=top 14
abbrev ly:List Str:=["size"]
abbrev lG:List Str:=["endless"]
theorem pj:ScF ly lG ["size"] (aa fh):=by walk_at "S"
def iE:Stmt:=top 53
abbrev qu:List Str:=["size","way","a","b","over","under","sign"]
abbrev qC:List Str:=["way_of","any_none","no_number","kind","WRONG","parted","signed","endless","POLE","quotient","fraction"]
theorem um:ScF qu qC ["size","way","a","b"] (aa iE):=by walk_at "S"
def nK:Stmt:=top 60
abbrev yN:List Str:=["term"]
abbrev yS:List Str:=[]
theorem zO:ScF yN yS ["term"] (aa nK):=by walk_at "S"
def nJ:Stmt:=top 47
abbrev yM:List Str:=["terms","power","whole","term","part"]
abbrev yR:List Str:=["min","abs"]
theorem zM:ScF yM yR ["terms"] (aa nJ):=by walk_at "S"
def iB:Stmt:=top 61
abbrev qr:List Str:=["size","terms","value","pair"]
abbrev qz:List Str:=["worth_fraction","total","rounded","NoLeft"]
theorem ui:ScF qr qz ["size","terms"] (aa iB):=by walk_at "S"
def de:Stmt:=top 50
abbrev iZ:List Str:=["size","bits"]
abbrev i9:List Str:=["kind","parted","worth"]
theorem lM:ScF iZ i9 ["size","bits"] (aa de):=by walk_at "S"
def cM:Stmt:=top 51
abbrev hX:List Str:=["size","a","b","left","right","sign"]
abbrev ib:List Str:=["number_term"]
theorem kv:ScF hX ib ["size","a","b"] (aa cM):=by walk_at "S"
def cm:Stmt:=top 62
abbrev gd:List Str:=["size","way","a","b","answer","terms"]
abbrev gh:List Str:=["way_of","check_finite","kept_answer","divided","worth","minus","product_term","left_of"]
theorem jR:ScF gd gh ["size","way","a","b"] (aa cm):=by walk_at "S"
def dJ:Stmt:=top 22
abbrev jA:List Str:=["number","root"]
abbrev jH:List Str:=["NoFraction"]
theorem nc:ScF jA jH ["number"] (aa dJ):=by walk_at "S"
def fe:Stmt:=top 23
abbrev lr:List Str:=["top","bottom","root","middle"]
abbrev lE:List Str:=["rest_by_middle"]
theorem pf:ScF lr lE ["top","bottom","root"] (aa fe):=by walk_at "S"
def gm:Stmt:=top 24
abbrev ml:List Str:=["size","top","bottom","root_height","power","parts","root"]
abbrev mK:List Str:=["check_fraction","low","height","max","scaled","whole_root","root_rest"]
theorem qK:ScF ml mK ["size","top","bottom"] (aa gm):=by walk_at "S"
def j4:Stmt:=top 55
abbrev tO:List Str:=["size","way","a","value","parts"]
abbrev tW:List Str:=["way_of","any_none","no_number","kind","endless","parted","WRONG","fraction","root_cut","settled"]
theorem wc:ScF tO tW ["size","way","a"] (aa j4):=by walk_at "S"
def fg:Stmt:=top 63
abbrev lx:List Str:=["size","way","a","answer","terms"]
abbrev lF:List Str:=["way_of","check_finite","kept_answer","rooted","worth","minus","product_term","left_of"]
theorem ph:ScF lx lF ["size","way","a"] (aa fg):=by walk_at "S"
def fm:Stmt:=top 80
abbrev lC:List Str:=["_law_size","_law_way","_law_one","_law_two"]
abbrev lK:List Str:=["root_left","quotient_left"]
theorem pA:ScF lC lK ["_law_size","_law_way","_law_one","_law_two"] (aa fm):=by walk_at "S"
def fj:Stmt:=top 70
abbrev lA:List Str:=["_law_size","_law_code","_law_field"]
abbrev lI:List Str:=[]
theorem pq:ScF lA lI ["_law_size","_law_code"] (aa fj):=by walk_at "S"
def iC:Stmt:=top 73
abbrev qs:List Str:=["_law_way","_law_outward","_law_lean","_law_even"]
abbrev qA:List Str:=[]
theorem uj:ScF qs qA ["_law_way","_law_outward","_law_lean","_law_even"] (aa iC):=by walk_at "S"
def fi:Stmt:=top 66
abbrev lz:List Str:=["_law_found"]
abbrev lH:List Str:=["isinstance","int","bool"]
theorem pk:ScF lz lH ["_law_found"] (aa fi):=by walk_at "S"
def gw:Stmt:=top 72
abbrev my:List Str:=["_law_way","_law_outward","_law_lean","_law_even"]
abbrev mQ:List Str:=[]
theorem qO:ScF my mQ ["_law_way","_law_outward","_law_lean","_law_even"] (aa gw):=by walk_at "S"
def gA:Stmt:=top 74
abbrev mE:List Str:=["_law_size","_law_way","_law_sign","_law_tall","_law_bottom","_law_found","_law_code","_law_last","_law_here","_law_outward","_law_due","_law_before","_law_beyond"]
abbrev mU:List Str:=["isinstance","tuple","len","_law_whole","_law_value","_law_near","_law_far"]
theorem qS:ScF mE mU ["_law_size","_law_way","_law_sign","_law_tall","_law_bottom","_law_found"] (aa gA):=by walk_at "S"
def gq:Stmt:=top 78
abbrev mw:List Str:=["_law_found"]
abbrev mO:List Str:=["isinstance","tuple","len","_law_whole"]
theorem qN:ScF mw mO ["_law_found"] (aa gq):=by walk_at "S"
def gp:Stmt:=top 77
abbrev mv:List Str:=["_law_size","_law_way","_law_square","_law_found","_law_code","_law_here","_law_due","_law_before","_law_lean","_law_beyond"]
abbrev mM:List Str:=["_law_value","_law_near","_law_far"]
theorem qM:ScF mv mM ["_law_size","_law_way","_law_square","_law_found"] (aa gp):=by walk_at "S"
def gx:Stmt:=top 71
abbrev mz:List Str:=["_law_size","_law_bits","_law_half","_law_value_here"]
abbrev mR:List Str:=["_law_value"]
theorem qP:ScF mz mR ["_law_size","_law_bits"] (aa gx):=by walk_at "S"
def dO:Stmt:=top 79
abbrev jD:List Str:=["_law_size","_law_way","_law_one","_law_two","_law_pair_here","_law_half","_law_steps","_law_sign"]
abbrev jK:List Str:=["_law_pair","_law_root","_law_line","_law_fair","abs"]
theorem nj:ScF jD jK ["_law_size","_law_way","_law_one","_law_two","_law_pair_here"] (aa dO):=by walk_at "S"
def gy:Stmt:=top 76
abbrev mB:List Str:=["_law_size","_law_found","_law_told","_law_left_here","_law_steps","_law_half","_law_last"]
abbrev mS:List Str:=["isinstance","tuple","len","_law_whole","_law_line"]
theorem qQ:ScF mB mS ["_law_size","_law_found","_law_told","_law_left_here","_law_steps"] (aa gy):=by walk_at "S"
def gz:Stmt:=top 75
abbrev mD:List Str:=["_law_size","_law_left_here","_law_steps","_law_last","_law_tall"]
abbrev mT:List Str:=["abs","_law_value"]
theorem qR:ScF mD mT ["_law_size","_law_left_here","_law_steps"] (aa gz):=by walk_at "S"
def fk:Stmt:=top 81
abbrev lB:List Str:=["_law_size","_law_way","_law_one","_law_two","_law_pair_here","_law_half","_law_caught","_law_found","e","_law_refused","_law_other","_law_steps","_law_left_here"]
abbrev lJ:List Str:=["_law_asked","MillError","isinstance","NoLeft","NotFinite","_law_pair","_law_answer","_law_line","_law_fits","_law_left"]
theorem pz:ScF lB lJ ["_law_size","_law_way","_law_one","_law_two","_law_pair_here"] (aa fk):=by walk_at "S"
def lQ:Stmt:=top 82
abbrev Jt:List Str:=["_law_script","_law_size","_law_way","_law_prior","_law_cell","_law_here"]
abbrev Jx:List Str:=["_law_size_by","_law_cell_at","_law_way_by","_law_finite_by","_law_holds","divided","rooted"]
theorem G7:ScF Jt Jx ["_law_script"] (aa lQ):=by walk_at "S"
section
variable {X:Cx} {k:Nat} (hr:Room k X.A) (L:Lp X) (O:Own X)
include hr L O
theorem oM (P:Pl X i6 ja) (hS:X.env.scope=aa df)
     : SSs X (ai df) dk:=by
 unfold dk
 exact (ae (P.set 1 (b8 ↥37 af))
 (ae (P.set 2 (fO ↥37 af))
 (ae (P.if_ (uc (P.v 1) af) (aj (P.ret (A8 (oz (ah (bo (a2 af af) ↥3) (ah (bo (a2 af af) ↥3) (ah (bo (a2 af af) ↥3) (ah (bo (a2 af af) ↥3) cZ)))) ↥3) (P.v 1)))) av)
 (ae (P.if_ (uc (P.v 1) af) (aj (P.ret (bo (a2 (aV af (b8 (P.v 2) af)) (aV af (b8 (fO (P.v 2) af) af))) ↥3))) av)
 (aj (P.ret (bo (a2 (aV af (b8 (P.v 2) af)) (aV af (b8 (fO (P.v 2) af) af))) ↥3)))))))
theorem qi (P:Pl X jC jJ) (hS:X.env.scope=aa dN)
     : SSs X (ai dN) dX:=by
 unfold dX
 exact (aj (P.ret (A8 (oz (ah bC (ah bC (ah bC (ah bC (ah bC cZ))))) ↥3) (b8 ↥37 af))))
theorem lj (P:Pl X gf gi) (hS:X.env.scope=aa cq)
  (m_min:X.mg "min"=none) (m_max:X.mg "max"=none):SSs X (ai cq) cA:=by
 unfold cA
 exact (ae (P.set 2 (aQ af (aV (P.y 0) (P.y 0))))
 (ae (P.set 3 (aU (P.v 2) (aQ af (P.y 0))))
 (ae (P.set 4 (b8 (P.v 1) af))
 (ae (P.set 5 (fO (P.v 1) af))
 (ae (P.if_ (uc (P.v 4) af) (ae (P.set 10 (b8 (bE (P.v 5) af) (bE af (P.v 3))))
 (aj (P.ret (aV (bE (fO (P.v 10) (P.v 3)) (P.v 2)) (b8 (P.v 10) (P.v 3)))))) av)
 (ae (P.set 6 (bE (b8 (P.v 5) af) (P.v 2)))
 (ae (P.set 5 (fO (P.v 5) af))
 (ae (P.if_ (eD hr (P.v 4) af) (aj (P.ret (aV (P.v 6) (b8 (P.v 5) af)))) av)
 (ae (P.if_ (eD hr (P.v 4) af) (aj (P.ret (aU (aU (aV (P.v 6) (P.v 3)) af) (b8 (P.v 5) af)))) av)
 (ae (P.set 7 (aU (aQ af (aU (P.y 0) af)) af))
 (ae (P.if_ (eD hr (P.v 4) af) (aj (P.ret (aV (aU (aV (P.v 6) (aQ (P.v 7) (P.y 0))) af) (b8 (P.v 5) af)))) av)
 (ae (P.set 8 (fH (Fl L.calm) EA (P.w 0) m_max boot_max (a2 af (fH (Lb L.calm) KQ (P.w 1) m_min boot_min (a2 (aU (aQ af (P.y 0)) af) (aV (aU (P.v 7) af) (b8 (P.v 5) af)))))))
 (ae (P.set 9 (b8 (bE (fO (P.v 5) af) af) (aQ af (P.y 0))))
 (aj (P.ret (aV (aV (P.v 6) (aQ (P.v 8) (P.y 0))) (P.v 9)))))))))))))))))
theorem oN (P:Pl X i7 jb) (hS:X.env.scope=aa dg)
  (m_len:X.mg "len"=none):SSs X (ai dg) dm:=by
 unfold dm
 exact (ae (P.if_ (uc (P.v 1) (fH Bf Az (P.w 0) m_len PySem.boot_len (a1 ↥37))) (aj (P.ret (A8 ↥37 (P.v 1)))) av)
 (aj (P.ret af)))
theorem Bj (P:Pl X tL tR) (hS:X.env.scope=aa j1) {C_NoWay:Addr}
  (g_NAMES:GC X "NAMES" (.tup [.str "even",.str "away",.str "nought",.str "up",.str "down"])) (q_NoWay:X.mg "NoWay"=some (.ref  C_NoWay)) (xi_NoWay:PySem.W.excIn X.K C_NoWay bmV "ValueError.__new__"=true) (mk_Way:MakeOk X "Way" "name"):SSs X (ai j1) kd:=by
 unfold kd
 exact (ae (P.if_ (Df ↥37 (La (P.w 0) g_NAMES)) (aj (fQ (x:="NoWay") L.calm (P.w 1) q_NoWay xi_NoWay)) av)
 (aj (P.ret (Fb (cn:="Way") (f:="name") mk_Way (P.w 2) (a1 ↥37)))))
theorem uV (P:Pl X mj mJ) (hS:X.env.scope=aa gj)
     : SSs X (ai gj) gF:=by
 unfold gF
 exact (aj (P.ret (aQ af (aV (P.y 0) (P.y 0)))))
theorem Fv (P:Pl X yL yQ) (hS:X.env.scope=aa nH)
     : SSs X (ai nH) oo:=by
 unfold oo
 exact (aj (P.ret (aV (aV (P.y 0) (P.y 0)) af)))
theorem Bn (P:Pl X tP tX) (hS:X.env.scope=aa j5) {C_NoBits:Addr}
  (c_width:Callee X "width" kE) (q_NoBits:X.mg "NoBits"=some (.ref  C_NoBits)) (xi_NoBits:PySem.W.excIn X.K C_NoBits bmV "ValueError.__new__"=true) (c_sign_bit:Callee X "sign_bit" b9):SSs X (ai j5) kh:=by
 unfold kh
 exact (ae (P.if_ (t_w (w_or (uc (P.v 1) af) (km (zG (P.v 1) (aQ af (P.call 0 c_width (a1 ↥37))))))) (aj (fQ (x:="NoBits") L.calm (P.w 1) q_NoBits xi_NoBits)) av)
 (ae (P.set 2 (b8 (P.v 1) (P.call 2 c_sign_bit (a1 ↥37))))
 (ae (P.set 3 (aQ af (P.y 0)))
 (aj (P.ret (bo (a3 (fO (P.v 1) (P.call 2 c_sign_bit (a1 ↥37))) (fO (P.v 2) (P.v 3)) (b8 (P.v 2) (P.v 3))) ↥3))))))
theorem ql (P:Pl X jF jM) (hS:X.env.scope=aa dQ)
  (c_parted:Callee X "parted" aR):SSs X (ai dQ) dZ:=by
 unfold dZ
 exact (aj (sI P.toSx L 2 rfl (P.sto _ (mG 2)) (uK (P.v 1)) (aj (P.xp (P.call 0 c_parted (a2 ↥37 (P.v 2)))))))
theorem qk (P:Pl X jE jL) (hS:X.env.scope=aa dP)
     : SSs X (ai dP) dY:=by
 unfold dY
 exact (aj (P.ret (aU (aQ af (P.y 0)) af)))
theorem Jl (P:Pl X Cf Ci) (hS:X.env.scope=aa sH)
  (c_parted:Callee X "parted" aR) (c_last_field:Callee X "last_field" aY):SSs X (ai sH) tf:=by
 unfold tf
 exact (ae (P.set 2 (P.call 0 c_parted (a2 ↥37 (P.v 1))))
 (ae (P.set 3 (P.y 2))
 (ae (P.set 4 (P.y 2))
 (ae (P.if_ (eD hr (P.v 3) af) (aj (P.ret (A9 (eD hr (P.v 4) af) bC bC))) av)
 (ae (P.if_ (eD hr (P.v 3) (P.call 1 c_last_field (a1 ↥37))) (aj (P.ret (A9 (eD hr (P.v 4) af) bC bC))) av)
 (aj (P.ret bC)))))))
theorem lW (P:Pl X ia ie) (hS:X.env.scope=aa cN) {C_NotFinite:Addr}
  (c_check_bits:Callee X "check_bits" cU) (c_kind:Callee X "kind" aX) (g_NOT_FINITE:GC X "NOT_FINITE" (.tup [.str "endless",.str "none"])) (q_NotFinite:X.mg "NotFinite"=some (.ref  C_NotFinite)) (xi_NotFinite:PySem.W.excIn X.K C_NotFinite bmV "ValueError.__new__"=true):SSs X (ai cN) cP:=by
 unfold cP
 exact (ae (P.xp (P.call 0 c_check_bits (a2 ↥37 (P.v 1))))
 (aj (sI P.toSx L 2 rfl (P.sto _ (mG 2)) (uK (P.v 1)) (aj (P.if_ (JA (P.call 1 c_kind (a2 ↥37 (P.v 2))) (La (P.w 2) g_NOT_FINITE)) (aj (fQ (x:="NotFinite") L.calm (P.w 3) q_NotFinite xi_NotFinite)) av)))))
theorem oO (P:Pl X i8 jc) (hS:X.env.scope=aa dh) {C_NoLeft:Addr}
  (c_kind:Callee X "kind" aX) (g_NOT_FINITE:GC X "NOT_FINITE" (.tup [.str "endless",.str "none"])) (g_GREAT:∃ t,X.mg "GREAT"=some (.int 4 t)) (q_NoLeft:X.mg "NoLeft"=some (.ref  C_NoLeft)) (xi_NoLeft:PySem.W.excIn X.K C_NoLeft bmV "ValueError.__new__"=true):SSs X (ai dh) bO:=by
 unfold bO
 exact (ae (P.if_ (t_w (w_or (JA (P.call 0 c_kind (a2 ↥37 (P.y 1))) (La (P.w 1) g_NOT_FINITE)) (km (Dg hr (yh (P.y 1) (fY (P.w 2) g_GREAT)) af)))) (aj (fQ (x:="NoLeft") L.calm (P.w 3) q_NoLeft xi_NoLeft)) av)
 (aj (P.ret (P.y 1))))
theorem vf (P:Pl X mI mW) (hS:X.env.scope=aa gC)
  (c_kind:Callee X "kind" aX):SSs X (ai gC) fc:=by
 unfold fc
 exact (ae (wg P.toSx L.calm 2 rfl (P.sto _ (mG 2)) (x:="bits") (ksn:=["size"]) (G:=["kind"]) (ks:=[0]) (by walk_at "C") rfl ↥3 (by rw [hS];decide +kernel) (uK (P.v 1)) (fun C fp s H W S' G'=>.nil) (fun C fp s H W S' G'=>(yg ⟨c_kind.ex⟩ (G' _ (mG 0)) (a2 (lU S' 1 rfl) (lU S' 0 rfl)))) (vW hS (by decide +kernel)))
 (aj (Kj 2 (P.ret (QT bC (P.v 2))))))
theorem jW (P:Pl X fK fN) (hS:X.env.scope=aa bU) {C_NoFraction:Addr}
  (q_NoFraction:X.mg "NoFraction"=some (.ref  C_NoFraction)) (xi_NoFraction:PySem.W.excIn X.K C_NoFraction bmV "ValueError.__new__"=true):SSs X (ai bU) bX:=by
 unfold bX
 exact (aj (P.if_ (t_w (w_or (uc ↥37 af) (km (uc (P.v 1) af)))) (aj (fQ (x:="NoFraction") L.calm (P.w 0) q_NoFraction xi_NoFraction)) av))
theorem Bl (P:Pl X tN tV) (hS:X.env.scope=aa j3)
     : SSs X (ai j3) kg:=by
 unfold kg
 exact (ae (P.if_ (zG (P.v 2) af) (aj (P.ret (bo (a2 ↥37 (aQ (P.v 1) (P.v 2))) ↥3))) av)
 (aj (P.ret (bo (a2 (aQ ↥37 (A7 (P.v 2))) (P.v 1)) ↥3))))
theorem Jm (P:Pl X Cg Cj) (hS:X.env.scope=aa sJ)
     : SSs X (ai sJ) tj:=by
 unfold tj
 exact (aj (P.ret (aU (aQ af (aU (P.y 0) af)) af)))
theorem Lf (P:Pl X Js Jw) (hS:X.env.scope=aa zP)
  (c_bias:Callee X "bias" pG):SSs X (ai zP) AU:=by
 unfold AU
 exact (aj (P.ret (aU (aU af (P.call 0 c_bias (a1 ↥37))) (P.y 0))))
theorem jV (P:Pl X fJ fM) (hS:X.env.scope=aa bT)
     : SSs X (ai bT) bW:=by
 unfold bW
 exact (ae (P.if_ (eD hr ↥37 af) (aj (P.ret af)) av)
 (ae (P.if_ (uc (P.v 1) (P.v 2)) (aj (P.ret af)) av)
 (aj (P.ret (A9 (eD hr (P.v 1) (P.v 2)) af af)))))
theorem yy (P:Pl X qq qy) (hS:X.env.scope=aa iA)
  (c_rest_by_middle:Callee X "rest_by_middle" aM):SSs X (ai iA) iP:=by
 unfold iP
 exact (aj (P.ret (P.call 0 c_rest_by_middle (a3 ↥37 (bE af ↥37) (P.v 1)))))
theorem Bo (P:Pl X tQ tY) (hS:X.env.scope=aa j6)
  (c_scaled:Callee X "scaled" di):SSs X (ai j6) ki:=by
 unfold ki
 exact (ae (P.set 2 (aU (oA ↥37) (oA (P.v 1))))
 (ae (P.set 3 (P.call 0 c_scaled (a3 ↥37 (P.v 1) (P.v 2))))
 (aj (P.ret (A9 (uc (P.y 3) (P.y 3)) (P.v 2) (aV (P.v 2) af))))))
theorem Lh (P:Pl X Ju Jy) (hS:X.env.scope=aa zQ)
  (c_check_fraction:Callee X "check_fraction" aO) (c_low:Callee X "low" iF) (c_height:Callee X "height" fw) (m_max:X.mg "max"=none) (c_scaled:Callee X "scaled" di) (c_rest_of:Callee X "rest_of" fS):SSs X (ai zQ) xV:=by
 unfold xV
 exact (ae (P.xp (P.call 0 c_check_fraction (a2 (P.v 1) (P.v 2))))
 (ae (P.if_ (eD hr (P.v 1) af) (aj (P.ret (bo (a3 af (P.call 1 c_low (a1 ↥37)) af) ↥3))) av)
 (ae (P.set 3 (fH (Fl L.calm) EA (P.w 2) m_max boot_max (a2 (P.call 1 c_low (a1 ↥37)) (aU (aU (P.call 3 c_height (a2 (P.v 1) (P.v 2))) (P.y 0)) af))))
 (ae (P.set 4 (P.call 4 c_scaled (a3 (P.v 1) (P.v 2) (P.v 3))))
 (aj (P.ret (bo (a3 (fO (P.y 4) (P.y 4)) (P.v 3) (P.call 5 c_rest_of (a2 (b8 (P.y 4) (P.y 4)) (P.y 4)))) ↥3)))))))
theorem yB (P:Pl X qt qB) (hS:X.env.scope=aa iD)
  (c_last_field:Callee X "last_field" aY):SSs X (ai iD) iR:=by
 unfold iR
 exact (aj (P.ret (aQ (P.call 0 c_last_field (a1 ↥37)) (P.y 0))))
theorem Bk (P:Pl X tM tU) (hS:X.env.scope=aa j2)
  (c_sign_bit:Callee X "sign_bit" b9):SSs X (ai j2) kf:=by
 unfold kf
 exact (aj (P.ret (aV (bE (P.v 1) (P.call 0 c_sign_bit (a1 ↥37))) (P.v 2))))
theorem qh (P:Pl X jB jI) (hS:X.env.scope=aa dM)
  (c_endless:Callee X "endless" aZ) (g_INEXACT:∃ t,X.mg "INEXACT"=some (.int 1 t)) (g_GREAT:∃ t,X.mg "GREAT"=some (.int 4 t)) (g_SMALL:∃ t,X.mg "SMALL"=some (.int 2 t)):SSs X (ai dM) dW:=by
 unfold dW
 exact (ae (P.if_ (eD hr (P.v 2) (P.call 0 c_endless (a1 ↥37))) (aj (P.ret (aV (fY (P.w 1) g_INEXACT) (fY (P.w 2) g_GREAT)))) av)
 (ae (P.set 3 (F0 (P.v 1) (aQ af (P.y 0))))
 (aj (P.ret (A9 (gW (P.v 3)) (aV (fY (P.w 1) g_INEXACT) (fY (P.w 3) g_SMALL)) (fY (P.w 1) g_INEXACT))))))
theorem iW (P:Pl X d5 d6) (hS:X.env.scope=aa aA)
  (fl_Way_name:FldOk X "Way" "name"):SSs X (ai aA) a9:=by
 unfold a9
 exact (ae (P.if_ (eD hr (yf (cn:="Way") (f:="name") fl_Way_name ↥37) bC) (aj (P.ret (gS hr (P.v 1) af))) av)
 (aj (P.ret (cL (gS hr (yf (cn:="Way") (f:="name") fl_Way_name ↥37) bC) (cX (gS hr (P.v 1) af))))))
theorem sk (P:Pl X lD lL) (hS:X.env.scope=aa bY)
  (fl_Way_name:FldOk X "Way" "name") (mt_Way_flees_nought:MethOk X "Way" "flees_nought" aK):SSs X (ai bY) dF:=by
 unfold dF
 exact (ae (P.if_ (eD hr (P.v 3) af) (aj (P.ret rT)) av)
 (ae (P.if_ (eD hr (yf (cn:="Way") (f:="name") fl_Way_name ↥37) bC) (aj (P.ret (E9 (gS hr (P.v 3) af) (cX (cL (gS hr (P.v 3) af) (cX (P.v 2))))))) av)
 (ae (P.if_ (eD hr (yf (cn:="Way") (f:="name") fl_Way_name ↥37) bC) (aj (P.ret (K9 (P.v 3) af))) av)
 (aj (P.ret (tq (cn:="Way") (m:="flees_nought") mt_Way_flees_nought ↥37 (a1 (P.v 1))))))))
theorem qm (P:Pl X jG jN) (hS:X.env.scope=aa bI)
  (fl_Way_name:FldOk X "Way" "name") (mt_Way_flees_nought:MethOk X "Way" "flees_nought" aK):SSs X (ai bI) cV:=by
 unfold cV
 exact (ae (P.if_ (JA (yf (cn:="Way") (f:="name") fl_Way_name ↥37) (bo (a2 bC bC) ↥3)) (aj (P.ret rT)) av)
 (aj (P.ret (tq (cn:="Way") (m:="flees_nought") mt_Way_flees_nought ↥37 (a1 (P.v 1))))))
theorem yw (P:Pl X qo qv) (hS:X.env.scope=aa iy)
  (c_way_of:Callee X "way_of" br) (c_low:Callee X "low" iF) (c_endless:Callee X "endless" aZ) (mt_Way_bursts:MethOk X "Way" "bursts" dR) (c_signed:Callee X "signed" cu) (g_INEXACT:∃ t,X.mg "INEXACT"=some (.int 1 t)) (g_GREAT:∃ t,X.mg "GREAT"=some (.int 4 t)) (mt_Way_grows:MethOk X "Way" "grows" fz) (c_lost_flags:Callee X "lost_flags" cS):SSs X (ai iy) iO:=by
 unfold iO
 exact (ae (P.set 6 (P.call 0 c_way_of (a1 (P.v 1))))
 (ae (P.set 7 (aV (aQ (aU (P.v 4) (P.call 1 c_low (a1 ↥37))) (P.y 0)) (P.v 3)))
 (ae (P.set 8 (P.call 2 c_endless (a1 ↥37)))
 (ae (P.if_ (zG (P.v 7) (P.v 8)) (ae (P.set 9 (A9 (gW (tq (cn:="Way") (m:="bursts") mt_Way_bursts (P.v 6) (a1 (P.v 2)))) (P.v 8) (aU (P.v 8) af)))
 (aj (P.ret (bo (a2 (P.call 3 c_signed (a3 ↥37 (P.v 2) (P.v 9))) (aV (fY (P.w 4) g_INEXACT) (fY (P.w 5) g_GREAT))) ↥3)))) av)
 (ae (P.if_ (eD hr (P.v 5) af) (aj (P.ret (bo (a2 (P.call 3 c_signed (a3 ↥37 (P.v 2) (P.v 7))) af) ↥3))) av)
 (ae (P.set 9 (A9 (gW (tq (cn:="Way") (m:="grows") mt_Way_grows (P.v 6) (a3 (P.v 2) (gS hr (yh (P.v 7) af) af) (P.v 5)))) (aV (P.v 7) af) (P.v 7)))
 (aj (P.ret (bo (a2 (P.call 3 c_signed (a3 ↥37 (P.v 2) (P.v 9))) (P.call 6 c_lost_flags (a3 ↥37 (P.v 7) (P.v 9)))) ↥3)))))))))
theorem yx (P:Pl X qp qw) (hS:X.env.scope=aa iz)
  (c_way_of:Callee X "way_of" br) (c_cut:Callee X "cut" rl) (c_settled:Callee X "settled" dA):SSs X (ai iz) fU:=by
 unfold fU
 exact (ae (P.xp (P.call 0 c_way_of (a1 (P.v 1))))
 (ae (P.set 5 (P.call 1 c_cut (a3 ↥37 (P.v 3) (P.v 4))))
 (aj (P.ret (P.call 2 c_settled (ah ↥37 (ah (P.v 1) (ah (P.v 2) (ah (P.y 5) (ah (P.y 5) (ah (P.y 5) cZ)))))))))))
theorem uX (P:Pl X mr mL) (hS:X.env.scope=aa gn)
  (c_rounded:Callee X "rounded" bJ):SSs X (ai gn) gI:=by
 unfold gI
 exact (aj (P.ret (P.call 0 c_rounded (ah ↥37 (ah (P.v 1) (ah (tu (P.y 2) (P.y 3)) (ah (bE (P.y 2) (P.y 3)) (ah (bE (P.y 2) (P.y 3)) cZ))))))))
theorem jU (P:Pl X fI fL) (hS:X.env.scope=aa bS)
     : SSs X (ai bS) bV:=by
 unfold bV
 exact (ae (P.set 1 (P.y 0))
 (ae (P.set 2 (P.y 0))
 (ae (P.if_ (zG (P.v 2) af) (aj (P.ret (bo (a3 (P.y 0) (aQ (P.v 1) (P.v 2)) af) ↥3))) av)
 (aj (P.ret (bo (a3 (P.y 0) (P.v 1) (aQ af (A7 (P.v 2)))) ↥3))))))
theorem Fu (P:Pl X yK yP) (hS:X.env.scope=aa nG) {C_NotFinite:Addr}
  (c_parted:Callee X "parted" aR) (c_last_field:Callee X "last_field" aY) (q_NotFinite:X.mg "NotFinite"=some (.ref  C_NotFinite)) (xi_NotFinite:PySem.W.excIn X.K C_NotFinite bmV "ValueError.__new__"=true) (c_low:Callee X "low" iF):SSs X (ai nG) om:=by
 unfold om
 exact (ae (P.set 2 (P.call 0 c_parted (a2 ↥37 (P.v 1))))
 (ae (P.set 3 (P.y 2))
 (ae (P.set 4 (P.y 2))
 (ae (P.set 5 (P.y 2))
 (ae (P.if_ (eD hr (P.v 4) (P.call 1 c_last_field (a1 ↥37))) (aj (fQ (x:="NotFinite") L.calm (P.w 2) q_NotFinite xi_NotFinite)) av)
 (ae (P.if_ (eD hr (P.v 4) af) (aj (P.ret (bo (a3 (P.v 3) (P.v 5) (P.call 3 c_low (a1 ↥37))) ↥3))) av)
 (aj (P.ret (bo (a3 (P.v 3) (aV (aQ af (P.y 0)) (P.v 5)) (aU (aV (P.call 3 c_low (a1 ↥37)) (P.v 4)) af)) ↥3)))))))))
theorem ve (P:Pl X mH mV) (hS:X.env.scope=aa gB)
  (c_worth_fraction:Callee X "worth_fraction" aL) (c_worth:Callee X "worth" cE):SSs X (ai gB) gR:=by
 unfold gR
 exact (aj (P.ret (P.call 0 c_worth_fraction (a1 (P.call 1 c_worth (a2 ↥37 (P.v 1)))))))
theorem rZ (P:Pl X ly lG) (hS:X.env.scope=aa fh)
  (c_endless:Callee X "endless" aZ):SSs X (ai fh) fE:=by
 unfold fE
 exact (aj (P.ret (aV (P.call 0 c_endless (a1 ↥37)) (aQ af (aU (P.y 0) af)))))
theorem yC (P:Pl X qu qC) (hS:X.env.scope=aa iE)
  (c_way_of:Callee X "way_of" br) (c_any_none:Callee X "any_none" bN) (c_no_number:Callee X "no_number" bw) (c_kind:Callee X "kind" aX) (g_WRONG:∃ t,X.mg "WRONG"=some (.int 16 t)) (c_parted:Callee X "parted" aR) (c_signed:Callee X "signed" cu) (c_endless:Callee X "endless" aZ) (g_POLE:∃ t,X.mg "POLE"=some (.int 8 t)) (c_quotient:Callee X "quotient" eQ) (c_fraction:Callee X "fraction" bM):SSs X (ai iE) iS:=by
 unfold iS
 exact (ae (P.xp (P.call 0 c_way_of (a1 (P.v 1))))
 (ae (P.if_ (gW (P.call 1 c_any_none (a2 ↥37 (oz (a2 (P.v 2) (P.v 3)) ↥3)))) (aj (P.ret (bo (a2 (P.call 2 c_no_number (a1 ↥37)) af) ↥3))) av)
 (ae (P.set 4 (P.call 3 c_kind (a2 ↥37 (P.v 2))))
 (ae (P.set 5 (P.call 3 c_kind (a2 ↥37 (P.v 3))))
 (ae (P.if_ (t_w (w_and (eD hr (P.v 4) (P.v 5)) (sF (JA (P.v 4) (bo (a2 bC bC) ↥3))))) (aj (P.ret (bo (a2 (P.call 2 c_no_number (a1 ↥37)) (fY (P.w 4) g_WRONG)) ↥3))) av)
 (ae (P.set 6 (tu (A8 (P.call 5 c_parted (a2 ↥37 (P.v 2))) af) (A8 (P.call 5 c_parted (a2 ↥37 (P.v 3))) af)))
 (ae (P.if_ (eD hr (P.v 4) bC) (aj (P.ret (bo (a2 (P.call 6 c_signed (a3 ↥37 (P.v 6) (P.call 7 c_endless (a1 ↥37)))) af) ↥3))) av)
 (ae (P.if_ (t_w (w_or (eD hr (P.v 4) bC) (km (eD hr (P.v 5) bC)))) (aj (P.ret (bo (a2 (P.call 6 c_signed (a3 ↥37 (P.v 6) af)) af) ↥3))) av)
 (ae (P.if_ (eD hr (P.v 5) bC) (aj (P.ret (bo (a2 (P.call 6 c_signed (a3 ↥37 (P.v 6) (P.call 7 c_endless (a1 ↥37)))) (fY (P.w 8) g_POLE)) ↥3))) av)
 (aj (P.ret (P.call 9 c_quotient (ah ↥37 (ah (P.v 1) (ah (P.call 10 c_fraction (a2 ↥37 (P.v 2))) (ah (P.call 10 c_fraction (a2 ↥37 (P.v 3))) cZ))))))))))))))))
theorem Fx (P:Pl X yN yS) (hS:X.env.scope=aa nK)
     : SSs X (ai nK) ou:=by
 unfold ou
 exact (aj (P.ret (bo (a3 (aU af (P.y 0)) (P.y 0) (P.y 0)) ↥3)))
theorem Fw (P:Pl X yM yR) (hS:X.env.scope=aa nJ)
  (m_min:X.mg "min"=none) (m_abs:X.mg "abs"=none):SSs X (ai nJ) oq:=by
 unfold oq
 exact (ae (P.set 1 (IZ L.calm (P.w 0) m_min (a1 (Jb L.calm P.sc (x:="term") (ksn:=[]) (G:=[]) (ks:=[]) (by walk_at "C") rfl ↥3 (by rw [hS];decide +kernel) (uK ↥37) (fun C fp s H W S' G'=>(A8 (lU S' 0 rfl) af))))))
 (ae (P.set 2 af)
 (ae (sI P.toSx L 3 rfl (P.sto _ (mG 3)) (uK ↥37) (ae (P.set 4 (aQ (P.y 3) (aU (P.y 3) (P.v 1))))
 (aj (P.set 2 (A9 (eD hr (P.y 3) af) (aU (P.v 2) (P.v 4)) (aV (P.v 2) (P.v 4)))))))
 (aj (P.ret (bo (a3 (A9 (uc (P.v 2) af) af af) (fH Bg AA (P.w 1) m_abs boot_abs (a1 (P.v 2))) (P.v 1)) ↥3))))))
theorem yz (P:Pl X qr qz) (hS:X.env.scope=aa iB) {C_NoLeft:Addr}
  (c_worth_fraction:Callee X "worth_fraction" aL) (c_total:Callee X "total" kF) (c_rounded:Callee X "rounded" bJ) (q_NoLeft:X.mg "NoLeft"=some (.ref  C_NoLeft)) (xi_NoLeft:PySem.W.excIn X.K C_NoLeft bmV "ValueError.__new__"=true):SSs X (ai iB) fV:=by
 unfold fV
 exact (ae (P.set 2 (P.call 0 c_worth_fraction (a1 (P.call 1 c_total (a1 (P.v 1))))))
 (ae (P.set 3 (P.call 2 c_rounded (ah ↥37 (ah bC (ah (P.y 2) (ah (P.y 2) (ah (P.y 2) cZ)))))))
 (ae (P.if_ (Dg hr (P.y 3) af) (aj (fQ (x:="NoLeft") L.calm (P.w 3) q_NoLeft xi_NoLeft)) av)
 (aj (P.ret (P.y 3))))))
theorem oK (P:Pl X iZ i9) (hS:X.env.scope=aa de)
  (c_kind:Callee X "kind" aX) (c_parted:Callee X "parted" aR) (c_worth:Callee X "worth" cE):SSs X (ai de) cy:=by
 unfold cy
 exact (ae (P.if_ (eD hr (P.call 0 c_kind (a2 ↥37 (P.v 1))) bC) (aj (P.ret (bo (a3 (A8 (P.call 1 c_parted (a2 ↥37 (P.v 1))) af) pZ af) ↥3))) av)
 (aj (P.ret (P.call 2 c_worth (a2 ↥37 (P.v 1))))))
theorem lV (P:Pl X hX ib) (hS:X.env.scope=aa cM)
  (c_number_term:Callee X "number_term" aS):SSs X (ai cM) cO:=by
 unfold cO
 exact (ae (P.set 3 (P.call 0 c_number_term (a2 ↥37 (P.v 1))))
 (ae (P.set 4 (P.call 0 c_number_term (a2 ↥37 (P.v 2))))
 (ae (P.set 5 (tu (P.y 3) (P.y 4)))
 (ae (P.if_ (t_w (w_or (vV (P.y 3)) (km (vV (P.y 4))))) (aj (P.ret (bo (a3 (P.v 5) pZ af) ↥3))) av)
 (aj (P.ret (bo (a3 (P.v 5) (bE (P.y 3) (P.y 4)) (aV (P.y 3) (P.y 4))) ↥3)))))))
theorem lh (P:Pl X gd gh) (hS:X.env.scope=aa cm)
  (c_way_of:Callee X "way_of" br) (c_check_finite:Callee X "check_finite" aE) (c_kept_answer:Callee X "kept_answer" aw) (c_divided:Callee X "divided" bQ) (c_worth:Callee X "worth" cE) (c_minus:Callee X "minus" fT) (c_product_term:Callee X "product_term" aD) (c_left_of:Callee X "left_of" bK):SSs X (ai cm) bh:=by
 unfold bh
 exact (ae (P.xp (P.call 0 c_way_of (a1 (P.v 1))))
 (ae (P.xp (P.call 1 c_check_finite (a2 ↥37 (oz (a2 (P.v 2) (P.v 3)) ↥3))))
 (ae (P.set 4 (P.call 2 c_kept_answer (a2 ↥37 (P.call 3 c_divided (ah ↥37 (ah (P.v 1) (ah (P.v 2) (ah (P.v 3) cZ))))))))
 (ae (P.set 5 (oz (a2 (P.call 4 c_worth (a2 ↥37 (P.v 2))) (P.call 5 c_minus (a1 (P.call 6 c_product_term (a3 ↥37 (P.v 4) (P.v 3)))))) ↥3))
 (aj (P.ret (bo (a2 (P.v 4) (P.call 7 c_left_of (a2 ↥37 (P.v 5)))) ↥3)))))))
theorem qg (P:Pl X jA jH) (hS:X.env.scope=aa dJ) {C_NoFraction:Addr}
  (q_NoFraction:X.mg "NoFraction"=some (.ref  C_NoFraction)) (xi_NoFraction:PySem.W.excIn X.K C_NoFraction bmV "ValueError.__new__"=true):SSs X (ai dJ) dU:=by
 unfold dU
 exact (ae (P.if_ (uc ↥37 af) (aj (fQ (x:="NoFraction") L.calm (P.w 0) q_NoFraction xi_NoFraction)) av)
 (ae (P.set 1 (aQ af (fO (aV (oA ↥37) af) af)))
 (ae (Dz P.toSx L.own (JB (bE (P.v 1) (P.v 1)) ↥37) (aj (P.set 1 (fO (aV (P.v 1) (fO ↥37 (P.v 1))) af))))
 (aj (P.ret (P.v 1))))))
theorem rX (P:Pl X lr lE) (hS:X.env.scope=aa fe)
  (c_rest_by_middle:Callee X "rest_by_middle" aM):SSs X (ai fe) fD:=by
 unfold fD
 exact (ae (P.set 3 (bE (bE (aV (bE af (P.v 2)) af) (aV (bE af (P.v 2)) af)) (P.v 1)))
 (aj (P.ret (P.call 0 c_rest_by_middle (a3 (aU ↥37 (bE (bE (P.v 2) (P.v 2)) (P.v 1))) (bE af ↥37) (P.v 3))))))
theorem uW (P:Pl X ml mK) (hS:X.env.scope=aa gm)
  (c_check_fraction:Callee X "check_fraction" aO) (c_low:Callee X "low" iF) (c_height:Callee X "height" fw) (m_max:X.mg "max"=none) (c_scaled:Callee X "scaled" di) (c_whole_root:Callee X "whole_root" cR) (c_root_rest:Callee X "root_rest" dB):SSs X (ai gm) gH:=by
 unfold gH
 exact (ae (P.xp (P.call 0 c_check_fraction (a2 (P.v 1) (P.v 2))))
 (ae (P.if_ (eD hr (P.v 1) af) (aj (P.ret (bo (a3 af (P.call 1 c_low (a1 ↥37)) af) ↥3))) av)
 (ae (P.set 3 (fO (aV (P.call 2 c_height (a2 (P.v 1) (P.v 2))) af) af))
 (ae (P.set 4 (fH (Fl L.calm) EA (P.w 3) m_max boot_max (a2 (P.call 1 c_low (a1 ↥37)) (aU (aU (P.v 3) (P.y 0)) af))))
 (ae (P.set 5 (P.call 4 c_scaled (a3 (P.v 1) (P.v 2) (bE af (P.v 4)))))
 (ae (P.set 6 (P.call 5 c_whole_root (a1 (fO (P.y 5) (P.y 5)))))
 (aj (P.ret (bo (a3 (P.v 6) (P.v 4) (P.call 6 c_root_rest (a3 (P.y 5) (P.y 5) (P.v 6)))) ↥3)))))))))
theorem Bm (P:Pl X tO tW) (hS:X.env.scope=aa j4)
  (c_way_of:Callee X "way_of" br) (c_any_none:Callee X "any_none" bN) (c_no_number:Callee X "no_number" bw) (c_kind:Callee X "kind" aX) (c_endless:Callee X "endless" aZ) (c_parted:Callee X "parted" aR) (g_WRONG:∃ t,X.mg "WRONG"=some (.int 16 t)) (c_fraction:Callee X "fraction" bM) (c_root_cut:Callee X "root_cut" eO) (c_settled:Callee X "settled" dA):SSs X (ai j4) gG:=by
 unfold gG
 exact (ae (P.xp (P.call 0 c_way_of (a1 (P.v 1))))
 (ae (P.if_ (gW (P.call 1 c_any_none (a2 ↥37 (oz (a1 (P.v 2)) ↥3)))) (aj (P.ret (bo (a2 (P.call 2 c_no_number (a1 ↥37)) af) ↥3))) av)
 (ae (P.if_ (t_w (w_or (eD hr (P.call 3 c_kind (a2 ↥37 (P.v 2))) bC) (km (eD hr (P.v 2) (P.call 4 c_endless (a1 ↥37)))))) (aj (P.ret (bo (a2 (P.v 2) af) ↥3))) av)
 (ae (P.if_ (eD hr (A8 (P.call 5 c_parted (a2 ↥37 (P.v 2))) af) af) (aj (P.ret (bo (a2 (P.call 2 c_no_number (a1 ↥37)) (fY (P.w 6) g_WRONG)) ↥3))) av)
 (ae (P.set 3 (P.call 7 c_fraction (a2 ↥37 (P.v 2))))
 (ae (P.set 4 (P.call 8 c_root_cut (a3 ↥37 (P.y 3) (P.y 3))))
 (aj (P.ret (P.call 9 c_settled (ah ↥37 (ah (P.v 1) (ah af (ah (P.y 4) (ah (P.y 4) (ah (P.y 4) cZ)))))))))))))))
theorem rY (P:Pl X lx lF) (hS:X.env.scope=aa fg)
  (c_way_of:Callee X "way_of" br) (c_check_finite:Callee X "check_finite" aE) (c_kept_answer:Callee X "kept_answer" aw) (c_rooted:Callee X "rooted" bD) (c_worth:Callee X "worth" cE) (c_minus:Callee X "minus" fT) (c_product_term:Callee X "product_term" aD) (c_left_of:Callee X "left_of" bK):SSs X (ai fg) cK:=by
 unfold cK
 exact (ae (P.xp (P.call 0 c_way_of (a1 (P.v 1))))
 (ae (P.xp (P.call 1 c_check_finite (a2 ↥37 (oz (a1 (P.v 2)) ↥3))))
 (ae (P.set 3 (P.call 2 c_kept_answer (a2 ↥37 (P.call 3 c_rooted (a3 ↥37 (P.v 1) (P.v 2))))))
 (ae (P.set 4 (oz (a2 (P.call 4 c_worth (a2 ↥37 (P.v 2))) (P.call 5 c_minus (a1 (P.call 6 c_product_term (a3 ↥37 (P.v 3) (P.v 3)))))) ↥3))
 (aj (P.ret (bo (a2 (P.v 3) (P.call 7 c_left_of (a2 ↥37 (P.v 4)))) ↥3)))))))
theorem sj (P:Pl X lC lK) (hS:X.env.scope=aa fm)
  (c_root_left:Callee X "root_left" bu) (c_quotient_left:Callee X "quotient_left" aB):SSs X (ai fm) bA:=by
 unfold bA
 exact (ae (P.if_ (vV (P.v 3)) (aj (P.ret (P.call 0 c_root_left (a3 ↥37 (P.v 1) (P.v 2))))) av)
 (aj (P.ret (P.call 1 c_quotient_left (ah ↥37 (ah (P.v 1) (ah (P.v 2) (ah (P.v 3) cZ))))))))
theorem sf (P:Pl X lA lI) (hS:X.env.scope=aa fj)
     : SSs X (ai fj) fG:=by
 unfold fG
 exact (ae (P.set 2 (IY (P.v 1) (P.y 0)))
 (ae (P.if_ (eD hr (P.v 2) af) (aj (P.ret (P.v 1))) av)
 (aj (P.ret (aQ (aV (aQ af (P.y 0)) (b8 (P.v 1) (aQ af (P.y 0)))) (aU (P.v 2) af))))))
theorem yA (P:Pl X qs qA) (hS:X.env.scope=aa iC)
     : SSs X (ai iC) iQ:=by
 unfold iQ
 exact (ae (P.if_ (eD hr ↥37 bC) (aj (P.ret (E9 (Ot (P.v 2) af) (cX (cL (gS hr (P.v 2) af) (cX (P.v 3))))))) av)
 (ae (P.if_ (eD hr ↥37 bC) (aj (P.ret (K9 (P.v 2) af))) av)
 (aj (P.ret (P.v 1)))))
theorem r9 (P:Pl X lz lH) (hS:X.env.scope=aa fi)
  (m_int:X.mg "int"=none) (isi_int:Isi X (.ty "int")) (hE:jO X) (m_isinstance:X.mg "isinstance"=none) (m_bool:X.mg "bool"=none) (isi_bool:Isi X (.ty "bool")):SSs X (ai fi) fF:=by
 unfold fF
 exact (aj (P.ret (cL (rR isi_int hE (P.w 0) m_isinstance ↥37 (IW (n:="int") (P.w 1) m_int boot_int)) (cX (A6 (rR isi_bool hE (P.w 0) m_isinstance ↥37 (IW (n:="bool") (P.w 2) m_bool boot_bool)))))))
theorem u4 (P:Pl X my mQ) (hS:X.env.scope=aa gw)
     : SSs X (ai gw) gO:=by
 unfold gO
 exact (ae (P.if_ (eD hr ↥37 bC) (aj (P.ret (E9 (F0 (P.v 2) af) (cX (cL (gS hr (P.v 2) af) (cX (P.v 3))))))) av)
 (ae (P.if_ (eD hr ↥37 bC) (aj (P.ret (F0 (P.v 2) af))) av)
 (aj (P.ret (A6 (P.v 1))))))
theorem va (P:Pl X mE mU) (hS:X.env.scope=aa gA)
  (m_tuple:X.mg "tuple"=none) (isi_tuple:Isi X (.ty "tuple")) (hE:jO X) (m_isinstance:X.mg "isinstance"=none) (m_len:X.mg "len"=none) (c_law_whole:Callee X "_law_whole" aN) (c_law_value:Callee X "_law_value" ay) (c_law_near:Callee X "_law_near" cG) (c_law_far:Callee X "_law_far" dC):SSs X (ai gA) cg:=by
 unfold cg
 exact (ae (P.if_ (t_w (w_or (iu (gW (rR isi_tuple hE (P.w 0) m_isinstance (P.v 5) (IW (n:="tuple") (P.w 1) m_tuple boot_tuple)))) (w_or (Dg hr (fH Bf Az (P.w 2) m_len PySem.boot_len (a1 (P.v 5))) af) (w_or (iu (gW (P.call 3 c_law_whole (a1 (P.y 5))))) (km (iu (gW (P.call 3 c_law_whole (a1 (P.y 5)))))))))) (aj (P.ret rT)) av)
 (ae (P.set 6 (aU (P.y 5) (aQ (P.v 2) (aV (P.y 0) (P.y 0)))))
 (ae (P.set 7 (aQ (aU (aQ af (P.y 0)) af) (P.y 0)))
 (ae (P.if_ (iu (qH Ib Ib pL pL af (P.v 6) (P.v 7))) (aj (P.ret rT)) av)
 (ae (P.set 8 (bE (P.call 4 c_law_value (a2 ↥37 (P.v 6))) (P.v 4)))
 (ae (P.set 9 (E9 (cL (gS hr (P.v 1) bC) (cX (gS hr (P.v 2) af))) (cX (cL (gS hr (P.v 1) bC) (cX (gS hr (P.v 2) af))))))
 (ae (P.if_ (t_w (w_and (eD hr (P.v 6) (P.v 7)) (sF (zG (P.v 3) (P.v 8))))) (aj (P.ret (cL (gS hr (P.y 5) af) (cX (E9 (gS hr (P.v 1) bC) (E9 (gS hr (P.v 1) bC) (cX (P.v 9)))))))) av)
 (ae (P.if_ (eD hr (P.v 3) (P.v 8)) (aj (P.ret (gS hr (P.y 5) af))) av)
 (ae (P.set 10 af)
 (ae (P.if_ (uc (P.v 3) (aQ (P.v 4) (P.y 0))) (aj (P.set 10 af)) av)
 (ae (P.if_ (JB (P.v 3) (P.v 8)) (ae (P.set 12 (bE (P.call 4 c_law_value (a2 ↥37 (aV (P.v 6) af))) (P.v 4)))
 (ae (P.if_ (zG (P.v 3) (P.v 12)) (aj (P.ret (cL (gS hr (P.y 5) af) (cL (gS hr (P.v 6) (aU (P.v 7) af)) (cL (K7 hr (P.v 1) bC) (cL (K7 hr (P.v 1) bC) (cX (A6 (P.v 9))))))))) av)
 (aj (P.ret (cL (gS hr (P.y 5) (P.v 10)) (cX (P.call 5 c_law_near (ah (P.v 1) (ah (P.v 9) (ah (aU (aU (bE af (P.v 3)) (P.v 8)) (P.v 12)) (ah (gS hr (b8 (P.v 6) af) af) cZ))))))))))) av)
 (ae (P.if_ (eD hr (P.v 6) (P.v 7)) (aj (P.set 10 af)) av)
 (ae (P.set 11 (bE (P.call 4 c_law_value (a2 ↥37 (aU (P.v 6) af))) (P.v 4)))
 (ae (P.if_ (OH (P.v 3) (P.v 11)) (aj (P.ret rT)) av)
 (aj (P.ret (cL (gS hr (P.y 5) (P.v 10)) (cX (P.call 6 c_law_far (ah (P.v 1) (ah (P.v 9) (ah (aU (aU (bE af (P.v 3)) (P.v 8)) (P.v 11)) (ah (gS hr (b8 (P.v 6) af) af) cZ)))))))))))))))))))))))
theorem uZ (P:Pl X mw mO) (hS:X.env.scope=aa gq)
  (m_tuple:X.mg "tuple"=none) (isi_tuple:Isi X (.ty "tuple")) (hE:jO X) (m_isinstance:X.mg "isinstance"=none) (m_len:X.mg "len"=none) (c_law_whole:Callee X "_law_whole" aN):SSs X (ai gq) gM:=by
 unfold gM
 exact (aj (P.ret (cL (rR isi_tuple hE (P.w 0) m_isinstance ↥37 (IW (n:="tuple") (P.w 1) m_tuple boot_tuple)) (cL (gS hr (fH Bf Az (P.w 2) m_len PySem.boot_len (a1 ↥37)) af) (cL (P.call 3 c_law_whole (a1 (P.y 0))) (cX (P.call 3 c_law_whole (a1 (P.y 0)))))))))
theorem uY (P:Pl X mv mM) (hS:X.env.scope=aa gp)
  (c_law_value:Callee X "_law_value" ay) (c_law_near:Callee X "_law_near" cG) (c_law_far:Callee X "_law_far" dC):SSs X (ai gp) gJ:=by
 unfold gJ
 exact (ae (P.set 4 (P.y 3))
 (ae (P.if_ (iu (qH Ib JG pL sS af (P.v 4) (aQ (aU (aQ af (P.y 0)) af) (P.y 0)))) (aj (P.ret rT)) av)
 (ae (P.set 5 (P.call 0 c_law_value (a2 ↥37 (P.v 4))))
 (ae (P.if_ (eD hr (bE (P.v 5) (P.v 5)) (P.v 2)) (aj (P.ret (gS hr (P.y 3) af))) av)
 (ae (P.set 6 af)
 (ae (P.if_ (uc (P.v 2) (aQ af (bE af (P.y 0)))) (aj (P.set 6 af)) av)
 (ae (P.if_ (JB (P.v 2) (bE (P.v 5) (P.v 5))) (ae (P.set 9 (P.call 0 c_law_value (a2 ↥37 (aV (P.v 4) af))))
 (ae (P.set 8 (aU (bE af (P.v 2)) (bE (aV (P.v 5) (P.v 9)) (aV (P.v 5) (P.v 9)))))
 (aj (P.ret (cL (Ot (bE (P.v 9) (P.v 9)) (P.v 2)) (cL (gS hr (P.y 3) (P.v 6)) (cX (P.call 1 c_law_near (ah (P.v 1) (ah (gS hr (P.v 1) bC) (ah (P.v 8) (ah (gS hr (b8 (P.v 4) af) af) cZ)))))))))))) av)
 (ae (P.set 7 (P.call 0 c_law_value (a2 ↥37 (aU (P.v 4) af))))
 (ae (P.set 8 (aU (bE af (P.v 2)) (bE (aV (P.v 5) (P.v 7)) (aV (P.v 5) (P.v 7)))))
 (aj (P.ret (cL (F0 (bE (P.v 7) (P.v 7)) (P.v 2)) (cL (gS hr (P.y 3) (P.v 6)) (cX (P.call 2 c_law_far (ah (P.v 1) (ah (gS hr (P.v 1) bC) (ah (P.v 8) (ah (gS hr (b8 (P.v 4) af) af) cZ)))))))))))))))))))
theorem u5 (P:Pl X mz mR) (hS:X.env.scope=aa gx)
  (c_law_value:Callee X "_law_value" ay):SSs X (ai gx) gP:=by
 unfold gP
 exact (ae (P.set 2 (aQ af (aV (P.y 0) (P.y 0))))
 (ae (P.set 3 (P.call 0 c_law_value (a2 ↥37 (b8 (P.v 1) (P.v 2)))))
 (ae (P.if_ (zG (P.v 1) (P.v 2)) (aj (P.ret (A7 (P.v 3)))) av)
 (aj (P.ret (P.v 3))))))
theorem qj (P:Pl X jD jK) (hS:X.env.scope=aa dO)
  (c_law_pair:Callee X "_law_pair" cF) (c_law_root:Callee X "_law_root" eR) (c_law_line:Callee X "_law_line" aT) (c_law_fair:Callee X "_law_fair" aJ) (m_abs:X.mg "abs"=none):SSs X (ai dO) cj:=by
 unfold cj
 exact (ae (P.set 5 (aQ af (aV (P.y 0) (P.y 0))))
 (ae (P.set 6 (aV (aU (aQ af (aU (P.y 0) af)) af) (P.y 0)))
 (ae (P.if_ (iu (gW (P.call 0 c_law_pair (a1 (P.v 4))))) (aj (P.ret rT)) av)
 (ae (P.if_ (vV (P.v 3)) (ae (P.if_ (eD hr (b8 (P.v 2) (P.v 5)) af) (aj (P.ret (gS hr (P.v 4) (bo (a2 (P.v 2) af) ↥3)))) av)
 (aj (P.ret (P.call 1 c_law_root (ah ↥37 (ah (P.v 1) (ah (aQ (P.call 2 c_law_line (a2 ↥37 (P.v 2))) (P.v 6)) (ah (P.v 4) cZ)))))))) av)
 (ae (P.set 7 (tu (fO (P.v 2) (P.v 5)) (fO (P.v 3) (P.v 5))))
 (ae (P.if_ (eD hr (b8 (P.v 2) (P.v 5)) af) (aj (P.ret (gS hr (P.v 4) (bo (a2 (bE (P.v 7) (P.v 5)) af) ↥3)))) av)
 (aj (P.ret (P.call 3 c_law_fair (ah ↥37 (ah (P.v 1) (ah (P.v 7) (ah (aQ (fH Bg AA (P.w 4) m_abs boot_abs (a1 (P.call 2 c_law_line (a2 ↥37 (P.v 2))))) (P.v 6)) (ah (fH Bg AA (P.w 4) m_abs boot_abs (a1 (P.call 2 c_law_line (a2 ↥37 (P.v 3))))) (ah (P.v 4) cZ)))))))))))))))
theorem u7 (P:Pl X mB mS) (hS:X.env.scope=aa gy)
  (m_tuple:X.mg "tuple"=none) (isi_tuple:Isi X (.ty "tuple")) (hE:jO X) (m_isinstance:X.mg "isinstance"=none) (m_len:X.mg "len"=none) (c_law_whole:Callee X "_law_whole" aN) (c_law_line:Callee X "_law_line" aT):SSs X (ai gy) gQ:=by
 unfold gQ
 exact (ae (P.set 5 (aQ af (aV (P.y 0) (P.y 0))))
 (ae (P.set 6 (aU (P.v 5) (aQ af (P.y 0))))
 (ae (P.if_ (t_w (w_or (iu (gW (rR isi_tuple hE (P.w 0) m_isinstance (P.v 1) (IW (n:="tuple") (P.w 1) m_tuple boot_tuple)))) (w_or (Dg hr (fH Bf Az (P.w 2) m_len PySem.boot_len (a1 (P.v 1))) af) (w_or (iu (gW (P.call 3 c_law_whole (a1 (P.y 1))))) (km (iu (gW (P.call 3 c_law_whole (a1 (P.y 1)))))))))) (aj (P.ret rT)) av)
 (ae (P.if_ (t_w (w_or (Dg hr (P.y 1) (P.v 2)) (w_or (iu (qH Ib JG pL sS af (P.y 1) (bE af (P.v 5)))) (km (zG (b8 (P.y 1) (P.v 5)) (P.v 6)))))) (aj (P.ret rT)) av)
 (aj (P.ret (cL (gS hr (aQ (P.call 4 c_law_line (a2 ↥37 (P.y 1))) (P.v 4)) (P.v 3)) (cX (E9 (K7 hr (P.v 3) af) (cX (gS hr (P.y 1) af)))))))))))
theorem u9 (P:Pl X mD mT) (hS:X.env.scope=aa gz)
  (m_abs:X.mg "abs"=none) (c_law_value:Callee X "_law_value" ay) (hN:X.base.NoSeer) (ht:X.prog.given.tree=none) (hk:32<=k):SSs X (ai gz) eZ:=by
 unfold eZ
 exact (ae (P.set 3 (aQ (aU (aQ af (P.y 0)) af) (P.y 0)))
 (ae (P.set 4 (fH Bg AA (P.w 0) m_abs boot_abs (a1 (P.v 1))))
 (ae (P.if_ (Dg hr (b8 (P.v 4) (aQ af (P.v 2))) af) (aj (P.ret rT)) av)
 (ae (P.set 4 (IY (P.v 4) (P.v 2)))
 (ae (P.if_ (eD hr (P.v 4) af) (aj (P.ret rT)) av)
 (aj (P.ret (cL (F0 (P.v 4) (P.call 1 c_law_value (a2 ↥37 (P.v 3)))) (cX (F0 (Ja O hN ht (by rw [hS];rfl) (by rw [hS];rfl) hr hk (P.v 4) (Fd (P.v 4) (A7 (P.v 4)))) (aQ af (P.y 0))))))))))))
theorem si (P:Pl X lB lJ) (hS:X.env.scope=aa fk) {C_MillError C_NoLeft C_NotFinite:Addr}
  (c_law_asked:Callee X "_law_asked" au) (lc_8:X.env.scope.names.lookup ("e":Str)=some .local) (q_MillError:X.mg "MillError"=some (.ref  C_MillError)) (ct_MillError:sC X "MillError" C_MillError) (q_NoLeft:X.mg "NoLeft"=some (.ref  C_NoLeft)) (isi_NoLeft:Isi X (.cls "NoLeft")) (hE:jO X) (m_isinstance:X.mg "isinstance"=none) (q_NotFinite:X.mg "NotFinite"=some (.ref  C_NotFinite)) (isi_NotFinite:Isi X (.cls "NotFinite")) (c_law_pair:Callee X "_law_pair" cF) (c_law_answer:Callee X "_law_answer" aG) (c_law_line:Callee X "_law_line" aT) (c_law_fits:Callee X "_law_fits" cH) (c_law_left:Callee X "_law_left" eS):SSs X (ai fk) b7:=by
 unfold b7
 exact (ae (P.set 5 (aQ af (aV (P.y 0) (P.y 0))))
 (ae (P.set 6 pZ)
 (ae (P.set 7 pZ)
 (ae (Kh (cls:="MillError") P O 8 rfl lc_8 (P.w 1) q_MillError ct_MillError (fun pins W=>(aj (DB (P.try pins W).toSx 7 rfl ((P.try pins W).sto _ (mG 7)) (yg ⟨c_law_asked.ex⟩ ((P.try pins W).gb _ (mG 0)) (ah (lU (P.try pins W).sc 0 rfl) (ah (lU (P.try pins W).sc 1 rfl) (ah (lU (P.try pins W).sc 2 rfl) (ah (lU (P.try pins W).sc 3 rfl) cZ)))))))) (fun ea=>(aj (DB (P.inn ea).toSx 6 rfl ((P.inn ea).sto _ (mG 6)) (lU (P.inn ea).sc 8 rfl)))))
 (ae (P.set 9 (cL (rR isi_NoLeft hE (P.w 2) m_isinstance (P.v 6) (Jc (x:="NoLeft") (P.w 3) q_NoLeft)) (cX (A6 (rR isi_NotFinite hE (P.w 2) m_isinstance (P.v 6) (Jc (x:="NotFinite") (P.w 4) q_NotFinite))))))
 (ae (P.if_ (t_w (w_or (t_w (w_and (vV (P.v 3)) (sF (JB (P.v 2) (P.v 5))))) (km (t_w (w_and (BH (P.v 3)) (sF (eD hr (b8 (P.v 3) (P.v 5)) af))))))) (aj (P.ret (cL (P.v 9) (cL (P.call 5 c_law_pair (a1 (P.v 4))) (cX (K9 (b8 (P.y 4) (P.v 5)) (aU (P.v 5) (aQ af (P.y 0))))))))) av)
 (ae (P.if_ (iu (gW (P.call 6 c_law_answer (ah ↥37 (ah (P.v 1) (ah (P.v 2) (ah (P.v 3) (ah (P.v 4) cZ)))))))) (aj (P.ret rT)) av)
 (ae (P.set 10 (P.y 4))
 (ae (P.if_ (BH (P.v 3)) (aj (P.set 10 (P.v 3))) av)
 (ae (P.set 11 (aV (aU (aQ af (aU (P.y 0) af)) af) (P.y 0)))
 (ae (P.set 12 (aU (aQ (P.call 7 c_law_line (a2 ↥37 (P.v 2))) (P.v 11)) (bE (P.call 7 c_law_line (a2 ↥37 (P.y 4))) (P.call 7 c_law_line (a2 ↥37 (P.v 10))))))
 (ae (P.if_ (t_w (w_or (zG (b8 (P.y 4) (P.v 5)) (aU (P.v 5) (aQ af (P.y 0)))) (w_or (Dg hr (yh (P.y 4) af) af) (km (iu (gW (P.call 8 c_law_fits (a3 ↥37 (P.v 12) (P.v 11))))))))) (aj (P.ret (P.v 9))) av)
 (aj (P.ret (cL (K8 (P.v 6)) (cX (P.call 9 c_law_left (ah ↥37 (ah (P.v 7) (ah (P.y 4) (ah (P.v 12) (ah (P.v 11) cZ))))))))))))))))))))))
theorem Lg (P:Pl X Jt Jx) (hS:X.env.scope=aa lQ)
  (c_law_size_by:Callee X "_law_size_by" cv) (c_law_cell_at:Callee X "_law_cell_at" bx) (c_law_way_by:Callee X "_law_way_by" cT) (c_law_finite_by:Callee X "_law_finite_by" bf) (c_law_holds:Callee X "_law_holds" aC) (c_divided:Callee X "divided" bQ) (c_rooted:Callee X "rooted" bD):SSs X (ai lQ) AV:=by
 unfold AV
 exact (ae (P.set 1 (P.call 0 c_law_size_by (a1 (P.call 1 c_law_cell_at (a2 ↥37 af)))))
 (ae (P.set 2 (P.call 2 c_law_way_by (a1 (P.call 1 c_law_cell_at (a2 ↥37 af)))))
 (ae (P.set 3 (P.call 3 c_law_finite_by (a2 (P.v 1) (fO (P.call 1 c_law_cell_at (a2 ↥37 af)) af))))
 (ae (sI P.toSx L 4 rfl (P.sto _ (mG 4)) (uK (aV (K6 ↥37 (zW af) zX) (oz (a1 af) ↥3))) (ae (P.set 5 (P.call 3 c_law_finite_by (a2 (P.v 1) (P.v 4))))
 (ae (P.if_ (iu (gW (P.call 4 c_law_holds (ah (P.v 1) (ah (P.v 2) (ah (P.v 3) (ah (P.v 5) (ah (P.call 5 c_divided (ah (P.v 1) (ah (P.v 2) (ah (P.v 3) (ah (P.v 5) cZ))))) cZ)))))))) (aj (P.ret rT)) av)
 (ae (P.if_ (iu (gW (P.call 4 c_law_holds (ah (P.v 1) (ah (P.v 2) (ah (P.v 5) (ah pZ (ah (P.call 6 c_rooted (a3 (P.v 1) (P.v 2) (P.v 5))) cZ)))))))) (aj (P.ret rT)) av)
 (aj (P.set 3 (P.v 5)))))))
 (aj (P.ret rT))))))
end
theorem all_mk {P:Program} {w:World} {K:PySem.W.Frag} {h:Heap} {mg:Str->Option Value} {fa:Addr} (KX:K.In h) (GG:h.Ns mainGlobals mg) (hfa:mg "law"=some (.ref fa))
  {C_Way:Addr} (n_Way:PySem.W.nsIn K mainGlobals "Way"=some (some (.ref C_Way)))
  (pg_Way:PySem.W.plainGet K C_Way Str.empty=true) (hd_Way:PySem.W.hasDictIn K C_Way=true) (po_Way:PySem.W.plainOver K C_Way=true) (sa_Way:PySem.W.findIn K (.ref C_Way) "__setattr__"=some (some (.builtin "object.__setattr__")))
  (na_Way:PySem.W.findIn K (.ref C_Way) "name"=some none)
  {fIWay:Addr} {odIWay anIWay:Option Addr} {slIWay:Array (Option Value)} {ocIWay kVIWay dcIWay pmIWay cdIWay ctIWay:Value}
  (aIWay:PySem.W.findIn K (.ref C_Way) "__init__"=some (some (.ref fIWay))) (uIWay:PySem.W.isFn K (.ref fIWay)=true) (mm_Way:PySem.W.makesIn K C_Way=true) (kc_Way:PySem.W.keepIn K (.ref C_Way)=true)
  (lIWay:K.lookup fIWay=some ⟨ocIWay,odIWay,.func (PySem.W.fnOf "__init__" "Way.__init__" (eC gD) (ai gD) (aa gD) .none kVIWay dcIWay pmIWay anIWay cdIWay ctIWay),slIWay⟩)
  (eIWay:PySem.W.codeIn K cdIWay "Way.__init__"=true) (kIWay:PySem.W.keepIn K (.ref fIWay)=true)
  (q1:DA K "_law_size_by" df)
  (q2:DA K "_law_way_by" dN)
  (q3:DA K "_law_finite_by" cq)
  (q4:DA K "_law_cell_at" dg)
  (q5:DA K "way_of" j1)
  (q6:DA K "sign_bit" gj)
  (q7:DA K "width" nH)
  (q8:DA K "parted" j5)
  (q9:DA K "check_bits" dQ)
  (q10:DA K "last_field" dP)
  (q11:DA K "kind" sH)
  (q12:DA K "check_finite" cN)
  (q13:DA K "kept_answer" dh)
  (q14:DA K "any_none" gC)
  (q15:DA K "check_fraction" bU)
  (q16:DA K "scaled" j3)
  (q17:DA K "bias" sJ)
  (q18:DA K "low" zP)
  (q19:DA K "rest_by_middle" bT)
  (q20:DA K "rest_of" iA)
  (q21:DA K "height" j6)
  (q22:DA K "cut" zQ)
  (q23:DA K "endless" iD)
  (q24:DA K "signed" j2)
  (q25:DA K "lost_flags" dM)
  {f26:Addr} {od26 an26:Option Addr} {sl26:Array (Option Value)} {oc26 kV26 dc26 pm26 cd26 ct26:Value}
  (a26:PySem.W.findIn K (.ref C_Way) "flees_nought"=some (some (.ref f26))) (u26:PySem.W.isFn K (.ref f26)=true)
  (l26:K.lookup f26=some ⟨oc26,od26,.func (PySem.W.fnOf "flees_nought" "Way.flees_nought" (eC aA) (ai aA) (aa aA) .none kV26 dc26 pm26 an26 cd26 ct26),sl26⟩)
  (e26:PySem.W.codeIn K cd26 "Way.flees_nought"=true) (k26:PySem.W.keepIn K (.ref f26)=true)
  {f27:Addr} {od27 an27:Option Addr} {sl27:Array (Option Value)} {oc27 kV27 dc27 pm27 cd27 ct27:Value}
  (a27:PySem.W.findIn K (.ref C_Way) "grows"=some (some (.ref f27))) (u27:PySem.W.isFn K (.ref f27)=true)
  (l27:K.lookup f27=some ⟨oc27,od27,.func (PySem.W.fnOf "grows" "Way.grows" (eC bY) (ai bY) (aa bY) .none kV27 dc27 pm27 an27 cd27 ct27),sl27⟩)
  (e27:PySem.W.codeIn K cd27 "Way.grows"=true) (k27:PySem.W.keepIn K (.ref f27)=true)
  {f28:Addr} {od28 an28:Option Addr} {sl28:Array (Option Value)} {oc28 kV28 dc28 pm28 cd28 ct28:Value}
  (a28:PySem.W.findIn K (.ref C_Way) "bursts"=some (some (.ref f28))) (u28:PySem.W.isFn K (.ref f28)=true)
  (l28:K.lookup f28=some ⟨oc28,od28,.func (PySem.W.fnOf "bursts" "Way.bursts" (eC bI) (ai bI) (aa bI) .none kV28 dc28 pm28 an28 cd28 ct28),sl28⟩)
  (e28:PySem.W.codeIn K cd28 "Way.bursts"=true) (k28:PySem.W.keepIn K (.ref f28)=true)
  (q29:DA K "settled" iy)
  (q30:DA K "rounded" iz)
  (q31:DA K "quotient" gn)
  (q32:DA K "worth_fraction" bS)
  (q33:DA K "worth" nG)
  (q34:DA K "fraction" gB)
  (q35:DA K "no_number" fh)
  (q36:DA K "divided" iE)
  (q37:DA K "minus" nK)
  (q38:DA K "total" nJ)
  (q39:DA K "left_of" iB)
  (q40:DA K "number_term" de)
  (q41:DA K "product_term" cM)
  (q42:DA K "quotient_left" cm)
  (q43:DA K "whole_root" dJ)
  (q44:DA K "root_rest" fe)
  (q45:DA K "root_cut" gm)
  (q46:DA K "rooted" j4)
  (q47:DA K "root_left" fg)
  (q48:DA K "_law_asked" fm)
  (q49:DA K "_law_value" fj)
  (q50:DA K "_law_far" iC)
  (q51:DA K "_law_whole" fi)
  (q52:DA K "_law_near" gw)
  (q53:DA K "_law_fair" gA)
  (q54:DA K "_law_pair" gq)
  (q55:DA K "_law_root" gp)
  (q56:DA K "_law_line" gx)
  (q57:DA K "_law_answer" dO)
  (q58:DA K "_law_left" gy)
  (q59:DA K "_law_fits" gz)
  (q60:DA K "_law_holds" fk)
  {f61:Addr} {od61 an61:Option Addr} {sl61:Array (Option Value)} {oc61 kV61 dc61 pm61 cd61 ct61:Value}
  (a61:PySem.W.nsIn K mainGlobals "law"=some (some (.ref f61)))
  (l61:K.lookup f61=some ⟨oc61,od61,.func (PySem.W.fnOf "law" "law" (eC lQ) (ai lQ) (aa lQ) .none kV61 dc61 pm61 an61 cd61 ct61),sl61⟩)
  (e61:PySem.W.codeIn K cd61 "law"=true) (k61:PySem.W.keepIn K (.ref f61)=true)
  (z_min:PySem.W.nsIn K mainGlobals "min"=some none)
  (z_max:PySem.W.nsIn K mainGlobals "max"=some none)
  (z_len:PySem.W.nsIn K mainGlobals "len"=some none)
  (z_abs:PySem.W.nsIn K mainGlobals "abs"=some none)
  (z_int:PySem.W.nsIn K mainGlobals "int"=some none)
  (z_isinstance:PySem.W.nsIn K mainGlobals "isinstance"=some none)
  (z_bool:PySem.W.nsIn K mainGlobals "bool"=some none)
  (z_tuple:PySem.W.nsIn K mainGlobals "tuple"=some none)
  {A_NAMES:Addr} {dd_NAMES:Option Addr} {nn_NAMES:Nat} {ss_NAMES:Array (Option Value)} {t0_NAMES t1_NAMES t2_NAMES t3_NAMES t4_NAMES:Tok} (y_NAMES:PySem.W.nsIn K mainGlobals "NAMES"=some (some (.ref A_NAMES)))
  (yl_NAMES:K.lookup A_NAMES=some ⟨.type "tuple",dd_NAMES,.seq #[.str "even" t0_NAMES,.str "away" t1_NAMES,.str "nought" t2_NAMES,.str "up" t3_NAMES,.str "down" t4_NAMES] nn_NAMES,ss_NAMES⟩)
  {A_NOT_FINITE:Addr} {dd_NOT_FINITE:Option Addr} {nn_NOT_FINITE:Nat} {ss_NOT_FINITE:Array (Option Value)} {t0_NOT_FINITE t1_NOT_FINITE:Tok} (y_NOT_FINITE:PySem.W.nsIn K mainGlobals "NOT_FINITE"=some (some (.ref A_NOT_FINITE)))
  (yl_NOT_FINITE:K.lookup A_NOT_FINITE=some ⟨.type "tuple",dd_NOT_FINITE,.seq #[.str "endless" t0_NOT_FINITE,.str "none" t1_NOT_FINITE] nn_NOT_FINITE,ss_NOT_FINITE⟩)
  {t_GREAT:Tok} (y_GREAT:PySem.W.nsIn K mainGlobals "GREAT"=some (some (.int 4 t_GREAT)))
  {t_INEXACT:Tok} (y_INEXACT:PySem.W.nsIn K mainGlobals "INEXACT"=some (some (.int 1 t_INEXACT)))
  {t_SMALL:Tok} (y_SMALL:PySem.W.nsIn K mainGlobals "SMALL"=some (some (.int 2 t_SMALL)))
  {t_WRONG:Tok} (y_WRONG:PySem.W.nsIn K mainGlobals "WRONG"=some (some (.int 16 t_WRONG)))
  {t_POLE:Tok} (y_POLE:PySem.W.nsIn K mainGlobals "POLE"=some (some (.int 8 t_POLE)))
  {C_MillError:Addr} (n_MillError:PySem.W.nsIn K mainGlobals "MillError"=some (some (.ref C_MillError)))
  {C_NoBits:Addr} (n_NoBits:PySem.W.nsIn K mainGlobals "NoBits"=some (some (.ref C_NoBits)))
  {C_NotFinite:Addr} (n_NotFinite:PySem.W.nsIn K mainGlobals "NotFinite"=some (some (.ref C_NotFinite)))
  {C_NoWay:Addr} (n_NoWay:PySem.W.nsIn K mainGlobals "NoWay"=some (some (.ref C_NoWay)))
  {C_NoFraction:Addr} (n_NoFraction:PySem.W.nsIn K mainGlobals "NoFraction"=some (some (.ref C_NoFraction)))
  {C_NoLeft:Addr} (n_NoLeft:PySem.W.nsIn K mainGlobals "NoLeft"=some (some (.ref C_NoLeft)))
  (xi_NoWay:PySem.W.excIn K C_NoWay bmV "ValueError.__new__"=true)
  (xi_NoBits:PySem.W.excIn K C_NoBits bmV "ValueError.__new__"=true)
  (xi_NotFinite:PySem.W.excIn K C_NotFinite bmV "ValueError.__new__"=true)
  (xi_NoLeft:PySem.W.excIn K C_NoLeft bmV "ValueError.__new__"=true)
  (xi_NoFraction:PySem.W.excIn K C_NoFraction bmV "ValueError.__new__"=true)
  (v_MillError:XCls K C_MillError)
  (w_NoSize:PySem.W.nsIn K mainGlobals "NoSize"=some none)
  (v_NoBits:XCls K C_NoBits)
  (w_NoParts:PySem.W.nsIn K mainGlobals "NoParts"=some none)
  (w_NoRank:PySem.W.nsIn K mainGlobals "NoRank"=some none)
  (v_NotFinite:XCls K C_NotFinite)
  (v_NoWay:XCls K C_NoWay)
  (w_NoFlags:PySem.W.nsIn K mainGlobals "NoFlags"=some none)
  (v_NoFraction:XCls K C_NoFraction)
  (w_Unlike:PySem.W.nsIn K mainGlobals "Unlike"=some none)
  (w_Empty:PySem.W.nsIn K mainGlobals "Empty"=some none)
  (v_NoLeft:XCls K C_NoLeft)
  (w_NoText:PySem.W.nsIn K mainGlobals "NoText"=some none)
  (w_NoRow:PySem.W.nsIn K mainGlobals "NoRow"=some none)
  (w_NoName:PySem.W.nsIn K mainGlobals "NoName"=some none)
  (w_Stopped:PySem.W.nsIn K mainGlobals "Stopped"=some none)
  (cb_MillError:CB K C_MillError)
  (r_MillError_MillError:PySem.W.mroIn K C_MillError (.ref C_MillError)=some true)
  (r_MillError_NoBits:PySem.W.mroIn K C_NoBits (.ref C_MillError)=some true)
  (r_MillError_NotFinite:PySem.W.mroIn K C_NotFinite (.ref C_MillError)=some true)
  (r_MillError_NoWay:PySem.W.mroIn K C_NoWay (.ref C_MillError)=some true)
  (r_MillError_NoFraction:PySem.W.mroIn K C_NoFraction (.ref C_MillError)=some true)
  (r_MillError_NoLeft:PySem.W.mroIn K C_NoLeft (.ref C_MillError)=some true)
  (itab:[("NoLeft",C_NoLeft),("NotFinite",C_NotFinite)].all (tabI K [("MillError",C_MillError),("NoBits",C_NoBits),("NotFinite",C_NotFinite),("NoWay",C_NoWay),("NoFraction",C_NoFraction),("NoLeft",C_NoLeft)])=true)
  (i_int_NoneType:PySem.W.kitOne K (.type "NoneType") (.type "int")=some false)
  (i_int_bool:PySem.W.kitOne K (.type "bool") (.type "int")=some true)
  (i_int_int:PySem.W.kitOne K (.type "int") (.type "int")=some true)
  (i_int_str:PySem.W.kitOne K (.type "str") (.type "int")=some false)
  (i_int_tuple:PySem.W.kitOne K ↥4 (.type "int")=some false)
  (i_int_list:PySem.W.kitOne K (.type "list") (.type "int")=some false)
  (i_bool_NoneType:PySem.W.kitOne K (.type "NoneType") (.type "bool")=some false)
  (i_bool_bool:PySem.W.kitOne K (.type "bool") (.type "bool")=some true)
  (i_bool_int:PySem.W.kitOne K (.type "int") (.type "bool")=some false)
  (i_bool_str:PySem.W.kitOne K (.type "str") (.type "bool")=some false)
  (i_bool_tuple:PySem.W.kitOne K ↥4 (.type "bool")=some false)
  (i_bool_list:PySem.W.kitOne K (.type "list") (.type "bool")=some false)
  (i_tuple_NoneType:PySem.W.kitOne K (.type "NoneType") ↥4=some false)
  (i_tuple_bool:PySem.W.kitOne K (.type "bool") ↥4=some false)
  (i_tuple_int:PySem.W.kitOne K (.type "int") ↥4=some false)
  (i_tuple_str:PySem.W.kitOne K (.type "str") ↥4=some false)
  (i_tuple_tuple:PySem.W.kitOne K ↥4 ↥4=some true)
  (i_tuple_list:PySem.W.kitOne K (.type "list") ↥4=some false)
  (ht:P.given.tree=none)
  : ∃ fd:FuncData,(∀ (s:Shared) (v:Value),BindsTo s fd ⟨[v],[]⟩ [("_law_script",v)])/\∀ base:Heap,K.In base->base.Ns mainGlobals mg->base.NoSeer->FnOk P w K mg base (CXF P w) 35 fa fd ["_law_script"] (spP K mg Ad):=by
 have e:=hfa.symm.trans (PySem.W.mg_of KX GG a61)
 cases e
 have q_Way:=PySem.W.mg_of KX GG n_Way
 have cl_Way:Cls K C_Way:=⟨pg_Way,hd_Way,po_Way,sa_Way⟩
 have m_min:=PySem.W.mg_none_of KX GG z_min
 have m_max:=PySem.W.mg_none_of KX GG z_max
 have m_len:=PySem.W.mg_none_of KX GG z_len
 have m_abs:=PySem.W.mg_none_of KX GG z_abs
 have m_int:=PySem.W.mg_none_of KX GG z_int
 have m_isinstance:=PySem.W.mg_none_of KX GG z_isinstance
 have m_bool:=PySem.W.mg_none_of KX GG z_bool
 have m_tuple:=PySem.W.mg_none_of KX GG z_tuple
 have g_GREAT:∃ t,mg "GREAT"=some (.int 4 t):=⟨_,PySem.W.mg_of KX GG y_GREAT⟩
 have g_INEXACT:∃ t,mg "INEXACT"=some (.int 1 t):=⟨_,PySem.W.mg_of KX GG y_INEXACT⟩
 have g_SMALL:∃ t,mg "SMALL"=some (.int 2 t):=⟨_,PySem.W.mg_of KX GG y_SMALL⟩
 have g_WRONG:∃ t,mg "WRONG"=some (.int 16 t):=⟨_,PySem.W.mg_of KX GG y_WRONG⟩
 have g_POLE:∃ t,mg "POLE"=some (.int 8 t):=⟨_,PySem.W.mg_of KX GG y_POLE⟩
 have q_MillError:=PySem.W.mg_of KX GG n_MillError
 have q_NoBits:=PySem.W.mg_of KX GG n_NoBits
 have q_NotFinite:=PySem.W.mg_of KX GG n_NotFinite
 have q_NoWay:=PySem.W.mg_of KX GG n_NoWay
 have q_NoFraction:=PySem.W.mg_of KX GG n_NoFraction
 have q_NoLeft:=PySem.W.mg_of KX GG n_NoLeft
 have hXF:∀ n∈ak,XF K mg n:=FR
  ⟨.inr ⟨_,q_MillError,v_MillError⟩⟩
  ⟨.inl (PySem.W.mg_none_of KX GG w_NoSize)⟩
  ⟨.inr ⟨_,q_NoBits,v_NoBits⟩⟩
  ⟨.inl (PySem.W.mg_none_of KX GG w_NoParts)⟩
  ⟨.inl (PySem.W.mg_none_of KX GG w_NoRank)⟩
  ⟨.inr ⟨_,q_NotFinite,v_NotFinite⟩⟩
  ⟨.inr ⟨_,q_NoWay,v_NoWay⟩⟩
  ⟨.inl (PySem.W.mg_none_of KX GG w_NoFlags)⟩
  ⟨.inr ⟨_,q_NoFraction,v_NoFraction⟩⟩
  ⟨.inl (PySem.W.mg_none_of KX GG w_Unlike)⟩
  ⟨.inl (PySem.W.mg_none_of KX GG w_Empty)⟩
  ⟨.inr ⟨_,q_NoLeft,v_NoLeft⟩⟩
  ⟨.inl (PySem.W.mg_none_of KX GG w_NoText)⟩
  ⟨.inl (PySem.W.mg_none_of KX GG w_NoRow)⟩
  ⟨.inl (PySem.W.mg_none_of KX GG w_NoName)⟩
  ⟨.inl (PySem.W.mg_none_of KX GG w_Stopped)⟩
 have hct_MillError:∀ n∈ak,oy n "MillError"=true->CF K mg C_MillError n:=FR (P:=fun n=>oy n "MillError"=true->CF K mg C_MillError n)
  (fun _=>⟨.inr ⟨_,q_MillError,r_MillError_MillError⟩⟩)
  (fun _=>⟨.inl (PySem.W.mg_none_of KX GG w_NoSize)⟩)
  (fun _=>⟨.inr ⟨_,q_NoBits,r_MillError_NoBits⟩⟩)
  (fun _=>⟨.inl (PySem.W.mg_none_of KX GG w_NoParts)⟩)
  (fun _=>⟨.inl (PySem.W.mg_none_of KX GG w_NoRank)⟩)
  (fun _=>⟨.inr ⟨_,q_NotFinite,r_MillError_NotFinite⟩⟩)
  (fun _=>⟨.inr ⟨_,q_NoWay,r_MillError_NoWay⟩⟩)
  (fun _=>⟨.inl (PySem.W.mg_none_of KX GG w_NoFlags)⟩)
  (fun _=>⟨.inr ⟨_,q_NoFraction,r_MillError_NoFraction⟩⟩)
  (fun _=>⟨.inl (PySem.W.mg_none_of KX GG w_Unlike)⟩)
  (fun _=>⟨.inl (PySem.W.mg_none_of KX GG w_Empty)⟩)
  (fun _=>⟨.inr ⟨_,q_NoLeft,r_MillError_NoLeft⟩⟩)
  (fun _=>⟨.inl (PySem.W.mg_none_of KX GG w_NoText)⟩)
  (fun _=>⟨.inl (PySem.W.mg_none_of KX GG w_NoRow)⟩)
  (fun _=>⟨.inl (PySem.W.mg_none_of KX GG w_NoName)⟩)
  (fun _=>⟨.inl (PySem.W.mg_none_of KX GG w_Stopped)⟩)
 have hCs:∀ x∈ak,FU mg [("MillError",C_MillError),("NoBits",C_NoBits),("NotFinite",C_NotFinite),("NoWay",C_NoWay),("NoFraction",C_NoFraction),("NoLeft",C_NoLeft)] x:=FR (P:=fun x=>FU mg [("MillError",C_MillError),("NoBits",C_NoBits),("NotFinite",C_NotFinite),("NoWay",C_NoWay),("NoFraction",C_NoFraction),("NoLeft",C_NoLeft)] x)
  (.inr ⟨_,q_MillError,mP 0⟩)
  (.inl (PySem.W.mg_none_of KX GG w_NoSize))
  (.inr ⟨_,q_NoBits,mP 1⟩)
  (.inl (PySem.W.mg_none_of KX GG w_NoParts))
  (.inl (PySem.W.mg_none_of KX GG w_NoRank))
  (.inr ⟨_,q_NotFinite,mP 2⟩)
  (.inr ⟨_,q_NoWay,mP 3⟩)
  (.inl (PySem.W.mg_none_of KX GG w_NoFlags))
  (.inr ⟨_,q_NoFraction,mP 4⟩)
  (.inl (PySem.W.mg_none_of KX GG w_Unlike))
  (.inl (PySem.W.mg_none_of KX GG w_Empty))
  (.inr ⟨_,q_NoLeft,mP 5⟩)
  (.inl (PySem.W.mg_none_of KX GG w_NoText))
  (.inl (PySem.W.mg_none_of KX GG w_NoRow))
  (.inl (PySem.W.mg_none_of KX GG w_NoName))
  (.inl (PySem.W.mg_none_of KX GG w_Stopped))
 have i0_NoLeft:=vT itab (q:=("NoLeft",C_NoLeft)) (mP 0)
 have hisi_NoLeft:=vU hCs itab (q:=("NoLeft",C_NoLeft)) (mP 0)
 have i0_NotFinite:=vT itab (q:=("NotFinite",C_NotFinite)) (mP 1)
 have hisi_NotFinite:=vU hCs itab (q:=("NotFinite",C_NotFinite)) (mP 1)
 refine ⟨PySem.W.fnOf "law" "law" (eC lQ) (ai lQ) (aa lQ) .none kV61 dc61 pm61 an61 cd61 ct61,fun s v=>.of_eq rfl,fun base _ _ hN => ?_⟩
 have FIWay:=ma (st:=gD) lIWay eIWay kIWay
 have BIWay:=ck (ps:=["self","name"]) FIWay rfl fun _ _ _ _ _ _ _ _=>rfl
 have JIWay:FnOk P w K mg base CX0 1 fIWay _ ["self","name"] (spI K "name"):=ER (k:=0) FIWay ⟨rfl,rfl,rfl,by decide +kernel,by decide +kernel,by decide +kernel,by decide +kernel⟩ (by decide +kernel) (by decide +kernel) (by decide +kernel) (by decide +kernel) rfl (fun _=>rfl)
 have D1:FnP P w K mg base "_law_size_by" 1 cv:=q1.fn KX GG lN rfl rfl (da · rfl fun _ _ _ _ _ _ _=>rfl) fun X hr L O Pl hS =>
  oM (X:=at5 X P w K mg base) hr L O Pl hS
 have D2:FnP P w K mg base "_law_way_by" 1 cT:=q2.fn KX GG nh rfl rfl (da · rfl fun _ _ _ _ _ _ _=>rfl) fun X hr L O Pl hS =>
  qi (X:=at5 X P w K mg base) hr L O Pl hS
 have D3:FnP P w K mg base "_law_finite_by" 1 bf:=q3.fn KX GG jS rfl rfl (ck · rfl fun _ _ _ _ _ _ _ _=>rfl) fun X hr L O Pl hS =>
  lj (X:=at5 X P w K mg base) hr L O Pl hS m_min m_max
 have D4:FnP P w K mg base "_law_cell_at" 1 bx:=q4.fn KX GG lO rfl rfl (ck · rfl fun _ _ _ _ _ _ _ _=>rfl) fun X hr L O Pl hS =>
  oN (X:=at5 X P w K mg base) hr L O Pl hS m_len
 have D5:FnP P w K mg base "way_of" 3 br:=q5.fn KX GG v7 rfl rfl (da · rfl fun _ _ _ _ _ _ _=>rfl) fun X hr L O Pl hS =>
  Bj (X:=at5 X P w K mg base) hr L O Pl hS (rP (ss:=["even","away","nought","up","down"]) (PySem.W.mg_of KX GG y_NAMES) yl_NAMES (ir (ts:=[t0_NAMES,t1_NAMES,t2_NAMES,t3_NAMES,t4_NAMES]) rfl rfl) (Nat.le_of_ble_eq_true rfl)) q_NoWay xi_NoWay ⟨⟨C_Way,_,1,_,_,q_Way,cl_Way,na_Way,⟨mm_Way,aIWay,uIWay,kc_Way⟩,JIWay,hr.mono ↥3,BIWay⟩⟩
 have D6:FnP P w K mg base "sign_bit" 1 b9:=q6.fn KX GG qJ rfl rfl (da · rfl fun _ _ _ _ _ _ _=>rfl) fun X hr L O Pl hS =>
  uV (X:=at5 X P w K mg base) hr L O Pl hS
 have D7:FnP P w K mg base "width" 1 kE:=q7.fn KX GG zL rfl rfl (da · rfl fun _ _ _ _ _ _ _=>rfl) fun X hr L O Pl hS =>
  Fv (X:=at5 X P w K mg base) hr L O Pl hS
 have D8:FnP P w K mg base "parted" 2 aR:=q8.fn KX GG wd rfl rfl (ck · rfl fun _ _ _ _ _ _ _ _=>rfl) fun X hr L O Pl hS =>
  Bn (X:=at5 X P w K mg base) hr L O Pl hS (D7.c hr) q_NoBits xi_NoBits (D6.c hr)
 have D9:FnP P w K mg base "check_bits" 3 cU:=q9.fn KX GG nC rfl rfl (ck · rfl fun _ _ _ _ _ _ _ _=>rfl) fun X hr L O Pl hS =>
  ql (X:=at5 X P w K mg base) hr L O Pl hS (D8.c hr)
 have D10:FnP P w K mg base "last_field" 1 aY:=q10.fn KX GG nu rfl rfl (da · rfl fun _ _ _ _ _ _ _=>rfl) fun X hr L O Pl hS =>
  qk (X:=at5 X P w K mg base) hr L O Pl hS
 have D11:FnP P w K mg base "kind" 3 aX:=q11.fn KX GG Dx rfl rfl (ck · rfl fun _ _ _ _ _ _ _ _=>rfl) fun X hr L O Pl hS =>
  Jl (X:=at5 X P w K mg base) hr L O Pl hS (D8.c hr) (D10.c hr)
 have D12:FnP P w K mg base "check_finite" 4 aE:=q12.fn KX GG ky rfl rfl (ck · rfl fun _ _ _ _ _ _ _ _=>rfl) fun X hr L O Pl hS =>
  lW (X:=at5 X P w K mg base) hr L O Pl hS (D9.c hr) (D11.c hr) (rP (ss:=["endless","none"]) (PySem.W.mg_of KX GG y_NOT_FINITE) yl_NOT_FINITE (ir (ts:=[t0_NOT_FINITE,t1_NOT_FINITE]) rfl rfl) (Nat.le_of_ble_eq_true rfl)) q_NotFinite xi_NotFinite
 have D13:FnP P w K mg base "kept_answer" 4 aw:=q13.fn KX GG lP rfl rfl (ck · rfl fun _ _ _ _ _ _ _ _=>rfl) fun X hr L O Pl hS =>
  oO (X:=at5 X P w K mg base) hr L O Pl hS (D11.c hr) (rP (ss:=["endless","none"]) (PySem.W.mg_of KX GG y_NOT_FINITE) yl_NOT_FINITE (ir (ts:=[t0_NOT_FINITE,t1_NOT_FINITE]) rfl rfl) (Nat.le_of_ble_eq_true rfl)) g_GREAT q_NoLeft xi_NoLeft
 have D14:FnP P w K mg base "any_none" 4 bN:=q14.fn KX GG qU rfl rfl (ck · rfl fun _ _ _ _ _ _ _ _=>rfl) fun X hr L O Pl hS =>
  vf (X:=at5 X P w K mg base) hr L O Pl hS (D11.c hr)
 have D15:FnP P w K mg base "check_fraction" 1 aO:=q15.fn KX GG ji rfl rfl (ck · rfl fun _ _ _ _ _ _ _ _=>rfl) fun X hr L O Pl hS =>
  jW (X:=at5 X P w K mg base) hr L O Pl hS q_NoFraction xi_NoFraction
 have D16:FnP P w K mg base "scaled" 1 di:=q16.fn KX GG wb rfl rfl (f9 · rfl fun _ _ _ _ _ _ _ _ _=>rfl) fun X hr L O Pl hS =>
  Bl (X:=at5 X P w K mg base) hr L O Pl hS
 have D17:FnP P w K mg base "bias" 1 pG:=q17.fn KX GG Dy rfl rfl (da · rfl fun _ _ _ _ _ _ _=>rfl) fun X hr L O Pl hS =>
  Jm (X:=at5 X P w K mg base) hr L O Pl hS
 have D18:FnP P w K mg base "low" 2 iF:=q18.fn KX GG G6 rfl rfl (da · rfl fun _ _ _ _ _ _ _=>rfl) fun X hr L O Pl hS =>
  Lf (X:=at5 X P w K mg base) hr L O Pl hS (D17.c hr)
 have D19:FnP P w K mg base "rest_by_middle" 1 aM:=q19.fn KX GG jh rfl rfl (f9 · rfl fun _ _ _ _ _ _ _ _ _=>rfl) fun X hr L O Pl hS =>
  jV (X:=at5 X P w K mg base) hr L O Pl hS
 have D20:FnP P w K mg base "rest_of" 2 fS:=q20.fn KX GG uh rfl rfl (ck · rfl fun _ _ _ _ _ _ _ _=>rfl) fun X hr L O Pl hS =>
  yy (X:=at5 X P w K mg base) hr L O Pl hS (D19.c hr)
 have D21:FnP P w K mg base "height" 2 fw:=q21.fn KX GG we rfl rfl (ck · rfl fun _ _ _ _ _ _ _ _=>rfl) fun X hr L O Pl hS =>
  Bo (X:=at5 X P w K mg base) hr L O Pl hS (D16.c hr)
 have D22:FnP P w K mg base "cut" 3 rl:=q22.fn KX GG G8 rfl rfl (f9 · rfl fun _ _ _ _ _ _ _ _ _=>rfl) fun X hr L O Pl hS =>
  Lh (X:=at5 X P w K mg base) hr L O Pl hS (D15.c hr) (D18.c hr) (D21.c hr) m_max (D16.c hr) (D20.c hr)
 have D23:FnP P w K mg base "endless" 2 aZ:=q23.fn KX GG uk rfl rfl (da · rfl fun _ _ _ _ _ _ _=>rfl) fun X hr L O Pl hS =>
  yB (X:=at5 X P w K mg base) hr L O Pl hS (D10.c hr)
 have D24:FnP P w K mg base "signed" 2 cu:=q24.fn KX GG wa rfl rfl (f9 · rfl fun _ _ _ _ _ _ _ _ _=>rfl) fun X hr L O Pl hS =>
  Bk (X:=at5 X P w K mg base) hr L O Pl hS (D6.c hr)
 have D25:FnP P w K mg base "lost_flags" 3 cS:=q25.fn KX GG ng rfl rfl (f9 · rfl fun _ _ _ _ _ _ _ _ _=>rfl) fun X hr L O Pl hS =>
  qh (X:=at5 X P w K mg base) hr L O Pl hS (D23.c hr) g_INEXACT g_GREAT g_SMALL
 have F26:=ma (st:=aA) l26 e26 k26
 have B26:=ck (ps:=["self","sign"]) F26 rfl fun _ _ _ _ _ _ _ _=>rfl
 have D26:=pX (P:=P) (w:=w) (mg:=mg) (base:=base) (n:=2) (m:=2) (g:=a9) (k:=0) F26 ij rfl rfl fun X hr L O Pl hS=>by
  exact iW (X:=at5 X P w K mg base) hr L O Pl hS ⟨⟨C_Way,q_Way,cl_Way,na_Way⟩⟩
 have F27:=ma (st:=bY) l27 e27 k27
 have B27:=jz (ps:=["self","sign","odd","rest"]) F27 rfl fun _ _ _ _ _ _ _ _ _ _=>rfl
 have D27:=pX (P:=P) (w:=w) (mg:=mg) (base:=base) (n:=4) (m:=4) (g:=dF) (k:=1) F27 pB rfl rfl fun X hr L O Pl hS=>by
  exact sk (X:=at5 X P w K mg base) hr L O Pl hS ⟨⟨C_Way,q_Way,cl_Way,na_Way⟩⟩ ⟨⟨C_Way,f26,1,_,_,q_Way,cl_Way,⟨a26,u26,k26⟩,D26,hr.mono ↥3,B26⟩⟩
 have F28:=ma (st:=bI) l28 e28 k28
 have B28:=ck (ps:=["self","sign"]) F28 rfl fun _ _ _ _ _ _ _ _=>rfl
 have D28:=pX (P:=P) (w:=w) (mg:=mg) (base:=base) (n:=2) (m:=2) (g:=cV) (k:=1) F28 nD rfl rfl fun X hr L O Pl hS=>by
  exact qm (X:=at5 X P w K mg base) hr L O Pl hS ⟨⟨C_Way,q_Way,cl_Way,na_Way⟩⟩ ⟨⟨C_Way,f26,1,_,_,q_Way,cl_Way,⟨a26,u26,k26⟩,D26,hr.mono ↥3,B26⟩⟩
 have D29:FnP P w K mg base "settled" 4 dA:=q29.fn KX GG uf rfl rfl (Cc · rfl fun _ _ _ _ _ _ _ _ _ _ _ _=>rfl) fun X hr L O Pl hS =>
  yw (X:=at5 X P w K mg base) hr L O Pl hS (D5.c hr) (D18.c hr) (D23.c hr) ⟨⟨C_Way,f28,2,_,_,q_Way,cl_Way,⟨a28,u28,k28⟩,D28,hr.mono ↥3,B28⟩⟩ (D24.c hr) g_INEXACT g_GREAT ⟨⟨C_Way,f27,2,_,_,q_Way,cl_Way,⟨a27,u27,k27⟩,D27,hr.mono ↥3,B27⟩⟩ (D25.c hr)
 have D30:FnP P w K mg base "rounded" 5 bJ:=q30.fn KX GG ug rfl rfl (tG · rfl fun _ _ _ _ _ _ _ _ _ _ _=>rfl) fun X hr L O Pl hS =>
  yx (X:=at5 X P w K mg base) hr L O Pl hS (D5.c hr) (D22.c hr) (D29.c hr)
 have D31:FnP P w K mg base "quotient" 6 eQ:=q31.fn KX GG qL rfl rfl (jz · rfl fun _ _ _ _ _ _ _ _ _ _=>rfl) fun X hr L O Pl hS =>
  uX (X:=at5 X P w K mg base) hr L O Pl hS (D30.c hr)
 have D32:FnP P w K mg base "worth_fraction" 1 aL:=q32.fn KX GG jg rfl rfl (da · rfl fun _ _ _ _ _ _ _=>rfl) fun X hr L O Pl hS =>
  jU (X:=at5 X P w K mg base) hr L O Pl hS
 have D33:FnP P w K mg base "worth" 3 cE:=q33.fn KX GG zK rfl rfl (ck · rfl fun _ _ _ _ _ _ _ _=>rfl) fun X hr L O Pl hS =>
  Fu (X:=at5 X P w K mg base) hr L O Pl hS (D8.c hr) (D10.c hr) q_NotFinite xi_NotFinite (D18.c hr)
 have D34:FnP P w K mg base "fraction" 4 bM:=q34.fn KX GG qT rfl rfl (ck · rfl fun _ _ _ _ _ _ _ _=>rfl) fun X hr L O Pl hS =>
  ve (X:=at5 X P w K mg base) hr L O Pl hS (D32.c hr) (D33.c hr)
 have D35:FnP P w K mg base "no_number" 3 bw:=q35.fn KX GG pj rfl rfl (da · rfl fun _ _ _ _ _ _ _=>rfl) fun X hr L O Pl hS =>
  rZ (X:=at5 X P w K mg base) hr L O Pl hS (D23.c hr)
 have D36:FnP P w K mg base "divided" 7 bQ:=q36.fn KX GG um rfl rfl (jz · rfl fun _ _ _ _ _ _ _ _ _ _=>rfl) fun X hr L O Pl hS =>
  yC (X:=at5 X P w K mg base) hr L O Pl hS (D5.c hr) (D14.c hr) (D35.c hr) (D11.c hr) g_WRONG (D8.c hr) (D24.c hr) (D23.c hr) g_POLE (D31.c hr) (D34.c hr)
 have D37:FnP P w K mg base "minus" 1 fT:=q37.fn KX GG zO rfl rfl (da · rfl fun _ _ _ _ _ _ _=>rfl) fun X hr L O Pl hS =>
  Fx (X:=at5 X P w K mg base) hr L O Pl hS
 have D38:FnP P w K mg base "total" 1 kF:=q38.fn KX GG zM rfl rfl (da · rfl fun _ _ _ _ _ _ _=>rfl) fun X hr L O Pl hS =>
  Fw (X:=at5 X P w K mg base) hr L O Pl hS m_min m_abs
 have D39:FnP P w K mg base "left_of" 6 bK:=q39.fn KX GG ui rfl rfl (ck · rfl fun _ _ _ _ _ _ _ _=>rfl) fun X hr L O Pl hS =>
  yz (X:=at5 X P w K mg base) hr L O Pl hS (D32.c hr) (D38.c hr) (D30.c hr) q_NoLeft xi_NoLeft
 have D40:FnP P w K mg base "number_term" 4 aS:=q40.fn KX GG lM rfl rfl (ck · rfl fun _ _ _ _ _ _ _ _=>rfl) fun X hr L O Pl hS =>
  oK (X:=at5 X P w K mg base) hr L O Pl hS (D11.c hr) (D8.c hr) (D33.c hr)
 have D41:FnP P w K mg base "product_term" 5 aD:=q41.fn KX GG kv rfl rfl (f9 · rfl fun _ _ _ _ _ _ _ _ _=>rfl) fun X hr L O Pl hS =>
  lV (X:=at5 X P w K mg base) hr L O Pl hS (D40.c hr)
 have D42:FnP P w K mg base "quotient_left" 8 aB:=q42.fn KX GG jR rfl rfl (jz · rfl fun _ _ _ _ _ _ _ _ _ _=>rfl) fun X hr L O Pl hS =>
  lh (X:=at5 X P w K mg base) hr L O Pl hS (D5.c hr) (D12.c hr) (D13.c hr) (D36.c hr) (D33.c hr) (D37.c hr) (D41.c hr) (D39.c hr)
 have D43:FnP P w K mg base "whole_root" 1 cR:=q43.fn KX GG nc rfl rfl (da · rfl fun _ _ _ _ _ _ _=>rfl) fun X hr L O Pl hS =>
  qg (X:=at5 X P w K mg base) hr L O Pl hS q_NoFraction xi_NoFraction
 have D44:FnP P w K mg base "root_rest" 2 dB:=q44.fn KX GG pf rfl rfl (f9 · rfl fun _ _ _ _ _ _ _ _ _=>rfl) fun X hr L O Pl hS =>
  rX (X:=at5 X P w K mg base) hr L O Pl hS (D19.c hr)
 have D45:FnP P w K mg base "root_cut" 3 eO:=q45.fn KX GG qK rfl rfl (f9 · rfl fun _ _ _ _ _ _ _ _ _=>rfl) fun X hr L O Pl hS =>
  uW (X:=at5 X P w K mg base) hr L O Pl hS (D15.c hr) (D18.c hr) (D21.c hr) m_max (D16.c hr) (D43.c hr) (D44.c hr)
 have D46:FnP P w K mg base "rooted" 5 bD:=q46.fn KX GG wc rfl rfl (f9 · rfl fun _ _ _ _ _ _ _ _ _=>rfl) fun X hr L O Pl hS =>
  Bm (X:=at5 X P w K mg base) hr L O Pl hS (D5.c hr) (D14.c hr) (D35.c hr) (D11.c hr) (D23.c hr) (D8.c hr) g_WRONG (D34.c hr) (D45.c hr) (D29.c hr)
 have D47:FnP P w K mg base "root_left" 7 bu:=q47.fn KX GG ph rfl rfl (f9 · rfl fun _ _ _ _ _ _ _ _ _=>rfl) fun X hr L O Pl hS =>
  rY (X:=at5 X P w K mg base) hr L O Pl hS (D5.c hr) (D12.c hr) (D13.c hr) (D46.c hr) (D33.c hr) (D37.c hr) (D41.c hr) (D39.c hr)
 have D48:FnP P w K mg base "_law_asked" 9 au:=q48.fn KX GG pA rfl rfl (jz · rfl fun _ _ _ _ _ _ _ _ _ _=>rfl) fun X hr L O Pl hS =>
  sj (X:=at5 X P w K mg base) hr L O Pl hS (D47.c hr) (D42.c hr)
 have D49:FnP P w K mg base "_law_value" 1 ay:=q49.fn KX GG pq rfl rfl (ck · rfl fun _ _ _ _ _ _ _ _=>rfl) fun X hr L O Pl hS =>
  sf (X:=at5 X P w K mg base) hr L O Pl hS
 have D50:FnP P w K mg base "_law_far" 1 dC:=q50.fn KX GG uj rfl rfl (jz · rfl fun _ _ _ _ _ _ _ _ _ _=>rfl) fun X hr L O Pl hS =>
  yA (X:=at5 X P w K mg base) hr L O Pl hS
 have D51:FnP P w K mg base "_law_whole" 1 aN:=q51.fn KX GG pk rfl rfl (da · rfl fun _ _ _ _ _ _ _=>rfl) fun X hr L O Pl hS =>
  r9 (X:=at5 X P w K mg base) hr L O Pl hS m_int (pS ↥3 i_int_NoneType i_int_bool i_int_int i_int_str i_int_tuple i_int_list) (fX (kj hXF)) m_isinstance m_bool (pS ↥3 i_bool_NoneType i_bool_bool i_bool_int i_bool_str i_bool_tuple i_bool_list)
 have D52:FnP P w K mg base "_law_near" 1 cG:=q52.fn KX GG qO rfl rfl (jz · rfl fun _ _ _ _ _ _ _ _ _ _=>rfl) fun X hr L O Pl hS =>
  u4 (X:=at5 X P w K mg base) hr L O Pl hS
 have D53:FnP P w K mg base "_law_fair" 2 aJ:=q53.fn KX GG qS rfl rfl (Cc · rfl fun _ _ _ _ _ _ _ _ _ _ _ _=>rfl) fun X hr L O Pl hS =>
  va (X:=at5 X P w K mg base) hr L O Pl hS m_tuple (pS ↥3 i_tuple_NoneType i_tuple_bool i_tuple_int i_tuple_str i_tuple_tuple i_tuple_list) (fX (kj hXF)) m_isinstance m_len (D51.c hr) (D49.c hr) (D52.c hr) (D50.c hr)
 have D54:FnP P w K mg base "_law_pair" 2 cF:=q54.fn KX GG qN rfl rfl (da · rfl fun _ _ _ _ _ _ _=>rfl) fun X hr L O Pl hS =>
  uZ (X:=at5 X P w K mg base) hr L O Pl hS m_tuple (pS ↥3 i_tuple_NoneType i_tuple_bool i_tuple_int i_tuple_str i_tuple_tuple i_tuple_list) (fX (kj hXF)) m_isinstance m_len (D51.c hr)
 have D55:FnP P w K mg base "_law_root" 2 eR:=q55.fn KX GG qM rfl rfl (jz · rfl fun _ _ _ _ _ _ _ _ _ _=>rfl) fun X hr L O Pl hS =>
  uY (X:=at5 X P w K mg base) hr L O Pl hS (D49.c hr) (D52.c hr) (D50.c hr)
 have D56:FnP P w K mg base "_law_line" 2 aT:=q56.fn KX GG qP rfl rfl (ck · rfl fun _ _ _ _ _ _ _ _=>rfl) fun X hr L O Pl hS =>
  u5 (X:=at5 X P w K mg base) hr L O Pl hS (D49.c hr)
 have D57:FnP P w K mg base "_law_answer" 3 aG:=q57.fn KX GG nj rfl rfl (tG · rfl fun _ _ _ _ _ _ _ _ _ _ _=>rfl) fun X hr L O Pl hS =>
  qj (X:=at5 X P w K mg base) hr L O Pl hS (D54.c hr) (D55.c hr) (D56.c hr) (D53.c hr) m_abs
 have D58:FnP P w K mg base "_law_left" 3 eS:=q58.fn KX GG qQ rfl rfl (tG · rfl fun _ _ _ _ _ _ _ _ _ _ _=>rfl) fun X hr L O Pl hS =>
  u7 (X:=at5 X P w K mg base) hr L O Pl hS m_tuple (pS ↥3 i_tuple_NoneType i_tuple_bool i_tuple_int i_tuple_str i_tuple_tuple i_tuple_list) (fX (kj hXF)) m_isinstance m_len (D51.c hr) (D56.c hr)
 have D59:FnP P w K mg base "_law_fits" 33 cH:=q59.fn KX GG qR rfl rfl (f9 · rfl fun _ _ _ _ _ _ _ _ _=>rfl) fun X hr L O Pl hS =>
  u9 (X:=at5 X P w K mg base) hr L O Pl hS m_abs (D49.c hr) hN ht ↥3
 have D60:FnP P w K mg base "_law_holds" 34 aC:=q60.fn KX GG pz rfl rfl (tG · rfl fun _ _ _ _ _ _ _ _ _ _ _=>rfl) fun X hr L O Pl hS =>
  si (X:=at5 X P w K mg base) hr L O Pl hS (D48.c hr) (by rw [hS];decide +kernel) q_MillError (uU cb_MillError hct_MillError) q_NoLeft (xM q_NoLeft (BM hXF) i0_NoLeft hisi_NoLeft) (fX (kj hXF)) m_isinstance q_NotFinite (xM q_NotFinite (BM hXF) i0_NotFinite hisi_NotFinite) (D54.c hr) (D57.c hr) (D56.c hr) (D59.c hr) (D58.c hr)
 have F61:=ma (st:=lQ) l61 e61 k61
 ·refine pX (k:=34) F61 G7 rfl rfl fun X hr L O Pl hS => ?_
  exact Lg (X:=at5 X P w K mg base) hr L O Pl hS (D1.c hr) (D4.c hr) (D2.c hr) (D3.c hr) (D60.c hr) (D36.c hr) (D46.c hr)
end T
namespace H
open PySem PySem.W PySem.Spec PyProof.Rows L2 EV ES
noncomputable section
abbrev vS (x:Str) (n:Nat):Value:=.str x n
abbrev vI (x:Int) (n:Nat):Value:=.int x n
abbrev r (n:Addr):Value:=.ref n
abbrev z (x:Int):Value:=.int x 0
abbrev c (n:Nat):Value:=.str "/claim/cut.py" n
abbrev en (P:Params) (x:Str) (n:Nat) (v:Value):DictEntry:=⟨PyData.keyHash P x,.str x n,v⟩
abbrev sqO (c:Value) (a:Array Value):Obj:=⟨c,none,.seq a 0,#[]⟩
abbrev fiO (c:Value) (a:Array Value):Obj:=⟨c,none,.fields a,#[]⟩
abbrev diO (c:Value) (a:Array DictEntry) (n:Nat):Obj:=⟨c,none,.dict a n,#[]⟩
abbrev fnO (c:Value) (x q:Str) (s:Stmt) (g:Addr) (cl:List (Str×Addr)) (d k dc m:Value) (an:Option Addr) (cd ct:Value) (b:Addr):Obj:=⟨c,none,.func ⟨x,q,eC s,.stmts (ai s),aa s,g,cl,d,k,dc,m,an,cd,ct,b⟩,#[]⟩
abbrev cd (x:Str) (a b d:Nat) (l k:Int) (p:Addr) (w:Int) (q s t u:Addr) (m:Int) (e:Nat):Obj:=fiO (.type "code") #[vS x a,vS x b,c d,z l,z k,z 0,z 0,z 3,r p,.bool true,z w,r q,.none,r s,r t,r u,z m,z l,c e]
abbrev fu (x:Str) (n:Nat) (g:Addr) (m:Str) (b:Nat) (d:Addr):Obj:=fnO (.type "function") x x (T.top n) g [] .none .none .none (vS m b) none (r d) .none 0
abbrev fv (x:Str) (n:Nat):Obj:=fnO .none x x (T.top n) 0 [] .none .none .none .none none .none .none 0
abbrev N:BT:=.nil
abbrev L (o:Obj):BT:=.node o .nil .nil
abbrev B (o:Obj) (l r:BT):BT:=.node o l r
def cut (n:Nat) (t:BT):Nat->Nat->BT := @BT.rec (fun _=>Nat->Nat->BT) (fun _ _=>.nil) (fun v _ _ l r a b => @Bool.rec (fun _=>BT) .nil (.node v (l (Nat.mul 2 a) (Nat.add a b)) (r (Nat.mul 2 a) (Nat.add (Nat.mul 2 a) b))) (Nat.blt b n)) t
def o0:Obj:=sqO ↥4 #[]
def o1:Obj:=fiO .none #[]
def o2:Obj:=fiO (.type "code") #[(vS "<module>" 182),(vS "<module>" 183),(c 184),(z 1),(z 0),(z 0),(z 0),(z 0),(r 11),(.bool false),(z 181),(r 12),.none,.none,.none,.none,(z 185),(z 1),(c 186)]
def o3:Obj:=(Obj.mk (.type "frame") none Data.plain #[(some (r 13)),(some (r 3)),(some (r 3)),none,(some (vS "__main__" 164)),none,(some (r 0))])
def o4 (P:Params):Obj:=diO (.type "dict") #[(en P "__name__" 165 (vS "roundmill.sizes" 287)),(en P "__doc__" 166 .none),(en P "__package__" 167 .none),(en P "__loader__" 168 (.builtin "__main__.__loader__#opaque")),(en P "__spec__" 169 .none),(en P "__annotations__" 170 (r 6)),(en P "__builtins__" 171 (r 4)),(en P "__file__" 173 (c 172)),(en P "__cached__" 174 .none),(en P "MillError" 206 (r 24)),(en P "NoBits" 222 (r 37)),(en P "NotFinite" 238 (r 49)),(en P "NoWay" 254 (r 61)),(en P "NoFraction" 270 (r 73)),(en P "NoLeft" 286 (r 85)),(en P "width" 295 (r 94))] 16
def o5:Obj:=fiO .none #[(z 2),(z 0),(r 20),(z 4),(z 0),(r 33),(z 6),(z 0),(r 45),(z 8),(z 0),(r 57),(z 10),(z 0),(r 69),(z 12),(z 0),(r 81),(z 15),(z 0),(r 93)]
def o6:Obj:=sqO ↥4 #[(.type "ValueError")]
def o7:Obj:=fiO (.type "builtin_function_or_method") #[(.builtin "type.__prepare__"),(.type "type")]
def o8 (P:Params):Obj:=diO (.type "dict") #[(en P "__module__" 196 ↥15),(en P "__qualname__" 198 (vS "MillError" 197)),(en P "__firstlineno__" 200 (vI 2 199)),(en P "__static_attributes__" 201 (r 22))] 4
def o9:Obj:=fiO (.type "code") #[(vS "MillError" 191),(vS "MillError" 192),(c 193),(z 2),(z 0),(z 0),(z 0),(z 0),(r 18),(.bool false),(z 181),(r 19),.none,.none,.none,.none,(z 194),(z 2),(c 195)]
def o10:Obj:=(Obj.mk (.type "frame") none Data.plain #[(some (r 20)),(some (r 3)),(some (r 17)),none,(some ↥15),none,(some (r 0))])
def o11 (P:Params):Obj:=diO (.type "dict") #[(en P "__module__" 196 ↥15),(en P "__firstlineno__" 200 (vI 2 199)),(en P "__static_attributes__" 201 (r 22)),(en P "__weakref__" 203 (r 25)),(en P "__doc__" 204 .none)] 3
def o12:Obj:=(Obj.mk (.type "type") none (Data.cls (ClassData.mk "MillError" [(.type "ValueError")] [(r 24),(.type "ValueError"),(.type "Exception"),(.type "BaseException"),(.type "object")] 23 "MillError" true [] [(r 37),(r 49),(r 61),(r 73),(r 85)] false none false)) #[(some (r 15)),none,(some (vS "MillError" 189)),(some (vS "MillError" 197)),(some (.builtin "ValueError.__new__")),(some (.bool true))])
def o13:Obj:=fiO (.type "getset_descriptor") #[(vS "__weakref__" 202),(r 24),(.builtin "ExceptionGroup.__weakref__"),.none]
def o14:Obj:=fiO (.type "super") #[(r 24),(r 24),(r 24)]
def o15:Obj:=fiO (.type "builtin_function_or_method") #[(.builtin "object.__init_subclass__"),(r 24)]
def o16:Obj:=sqO ↥4 #[(r 24)]
def o17 (P:Params):Obj:=diO (.type "dict") #[(en P "__module__" 214 ↥15),(en P "__qualname__" 216 (vS "NoBits" 215)),(en P "__firstlineno__" 218 (vI 4 217)),(en P "__static_attributes__" 219 (r 35))] 4
def o18:Obj:=fiO (.type "code") #[(vS "NoBits" 209),(vS "NoBits" 210),(c 211),(z 4),(z 0),(z 0),(z 0),(z 0),(r 31),(.bool false),(z 181),(r 32),.none,.none,.none,.none,(z 212),(z 4),(c 213)]
def o19:Obj:=(Obj.mk (.type "frame") none Data.plain #[(some (r 33)),(some (r 3)),(some (r 30)),none,(some ↥15),none,(some (r 0))])
def o20 (P:Params):Obj:=diO (.type "dict") #[(en P "__module__" 214 ↥15),(en P "__firstlineno__" 218 (vI 4 217)),(en P "__static_attributes__" 219 (r 35)),(en P "__doc__" 220 .none)] 2
def o21:Obj:=(Obj.mk (.type "type") none (Data.cls (ClassData.mk "NoBits" [(r 24)] [(r 37),(r 24),(.type "ValueError"),(.type "Exception"),(.type "BaseException"),(.type "object")] 36 "NoBits" true [] [] false none false)) #[(some (r 28)),none,(some (vS "NoBits" 207)),(some (vS "NoBits" 215)),(some (.builtin "ValueError.__new__")),(some (.bool true))])
def o22:Obj:=fiO (.type "super") #[(r 37),(r 37),(r 37)]
def o23:Obj:=fiO (.type "builtin_function_or_method") #[(.builtin "object.__init_subclass__"),(r 37)]
def o24 (P:Params):Obj:=diO (.type "dict") #[(en P "__module__" 230 ↥15),(en P "__qualname__" 232 (vS "NotFinite" 231)),(en P "__firstlineno__" 234 (vI 6 233)),(en P "__static_attributes__" 235 (r 47))] 4
def o25:Obj:=fiO (.type "code") #[(vS "NotFinite" 225),(vS "NotFinite" 226),(c 227),(z 6),(z 0),(z 0),(z 0),(z 0),(r 43),(.bool false),(z 181),(r 44),.none,.none,.none,.none,(z 228),(z 6),(c 229)]
def o26:Obj:=(Obj.mk (.type "frame") none Data.plain #[(some (r 45)),(some (r 3)),(some (r 42)),none,(some ↥15),none,(some (r 0))])
def o27 (P:Params):Obj:=diO (.type "dict") #[(en P "__module__" 230 ↥15),(en P "__firstlineno__" 234 (vI 6 233)),(en P "__static_attributes__" 235 (r 47)),(en P "__doc__" 236 .none)] 2
def o28:Obj:=(Obj.mk (.type "type") none (Data.cls (ClassData.mk "NotFinite" [(r 24)] [(r 49),(r 24),(.type "ValueError"),(.type "Exception"),(.type "BaseException"),(.type "object")] 48 "NotFinite" true [] [] false none false)) #[(some (r 40)),none,(some (vS "NotFinite" 223)),(some (vS "NotFinite" 231)),(some (.builtin "ValueError.__new__")),(some (.bool true))])
def o29:Obj:=fiO (.type "super") #[(r 49),(r 49),(r 49)]
def o30:Obj:=fiO (.type "builtin_function_or_method") #[(.builtin "object.__init_subclass__"),(r 49)]
def o31 (P:Params):Obj:=diO (.type "dict") #[(en P "__module__" 246 ↥15),(en P "__qualname__" 248 (vS "NoWay" 247)),(en P "__firstlineno__" 250 (vI 8 249)),(en P "__static_attributes__" 251 (r 59))] 4
def o32:Obj:=fiO (.type "code") #[(vS "NoWay" 241),(vS "NoWay" 242),(c 243),(z 8),(z 0),(z 0),(z 0),(z 0),(r 55),(.bool false),(z 181),(r 56),.none,.none,.none,.none,(z 244),(z 8),(c 245)]
def o33:Obj:=(Obj.mk (.type "frame") none Data.plain #[(some (r 57)),(some (r 3)),(some (r 54)),none,(some ↥15),none,(some (r 0))])
def o34 (P:Params):Obj:=diO (.type "dict") #[(en P "__module__" 246 ↥15),(en P "__firstlineno__" 250 (vI 8 249)),(en P "__static_attributes__" 251 (r 59)),(en P "__doc__" 252 .none)] 2
def o35:Obj:=(Obj.mk (.type "type") none (Data.cls (ClassData.mk "NoWay" [(r 24)] [(r 61),(r 24),(.type "ValueError"),(.type "Exception"),(.type "BaseException"),(.type "object")] 60 "NoWay" true [] [] false none false)) #[(some (r 52)),none,(some (vS "NoWay" 239)),(some (vS "NoWay" 247)),(some (.builtin "ValueError.__new__")),(some (.bool true))])
def o36:Obj:=fiO (.type "super") #[(r 61),(r 61),(r 61)]
def o37:Obj:=fiO (.type "builtin_function_or_method") #[(.builtin "object.__init_subclass__"),(r 61)]
def o38 (P:Params):Obj:=diO (.type "dict") #[(en P "__module__" 262 ↥15),(en P "__qualname__" 264 (vS "NoFraction" 263)),(en P "__firstlineno__" 266 (vI 10 265)),(en P "__static_attributes__" 267 (r 71))] 4
def o39:Obj:=fiO (.type "code") #[(vS "NoFraction" 257),(vS "NoFraction" 258),(c 259),(z 10),(z 0),(z 0),(z 0),(z 0),(r 67),(.bool false),(z 181),(r 68),.none,.none,.none,.none,(z 260),(z 10),(c 261)]
def o40:Obj:=(Obj.mk (.type "frame") none Data.plain #[(some (r 69)),(some (r 3)),(some (r 66)),none,(some ↥15),none,(some (r 0))])
def o41 (P:Params):Obj:=diO (.type "dict") #[(en P "__module__" 262 ↥15),(en P "__firstlineno__" 266 (vI 10 265)),(en P "__static_attributes__" 267 (r 71)),(en P "__doc__" 268 .none)] 2
def o42:Obj:=(Obj.mk (.type "type") none (Data.cls (ClassData.mk "NoFraction" [(r 24)] [(r 73),(r 24),(.type "ValueError"),(.type "Exception"),(.type "BaseException"),(.type "object")] 72 "NoFraction" true [] [] false none false)) #[(some (r 64)),none,(some (vS "NoFraction" 255)),(some (vS "NoFraction" 263)),(some (.builtin "ValueError.__new__")),(some (.bool true))])
def o43:Obj:=fiO (.type "super") #[(r 73),(r 73),(r 73)]
def o44:Obj:=fiO (.type "builtin_function_or_method") #[(.builtin "object.__init_subclass__"),(r 73)]
def o45 (P:Params):Obj:=diO (.type "dict") #[(en P "__module__" 278 ↥15),(en P "__qualname__" 280 (vS "NoLeft" 279)),(en P "__firstlineno__" 282 (vI 12 281)),(en P "__static_attributes__" 283 (r 83))] 4
def o46:Obj:=fiO (.type "code") #[(vS "NoLeft" 273),(vS "NoLeft" 274),(c 275),(z 12),(z 0),(z 0),(z 0),(z 0),(r 79),(.bool false),(z 181),(r 80),.none,.none,.none,.none,(z 276),(z 12),(c 277)]
def o47:Obj:=(Obj.mk (.type "frame") none Data.plain #[(some (r 81)),(some (r 3)),(some (r 78)),none,(some ↥15),none,(some (r 0))])
def o48 (P:Params):Obj:=diO (.type "dict") #[(en P "__module__" 278 ↥15),(en P "__firstlineno__" 282 (vI 12 281)),(en P "__static_attributes__" 283 (r 83)),(en P "__doc__" 284 .none)] 2
def o49:Obj:=(Obj.mk (.type "type") none (Data.cls (ClassData.mk "NoLeft" [(r 24)] [(r 85),(r 24),(.type "ValueError"),(.type "Exception"),(.type "BaseException"),(.type "object")] 84 "NoLeft" true [] [] false none false)) #[(some (r 76)),none,(some (vS "NoLeft" 271)),(some (vS "NoLeft" 279)),(some (.builtin "ValueError.__new__")),(some (.bool true))])
def o50:Obj:=fiO (.type "super") #[(r 85),(r 85),(r 85)]
def o51:Obj:=fiO (.type "builtin_function_or_method") #[(.builtin "object.__init_subclass__"),(r 85)]
def o52:Obj:=sqO ↥4 #[(vS "size" 292)]
def o53:Obj:=fv "width" 8
def o54:Obj:=cd "width" 289 290 291 15 1 88 181 89 90 91 92 293 294
def o55:Obj:=fu "width" 8 3 "roundmill.sizes" 287 93
def o56 (P:Params):Obj:=diO (.type "dict") #[(en P "__name__" 165 (vS "roundmill.terms" 624)),(en P "__doc__" 166 .none),(en P "__package__" 167 .none),(en P "__loader__" 168 (.builtin "__main__.__loader__#opaque")),(en P "__spec__" 169 .none),(en P "__annotations__" 170 (r 6)),(en P "__builtins__" 171 (r 4)),(en P "__file__" 173 (c 172)),(en P "__cached__" 174 .none),(en P "MillError" 206 (r 24)),(en P "NoBits" 222 (r 37)),(en P "NotFinite" 238 (r 49)),(en P "NoWay" 254 (r 61)),(en P "NoFraction" 270 (r 73)),(en P "NoLeft" 286 (r 85)),(en P "width" 295 (r 94)),(en P "bias" 302 (r 101)),(en P "low" 309 (r 108)),(en P "sign_bit" 316 (r 115)),(en P "last_field" 323 (r 122)),(en P "endless" 330 (r 129)),(en P "no_number" 337 (r 136)),(en P "check_fraction" 347 (r 143)),(en P "scaled" 356 (r 150)),(en P "height" 366 (r 157)),(en P "rest_by_middle" 375 (r 164)),(en P "rest_of" 383 (r 171)),(en P "cut" 394 (r 178)),(en P "whole_root" 402 (r 185)),(en P "root_rest" 412 (r 192)),(en P "root_cut" 425 (r 199)),(en P "INEXACT" 427 (vI 1 426)),(en P "SMALL" 429 (vI 2 428)),(en P "GREAT" 431 (vI 4 430)),(en P "POLE" 433 (vI 8 432)),(en P "WRONG" 435 (vI 16 434)),(en P "parted" 447 (r 206)),(en P "check_bits" 456 (r 213)),(en P "kind" 467 (r 220)),(en P "worth" 479 (r 227)),(en P "worth_fraction" 488 (r 234)),(en P "fraction" 496 (r 241)),(en P "signed" 505 (r 248)),(en P "NAMES" 513 (r 249)),(en P "Way" 568 (r 287)),(en P "way_of" 575 (r 298)),(en P "settled" 593 (r 305)),(en P "lost_flags" 603 (r 312)),(en P "rounded" 615 (r 319)),(en P "total" 623 (r 324)),(en P "any_none" 631 (r 329))] 51
def o57:Obj:=fiO .none #[(z 2),(z 0),(r 20),(z 4),(z 0),(r 33),(z 6),(z 0),(r 45),(z 8),(z 0),(r 57),(z 10),(z 0),(r 69),(z 12),(z 0),(r 81),(z 15),(z 0),(r 93),(z 17),(z 0),(r 100),(z 19),(z 0),(r 107),(z 21),(z 0),(r 114),(z 23),(z 0),(r 121),(z 25),(z 0),(r 128),(z 27),(z 0),(r 135),(z 30),(z 0),(r 142),(z 33),(z 0),(r 149),(z 37),(z 0),(r 156),(z 41),(z 0),(r 163),(z 47),(z 0),(r 170),(z 49),(z 0),(r 177),(z 56),(z 0),(r 184),(z 63),(z 0),(r 191),(z 66),(z 0),(r 198),(z 81),(z 0),(r 205),(z 87),(z 0),(r 212),(z 90),(z 0),(r 219),(z 99),(z 0),(r 226),(z 109),(z 0),(r 233),(z 115),(z 0),(r 240),(z 117),(z 0),(r 247),(z 121),(z 0),(r 255),(z 144),(z 0),(r 297),(z 149),(z 0),(r 304),(z 160),(z 0),(r 311),(z 165),(z 0),(r 318),(z 170),(z 0),(r 323),(z 178),(z 0),(r 328)]
def o58:Obj:=sqO ↥4 #[(vS "size" 299)]
def o59:Obj:=fv "bias" 9
def o60:Obj:=cd "bias" 296 297 298 17 1 95 181 96 97 98 99 300 301
def o61:Obj:=fu "bias" 9 3 "roundmill.sizes" 287 100
def o62:Obj:=sqO ↥4 #[(vS "size" 306)]
def o63:Obj:=fv "low" 10
def o64:Obj:=cd "low" 303 304 305 19 1 102 181 103 104 105 106 307 308
def o65:Obj:=fu "low" 10 3 "roundmill.sizes" 287 107
def o66:Obj:=sqO ↥4 #[(vS "size" 313)]
def o67:Obj:=fv "sign_bit" 11
def o68:Obj:=cd "sign_bit" 310 311 312 21 1 109 181 110 111 112 113 314 315
def o69:Obj:=fu "sign_bit" 11 3 "roundmill.sizes" 287 114
def o70:Obj:=sqO ↥4 #[(vS "size" 320)]
def o71:Obj:=fv "last_field" 12
def o72:Obj:=cd "last_field" 317 318 319 23 1 116 181 117 118 119 120 321 322
def o73:Obj:=fu "last_field" 12 3 "roundmill.sizes" 287 121
def o74:Obj:=sqO ↥4 #[(vS "size" 327)]
def o75:Obj:=fv "endless" 13
def o76:Obj:=cd "endless" 324 325 326 25 1 123 181 124 125 126 127 328 329
def o77:Obj:=fu "endless" 13 3 "roundmill.sizes" 287 128
def o78:Obj:=sqO ↥4 #[(vS "size" 334)]
def o79:Obj:=fv "no_number" 14
def o80:Obj:=cd "no_number" 331 332 333 27 1 130 181 131 132 133 134 335 336
def o81:Obj:=fu "no_number" 14 3 "roundmill.sizes" 287 135
def o82:Obj:=sqO ↥4 #[(vS "top" 343),(vS "bottom" 344)]
def o83:Obj:=fv "check_fraction" 16
def o84:Obj:=cd "check_fraction" 340 341 342 30 2 137 181 138 139 140 141 345 346
def o85:Obj:=fu "check_fraction" 16 3 "roundmill.cutting" 338 142
def o86:Obj:=sqO ↥4 #[(vS "top" 351),(vS "bottom" 352),(vS "power" 353)]
def o87:Obj:=fv "scaled" 17
def o88:Obj:=cd "scaled" 348 349 350 33 3 144 181 145 146 147 148 354 355
def o89:Obj:=fu "scaled" 17 3 "roundmill.cutting" 338 149
def o90:Obj:=sqO ↥4 #[(vS "top" 360),(vS "bottom" 361),(vS "guess" 362),(vS "parts" 363)]
def o91:Obj:=fv "height" 18
def o92:Obj:=cd "height" 357 358 359 37 2 151 181 152 153 154 155 364 365
def o93:Obj:=fu "height" 18 3 "roundmill.cutting" 338 156
def o94:Obj:=sqO ↥4 #[(vS "over" 370),(vS "number" 371),(vS "middle" 372)]
def o95:Obj:=fv "rest_by_middle" 19
def o96:Obj:=cd "rest_by_middle" 367 368 369 41 3 158 181 159 160 161 162 373 374
def o97:Obj:=fu "rest_by_middle" 19 3 "roundmill.cutting" 338 163
def o98:Obj:=sqO ↥4 #[(vS "over" 379),(vS "step" 380)]
def o99:Obj:=fv "rest_of" 20
def Oh:Obj:=cd "rest_of" 376 377 378 47 2 165 181 166 167 168 169 381 382
def Og:Obj:=fu "rest_of" 20 3 "roundmill.cutting" 338 170
def Of:Obj:=sqO ↥4 #[(vS "size" 387),(vS "top" 388),(vS "bottom" 389),(vS "power" 390),(vS "parts" 391)]
def Qj:Obj:=fv "cut" 21
def Oe:Obj:=cd "cut" 384 385 386 49 3 172 181 173 174 175 176 392 393
def Od:Obj:=fu "cut" 21 3 "roundmill.cutting" 338 177
def Oc:Obj:=sqO ↥4 #[(vS "number" 398),(vS "root" 399)]
def Qi:Obj:=fv "whole_root" 22
def Ob:Obj:=cd "whole_root" 395 396 397 56 1 179 181 180 181 182 183 400 401
def Oa:Obj:=fu "whole_root" 22 3 "roundmill.cutting" 338 184
def N9:Obj:=sqO ↥4 #[(vS "top" 406),(vS "bottom" 407),(vS "root" 408),(vS "middle" 409)]
def Qh:Obj:=fv "root_rest" 23
def N8:Obj:=cd "root_rest" 403 404 405 63 3 186 181 187 188 189 190 410 411
def N7:Obj:=fu "root_rest" 23 3 "roundmill.cutting" 338 191
def N6:Obj:=sqO ↥4 #[(vS "size" 416),(vS "top" 417),(vS "bottom" 418),(vS "root_height" 419),(vS "power" 420),(vS "parts" 421),(vS "root" 422)]
def Qg:Obj:=fv "root_cut" 24
def N5:Obj:=cd "root_cut" 413 414 415 66 3 193 181 194 195 196 197 423 424
def N4:Obj:=fu "root_cut" 24 3 "roundmill.cutting" 338 198
def N3:Obj:=sqO ↥4 #[(vS "size" 441),(vS "bits" 442),(vS "code" 443),(vS "step" 444)]
def Qe:Obj:=fv "parted" 31
def N2:Obj:=cd "parted" 438 439 440 81 2 200 181 201 202 203 204 445 446
def N1:Obj:=fu "parted" 31 3 "roundmill.parts" 436 205
def NZ:Obj:=sqO ↥4 #[(vS "size" 451),(vS "numbers" 452),(vS "bits" 453)]
def Qd:Obj:=fv "check_bits" 32
def NY:Obj:=cd "check_bits" 448 449 450 87 2 207 181 208 209 210 211 454 455
def NX:Obj:=fu "check_bits" 32 3 "roundmill.parts" 436 212
def NW:Obj:=sqO ↥4 #[(vS "size" 460),(vS "bits" 461),(vS "parts" 462),(vS "field" 463),(vS "figures" 464)]
def Qc:Obj:=fv "kind" 33
def NV:Obj:=cd "kind" 457 458 459 90 2 214 181 215 216 217 218 465 466
def NU:Obj:=fu "kind" 33 3 "roundmill.parts" 436 219
def NT:Obj:=sqO ↥4 #[(vS "size" 471),(vS "bits" 472),(vS "parts" 473),(vS "sign" 474),(vS "field" 475),(vS "figures" 476)]
def Qb:Obj:=fv "worth" 34
def NS:Obj:=cd "worth" 468 469 470 99 2 221 181 222 223 224 225 477 478
def NR:Obj:=fu "worth" 34 3 "roundmill.parts" 436 226
def NQ:Obj:=sqO ↥4 #[(vS "value" 483),(vS "whole" 484),(vS "power" 485)]
def Qa:Obj:=fv "worth_fraction" 35
def NP:Obj:=cd "worth_fraction" 480 481 482 109 1 228 181 229 230 231 232 486 487
def NO:Obj:=fu "worth_fraction" 35 3 "roundmill.parts" 436 233
def NN:Obj:=sqO ↥4 #[(vS "size" 492),(vS "bits" 493)]
def P9:Obj:=fv "fraction" 36
def NM:Obj:=cd "fraction" 489 490 491 115 2 235 181 236 237 238 239 494 495
def NL:Obj:=fu "fraction" 36 3 "roundmill.parts" 436 240
def NK:Obj:=sqO ↥4 #[(vS "size" 500),(vS "sign" 501),(vS "code" 502)]
def P8:Obj:=fv "signed" 37
def NJ:Obj:=cd "signed" 497 498 499 117 3 242 181 243 244 245 246 503 504
def NI:Obj:=fu "signed" 37 3 "roundmill.parts" 436 247
def NH:Obj:=sqO ↥4 #[(vS "even" 508),(vS "away" 509),(vS "nought" 510),(vS "up" 511),(vS "down" 512)]
def P7 (P:Params):Obj:=diO (.type "dict") #[(en P "__module__" 521 (vS "roundmill.ways" 506)),(en P "__qualname__" 523 (vS "Way" 522)),(en P "__firstlineno__" 525 (vI 121 524)),(en P "__init__" 533 (r 263)),(en P "grows" 543 (r 270)),(en P "bursts" 551 (r 277)),(en P "flees_nought" 559 (r 284)),(en P "__static_attributes__" 561 (r 285))] 8
def P6:Obj:=fiO .none #[(z 123),(z 4),(r 262),(z 126),(z 4),(r 269),(z 135),(z 4),(r 276),(z 140),(z 4),(r 283)]
def P5:Obj:=fiO (.type "code") #[(vS "Way" 516),(vS "Way" 517),(c 518),(z 121),(z 0),(z 0),(z 0),(z 0),(r 253),(.bool false),(z 181),(r 254),.none,.none,.none,.none,(z 519),(z 121),(c 520)]
def P0:Obj:=(Obj.mk (.type "frame") none Data.plain #[(some (r 255)),(some (r 3)),(some (r 252)),none,(some (vS "roundmill.ways" 506)),none,(some (r 0))])
def NG:Obj:=sqO ↥4 #[(vS "self" 529),(vS "name" 530)]
def PZ:Obj:=fnO .none "__init__" "Way.__init__" ((cY (T.top 40)).getD 0 (.Pass ⟨0,0,0,0⟩)) 0 [] .none .none .none .none none .none .none 0
def NF:Obj:=fiO (.type "code") #[(vS "__init__" 526),(vS "Way.__init__" 527),(c 528),(z 123),(z 2),(z 0),(z 0),(z 3),(r 257),(.bool true),(z 181),(r 258),.none,(r 259),(r 260),(r 261),(z 531),(z 123),(c 532)]
def ND:Obj:=fnO (.type "function") "__init__" "Way.__init__" ((cY (T.top 40)).getD 0 (.Pass ⟨0,0,0,0⟩)) 3 [] .none .none .none (vS "roundmill.ways" 506) none (r 262) .none 0
def NC:Obj:=sqO ↥4 #[(vS "self" 537),(vS "sign" 538),(vS "odd" 539),(vS "rest" 540)]
def PY:Obj:=fnO .none "grows" "Way.grows" ((cY (T.top 40)).getD 1 (.Pass ⟨0,0,0,0⟩)) 0 [] .none .none .none .none none .none .none 0
def NA:Obj:=fiO (.type "code") #[(vS "grows" 534),(vS "Way.grows" 535),(c 536),(z 126),(z 4),(z 0),(z 0),(z 3),(r 264),(.bool true),(z 181),(r 265),.none,(r 266),(r 267),(r 268),(z 541),(z 126),(c 542)]
def Nz:Obj:=fnO (.type "function") "grows" "Way.grows" ((cY (T.top 40)).getD 1 (.Pass ⟨0,0,0,0⟩)) 3 [] .none .none .none (vS "roundmill.ways" 506) none (r 269) .none 0
def Ny:Obj:=sqO ↥4 #[(vS "self" 547),(vS "sign" 548)]
def PX:Obj:=fnO .none "bursts" "Way.bursts" ((cY (T.top 40)).getD 2 (.Pass ⟨0,0,0,0⟩)) 0 [] .none .none .none .none none .none .none 0
def Nx:Obj:=fiO (.type "code") #[(vS "bursts" 544),(vS "Way.bursts" 545),(c 546),(z 135),(z 2),(z 0),(z 0),(z 3),(r 271),(.bool true),(z 181),(r 272),.none,(r 273),(r 274),(r 275),(z 549),(z 135),(c 550)]
def Nw:Obj:=fnO (.type "function") "bursts" "Way.bursts" ((cY (T.top 40)).getD 2 (.Pass ⟨0,0,0,0⟩)) 3 [] .none .none .none (vS "roundmill.ways" 506) none (r 276) .none 0
def Nv:Obj:=sqO ↥4 #[(vS "self" 555),(vS "sign" 556)]
def PV:Obj:=fnO .none "flees_nought" "Way.flees_nought" ((cY (T.top 40)).getD 3 (.Pass ⟨0,0,0,0⟩)) 0 [] .none .none .none .none none .none .none 0
def Nu:Obj:=fiO (.type "code") #[(vS "flees_nought" 552),(vS "Way.flees_nought" 553),(c 554),(z 140),(z 2),(z 0),(z 0),(z 3),(r 278),(.bool true),(z 181),(r 279),.none,(r 280),(r 281),(r 282),(z 557),(z 140),(c 558)]
def Nt:Obj:=fnO (.type "function") "flees_nought" "Way.flees_nought" ((cY (T.top 40)).getD 3 (.Pass ⟨0,0,0,0⟩)) 3 [] .none .none .none (vS "roundmill.ways" 506) none (r 283) .none 0
def Nr:Obj:=sqO ↥4 #[(vS "name" 560)]
def Nq (P:Params):Obj:=diO (.type "dict") #[(en P "__module__" 521 (vS "roundmill.ways" 506)),(en P "__firstlineno__" 525 (vI 121 524)),(en P "__init__" 533 (r 263)),(en P "grows" 543 (r 270)),(en P "bursts" 551 (r 277)),(en P "flees_nought" 559 (r 284)),(en P "__static_attributes__" 561 (r 285)),(en P "__dict__" 563 (r 288)),(en P "__weakref__" 565 (r 289)),(en P "__doc__" 566 .none)] 4
def Np:Obj:=(Obj.mk (.type "type") none (Data.cls (ClassData.mk "Way" [(.type "object")] [(r 287),(.type "object")] 286 "Way" true [] [] false none false)) #[none,none,(some (vS "Way" 514)),(some (vS "Way" 522)),(some (.builtin "object.__new__")),(some (.bool true))])
def Nn:Obj:=fiO (.type "getset_descriptor") #[(vS "__dict__" 562),(r 287),(.builtin "function.__dict__"),(.builtin "function.__dict__#set")]
def Nm:Obj:=fiO (.type "getset_descriptor") #[(vS "__weakref__" 564),(r 287),(.builtin "ExceptionGroup.__weakref__"),.none]
def PU:Obj:=fiO (.type "super") #[(r 287),(r 287),(r 287)]
def PR:Obj:=fiO (.type "builtin_function_or_method") #[(.builtin "object.__init_subclass__"),(r 287)]
def Nl:Obj:=sqO ↥4 #[(vS "name" 572)]
def PQ:Obj:=fv "way_of" 41
def Nk:Obj:=cd "way_of" 569 570 571 144 1 292 181 293 294 295 296 573 574
def Nj:Obj:=fu "way_of" 41 3 "roundmill.ways" 506 297
def Ni:Obj:=sqO ↥4 #[(vS "size" 581),(vS "way" 582),(vS "sign" 583),(vS "whole" 584),(vS "power" 585),(vS "rest" 586),(vS "chosen" 587),(vS "code" 588),(vS "end" 589),(vS "taken" 590)]
def PN:Obj:=fv "settled" 43
def Nh:Obj:=cd "settled" 578 579 580 149 6 299 181 300 301 302 303 591 592
def Ng:Obj:=fu "settled" 43 3 "roundmill.rounding" 576 304
def Nf:Obj:=sqO ↥4 #[(vS "size" 597),(vS "code" 598),(vS "taken" 599),(vS "faint" 600)]
def PM:Obj:=fv "lost_flags" 44
def Nd:Obj:=cd "lost_flags" 594 595 596 160 3 306 181 307 308 309 310 601 602
def Nc:Obj:=fu "lost_flags" 44 3 "roundmill.rounding" 576 311
def Nb:Obj:=sqO ↥4 #[(vS "size" 607),(vS "way" 608),(vS "sign" 609),(vS "top" 610),(vS "bottom" 611),(vS "parts" 612)]
def PL:Obj:=fv "rounded" 45
def Na:Obj:=cd "rounded" 604 605 606 165 5 313 181 314 315 316 317 613 614
def M9:Obj:=fu "rounded" 45 3 "roundmill.rounding" 576 318
def PK:Obj:=fv "total" 47
def M8:Obj:=fiO (.type "code") #[(vS "total" 618),(vS "total" 619),(c 620),(z 170),(z 1),(z 0),(z 0),(z 3),(r 320),(.bool true),(z 181),(r 321),.none,.none,.none,(r 322),(z 621),(z 170),(c 622)]
def M7:Obj:=fu "total" 47 3 "roundmill.totals" 616 323
def PJ:Obj:=fv "any_none" 49
def M6:Obj:=fiO (.type "code") #[(vS "any_none" 626),(vS "any_none" 627),(c 628),(z 178),(z 2),(z 0),(z 0),(z 3),(r 325),(.bool true),(z 181),(r 326),.none,.none,.none,(r 327),(z 629),(z 178),(c 630)]
def M5:Obj:=fu "any_none" 49 3 "roundmill.terms" 624 328
def M4 (P:Params):Obj:=diO (.type "dict") #[(en P "__name__" 165 (vS "law_roundmill_k44_quotient_and_root_left" 750)),(en P "__doc__" 166 .none),(en P "__package__" 167 .none),(en P "__loader__" 168 (.builtin "__main__.__loader__#opaque")),(en P "__spec__" 169 .none),(en P "__annotations__" 170 (r 6)),(en P "__builtins__" 171 (r 4)),(en P "__file__" 173 (c 172)),(en P "__cached__" 174 .none),(en P "MillError" 206 (r 24)),(en P "NoBits" 222 (r 37)),(en P "NotFinite" 238 (r 49)),(en P "NoWay" 254 (r 61)),(en P "NoFraction" 270 (r 73)),(en P "NoLeft" 286 (r 85)),(en P "width" 295 (r 94)),(en P "bias" 302 (r 101)),(en P "low" 309 (r 108)),(en P "sign_bit" 316 (r 115)),(en P "last_field" 323 (r 122)),(en P "endless" 330 (r 129)),(en P "no_number" 337 (r 136)),(en P "check_fraction" 347 (r 143)),(en P "scaled" 356 (r 150)),(en P "height" 366 (r 157)),(en P "rest_by_middle" 375 (r 164)),(en P "rest_of" 383 (r 171)),(en P "cut" 394 (r 178)),(en P "whole_root" 402 (r 185)),(en P "root_rest" 412 (r 192)),(en P "root_cut" 425 (r 199)),(en P "INEXACT" 427 (vI 1 426)),(en P "SMALL" 429 (vI 2 428)),(en P "GREAT" 431 (vI 4 430)),(en P "POLE" 433 (vI 8 432)),(en P "WRONG" 435 (vI 16 434)),(en P "parted" 447 (r 206)),(en P "check_bits" 456 (r 213)),(en P "kind" 467 (r 220)),(en P "worth" 479 (r 227)),(en P "worth_fraction" 488 (r 234)),(en P "fraction" 496 (r 241)),(en P "signed" 505 (r 248)),(en P "NAMES" 513 (r 249)),(en P "Way" 568 (r 287)),(en P "way_of" 575 (r 298)),(en P "settled" 593 (r 305)),(en P "lost_flags" 603 (r 312)),(en P "rounded" 615 (r 319)),(en P "total" 623 (r 324)),(en P "any_none" 631 (r 329)),(en P "number_term" 639 (r 336)),(en P "product_term" 651 (r 343)),(en P "divided" 666 (r 350)),(en P "quotient" 676 (r 357)),(en P "rooted" 687 (r 364)),(en P "NOT_FINITE" 692 (r 365)),(en P "check_finite" 701 (r 372)),(en P "kept_answer" 709 (r 379)),(en P "minus" 716 (r 386)),(en P "left_of" 726 (r 393)),(en P "quotient_left" 738 (r 400)),(en P "root_left" 749 (r 407)),(en P "_law_cell_at" 759 (r 414)),(en P "_law_whole" 766 (r 421)),(en P "_law_size_by" 775 (r 428)),(en P "_law_way_by" 782 (r 435)),(en P "_law_finite_by" 799 (r 442)),(en P "_law_value" 808 (r 449)),(en P "_law_line" 818 (r 456)),(en P "_law_near" 828 (r 463)),(en P "_law_far" 838 (r 470)),(en P "_law_fair" 857 (r 477)),(en P "_law_fits" 868 (r 484)),(en P "_law_left" 881 (r 491)),(en P "_law_root" 897 (r 498)),(en P "_law_pair" 904 (r 505)),(en P "_law_answer" 918 (r 512)),(en P "_law_asked" 928 (r 519)),(en P "_law_holds" 947 (r 526)),(en P "law" 959 (r 533))] 81
def PH:Obj:=fiO .none #[(z 2),(z 0),(r 20),(z 4),(z 0),(r 33),(z 6),(z 0),(r 45),(z 8),(z 0),(r 57),(z 10),(z 0),(r 69),(z 12),(z 0),(r 81),(z 15),(z 0),(r 93),(z 17),(z 0),(r 100),(z 19),(z 0),(r 107),(z 21),(z 0),(r 114),(z 23),(z 0),(r 121),(z 25),(z 0),(r 128),(z 27),(z 0),(r 135),(z 30),(z 0),(r 142),(z 33),(z 0),(r 149),(z 37),(z 0),(r 156),(z 41),(z 0),(r 163),(z 47),(z 0),(r 170),(z 49),(z 0),(r 177),(z 56),(z 0),(r 184),(z 63),(z 0),(r 191),(z 66),(z 0),(r 198),(z 81),(z 0),(r 205),(z 87),(z 0),(r 212),(z 90),(z 0),(r 219),(z 99),(z 0),(r 226),(z 109),(z 0),(r 233),(z 115),(z 0),(r 240),(z 117),(z 0),(r 247),(z 121),(z 0),(r 255),(z 144),(z 0),(r 297),(z 149),(z 0),(r 304),(z 160),(z 0),(r 311),(z 165),(z 0),(r 318),(z 170),(z 0),(r 323),(z 178),(z 0),(r 328),(z 181),(z 0),(r 335),(z 185),(z 0),(r 342),(z 193),(z 0),(r 349),(z 209),(z 0),(r 356),(z 211),(z 0),(r 363),(z 224),(z 0),(r 371),(z 229),(z 0),(r 378),(z 233),(z 0),(r 385),(z 235),(z 0),(r 392),(z 241),(z 0),(r 399),(z 247),(z 0),(r 406),(z 254),(z 0),(r 413),(z 258),(z 0),(r 420),(z 260),(z 0),(r 427),(z 268),(z 0),(r 434),(z 270),(z 0),(r 441),(z 290),(z 0),(r 448),(z 295),(z 0),(r 455),(z 301),(z 0),(r 462),(z 307),(z 0),(r 469),(z 313),(z 0),(r 476),(z 340),(z 0),(r 483),(z 349),(z 0),(r 490),(z 357),(z 0),(r 497),(z 374),(z 0),(r 504),(z 376),(z 0),(r 511),(z 389),(z 0),(r 518),(z 393),(z 0),(r 525),(z 414),(z 0),(r 532)]
def M3:Obj:=sqO ↥4 #[(vS "size" 635),(vS "bits" 636)]
def PF:Obj:=fv "number_term" 50
def M1:Obj:=cd "number_term" 632 633 634 181 2 330 181 331 332 333 334 637 638
def M0:Obj:=fu "number_term" 50 3 "roundmill.terms" 624 335
def MZ:Obj:=sqO ↥4 #[(vS "size" 643),(vS "a" 644),(vS "b" 645),(vS "left" 646),(vS "right" 647),(vS "sign" 648)]
def PD:Obj:=fv "product_term" 51
def MY:Obj:=cd "product_term" 640 641 642 185 3 337 181 338 339 340 341 649 650
def MX:Obj:=fu "product_term" 51 3 "roundmill.terms" 624 342
def MW:Obj:=sqO ↥4 #[(vS "size" 657),(vS "way" 658),(vS "a" 659),(vS "b" 660),(vS "over" 661),(vS "under" 662),(vS "sign" 663)]
def PC:Obj:=fv "divided" 53
def MV:Obj:=cd "divided" 654 655 656 193 4 344 181 345 346 347 348 664 665
def MU:Obj:=fu "divided" 53 3 "roundmill.deeds" 652 349
def MT:Obj:=sqO ↥4 #[(vS "size" 670),(vS "way" 671),(vS "over" 672),(vS "under" 673)]
def PB:Obj:=fv "quotient" 54
def MS:Obj:=cd "quotient" 667 668 669 209 4 351 181 352 353 354 355 674 675
def MR:Obj:=fu "quotient" 54 3 "roundmill.deeds" 652 356
def MQ:Obj:=sqO ↥4 #[(vS "size" 680),(vS "way" 681),(vS "a" 682),(vS "value" 683),(vS "parts" 684)]
def Pz:Obj:=fv "rooted" 55
def MP:Obj:=cd "rooted" 677 678 679 211 3 358 181 359 360 361 362 685 686
def MO:Obj:=fu "rooted" 55 3 "roundmill.deeds" 652 363
def MN:Obj:=sqO ↥4 #[(vS "endless" 690),(vS "none" 691)]
def MM:Obj:=sqO ↥4 #[(vS "size" 696),(vS "numbers" 697),(vS "bits" 698)]
def Py:Obj:=fv "check_finite" 58
def ML:Obj:=cd "check_finite" 693 694 695 224 2 366 181 367 368 369 370 699 700
def MK:Obj:=fu "check_finite" 58 3 "roundmill.lefts" 688 371
def MJ:Obj:=sqO ↥4 #[(vS "size" 705),(vS "pair" 706)]
def Px:Obj:=fv "kept_answer" 59
def MI:Obj:=cd "kept_answer" 702 703 704 229 2 373 181 374 375 376 377 707 708
def MH:Obj:=fu "kept_answer" 59 3 "roundmill.lefts" 688 378
def MG:Obj:=sqO ↥4 #[(vS "term" 713)]
def Pw:Obj:=fv "minus" 60
def MF:Obj:=cd "minus" 710 711 712 233 1 380 181 381 382 383 384 714 715
def ME:Obj:=fu "minus" 60 3 "roundmill.lefts" 688 385
def MD:Obj:=sqO ↥4 #[(vS "size" 720),(vS "terms" 721),(vS "value" 722),(vS "pair" 723)]
def Pu:Obj:=fv "left_of" 61
def MC:Obj:=cd "left_of" 717 718 719 235 2 387 181 388 389 390 391 724 725
def MB:Obj:=fu "left_of" 61 3 "roundmill.lefts" 688 392
def MA:Obj:=sqO ↥4 #[(vS "size" 730),(vS "way" 731),(vS "a" 732),(vS "b" 733),(vS "answer" 734),(vS "terms" 735)]
def Pt:Obj:=fv "quotient_left" 62
def Mz:Obj:=cd "quotient_left" 727 728 729 241 4 394 181 395 396 397 398 736 737
def Mx:Obj:=fu "quotient_left" 62 3 "roundmill.lefts" 688 399
def Mw:Obj:=sqO ↥4 #[(vS "size" 742),(vS "way" 743),(vS "a" 744),(vS "answer" 745),(vS "terms" 746)]
def Pr:Obj:=fv "root_left" 63
def Mv:Obj:=cd "root_left" 739 740 741 247 3 401 181 402 403 404 405 747 748
def Mu:Obj:=fu "root_left" 63 3 "roundmill.lefts" 688 406
def Mt:Obj:=sqO ↥4 #[(vS "_law_script" 755),(vS "_law_k" 756)]
def Pq:Obj:=fv "_law_cell_at" 65
def Ms:Obj:=cd "_law_cell_at" 752 753 754 254 2 408 181 409 410 411 412 757 758
def Mr:Obj:=fu "_law_cell_at" 65 3 "law_roundmill_k44_quotient_and_root_left" 750 413
def Mq:Obj:=sqO ↥4 #[(vS "_law_found" 763)]
def Pp:Obj:=fv "_law_whole" 66
def Mp:Obj:=cd "_law_whole" 760 761 762 258 1 415 181 416 417 418 419 764 765
def Mo:Obj:=fu "_law_whole" 66 3 "law_roundmill_k44_quotient_and_root_left" 750 420
def Mn:Obj:=sqO ↥4 #[(vS "_law_cell" 770),(vS "_law_way" 771),(vS "_law_rest" 772)]
def Po:Obj:=fv "_law_size_by" 67
def Mm:Obj:=cd "_law_size_by" 767 768 769 260 1 422 181 423 424 425 426 773 774
def Ml:Obj:=fu "_law_size_by" 67 3 "law_roundmill_k44_quotient_and_root_left" 750 427
def Mj:Obj:=sqO ↥4 #[(vS "_law_cell" 779)]
def Pn:Obj:=fv "_law_way_by" 68
def Mi:Obj:=cd "_law_way_by" 776 777 778 268 1 429 181 430 431 432 433 780 781
def Mh:Obj:=fu "_law_way_by" 68 3 "law_roundmill_k44_quotient_and_root_left" 750 434
def Mg:Obj:=sqO ↥4 #[(vS "_law_size" 786),(vS "_law_cell" 787),(vS "_law_half" 788),(vS "_law_last" 789),(vS "_law_way" 790),(vS "_law_rest" 791),(vS "_law_mixed" 792),(vS "_law_side" 793),(vS "_law_middle" 794),(vS "_law_field" 795),(vS "_law_figures" 796)]
def Pm:Obj:=fv "_law_finite_by" 69
def Mf:Obj:=cd "_law_finite_by" 783 784 785 270 2 436 181 437 438 439 440 797 798
def Me:Obj:=fu "_law_finite_by" 69 3 "law_roundmill_k44_quotient_and_root_left" 750 441
def Md:Obj:=sqO ↥4 #[(vS "_law_size" 803),(vS "_law_code" 804),(vS "_law_field" 805)]
def Pk:Obj:=fv "_law_value" 70
def Mc:Obj:=cd "_law_value" 800 801 802 290 2 443 181 444 445 446 447 806 807
def Mb:Obj:=fu "_law_value" 70 3 "law_roundmill_k44_quotient_and_root_left" 750 448
def Ma:Obj:=sqO ↥4 #[(vS "_law_size" 812),(vS "_law_bits" 813),(vS "_law_half" 814),(vS "_law_value_here" 815)]
def Pj:Obj:=fv "_law_line" 71
def L9:Obj:=cd "_law_line" 809 810 811 295 2 450 181 451 452 453 454 816 817
def L8:Obj:=fu "_law_line" 71 3 "law_roundmill_k44_quotient_and_root_left" 750 455
def L7:Obj:=sqO ↥4 #[(vS "_law_way" 822),(vS "_law_outward" 823),(vS "_law_lean" 824),(vS "_law_even" 825)]
def Ph:Obj:=fv "_law_near" 72
def LZ:Obj:=cd "_law_near" 819 820 821 301 4 457 181 458 459 460 461 826 827
def LY:Obj:=fu "_law_near" 72 3 "law_roundmill_k44_quotient_and_root_left" 750 462
def LX:Obj:=sqO ↥4 #[(vS "_law_way" 832),(vS "_law_outward" 833),(vS "_law_lean" 834),(vS "_law_even" 835)]
def Pg:Obj:=fv "_law_far" 73
def LW:Obj:=cd "_law_far" 829 830 831 307 4 464 181 465 466 467 468 836 837
def LV:Obj:=fu "_law_far" 73 3 "law_roundmill_k44_quotient_and_root_left" 750 469
def LU:Obj:=sqO ↥4 #[(vS "_law_size" 842),(vS "_law_way" 843),(vS "_law_sign" 844),(vS "_law_tall" 845),(vS "_law_bottom" 846),(vS "_law_found" 847),(vS "_law_code" 848),(vS "_law_last" 849),(vS "_law_here" 850),(vS "_law_outward" 851),(vS "_law_due" 852),(vS "_law_beyond" 853),(vS "_law_before" 854)]
def Pf:Obj:=fv "_law_fair" 74
def LS:Obj:=cd "_law_fair" 839 840 841 313 6 471 181 472 473 474 475 855 856
def LR:Obj:=fu "_law_fair" 74 3 "law_roundmill_k44_quotient_and_root_left" 750 476
def LQ:Obj:=sqO ↥4 #[(vS "_law_size" 861),(vS "_law_left_here" 862),(vS "_law_steps" 863),(vS "_law_last" 864),(vS "_law_tall" 865)]
def Pe:Obj:=fv "_law_fits" 75
def LP:Obj:=cd "_law_fits" 858 859 860 340 3 478 181 479 480 481 482 866 867
def LO:Obj:=fu "_law_fits" 75 3 "law_roundmill_k44_quotient_and_root_left" 750 483
def LN:Obj:=sqO ↥4 #[(vS "_law_size" 872),(vS "_law_found" 873),(vS "_law_told" 874),(vS "_law_left_here" 875),(vS "_law_steps" 876),(vS "_law_half" 877),(vS "_law_last" 878)]
def Pd:Obj:=fv "_law_left" 76
def LM:Obj:=cd "_law_left" 869 870 871 349 5 485 181 486 487 488 489 879 880
def LL:Obj:=fu "_law_left" 76 3 "law_roundmill_k44_quotient_and_root_left" 750 490
def LK:Obj:=sqO ↥4 #[(vS "_law_size" 885),(vS "_law_way" 886),(vS "_law_square" 887),(vS "_law_found" 888),(vS "_law_code" 889),(vS "_law_here" 890),(vS "_law_due" 891),(vS "_law_beyond" 892),(vS "_law_lean" 893),(vS "_law_before" 894)]
def Pc:Obj:=fv "_law_root" 77
def LJ:Obj:=cd "_law_root" 882 883 884 357 4 492 181 493 494 495 496 895 896
def LI:Obj:=fu "_law_root" 77 3 "law_roundmill_k44_quotient_and_root_left" 750 497
def LH:Obj:=sqO ↥4 #[(vS "_law_found" 901)]
def Pb:Obj:=fv "_law_pair" 78
def LG:Obj:=cd "_law_pair" 898 899 900 374 1 499 181 500 501 502 503 902 903
def LF:Obj:=fu "_law_pair" 78 3 "law_roundmill_k44_quotient_and_root_left" 750 504
def LD:Obj:=sqO ↥4 #[(vS "_law_size" 908),(vS "_law_way" 909),(vS "_law_one" 910),(vS "_law_two" 911),(vS "_law_pair_here" 912),(vS "_law_half" 913),(vS "_law_steps" 914),(vS "_law_sign" 915)]
def Pa:Obj:=fv "_law_answer" 79
def LC:Obj:=cd "_law_answer" 905 906 907 376 5 506 181 507 508 509 510 916 917
def LB:Obj:=fu "_law_answer" 79 3 "law_roundmill_k44_quotient_and_root_left" 750 511
def LA:Obj:=sqO ↥4 #[(vS "_law_size" 922),(vS "_law_way" 923),(vS "_law_one" 924),(vS "_law_two" 925)]
def O9:Obj:=fv "_law_asked" 80
def Lz:Obj:=cd "_law_asked" 919 920 921 389 4 513 181 514 515 516 517 926 927
def Ly:Obj:=fu "_law_asked" 80 3 "law_roundmill_k44_quotient_and_root_left" 750 518
def Lx:Obj:=sqO ↥4 #[(vS "_law_size" 932),(vS "_law_way" 933),(vS "_law_one" 934),(vS "_law_two" 935),(vS "_law_pair_here" 936),(vS "_law_half" 937),(vS "_law_caught" 938),(vS "_law_found" 939),(vS "e" 940),(vS "_law_refused" 941),(vS "_law_other" 942),(vS "_law_steps" 943),(vS "_law_left_here" 944)]
def O8:Obj:=fv "_law_holds" 81
def Lw:Obj:=cd "_law_holds" 929 930 931 393 5 520 181 521 522 523 524 945 946
def Lv:Obj:=fu "_law_holds" 81 3 "law_roundmill_k44_quotient_and_root_left" 750 525
def Lu:Obj:=sqO ↥4 #[(vS "_law_script" 951),(vS "_law_size" 952),(vS "_law_way" 953),(vS "_law_prior" 954),(vS "_law_cell" 955),(vS "_law_here" 956)]
def O7:Obj:=fv "law" 82
def Ls:Obj:=cd "law" 948 949 950 414 1 527 181 528 529 530 531 957 958
def Lr:Obj:=fu "law" 82 3 "law_roundmill_k44_quotient_and_root_left" 750 532
def full (P:Params):BT:=(B (boot_o_0 P) (B (boot_o_1 P) (B (M4 P) (B (boot_o_7 P) (B o6 (B o0 (B o37 (B o75 (B P5 (L LC) N) (L o0)) (B N8 (L M9) (L Pk))) (B o0 (B o1 (L Np) (L o0)) (B NT (L o0) (L o1)))) (B o0 (B o0 (B o85 (B o0 (L o0) N) (L Mz)) (B o0 (L M1) (L LY))) (B o66 (B o0 (L PN) (L Mj)) (B P9 (L o1) (L o0))))) (B (o11 P) (B o23 (B o0 (B o80 (B ND (L Ly) N) (L Pu)) (B N4 (L PJ) (L L9))) (B o1 (B o98 (L o0) (L o1)) (B o0 (L o1) (L LN)))) (B o0 (B o51 (B o0 (L o1) (L Mu)) (B o1 (L MX) (L o0))) (B o0 (B Qi (L Nd) (L o0)) (B NJ (L MJ) (L Pb)))))) (B o0 (B o1 (B o0 (B o0 (B o1 (B NG (L LA) N) (L o0)) (B N6 (L M8) (L o1))) (B o59 (B o96 (L PR) (L Pp)) (B NR (L PB) (L LP)))) (B o30 (B o0 (B o0 (B PX (L O7) N) (L Mw)) (B Qd (L MZ) (L o0))) (B o69 (B o0 (L o1) (L Mh)) (B o1 (L ML) (L o0))))) (B o15 (B o0 (B o44 (B o82 (B o0 (L o0) N) (L o1)) (B o0 (L o1) (L L7))) (B o64 (B Og (L o0) (L Mm)) (B o0 (L MP) (L LL)))) (B o0 (B o0 (B o91 (L Nu) (L o0)) (B NV (L o0) (L Pf))) (B o0 (B o1 (L Nb) (L o0)) (B o7 (L MH) (L o1))))))) (B (boot_o_5 P) (B (boot_o_9 P) (B (o8 P) (B o18 (B o7 (B o77 (B o0 (L o0) N) (L MF)) (B o0 (L o1) (L Mb))) (B o58 (B o0 (L Nm) (L Mq)) (B Qb (L MT) (L o0)))) (B o28 (B o46 (B o1 (B Ny (L Lu) N) (L o0)) (B NZ (L o0) (L o1))) (B o67 (B Oe (L Ng) (L Pn)) (B NL (L o0) (L LJ))))) (B o13 (B o7 (B o42 (B o0 (B o1 (L o1) N) (L MB)) (B o1 (L M5) (L o0))) (B o0 (B o99 (L Nk) (L o0)) (B NP (L o0) (L Pd)))) (B o32 (B o1 (B o90 (L o0) (L o1)) (B o0 (L o1) (L LU))) (B o72 (B Oa (L o0) (L Mf)) (B NH (L Px) (L LF)))))) (B o2 (B o10 (B o21 (B o39 (B o0 (B PZ (L O9) N) (L MD)) (B Qg (L o0) (L o0))) (B o61 (B o0 (L o1) (L Mo)) (B o1 (L MR) (L o0)))) (B o7 (B o49 (B o88 (B Nw (L Lr) N) (L Pr)) (B NX (L PD) (L LW))) (B o1 (B Oc (L o0) (L o1)) (B o0 (L o0) (L LH))))) (B o7 (B o25 (B o7 (B o83 (B NA (L Lw) N) (L o0)) (B N2 (L o0) (L Ph))) (B o0 (B o1 (L Ni) (L o0)) (B NN (L MN) (L o1)))) (B o35 (B o54 (B o93 (L Nr) (L Ms)) (B o0 (L MV) (L LR))) (B o74 (B o0 (L PL) (L Md)) (B o0 (L o1) (L o0)))))))) (B (boot_o_2 P) (B (boot_o_4 P) (B (boot_o_8 P) (B o7 (B o1 (B o16 (B o76 (B P0 (L LB) N) (L Pw)) (B N7 (L o0) (L Mc))) (B o1 (B o94 (L Nn) (L o1)) (B o0 (L o1) (L LQ)))) (B (o27 P) (B o1 (B o0 (B o1 (L o1) N) (L Mx)) (B o1 (L M0) (L o0))) (B o0 (B Qj (L Nh) (L o0)) (B NM (L MM) (L Pc))))) (B o12 (B o16 (B (o41 P) (B o81 (B o0 (L o0) N) (L MC)) (B o0 (L M6) (L L8))) (B o62 (B o0 (L PQ) (L Mn)) (B Qa (L MQ) (L o0)))) (B o1 (B o0 (B o1 (L Nv) (L o0)) (B NW (L o0) (L o1))) (B o71 (B Ob (L Nc) (L Pm)) (B NI (L o0) (L LG)))))) (B PH (B o9 (B (o20 P) (B o1 (B o78 (B o0 (L o0) N) (L o1)) (B o0 (L M7) (L Ma))) (B o60 (B o97 (L o0) (L Mp)) (B o0 (L MS) (L LO)))) (B o16 (B (o48 P) (B o87 (B Nx (L Ls) N) (L o0)) (B NY (L o0) (L Pg))) (B o0 (B o1 (L Nf) (L o0)) (B NK (L MK) (L o1))))) (B o16 (B o1 (B o16 (B o0 (B PY (L O8) N) (L MA)) (B Qe (L M3) (L o0))) (B o65 (B o0 (L o1) (L Ml)) (B o1 (L MO) (L o0)))) (B (o34 P) (B o53 (B o92 (L Nt) (L Pq)) (B NU (L PC) (L LS))) (B o1 (B N9 (L o0) (L o1)) (B (P7 P) (L o0) (L LD))))))) (B (boot_o_6 P) (B (boot_o_10 P) (B o0 (B o19 (B (o38 P) (B o0 (B o1 (L o1) N) (L ME)) (B o1 (L PK) (L o0))) (B o0 (B o95 (L PU) (L o0)) (B NS (L o0) (L Pe)))) (B o29 (B o47 (B o86 (B o0 (L o0) N) (L o1)) (B o0 (L o1) (L LX))) (B o68 (B Od (L o0) (L Mi)) (B o0 (L Py) (L LI))))) (B o14 (B (o24 P) (B o43 (B o1 (B NC (L Lx) N) (L o0)) (B N3 (L o0) (L o1))) (B o63 (B Oh (L Nj) (L Po)) (B NO (L Pz) (L LM)))) (B o33 (B o52 (B o0 (L PV) (L Mt)) (B Qc (L MW) (L o0))) (B o73 (B o0 (L o1) (L Me)) (B o0 (L MI) (L o0)))))) (B o3 (B o0 (B o22 (B o40 (B o79 (B NF (L Lz) N) (L o0)) (B N5 (L o1) (L Pj))) (B o0 (B o1 (L Nl) (L o0)) (B NQ (L o0) (L o1)))) (B (o31 P) (B o50 (B o89 (L o0) (L Mv)) (B o0 (L MY) (L LV))) (B o70 (B o0 (L PM) (L Mg)) (B P8 (L o1) (L o0))))) (B (o17 P) (B o26 (B (o45 P) (B o84 (B Nz (L Lv) N) (L Pt)) (B N1 (L PF) (L LZ))) (B o1 (B Of (L o0) (L o1)) (B o0 (L o0) (L LK)))) (B o36 (B o55 (B o0 (L (Nq P)) (L Mr)) (B o1 (L MU) (L o0))) (B o0 (B Qh (L Na) (L o0)) (B P6 (L MG) (L Pa)))))))))
def t_0 (P:Params):BT:=(((cut 15 (full P) 1 0).ins 3 (boot_o_3 P)).ins 12 (o1))
def t_1 (P:Params):BT:=(((cut 95 (full P) 1 0).ins 3 (o4 P)).ins 12 (o5))
def t_2 (P:Params):BT:=(((cut 330 (full P) 1 0).ins 3 (o56 P)).ins 12 (o57))
def t_3 (P:Params):BT:=(cut 534 (full P) 1 0)
def ha (P:Params):Heap:=⟨⟨[boot_o_0 P,boot_o_1 P,boot_o_2 P,boot_o_3 P,boot_o_4 P,boot_o_5 P,boot_o_6 P,boot_o_7 P,boot_o_8 P,boot_o_9 P,boot_o_10 P,o0,o1,o2,o3]⟩,↥2⟩
def hf (P:Params):Heap:=absHeap (full P) 534 ↥2
def K (P:Params):Frag:=(nat_lit 2,boot_o_2 P)::(nat_lit 3,M4 P)::(nat_lit 15,o6)::(nat_lit 22,o0)::(nat_lit 23,o11 P)::(nat_lit 24,o12)::(nat_lit 25,o13)::(nat_lit 28,o16)::(nat_lit 35,o0)::(nat_lit 36,o20 P)::(nat_lit 37,o21)::(nat_lit 40,o16)::(nat_lit 47,o0)::(nat_lit 48,o27 P)::(nat_lit 49,o28)::(nat_lit 52,o16)::(nat_lit 59,o0)::(nat_lit 60,o34 P)::(nat_lit 61,o35)::(nat_lit 64,o16)::(nat_lit 71,o0)::(nat_lit 72,o41 P)::(nat_lit 73,o42)::(nat_lit 76,o16)::(nat_lit 83,o0)::(nat_lit 84,o48 P)::(nat_lit 85,o49)::(nat_lit 88,o0)::(nat_lit 90,o52)::(nat_lit 91,o0)::(nat_lit 93,o54)::(nat_lit 94,o55)::(nat_lit 95,o0)::(nat_lit 97,o58)::(nat_lit 98,o0)::(nat_lit 100,o60)::(nat_lit 101,o61)::(nat_lit 102,o0)::(nat_lit 104,o62)::(nat_lit 105,o0)::(nat_lit 107,o64)::(nat_lit 108,o65)::(nat_lit 109,o0)::(nat_lit 111,o66)::(nat_lit 112,o0)::(nat_lit 114,o68)::(nat_lit 115,o69)::(nat_lit 116,o0)::(nat_lit 118,o70)::(nat_lit 119,o0)::(nat_lit 121,o72)::(nat_lit 122,o73)::(nat_lit 123,o0)::(nat_lit 125,o74)::(nat_lit 126,o0)::(nat_lit 128,o76)::(nat_lit 129,o77)::(nat_lit 130,o0)::(nat_lit 132,o78)::(nat_lit 133,o0)::(nat_lit 135,o80)::(nat_lit 136,o81)::(nat_lit 137,o0)::(nat_lit 139,o82)::(nat_lit 140,o0)::(nat_lit 142,o84)::(nat_lit 143,o85)::(nat_lit 144,o0)::(nat_lit 146,o86)::(nat_lit 147,o0)::(nat_lit 149,o88)::(nat_lit 150,o89)::(nat_lit 151,o0)::(nat_lit 153,o90)::(nat_lit 154,o0)::(nat_lit 156,o92)::(nat_lit 157,o93)::(nat_lit 158,o0)::(nat_lit 160,o94)::(nat_lit 161,o0)::(nat_lit 163,o96)::(nat_lit 164,o97)::(nat_lit 165,o0)::(nat_lit 167,o98)::(nat_lit 168,o0)::(nat_lit 170,Oh)::(nat_lit 171,Og)::(nat_lit 172,o0)::(nat_lit 174,Of)::(nat_lit 175,o0)::(nat_lit 177,Oe)::(nat_lit 178,Od)::(nat_lit 179,o0)::(nat_lit 181,Oc)::(nat_lit 182,o0)::(nat_lit 184,Ob)::(nat_lit 185,Oa)::(nat_lit 186,o0)::(nat_lit 188,N9)::(nat_lit 189,o0)::(nat_lit 191,N8)::(nat_lit 192,N7)::(nat_lit 193,o0)::(nat_lit 195,N6)::(nat_lit 196,o0)::(nat_lit 198,N5)::(nat_lit 199,N4)::(nat_lit 200,o0)::(nat_lit 202,N3)::(nat_lit 203,o0)::(nat_lit 205,N2)::(nat_lit 206,N1)::(nat_lit 207,o0)::(nat_lit 209,NZ)::(nat_lit 210,o0)::(nat_lit 212,NY)::(nat_lit 213,NX)::(nat_lit 214,o0)::(nat_lit 216,NW)::(nat_lit 217,o0)::(nat_lit 219,NV)::(nat_lit 220,NU)::(nat_lit 221,o0)::(nat_lit 223,NT)::(nat_lit 224,o0)::(nat_lit 226,NS)::(nat_lit 227,NR)::(nat_lit 228,o0)::(nat_lit 230,NQ)::(nat_lit 231,o0)::(nat_lit 233,NP)::(nat_lit 234,NO)::(nat_lit 235,o0)::(nat_lit 237,NN)::(nat_lit 238,o0)::(nat_lit 240,NM)::(nat_lit 241,NL)::(nat_lit 242,o0)::(nat_lit 244,NK)::(nat_lit 245,o0)::(nat_lit 247,NJ)::(nat_lit 248,NI)::(nat_lit 249,NH)::(nat_lit 257,o0)::(nat_lit 259,NG)::(nat_lit 260,o0)::(nat_lit 262,NF)::(nat_lit 263,ND)::(nat_lit 264,o0)::(nat_lit 266,NC)::(nat_lit 267,o0)::(nat_lit 269,NA)::(nat_lit 270,Nz)::(nat_lit 271,o0)::(nat_lit 273,Ny)::(nat_lit 274,o0)::(nat_lit 276,Nx)::(nat_lit 277,Nw)::(nat_lit 278,o0)::(nat_lit 280,Nv)::(nat_lit 281,o0)::(nat_lit 283,Nu)::(nat_lit 284,Nt)::(nat_lit 285,Nr)::(nat_lit 286,Nq P)::(nat_lit 287,Np)::(nat_lit 288,Nn)::(nat_lit 289,Nm)::(nat_lit 292,o0)::(nat_lit 294,Nl)::(nat_lit 295,o0)::(nat_lit 297,Nk)::(nat_lit 298,Nj)::(nat_lit 299,o0)::(nat_lit 301,Ni)::(nat_lit 302,o0)::(nat_lit 304,Nh)::(nat_lit 305,Ng)::(nat_lit 306,o0)::(nat_lit 308,Nf)::(nat_lit 309,o0)::(nat_lit 311,Nd)::(nat_lit 312,Nc)::(nat_lit 313,o0)::(nat_lit 315,Nb)::(nat_lit 316,o0)::(nat_lit 318,Na)::(nat_lit 319,M9)::(nat_lit 320,o0)::(nat_lit 323,M8)::(nat_lit 324,M7)::(nat_lit 325,o0)::(nat_lit 328,M6)::(nat_lit 329,M5)::(nat_lit 330,o0)::(nat_lit 332,M3)::(nat_lit 333,o0)::(nat_lit 335,M1)::(nat_lit 336,M0)::(nat_lit 337,o0)::(nat_lit 339,MZ)::(nat_lit 340,o0)::(nat_lit 342,MY)::(nat_lit 343,MX)::(nat_lit 344,o0)::(nat_lit 346,MW)::(nat_lit 347,o0)::(nat_lit 349,MV)::(nat_lit 350,MU)::(nat_lit 351,o0)::(nat_lit 353,MT)::(nat_lit 354,o0)::(nat_lit 356,MS)::(nat_lit 357,MR)::(nat_lit 358,o0)::(nat_lit 360,MQ)::(nat_lit 361,o0)::(nat_lit 363,MP)::(nat_lit 364,MO)::(nat_lit 365,MN)::(nat_lit 366,o0)::(nat_lit 368,MM)::(nat_lit 369,o0)::(nat_lit 371,ML)::(nat_lit 372,MK)::(nat_lit 373,o0)::(nat_lit 375,MJ)::(nat_lit 376,o0)::(nat_lit 378,MI)::(nat_lit 379,MH)::(nat_lit 380,o0)::(nat_lit 382,MG)::(nat_lit 383,o0)::(nat_lit 385,MF)::(nat_lit 386,ME)::(nat_lit 387,o0)::(nat_lit 389,MD)::(nat_lit 390,o0)::(nat_lit 392,MC)::(nat_lit 393,MB)::(nat_lit 394,o0)::(nat_lit 396,MA)::(nat_lit 397,o0)::(nat_lit 399,Mz)::(nat_lit 400,Mx)::(nat_lit 401,o0)::(nat_lit 403,Mw)::(nat_lit 404,o0)::(nat_lit 406,Mv)::(nat_lit 407,Mu)::(nat_lit 408,o0)::(nat_lit 410,Mt)::(nat_lit 411,o0)::(nat_lit 413,Ms)::(nat_lit 414,Mr)::(nat_lit 415,o0)::(nat_lit 417,Mq)::(nat_lit 418,o0)::(nat_lit 420,Mp)::(nat_lit 421,Mo)::(nat_lit 422,o0)::(nat_lit 424,Mn)::(nat_lit 425,o0)::(nat_lit 427,Mm)::(nat_lit 428,Ml)::(nat_lit 429,o0)::(nat_lit 431,Mj)::(nat_lit 432,o0)::(nat_lit 434,Mi)::(nat_lit 435,Mh)::(nat_lit 436,o0)::(nat_lit 438,Mg)::(nat_lit 439,o0)::(nat_lit 441,Mf)::(nat_lit 442,Me)::(nat_lit 443,o0)::(nat_lit 445,Md)::(nat_lit 446,o0)::(nat_lit 448,Mc)::(nat_lit 449,Mb)::(nat_lit 450,o0)::(nat_lit 452,Ma)::(nat_lit 453,o0)::(nat_lit 455,L9)::(nat_lit 456,L8)::(nat_lit 457,o0)::(nat_lit 459,L7)::(nat_lit 460,o0)::(nat_lit 462,LZ)::(nat_lit 463,LY)::(nat_lit 464,o0)::(nat_lit 466,LX)::(nat_lit 467,o0)::(nat_lit 469,LW)::(nat_lit 470,LV)::(nat_lit 471,o0)::(nat_lit 473,LU)::(nat_lit 474,o0)::(nat_lit 476,LS)::(nat_lit 477,LR)::(nat_lit 478,o0)::(nat_lit 480,LQ)::(nat_lit 481,o0)::(nat_lit 483,LP)::(nat_lit 484,LO)::(nat_lit 485,o0)::(nat_lit 487,LN)::(nat_lit 488,o0)::(nat_lit 490,LM)::(nat_lit 491,LL)::(nat_lit 492,o0)::(nat_lit 494,LK)::(nat_lit 495,o0)::(nat_lit 497,LJ)::(nat_lit 498,LI)::(nat_lit 499,o0)::(nat_lit 501,LH)::(nat_lit 502,o0)::(nat_lit 504,LG)::(nat_lit 505,LF)::(nat_lit 506,o0)::(nat_lit 508,LD)::(nat_lit 509,o0)::(nat_lit 511,LC)::(nat_lit 512,LB)::(nat_lit 513,o0)::(nat_lit 515,LA)::(nat_lit 516,o0)::(nat_lit 518,Lz)::(nat_lit 519,Ly)::(nat_lit 520,o0)::(nat_lit 522,Lx)::(nat_lit 523,o0)::(nat_lit 525,Lw)::(nat_lit 526,Lv)::(nat_lit 527,o0)::(nat_lit 529,Lu)::(nat_lit 530,o0)::(nat_lit 532,Ls)::(nat_lit 533,Lr)::[]
def as:List Addr:=[2,3,15,22,23,24,25,28,35,36,37,40,47,48,49,52,59,60,61,64,71,72,73,76,83,84,85,88,90,91,93,94,95,97,98,100,101,102,104,105,107,108,109,111,112,114,115,116,118,119,121,122,123,125,126,128,129,130,132,133,135,136,137,139,140,142,143,144,146,147,149,150,151,153,154,156,157,158,160,161,163,164,165,167,168,170,171,172,174,175,177,178,179,181,182,184,185,186,188,189,191,192,193,195,196,198,199,200,202,203,205,206,207,209,210,212,213,214,216,217,219,220,221,223,224,226,227,228,230,231,233,234,235,237,238,240,241,242,244,245,247,248,249,257,259,260,262,263,264,266,267,269,270,271,273,274,276,277,278,280,281,283,284,285,286,287,288,289,292,294,295,297,298,299,301,302,304,305,306,308,309,311,312,313,315,316,318,319,320,323,324,325,328,329,330,332,333,335,336,337,339,340,342,343,344,346,347,349,350,351,353,354,356,357,358,360,361,363,364,365,366,368,369,371,372,373,375,376,378,379,380,382,383,385,386,387,389,390,392,393,394,396,397,399,400,401,403,404,406,407,408,410,411,413,414,415,417,418,420,421,422,424,425,427,428,429,431,432,434,435,436,438,439,441,442,443,445,446,448,449,450,452,453,455,456,457,459,460,462,463,464,466,467,469,470,471,473,474,476,477,478,480,481,483,484,485,487,488,490,491,492,494,495,497,498,499,501,502,504,505,506,508,509,511,512,513,515,516,518,519,520,522,523,525,526,527,529,530,532,533]
def env:Env:={ scope:=PySem.Challenge.pw_roundmill_k44_quotient_and_root_left.main.scope,locals:=mainNs,globals:=mainNs,cells:=[],code:=(.ref 13),frame:=some 14 }
def Dn:List Stmt:=[T.top 0,T.top 1,T.top 2,T.top 3,T.top 4,T.top 5,T.top 6,T.top 7,T.top 8]
def Dm:List Stmt:=[T.top 9,T.top 10,T.top 11,T.top 12,T.top 13,T.top 14,T.top 15,T.top 16,T.top 17,T.top 18,T.top 19,T.top 20,T.top 21,T.top 22,T.top 23,T.top 24,T.top 25,T.top 26,T.top 27,T.top 28,T.top 29,T.top 30,T.top 31,T.top 32,T.top 33,T.top 34,T.top 35,T.top 36,T.top 37,T.top 38,T.top 39,T.top 40,T.top 41,T.top 42,T.top 43,T.top 44,T.top 45,T.top 46,T.top 47,T.top 48,T.top 49]
def Dl:List Stmt:=[T.top 50,T.top 51,T.top 52,T.top 53,T.top 54,T.top 55,T.top 56,T.top 57,T.top 58,T.top 59,T.top 60,T.top 61,T.top 62,T.top 63,T.top 64,T.top 65,T.top 66,T.top 67,T.top 68,T.top 69,T.top 70,T.top 71,T.top 72,T.top 73,T.top 74,T.top 75,T.top 76,T.top 77,T.top 78,T.top 79,T.top 80,T.top 81,T.top 82]
def q:Program:=PySem.W.view PySem.Challenge.pw_roundmill_k44_quotient_and_root_left [1,2,3,4,5,6,8,9,10,11,12,13,14,16,17,18,19,20,21,22,23,24,25,26,27,28,29,31,32,33,34,35,36,37,39,40,41,43,44,45,47,49,50,51,53,54,55,57,58,59,60,61,62,63,65,66,67,68,69,70,71,72,73,74,75,76,77,78,79,80,81,82]
end
end H
namespace H
open PySem PySem.W PySem.Calls PySem.Spec PyProof.Rows L2 EV ES
noncomputable section
def cB:Code:=Code.body (behindTheImports PySem.Challenge.pw_roundmill_k44_quotient_and_root_left) env
def row:RowW:=OpenRow.toRowW (OpenLaw.row PySem.Challenge.rw_roundmill_k44_quotient_and_root_left)
def Xt (s:Shared):Bool:=xlAt q [] s&&recOk (RowW.records row) s
end
theorem Ou:(fun (_:Program) (_:Program) (_:Env) (_:Code) (_:Shared->Bool)=>true) PySem.Challenge.pw_roundmill_k44_quotient_and_root_left q env cB Xt=true:=by k_qdec
set_option maxHeartbeats 0 in
theorem J4:∀ w:World,(fun os:OsState=>topGo treeTable PySem.Challenge.pw_roundmill_k44_quotient_and_root_left w 11 (some (.ref 6)) 12 (Shared.mk (boot_heap w.params) (Array.mk []) boot_drawn boot_toks os) (topStub PySem.Challenge.pw_roundmill_k44_quotient_and_root_left))=fun os:OsState=>some ((Shared.mk (ha w.params) ⟨[]⟩ (Drawn.mk 0 0 0 0) 187 os),Thread.mk (denote treeTable cB) cB (Pos.mk 0 0 0 0) [topFrame (Pos.mk 0 0 0 0)]):=by
 rewrite [PySem.W.Fast.te15667345088766844465,PySem.W.Fast.te14364793385576792824,PySem.W.Fast.te1436701756477425850,PySem.W.Fast.te11892475500146522536,PySem.W.Fast.te2060423359788512156]
 intro w
 kernel_rfl
set_option maxHeartbeats 0 in
theorem Dh:∀ w:World,(fun os:OsState=>segRun treeTable PySem.Challenge.pw_roundmill_k44_quotient_and_root_left w 11 (some (.ref 6)) 1 1 (Shared.mk (ha w.params) ⟨[]⟩ (Drawn.mk 0 0 0 0) 187 os) (blockOf (behindTheImports PySem.Challenge.pw_roundmill_k44_quotient_and_root_left) env cB (Pos.mk 0 0 0 0) [topFrame (Pos.mk 0 0 0 0)]))=fun os:OsState=>some (Flow.next,(SharedT.abs (SharedT.mk (t_0 w.params) 15 ↥2 ⟨[]⟩ (Drawn.mk 0 0 0 0) 187 os)),cB,(Pos.mk 0 0 0 0)):=by
 rewrite [PySem.W.Fast.te14374325043358763698,PySem.W.Fast.te14364793385576792824,PySem.W.Fast.te1436701756477425850,PySem.W.Fast.te2060423359788512156]
 intro w
 kernel_rfl
set_option maxHeartbeats 0 in
theorem OG:∀ w:World,(fun os:OsState=>segRunT treeTable PySem.Challenge.pw_roundmill_k44_quotient_and_root_left w 11 (some (.ref 6)) 1 1299 (SharedT.mk (t_0 w.params) 15 ↥2 ⟨[]⟩ (Drawn.mk 0 0 0 0) 187 os) (piecesOf Dn env cB (Pos.mk 0 0 0 0) [topFrame (Pos.mk 0 0 0 0)]))=fun os:OsState=>some (Flow.next,(SharedT.mk (t_1 w.params) 95 ↥2 ⟨[]⟩ (Drawn.mk 0 0 0 0) 296 os),cB,(Pos.mk 15 0 16 32)):=by
 rewrite [PySem.W.Fast.te10110043849684766642,PySem.W.Fast.te14364793385576792824,PySem.W.Fast.te1436701756477425850,PySem.W.Fast.te2060423359788512156]
 intro w
 kernel_rfl
set_option maxHeartbeats 0 in
theorem OF:∀ w:World,(fun os:OsState=>segRunT treeTable PySem.Challenge.pw_roundmill_k44_quotient_and_root_left w 11 (some (.ref 6)) 1 1300 (SharedT.mk (t_1 w.params) 95 ↥2 ⟨[]⟩ (Drawn.mk 0 0 0 0) 296 os) (piecesOf Dm env cB (Pos.mk 15 0 16 32) [topFrame (Pos.mk 0 0 0 0)]))=fun os:OsState=>some (Flow.next,(SharedT.mk (t_2 w.params) 330 ↥2 ⟨[]⟩ (Drawn.mk 0 0 0 0) 632 os),cB,(Pos.mk 178 0 180 26)):=by
 rewrite [PySem.W.Fast.te10110043849684766642,PySem.W.Fast.te14364793385576792824,PySem.W.Fast.te1436701756477425850,PySem.W.Fast.te2060423359788512156]
 intro w
 kernel_rfl
set_option maxHeartbeats 0 in
theorem OE:∀ w:World,(fun os:OsState=>segRunT treeTable PySem.Challenge.pw_roundmill_k44_quotient_and_root_left w 11 (some (.ref 6)) 1 997 (SharedT.mk (t_2 w.params) 330 ↥2 ⟨[]⟩ (Drawn.mk 0 0 0 0) 632 os) (piecesOf Dl env cB (Pos.mk 178 0 180 26) [topFrame (Pos.mk 0 0 0 0)]))=fun os:OsState=>some (Flow.next,(SharedT.mk (t_3 w.params) 534 ↥2 ⟨[]⟩ (Drawn.mk 0 0 0 0) 960 os),cB,(Pos.mk 414 0 425 15)):=by
 rewrite [PySem.W.Fast.te10110043849684766642,PySem.W.Fast.te14364793385576792824,PySem.W.Fast.te1436701756477425850,PySem.W.Fast.te2060423359788512156]
 intro w
 kernel_rfl
set_option maxHeartbeats 0 in
theorem J5:∀ w:World,(fun os:OsState=>topRun treeTable PySem.Challenge.pw_roundmill_k44_quotient_and_root_left w 11 (some (.ref 6)) 2 (SharedT.abs (SharedT.mk (t_3 w.params) 534 ↥2 ⟨[]⟩ (Drawn.mk 0 0 0 0) 960 os)) (Thread.mk (doneF Flow.next) cB (Pos.mk 414 0 425 15) [topFrame (Pos.mk 0 0 0 0)]))=fun os:OsState=>some ↥9:=by
 rewrite [PySem.W.Fast.te14082659384304107361,PySem.W.Fast.te14364793385576792824,PySem.W.Fast.te1436701756477425850,PySem.W.Fast.te2060423359788512156]
 intro w
 kernel_rfl
set_option maxHeartbeats 0 in
theorem GW:∀ w:World,((boot_heap w.params).isNs mainGlobals&&(Array.mk []:Array GenState).size == 0,(boot_heap w.params).objs.size,(boot_heap w.params).nsMap mainGlobals "__annotations__")=(true,11,(some (.ref 6))):=by
 rewrite [PySem.W.Fast.te8920871248978507458]
 intro w
 kernel_rfl
set_option maxHeartbeats 0 in
theorem l_1:∀ w:World,(fun os:OsState=>staticsOk ↥7 (boot_heap w.params) (hf w.params)&&namesBound PySem.Challenge.pw_roundmill_k44_quotient_and_root_left (hf w.params)&&gensDone ↥9&&laidKept (boot_heap w.params) (hf w.params))=fun os:OsState=>true:=by
 rewrite [PySem.W.Fast.te5923862056798008813,PySem.W.Fast.te1436701756477425850]
 intro w
 kernel_rfl
set_option maxHeartbeats 0 in
theorem Qu:∀ w:World,(fun os:OsState=>(openSeen q [] ↥7 Xt true ↥9).1)=fun os:OsState=>(openGood q []).1:=by
 unfold openSeen openGood
 dsimp only
 rewrite [PySem.W.Fast.te5160383126252970620,PySem.W.R.mapR_eq,PySem.W.Fast.te3399658132070893891,PySem.W.Fast.te5991557255702980513]
 intro w
 kernel_rfl
set_option maxHeartbeats 0 in
theorem Qt:∀ w:World,(fun os:OsState=>(openSeen q [] ↥7 Xt true ↥9).2.1)=fun os:OsState=>(openGood q []).2.1:=by
 unfold openSeen openGood
 dsimp only
 intro w
 kernel_rfl
set_option maxHeartbeats 0 in
theorem Qs:∀ w:World,(fun os:OsState=>(openSeen q [] ↥7 Xt true ↥9).2.2.1)=fun os:OsState=>(openGood q []).2.2.1:=by
 unfold openSeen openGood
 dsimp only
 rewrite [PySem.W.Fast.te10880121769531294198,PySem.W.Fast.te821141287760084731,PySem.W.R.mapR_eq,PySem.W.Fast.te3399658132070893891,PySem.W.Fast.te7409074990110511671,PySem.W.Fast.te13664370479719496447,PySem.W.Fast.te14722251495701143533,PySem.W.Fast.te5923862056798008813,PySem.W.Fast.te1436701756477425850,PySem.W.Fast.te10994771534591457954,PySem.W.Fast.te18408535023408442824]
 intro w
 kernel_rfl
set_option maxHeartbeats 0 in
theorem Qr:∀ w:World,(fun os:OsState=>(openSeen q [] ↥7 Xt true ↥9).2.2.2.1)=fun os:OsState=>(openGood q []).2.2.2.1:=by
 unfold openSeen openGood
 dsimp only
 rewrite [PySem.W.Fast.te479339242167458305]
 intro w
 kernel_rfl
set_option maxHeartbeats 0 in
theorem Qq:∀ w:World,(fun os:OsState=>(openSeen q [] ↥7 Xt true ↥9).2.2.2.2.1)=fun os:OsState=>(openGood q []).2.2.2.2.1:=by
 unfold openSeen openGood
 dsimp only
 rewrite [PySem.W.Fast.te16090120013241838585,PySem.W.Fast.te3247288618530077131]
 intro w
 kernel_rfl
set_option maxHeartbeats 0 in
theorem Qp:∀ w:World,(fun os:OsState=>(openSeen q [] ↥7 Xt true ↥9).2.2.2.2.2.1)=fun os:OsState=>(openGood q []).2.2.2.2.2.1:=by
 unfold openSeen openGood
 dsimp only
 rewrite [PySem.W.Fast.te2386780881361962483,PySem.W.Fast.te821141287760084731]
 intro w
 kernel_rfl
set_option maxHeartbeats 0 in
theorem Qo:∀ w:World,(fun os:OsState=>(openSeen q [] ↥7 Xt true ↥9).2.2.2.2.2.2.1)=fun os:OsState=>(openGood q []).2.2.2.2.2.2.1:=by
 unfold openSeen openGood
 dsimp only
 rewrite [PySem.W.Fast.te11698064438423848299]
 intro w
 kernel_rfl
set_option maxHeartbeats 0 in
theorem Qn:∀ w:World,(fun os:OsState=>(openSeen q [] ↥7 Xt true ↥9).2.2.2.2.2.2.2.1)=fun os:OsState=>(openGood q []).2.2.2.2.2.2.2.1:=by
 unfold openSeen openGood
 dsimp only
 rewrite [PySem.W.Fast.te7317090234206586261]
 intro w
 kernel_rfl
set_option maxHeartbeats 0 in
theorem Qm:∀ w:World,(fun os:OsState=>(openSeen q [] ↥7 Xt true ↥9).2.2.2.2.2.2.2.2)=fun os:OsState=>(openGood q []).2.2.2.2.2.2.2.2:=by
 unfold openSeen openGood
 dsimp only
 rewrite [PySem.W.Fast.te7369524293546568484]
 intro w
 kernel_rfl
set_option maxHeartbeats 0 in
theorem l_k:∀ w:World,(fun os:OsState=>as.map (Shared.heap ↥9).get?)=fun os:OsState=>(K w.params).map fun x=>some x.2:=by
 rewrite [PySem.W.R.mapR_eq]
 intro w
 kernel_rfl
theorem h_b:behindTheImports PySem.Challenge.pw_roundmill_k44_quotient_and_root_left=Dn++(Dm++(Dl++[])):=by kernel_rfl
theorem Kk (w:World) (os:OsState):topRun treeTable PySem.Challenge.pw_roundmill_k44_quotient_and_root_left w 11 (some (.ref 6)) (1299+(1300+(997+(2)))) (SharedT.abs (SharedT.mk (t_0 w.params) 15 ↥2 ⟨[]⟩ (Drawn.mk 0 0 0 0) 187 os)) (restOf (Dn++(Dm++(Dl++[]))) env cB (Pos.mk 0 0 0 0) [topFrame (Pos.mk 0 0 0 0)])=some ↥9 :=
 piece_app (segRun_of (congrFun (OG w) os)) (piece_app (segRun_of (congrFun (OF w) os)) (piece_app (segRun_of (congrFun (OE w) os)) (piece_nil (congrFun (J5 w) os))))
theorem run (w:World) (os:OsState):topRun treeTable PySem.Challenge.pw_roundmill_k44_quotient_and_root_left w 11 (some (.ref 6)) (12+(1+(1299+(1300+(997+(2)))))) (Shared.mk (boot_heap w.params) (Array.mk []) boot_drawn boot_toks os) (topStub PySem.Challenge.pw_roundmill_k44_quotient_and_root_left)=some ↥9 :=
 go_top (congrFun (J4 w) os) (piece_block (congrFun (Dh w) os) ((congrArg (fun b=>topRun treeTable PySem.Challenge.pw_roundmill_k44_quotient_and_root_left w 11 (some (.ref 6)) (1299+(1300+(997+(2)))) (SharedT.abs (SharedT.mk (t_0 w.params) 15 ↥2 ⟨[]⟩ (Drawn.mk 0 0 0 0) 187 os)) (restOf b env cB (Pos.mk 0 0 0 0) [topFrame (Pos.mk 0 0 0 0)])) h_b).trans (Kk w os)))
theorem opened:∀ w:World,(fencedOpening treeTable PySem.Challenge.pw_roundmill_k44_quotient_and_root_left w 7312).map (fun s=>(s.heap,s.gens,s.drawn,s.toks))=some (boot_heap w.params,Array.mk [],boot_drawn,boot_toks):=boot_open (by kernel_rfl) ↥3 (fun s=>by kernel_rfl)
theorem he:∀ P,as=(K P).map (·.1):=fun _=>by kernel_rfl
theorem left:LeftO PySem.Challenge.pw_roundmill_k44_quotient_and_root_left q [] Xt (kHook K as he).obs (kHook K as he).val 7312 :=
 LeftO.of_pieces opened GW run ↥3 fun w=>funext fun os=>Prod.ext (congrFun (l_1 w) os) (Prod.ext (Prod.ext (congrFun (Qu w) os) (Prod.ext (congrFun (Qt w) os) (Prod.ext (congrFun (Qs w) os) (Prod.ext (congrFun (Qr w) os) (Prod.ext (congrFun (Qq w) os) (Prod.ext (congrFun (Qp w) os) (Prod.ext (congrFun (Qo w) os) (Prod.ext (congrFun (Qn w) os) (congrFun (Qm w) os))))))))) (congrFun (l_k w) os))
end H
namespace EV
open PySem (Str)
theorem ag (k:Int):0<pw k:=Int.pow_pos ↥3
theorem aF (ha:0<=a) (hb:0<=b):pw (a+b)=pw a*pw b:=by
 unfold pw
 rw [Int.toNat_add ha hb,Int.pow_add]
theorem fo (ha:0<=a):pw (a+1)=2*pw a:=by
 rw [aF ha ↥3,Int.mul_comm]
 rfl
theorem fq (h:a<=b):pw a<=pw b:=by
 unfold pw
 have e1:((2^a.toNat:Nat):Int)=(2:Int)^a.toNat:=by simp
 have e2:((2^b.toNat:Nat):Int)=(2:Int)^b.toNat:=by simp
 rw [<- e1,<-e2]
 exact Int.ofNat_le.mpr (Nat.pow_le_pow_right ↥3 ⋯)
theorem kN:nb i<=k↔i.natAbs<2^k:=by
 unfold nb
 by_cases h:i=0
 ·subst h
  simp
  exact Nat.two_pow_pos k
 ·rw [if_neg h]
  have h0:i.natAbs≠0:=⋯
  rw [<- Nat.log2_lt h0]
  omega
theorem l5 (i:Int):i.natAbs<2^nb i:=kN.mp (Nat.le_refl _)
theorem d9 (h:i.natAbs<=j.natAbs):nb i<=nb j:=kN.mpr (Nat.lt_of_le_of_lt h (l5 j))
theorem sX (hi:nb i<=a) (hj:nb j<=b):nb (i+j)<=max a b+1:=by
 rw [kN] at hi hj ⊢
 have h1:2^a<=2^max a b:=Nat.pow_le_pow_right ↥3 (Nat.le_max_left a b)
 have h2:2^b<=2^max a b:=Nat.pow_le_pow_right ↥3 (Nat.le_max_right a b)
 rw [Nat.pow_succ]
 omega
theorem sW (i:Int):nb (-i)=nb i:=Nat.le_antisymm (d9 ⋯) (d9 ⋯)
theorem Ij (hi:nb i<=a) (hj:nb j<=b):nb (i - j)<=max a b+1:=by
 rw [Int.sub_eq_add_neg]
 exact sX hi (by rw [sW];exact hj)
theorem cc (hi:nb i<=a) (hj:nb j<=b):nb (i*j)<=a+b:=by
 rw [kN] at hi hj ⊢
 rw [Int.natAbs_mul,Nat.pow_add]
 rcases Nat.eq_zero_or_pos i.natAbs with h0 | h0
 ·rw [h0,Nat.zero_mul];exact Nat.mul_pos (Nat.two_pow_pos a) (Nat.two_pow_pos b)
 ·exact Nat.lt_of_lt_of_le (Nat.mul_lt_mul_of_pos_left hj h0) (Nat.mul_le_mul_right _ (Nat.le_of_lt hi))
theorem BY (h:0<j) (hj:nb j<=b):nb (i%j)<=b:=by
 refine Nat.le_trans (d9 ?_) hj
 have h1:=Int.emod_nonneg i (by omega:j≠0)
 have h2:=Int.emod_lt_of_pos i h
 omega
theorem uB {i j:Int} (h:0<j):(i / j).natAbs<=i.natAbs:=by
 have h3:i=j*(i / j)+i%j:=(Int.mul_ediv_add_emod i j).symm
 have h1:=Int.emod_nonneg i (by omega:j≠0)
 have h2:=Int.emod_lt_of_pos i h
 by_cases hi:0<=i
 ·have:=Int.ediv_nonneg hi (by omega:(0:Int)<=j)
  have:=Int.ediv_le_self j hi
  omega
 ·have h4:i / j<0:=Int.ediv_neg_of_neg_of_pos ⋯ h
  have h5:(j - 1)*(i / j)<=(j - 1)*(-1):=Int.mul_le_mul_of_nonneg_left ⋯ ⋯
  rw [Int.sub_mul,Int.one_mul] at h5
  generalize j*(i / j)=z at *
  omega
theorem pQ {i j:Int} {a:Nat} (h:0<j) (hi:nb i<=a):nb (i / j)<=a:=Nat.le_trans (d9 (uB h)) hi
theorem dI {k:Int} {c:Nat} (hk:k<=c):nb (pw k)<=c+1:=by
 rw [kN]
 unfold pw
 rw [Int.natAbs_pow]
 exact Nat.pow_lt_pow_right (a:=2) ↥3 ⋯
theorem jl (h0:0<=i):i<pw (nb i):=by
 have:=l5 i
 unfold pw
 have e:((2^((nb i:Int)).toNat:Nat):Int)=(2:Int)^((nb i:Int)).toNat:=by simp
 rw [<- e,show ((nb i:Int)).toNat=nb i by omega]
 omega
theorem MulOk.of (hi:nb i<=a) (hj:nb j<=b) (h:a+b<=134217728):MulOk i j:=by
 unfold MulOk
 omega
theorem fP.small (h:0<j) (hj:nb j<=9000):fP i j:=⟨h,.inl hj⟩
theorem EE:nb i<=nb i:=Nat.le_refl _
theorem AF (h:nb i<=a) (h2:a<=b):nb i<=b:=Nat.le_trans h h2
theorem ao (h:MulOk i j):dH (.int i) (.int j)=.ok (.int (i*j)):=by unfold dH;simp only;rw [if_pos h]
theorem d8 (h:fP i j):oDiv (.int i) (.int j)=.ok (.int (i / j)):=by unfold oDiv;simp only;rw [if_pos h]
theorem Er {i j:Int} (h:0<j):oMod (.int i) (.int j)=.ok (.int (i%j)):=by unfold oMod;simp only;rw [if_pos h]
theorem Aw {i j:Int} (h:0<j) (h2:j<18446744073709551616):oDiv (.int i) (.int j)=.ok (.int (i / j)):=d8 (fP.small h (by
 have:nb j<=64:=kN.mpr ⋯
 omega))
theorem ar (h:0<=j) (h2:(nb i:Int)+j<=134217728):bZ (.int i) (.int j)=.ok (.int (i*pw j)):=by unfold bZ;simp only;rw [if_pos ⟨h,h2⟩]
theorem rm {i j:Int} (h:0<=j):Ai (.int i) (.int j)=.ok (.int (i / pw j)):=by unfold Ai;simp only;rw [if_pos h]
section
variable {α β:Type} {d d':D} {δ:Dt} {C:String} {f:α->R β} {c:Option D}
theorem Fo (a:α):(R.ok a).bind f=f a:=rfl
theorem Fp:(R.ex C:R α).bind f=.ex C:=rfl
theorem Bi:(R.bad:R α).bind f=.bad:=rfl
theorem Bh {p:Prop} [Decidable p] (x y:R α):(if p then x else y).bind f=if p then x.bind f else y.bind f:=by split<;>rfl
theorem C7 {s:S}:(O.nx δ).then s=s δ:=rfl
theorem C6 {s:S}:(O.rt d).then s=.rt d:=rfl
theorem Dc {s:S}:(O.ex C δ).then s=.ex C δ:=rfl
theorem C8 {s:S}:(O.mk C δ).then s=.mk C δ:=rfl
theorem C9 {s:S}:(O.hx C δ).then s=.hx C δ:=rfl
theorem De {s:S}:(O.bk δ).then s=.bk δ:=rfl
theorem Dd {s:S}:(O.ct δ).then s=.ct δ:=rfl
theorem zE {s:S}:(O.bad).then s=.bad:=rfl
theorem zD {p:Prop} [Decidable p] (x y:O) {s:S}:(if p then x else y).then s=if p then x.then s else y.then s:=by split<;>rfl
theorem Hh:(O.rt d).res=.ok d:=rfl
theorem Hi:(O.nx δ).res=.ok .non:=rfl
theorem Hl:(O.ex C δ).res=.ex C:=rfl
theorem Hj:(O.mk C δ).res=.ex C:=rfl
theorem Hk:(O.hx C δ).res=.ex C:=rfl
theorem DH:O.bad.res=.bad:=rfl
theorem DG {p:Prop} [Decidable p] (x y:O):(if p then x else y).res=if p then x.res else y.res:=by split<;>rfl
theorem Jp {i:Nat}:asg i δ (.ok d)=.nx (δ.set i (some d)):=rfl
theorem Jq {i:Nat}:asg i δ (.ex C)=.ex C (noOwn δ):=rfl
theorem FF {i:Nat} {p:Prop} [Decidable p] (x y:R D):asg i δ (if p then x else y)=if p then asg i δ x else asg i δ y:=by split<;>rfl
theorem Gh:xpr δ (.ok d)=.nx δ:=rfl
theorem Gi:xpr δ (.ex C)=.ex C (noOwn δ):=rfl
theorem CG {p:Prop} [Decidable p] (x y:R D):xpr δ (if p then x else y)=if p then xpr δ x else xpr δ y:=by split<;>rfl
theorem Hd:rtn δ (.ok d)=.rt d:=rfl
theorem He:rtn δ (.ex C)=.ex C (noOwn δ):=rfl
theorem DC {p:Prop} [Decidable p] (x y:R D):rtn δ (if p then x else y)=if p then rtn δ x else rtn δ y:=by split<;>rfl
theorem IH {b:Bool} {x y:O}:ifO δ (.ok (.bl b)) x y=if b=true then x else y:=by cases b<;>rfl
theorem IG {x y:O}:ifO δ (.ex C) x y=.ex C (noOwn δ):=rfl
theorem ET {p:Prop} [Decidable p] (u v:R D) {x y:O}:ifO δ (if p then u else v) x y=if p then ifO δ u x y else ifO δ v x y:=by split<;>rfl
theorem zB {b:Bool} {x y:R β}:truth (.bl b) x y=if b=true then x else y:=by cases b<;>rfl
theorem IA {p:Prop} [Decidable p] {a b:Bool}:(if p then R.ok (D.bl a) else R.ok (D.bl b))=R.ok (D.bl (if p then a else b)):=by split<;>rfl
theorem ite_int {p:Prop} [Decidable p] {a b:Int}:(if p then R.ok (D.int a) else R.ok (D.int b))=R.ok (D.int (if p then a else b)):=by split<;>rfl
theorem ID {p:Prop} [Decidable p] {b:Bool}:((if p then b else false)=true)=(p/\b=true):=by by_cases h:p<;>simp [h]
theorem IC {p:Prop} [Decidable p] {b:Bool}:((if p then true else b)=true)=(p\/b=true):=by by_cases h:p<;>simp [h]
theorem IB {p:Prop} [Decidable p]:((if p then false else true)=true)=¬ p:=by by_cases h:p<;>simp [h]
theorem Gr:var 0 (none::δ)=.bad:=rfl
theorem CQ {i:Int}:var 0 (some (.int i)::δ)=.ok (.int i):=rfl
theorem Gq {b:Bool}:var 0 (some (.bl b)::δ)=.ok (.bl b):=rfl
theorem CM {x:PySem.Str}:var 0 (some (.str x)::δ)=.ok (.str x):=rfl
theorem CO:var 0 (some .non::δ)=.ok .non:=rfl
theorem CL {ds:List D}:var 0 (some (.tup ds)::δ)=.ok (.tup ds):=rfl
theorem CP {ds:List D}:var 0 (some (.lst ds)::δ)=.ok (.lst ds):=rfl
theorem CN {ds:List D}:var 0 (some (.own ds)::δ)=.bad:=rfl
theorem CT:var 0 (some (.exc C)::δ)=.ok (.exc C):=rfl
theorem CU:var 0 (some (.cls C)::δ)=.ok (.cls C):=rfl
theorem CS {fs:List (String×D)}:var 0 (some (.ins C fs)::δ)=.ok (.ins C fs):=rfl
theorem zq {n:Nat}:var (n+1) (c::δ)=var n δ:=rfl
theorem E6:evs [] δ=.ok []:=rfl
theorem A5 {e:E} {es:List E}:evs (e::es) δ=(e δ).bind fun d=>(evs es δ).bind fun ds=>.ok (d::ds):=rfl
theorem Ay {i j:Int}:cw (.int i) (.int j)=.ok (.int (i+j)):=rfl
theorem Ah {i j:Int}:cD (.int i) (.int j)=.ok (.int (i - j)):=rfl
theorem Aj {i:Int}:En (.int i)=.ok (.int (-i)):=rfl
theorem Es {i j:Int}:oLt (.int i) (.int j)=.ok (.bl (decide (i<j))):=rfl
theorem Et {i j:Int}:oLe (.int i) (.int j)=.ok (.bl (decide (i<=j))):=rfl
theorem Eu {i j:Int}:oGt (.int i) (.int j)=.ok (.bl (decide (j<i))):=rfl
theorem Ew {i j:Int}:oGe (.int i) (.int j)=.ok (.bl (decide (j<=i))):=rfl
theorem Ey {i j:Int}:oEq (.int i) (.int j)=.ok (.bl (decide (i=j))):=by simp [oEq,D.cmp,D.sc,D.beq,Bool.beq_eq_decide_eq]
theorem Ep {i j:Int}:oNe (.int i) (.int j)=.ok (.bl (decide (i≠j))):=by simp [oNe,D.cmp,D.sc,D.beq,Bool.beq_eq_decide_eq]
theorem Ex {i j:PySem.Str}:oEq (.str i) (.str j)=.ok (.bl (decide (i=j))):=by simp [oEq,D.cmp,D.sc,D.beq,Bool.beq_eq_decide_eq]
theorem Eo {i j:PySem.Str}:oNe (.str i) (.str j)=.ok (.bl (decide (i≠j))):=by simp [oNe,D.cmp,D.sc,D.beq,Bool.beq_eq_decide_eq]
theorem H0 {i j:Bool}:oEq (.bl i) (.bl j)=.ok (.bl (decide (i=j))):=by simp [oEq,D.cmp,D.sc,D.beq,Bool.beq_eq_decide_eq]
theorem Ap:qE .non=.ok ↥24:=rfl
theorem wL:kI .non=.ok ↥38:=rfl
theorem As:qE (.exc C)=.ok ↥38:=rfl
theorem wO:kI (.exc C)=.ok ↥24:=rfl
theorem Ar {i:Int}:qE (.int i)=.ok ↥38:=rfl
theorem wN {i:Int}:kI (.int i)=.ok ↥24:=rfl
theorem Bq {i j:Int}:Br [.int i,.int j]=.ok (.int (max i j)):=by
 unfold Br;simp only;congr 2;omega
theorem Bp {i j:Int}:Fy [.int i,.int j]=.ok (.int (min i j)):=by
 unfold Fy;simp only;congr 2;omega
theorem Bv {i:Int}:vj [.int i]=.ok (.int (if i<0 then -i else i)):=rfl
theorem Bt {ds:List D}:yV [.lst ds]=.ok (.int ds.length):=rfl
theorem Bs {ds:List D}:yV [.tup ds]=.ok (.int ds.length):=rfl
theorem Bu {i:Int}:Ow [.int i]=.ok (.int i):=rfl
theorem Fz {k:Bool}:Ow [.bl k]=.ok (.int (if k then 1 else 0)):=rfl
theorem sq {i:Int}:ip [.int i]=.ok (.int (nb i)):=rfl
theorem yE {ds:List D}:Jn [.lst ds]=.ok (.lst ds):=rfl
theorem yD {ds:List D}:Jn [.tup ds]=.ok (.lst ds):=rfl
theorem rL {i:Int}:jX [.int i,.ty "int"]=.ok ↥24:=rfl
theorem pT {i:Int}:jX [.int i,.ty "bool"]=.ok ↥38:=rfl
theorem rG {ds:List D}:jX [.tup ds,.ty "tuple"]=.ok ↥24:=rfl
theorem rK {ds:List D}:jX [.lst ds,.ty "list"]=.ok ↥24:=rfl
theorem uI:jX [.exc C,.ty "ValueError"]=if ak.contains C then .ok ↥24 else .bad:=by
 show (if (ak.contains C&&("ValueError" == "ValueError"))=true then _ else _)=_
 rw [show ("ValueError" == "ValueError")=true from rfl,Bool.and_true]
theorem rM {B:String}:jX [.exc C,.cls B]=if ak.contains C&&ak.contains B then .ok (.bl (C == B||B == "MillError")) else .bad:=rfl
theorem rJ {B:String}:jX [.non,.cls B]=if ak.contains B then .ok ↥38 else .bad:=rfl
theorem GP {k:S}:trn (.nx δ) k=k δ:=rfl
theorem GU {k:S}:trn (.ct δ) k=k δ:=rfl
theorem GV {k:S}:trn (.bk δ) k=.nx δ:=rfl
theorem GO {k:S}:trn (.rt d) k=.rt d:=rfl
theorem GS {k:S}:trn (.ex C δ) k=.ex C δ:=rfl
theorem GQ {k:S}:trn (.mk C δ) k=.mk C δ:=rfl
theorem GR {k:S}:trn (.hx C δ) k=.hx C δ:=rfl
theorem C5 {p:Prop} [Decidable p] (x y:O) {k:S}:trn (if p then x else y) k=if p then trn x k else trn y k:=by split<;>rfl
theorem AY:forL i b [] δ=.nx δ:=rfl
theorem fW:forL i b (d::ds) δ=trn (b (δ.set i (some d))) (forL i b ds):=rfl
theorem HP {ds:List D} {k:List D->O}:ovL δ (.ok (.lst ds)) k=k ds:=rfl
theorem HN {ds:List D} {k:List D->O}:ovT δ (.ok (.tup ds)) k=k ds:=rfl
theorem C3 {B:String} {i:Nat} {s:S}:BF (.nx δ) B i s=.nx δ:=rfl
theorem C4 {B:String} {i:Nat} {s:S}:BF (.ex C δ) B i s=if oy C B then forget i (s ((noOwn δ).set i (some (.exc C)))) else .bad:=rfl
theorem zA {p:Prop} [Decidable p] (x y:O) {B:String} {i:Nat} {s:S}:BF (if p then x else y) B i s=if p then BF x B i s else BF y B i s:=by split<;>rfl
theorem xY {i:Nat}:forget i (.nx δ)=.nx (δ.set i none):=rfl
theorem wZ:noOwn []=[]:=rfl
theorem uA:noOwn (none::δ)=none::noOwn δ:=rfl
theorem xb {i:Int}:noOwn (some (.int i)::δ)=some (.int i)::noOwn δ:=rfl
theorem AE {i:Bool}:noOwn (some (.bl i)::δ)=some (.bl i)::noOwn δ:=rfl
theorem wW {i:PySem.Str}:noOwn (some (.str i)::δ)=some (.str i)::noOwn δ:=rfl
theorem wY:noOwn (some .non::δ)=some .non::noOwn δ:=rfl
theorem wU {ds:List D}:noOwn (some (.tup ds)::δ)=some (.tup ds)::noOwn δ:=rfl
theorem xa {ds:List D}:noOwn (some (.lst ds)::δ)=some (.lst ds)::noOwn δ:=rfl
theorem xf:noOwn (some (.exc C)::δ)=some (.exc C)::noOwn δ:=rfl
theorem uQ {C:String}:oy C "MillError"=ak.contains C:=by simp [oy]
end
theorem l6 {ds:List D} {k:Nat} {d:D} (h:ds[k]? = some d):oIx (.tup ds) (.int k)=.ok d:=by
 obtain ⟨hk,he⟩:=List.getElem?_eq_some_iff.mp h
 unfold oIx ixN
 simp [he,hk]
theorem l7 {k:Nat} (h:ds[k]? = some d):oIx (.lst ds) (.int k)=.ok d:=by
 obtain ⟨hk,he⟩:=List.getElem?_eq_some_iff.mp h
 unfold oIx ixN
 simp [he,hk]
section
variable {a b c d e:D} {r:List D}
theorem ix0:oIx (.tup (a::r)) (.int 0)=.ok a:=l6 (k:=0) rfl
theorem ix1:oIx (.tup (a::b::r)) (.int 1)=.ok b:=l6 (k:=1) rfl
theorem ix2:oIx (.tup (a::b::c::r)) (.int 2)=.ok c:=l6 (k:=2) rfl
theorem ix3:oIx (.tup (a::b::c::d::r)) (.int 3)=.ok d:=l6 (k:=3) rfl
theorem Qz:oIx (.lst (a::r)) (.int 0)=.ok a:=l7 (k:=0) rfl
theorem Qy:oIx (.lst (a::b::r)) (.int 1)=.ok b:=l7 (k:=1) rfl
theorem Qx:oIx (.lst (a::b::c::r)) (.int 2)=.ok c:=l7 (k:=2) rfl
end
theorem QR {m:Nat} {gg:S}:fn 0 m gg []=(gg (List.replicate m none)).res:=rfl
theorem QQ {m:Nat} {gg:S} {a:D}:fn 1 m gg [a]=(gg (some a::List.replicate (m - 1) none)).res:=rfl
theorem QP {m:Nat} {gg:S} {a b:D}:fn 2 m gg [a,b]=(gg (some a::some b::List.replicate (m - 2) none)).res:=rfl
theorem QO {m:Nat} {gg:S} {a b c:D}:fn 3 m gg [a,b,c]=(gg (some a::some b::some c::List.replicate (m - 3) none)).res:=rfl
theorem QN {m:Nat} {gg:S} {a b c d:D}:fn 4 m gg [a,b,c,d]=(gg (some a::some b::some c::some d::List.replicate (m - 4) none)).res:=rfl
theorem QM {m:Nat} {gg:S} {a b c d e:D}:fn 5 m gg [a,b,c,d,e]=(gg (some a::some b::some c::some d::some e::List.replicate (m - 5) none)).res:=rfl
theorem QL {m:Nat} {gg:S} {a b c d e f:D}:fn 6 m gg [a,b,c,d,e,f]=(gg (some a::some b::some c::some d::some e::some f::List.replicate (m - 6) none)).res:=rfl
theorem QK {m:Nat} {gg:S} {a b c d e f g:D}:fn 7 m gg [a,b,c,d,e,f,g]=(gg (some a::some b::some c::some d::some e::some f::some g::List.replicate (m - 7) none)).res:=rfl
theorem QJ {m:Nat} {gg:S} {a b c d e f g h:D}:fn 8 m gg [a,b,c,d,e,f,g,h]=(gg (some a::some b::some c::some d::some e::some f::some g::some h::List.replicate (m - 8) none)).res:=rfl
section
variable {α β:Type} {a:α} {l:List α} {n:Nat} {p:Prop} {x y:α}
theorem t4:(a::l).length=l.length+1:=rfl
theorem vq:([]:List α).length=0:=rfl
theorem vr {f:α->β}:(l.map f).length=l.length:=List.length_map f
theorem tZ {f:α->β}:(a::l).map f=f a::l.map f:=rfl
theorem vp {f:α->β}:([]:List α).map f=[]:=rfl
theorem Cn:(a::l).set 0 x=x::l:=rfl
theorem Cm:(a::l).set (n+1) x=a::l.set n x:=rfl
theorem Cp:List.replicate 0 a=[]:=rfl
theorem Co:List.replicate (n+1) a=a::List.replicate n a:=rfl
theorem F9:0+n=n:=Nat.zero_add n
theorem F6:(if True then x else y)=x:=if_pos trivial
theorem F7:(if False then x else y)=y:=if_neg id
theorem OB:(false=true)=False:=by simp
theorem Oy:(true=true)=True:=by simp
theorem Cq:(!true)=false:=rfl
theorem Cr:(!false)=true:=rfl
theorem JK [Decidable p]:(decide p=true)=p:=decide_eq_true_eq
theorem Cu [Decidable True]:decide True=true:=by simp
theorem Cv [Decidable False]:decide False=false:=by simp
theorem Cw:(p/\True)=p:=by simp
theorem Ck:(True/\p)=p:=by simp
theorem Cy:(p/\False)=False:=by simp
theorem Ct:(False/\p)=False:=by simp
theorem F4:(p\/True)=True:=by simp
theorem F3:(True\/p)=True:=by simp
theorem F5:(p\/False)=p:=by simp
theorem F8:(False\/p)=p:=by simp
theorem Oz:(¬ True)=False:=by simp
theorem OA:(¬ False)=True:=by simp
end
section
variable {a b c:E} {s t:S} {δ:Dt} {i:Nat} {f h:D->D->R D} {k:D->R D} {es:List E} {F:List D->R D} {d:D} {C:String}
theorem JQ:seq s t δ=(s δ).then t:=rfl
theorem zy:assign i a δ=asg i δ (a δ):=rfl
theorem JR:ret a δ=rtn δ (a δ):=rfl
theorem Gv:OZ a δ=rtn δ (a (view δ)):=rfl
theorem JY:ifs a s t δ=ifO δ (a δ) (s δ) (t δ):=rfl
theorem GI:expr a δ=xpr δ (a δ):=rfl
theorem CW:raise C δ=.mk C δ:=rfl
theorem Gy:aq δ=.nx δ:=rfl
theorem Gw:O0 δ=.rt .non:=rfl
theorem J1:brk δ=.bk δ:=rfl
theorem GJ:cont δ=.ct δ:=rfl
theorem J0:con d δ=.ok d:=rfl
theorem J2:bin f a b δ=(a δ).bind fun x=>(b δ).bind fun y=>f x y:=rfl
theorem OC:un k a δ=(a δ).bind k:=rfl
theorem J3:eH a b δ=(a δ).bind fun d=>truth d (b δ) (.ok ↥38):=rfl
theorem OD:or_ a b δ=(a δ).bind fun d=>truth d (.ok ↥24) (b δ):=rfl
theorem JS:lS a δ=(a δ).bind fun d=>truth d (.ok ↥38) (.ok ↥24):=rfl
theorem JZ:ife c a b δ=(c δ).bind fun d=>truth d (a δ) (b δ):=rfl
theorem C1:chain f h a b c δ=(a δ).bind fun x=>(b δ).bind fun y=>(f x y).bind fun d=>truth d ((c δ).bind fun z=>h y z) (.ok ↥38):=rfl
theorem JN:d7 es δ=(evs es δ).bind fun ds=>.ok (.tup ds):=rfl
theorem JU:xy es δ=(evs es δ).bind fun ds=>.ok (.lst ds):=rfl
theorem GL:call F es δ=(evs es δ).bind F:=rfl
theorem JO:Jz s C i t δ=BF (s δ) C i t:=rfl
theorem CZ:K3 i a s δ=ovL δ (a δ) fun ds=>forL i s ds δ:=rfl
theorem CY:K2 i a s δ=ovT δ (a δ) fun ds=>forL i s ds δ:=rfl
theorem C0:K4 i a s δ=ovR δ (a δ) fun ds=>forL i s ds δ:=rfl
end
theorem oU:ak.contains "MillError"=true:=by decide
theorem vz:ak.contains "NoSize"=true:=by decide
theorem vD:ak.contains "NoBits"=true:=by decide
theorem t6:ak.contains "NoParts"=true:=by decide
theorem vA:ak.contains "NoRank"=true:=by decide
theorem oS:ak.contains "NotFinite"=true:=by decide
theorem yX:ak.contains "NoWay"=true:=by decide
theorem t7:ak.contains "NoFlags"=true:=by decide
theorem mX:ak.contains "NoFraction"=true:=by decide
theorem vx:ak.contains "Unlike"=true:=by decide
theorem yZ:ak.contains "Empty"=true:=by decide
theorem vC:ak.contains "NoLeft"=true:=by decide
theorem vy:ak.contains "NoText"=true:=by decide
theorem yY:ak.contains "NoRow"=true:=by decide
theorem vB:ak.contains "NoName"=true:=by decide
theorem t5:ak.contains "Stopped"=true:=by decide
section
variable {α:Type} {b:Bool} {ds es:List D} {i:Nat} {it:IT} {g h:E} {s:S} {δ:Dt} {C:String} {ks:List Nat} {k:List D->O} {x:D} {fs:List (String×D)} {F:List D->R D} {gs:List E} {cn m f:String}
theorem CC:(b&&true)=b:=by simp
theorem Cz:(true&&b)=b:=by simp
theorem CA:(false&&b)=false:=by simp
theorem CD:(b&&false)=false:=by simp
theorem Ge:(b||false)=b:=by simp
theorem Gf:(false||b)=b:=by simp
theorem Ga:(true||b)=true:=by simp
theorem Gd:(b||true)=true:=by simp
theorem GH:EZ i it s δ=ovI δ (it δ) fun ds=>forL i s ds δ:=rfl
theorem HQ:ovI δ (.ok ds) k=k ds:=rfl
theorem HR:ovI δ (.ex C) k=.ex C (noOwn δ):=rfl
theorem JW:itL g δ=(g δ).bind asL:=rfl
theorem JV:itT g δ=(g δ).bind asT:=rfl
theorem GD:QD g δ=(g δ).bind JJ:=rfl
theorem GB:QC g h δ=(evs [g,h] δ).bind JI:=rfl
theorem FH:asL (.lst ds)=.ok ds:=rfl
theorem FG:asT (.tup ds)=.ok ds:=rfl
theorem BB {n:Int} (h0 : -4611686018427387904<=n) (h1:n<4611686018427387904):JJ (.int n)=.ok (Hg 0 n):=by unfold JJ;simp only;rw [if_pos ⟨h0,h1⟩]
theorem BA {n m:Int} (h0 : -4611686018427387904<=n) (h1:n<4611686018427387904) (h2 : -4611686018427387904<=m) (h3:m<4611686018427387904):JI [.int n,.int m]=.ok (Hg n m):=by unfold JI;simp only;rw [if_pos ⟨h0,h1,h2,h3⟩]
theorem GK:comp it ks g δ=(it δ).bind fun ds=>if ds.length<=100000 then (runC (stC (con ↥24) g ks δ) ds).bind pY else .bad:=rfl
theorem zx:iU it ks g h δ=(it δ).bind fun ds=>if ds.length<=100000 then (runC (stC g h ks δ) ds).bind pY else .bad:=rfl
theorem Gz:FW cn m F g gs δ=(g δ).bind fun d=>if eX cn m d then (evs gs δ).bind fun ds=>F (d::ds) else .bad:=rfl
theorem JT:mk1 cn f [x]=.ok (.ins cn [(f,x)]):=rfl
theorem QS:vi cn f (.ins cn ((f,x)::fs))=.ok x:=by simp [vi]
theorem im1:eX cn m (.ins cn [(f,x)])=(m != f):=by
 have:eX cn m (.ins cn [(f,x)])=((cn == cn)&&(List.lookup m [(f,x)]).isNone):=rfl
 rw [this,List.lookup_cons]
 cases e:(m == f)<;>simp [e,bne]
theorem xc:noOwn (some (.ins C fs)::δ)=some (.ins C fs)::noOwn δ:=rfl
theorem yG {d:D}:Li [d,.tup ds]=l9 d ds:=rfl
theorem uJ {d:D}:l9 d []=.ok ↥38:=rfl
theorem rN {d c:D}:l9 d (c::ds)=(jX [d,c]).bind fun x=>truth x (.ok ↥24) (l9 d ds):=rfl
theorem uH {n:String}:jX [.non,.ty n]=if ["int","bool","str","tuple","list","ValueError"].contains n then .ok ↥38 else .bad:=rfl
theorem An:qE (.tup ds)=.ok ↥38:=rfl
theorem wJ:kI (.tup ds)=.ok ↥24:=rfl
theorem Aq:qE (.lst ds)=.ok ↥38:=rfl
theorem wM:kI (.lst ds)=.ok ↥24:=rfl
theorem Ao {z:PySem.Str}:qE (.str z)=.ok ↥38:=rfl
theorem wK {z:PySem.Str}:kI (.str z)=.ok ↥24:=rfl
end
theorem kG {x y:String} (h:(PySem.Str.ofString x)=PySem.Str.ofString y):x=y:=by
 rw [PySem.Str.ofString_eq_toList,PySem.Str.ofString_eq_toList] at h
 have h1:(x.toList.map Char.toNat).toArray=(y.toList.map Char.toNat).toArray:=congrArg PySem.Str.cps h
 have h2:x.toList.map Char.toNat=y.toList.map Char.toNat:=by simpa using h1
 have h3:∀ (l m:List Char),l.map Char.toNat=m.map Char.toNat->l=m:=by
  intro l
  induction l with
  | nil=>intro m e;cases m with | nil=>rfl | cons _ _=>cases e
  | cons c r ih =>
   intro m e
   cases m with
   | nil=>cases e
   | cons c' r' =>
    rw [List.map_cons,List.map_cons,List.cons.injEq] at e
    rw [Char.ext (UInt32.toNat_inj.mp e.1),ih r' e.2]
 exact String.toList_inj.mp (h3 _ _ h2)
theorem Ag {x y:String}:((PySem.Str.ofString x)=PySem.Str.ofString y)=(x=y):=propext ⟨kG,fun e=>by rw [e]⟩
theorem nV {a b c d:Int}:oEq (.tup [.int a,.int b]) (.tup [.int c,.int d])=.ok (.bl (decide (a=c/\b=d))):=by
 simp [oEq,D.cmp,D.sc,D.pl,D.beq,D.beqs,Bool.beq_eq_decide_eq]
theorem Am {a b c d:Int}:oNe (.tup [.int a,.int b]) (.tup [.int c,.int d])=.ok (.bl (!decide (a=c/\b=d))):=by
 simp [oNe,D.cmp,D.sc,D.pl,D.beq,D.beqs,Bool.beq_eq_decide_eq]
theorem Av {a b c d e f:Int}:oEq (.tup [.int a,.int b,.int e]) (.tup [.int c,.int d,.int f])=.ok (.bl (decide (a=c/\b=d/\e=f))):=by
 simp [oEq,D.cmp,D.sc,D.pl,D.beq,D.beqs,Bool.beq_eq_decide_eq]
theorem Al {a b c d e f:Int}:oNe (.tup [.int a,.int b,.int e]) (.tup [.int c,.int d,.int f])=.ok (.bl (!decide (a=c/\b=d/\e=f))):=by
 simp [oNe,D.cmp,D.sc,D.pl,D.beq,D.beqs,Bool.beq_eq_decide_eq]
theorem EC {p:Prop} [Decidable p]:((!decide p)=true)=¬ p:=by simp
theorem JX {g:E} {δ:Dt}:itA g δ=(g δ).bind asA:=rfl
theorem FK {ds:List D}:asA (.lst ds)=.ok ds:=rfl
theorem FJ {ds:List D}:asA (.tup ds)=.ok ds:=rfl
theorem JP {a:E} {lo hi:Option E} {δ:Dt}:slc a lo hi δ=(a δ).bind fun d=>(part lo δ).bind fun l=>(part hi δ).bind fun h=>oSl d l h:=rfl
theorem wC {δ:Dt}:part none δ=.ok none:=rfl
theorem Ac {i:Int} {δ:Dt}:part (some (con (.int i))) δ=.ok (some i):=rfl
theorem El {ds:List D} {lo hi:Option Int}:oSl (.lst ds) lo hi=.ok (.lst (cut ds lo hi)):=rfl
theorem rH {x:PySem.Str}:jX [.str x,.ty "str"]=.ok ↥24:=rfl
theorem Ak {a b c x y z:Int}:oNe (.tup [.int a,.int b,.int c]) (.tup [.int x,.int y,.int z])=.ok (.bl (decide (¬ (a=x/\b=y/\c=z)))):=by
 unfold oNe
 rw [if_pos (show D.cmp _ _=true from rfl)]
 congr 2
 simp only [D.beq,D.beqs]
 by_cases h1:a=x<;>by_cases h2:b=y<;>by_cases h3:c=z<;>simp [h1,h2,h3]
theorem Au {a b c x y z:Int}:oEq (.tup [.int a,.int b,.int c]) (.tup [.int x,.int y,.int z])=.ok (.bl (decide (a=x/\b=y/\c=z))):=by
 unfold oEq
 rw [if_pos (show D.cmp _ _=true from rfl)]
 congr 2
 simp only [D.beq,D.beqs]
 by_cases h1:a=x<;>by_cases h2:b=y<;>by_cases h3:c=z<;>simp [h1,h2,h3]
theorem Ek {a b:String}:(PySem.Str.ofString a=PySem.Str.ofString b)=(a=b):=by
 apply propext
 constructor
 ·intro h
  rw [PySem.Str.ofString_eq_toList,PySem.Str.ofString_eq_toList] at h
  have h1:a.toList.map Char.toNat=b.toList.map Char.toNat:=by
   have:=congrArg (fun z:PySem.Str=>z.cps.toList) h
   simpa using this
  have h2:a.toList=b.toList:=by
   refine List.map_inj_right (f:=Char.toNat) (fun x y e => ?_) |>.mp h1
   exact Char.toNat_inj.mp e
  exact String.toList_inj.mp h2
 ·intro h;rw [h]
theorem HZ {cn f:String} {d:D}:vi cn f (.ins cn [(f,d)])=.ok d:=by simp [vi,List.lookup]
theorem AO {cn m f:String} {d:D}:eX cn m (.ins cn [(f,d)]) = !(m == f):=by
 unfold eX
 cases h:m == f<;>simp [List.lookup,h]
theorem Im {cn f:String} {d:D}:mk1 cn f [d]=.ok (.ins cn [(f,d)]):=rfl
theorem AN:(!false)=true:=rfl
theorem GA {g h k:E}:QB g h k δ=(evs [g,h,k] δ).bind JH:=rfl
theorem Bz {n m c:Int} (h : -1099511627776<=n/\n<1099511627776 /\ -1099511627776<=m/\m<1099511627776) (h0:0<c) (h1:c<1048576):JH [.int n,.int m,.int c]=.ok (Lo n m c):=by unfold JH;simp only;rw [if_pos ⟨h,h0,h1⟩]
theorem zv {i:Nat}:HL i δ=.nx (δ.set i (some (.own []))):=rfl
theorem zw {i:Nat} {g:E}:HM i g δ=nU i δ fun ds=>Jr i δ ds (g (view δ)):=rfl
theorem zu {i:Nat}:HK i δ=nU i δ fun ds=>.nx (δ.set i (some (.own ds.reverse))):=rfl
theorem Ei {ds:List D} {l:Dt} {f:List D->O}:nU 0 (some (.own ds)::l) f=f ds:=rfl
theorem Eh {i:Nat} {c:Option D} {l:Dt} {f:List D->O}:nU (i+1) (c::l) f=nU i l f:=rfl
theorem FL {i:Nat} {ds:List D} {d:D} (h:D.flat d=true) (h2:ds.length<100000):Jr i δ ds (.ok d)=.nx (δ.set i (some (.own (ds++[d])))):=by unfold Jr;simp only;rw [if_pos ⟨h,h2⟩]
theorem FN {i:Nat} {ds:List D}:Jr i δ ds (.ex C)=.ex C (noOwn δ):=rfl
theorem Gx {i:Nat} {s:S}:Hr i s δ=s (pub i δ):=rfl
theorem Kq {ds:List D} {l:Dt}:pub 0 (some (.own ds)::l)=some (.lst ds)::l:=rfl
theorem Kp {i:Nat} {c:Option D} {l:Dt}:pub (i+1) (c::l)=c::pub i l:=by
 unfold pub
 rw [List.getElem?_cons_succ]
 split<;>rename_i q
 ·rw [q];rfl
 ·rfl
theorem wX {ds:List D}:noOwn (some (.own ds)::δ)=none::noOwn δ:=rfl
theorem zk:view []=[]:=rfl
theorem vM:view (none::δ)=none::view δ:=rfl
theorem zi {ds:List D}:view (some (.own ds)::δ)=some (.lst ds)::view δ:=rfl
theorem zm {i:Int}:view (some (.int i)::δ)=some (.int i)::view δ:=rfl
theorem CK {i:Bool}:view (some (.bl i)::δ)=some (.bl i)::view δ:=rfl
theorem zh {i:PySem.Str}:view (some (.str i)::δ)=some (.str i)::view δ:=rfl
theorem zj  : view (some (.non)::δ)=some (.non)::view δ:=rfl
theorem zg {ds:List D}:view (some (.tup ds)::δ)=some (.tup ds)::view δ:=rfl
theorem zl {ds:List D}:view (some (.lst ds)::δ)=some (.lst ds)::view δ:=rfl
theorem zp  : view (some (.exc C)::δ)=some (.exc C)::view δ:=rfl
theorem zo {fs:List (String×D)}:view (some (.ins C fs)::δ)=some (.ins C fs)::view δ:=rfl
theorem vP {i:Nat} {g:E}:FD i g δ=Lj i δ (g (view δ)):=rfl
theorem By {i:Nat} {n:Int}:Lj i δ (.ok (.int n))=.nx (δ.set i (some (.int n))):=rfl
theorem GF {c:E} {a b:S}:QG c a b δ=ifO δ (c (view δ)) (a δ) (b δ):=rfl
theorem vO {i:Nat} {g:E}:il i g δ=BG i δ (g (view δ)):=rfl
theorem zF {i:Nat} {rs:List D}:BG i δ (.ok (.lst rs))=.nx (δ.set i (some (.own rs))):=rfl
theorem zt {i:Nat} {a b:E}:HJ i a b δ=nU i δ fun ds=>JC i δ ds (b (view δ)) (a (view δ)):=rfl
theorem Dw {i:Nat} {ds:List D} {d:D} {k:Int} (h:D.flat d=true) (h0:0<=k) (h1:k<ds.length):JC i δ ds (.ok d) (.ok (.int k))=.nx (δ.set i (some (.own (ds.set k.toNat d)))):=by unfold JC;simp only;rw [if_pos ⟨h,h0,h1⟩]
theorem vN {i:Nat} {g:E}:DV i g δ=BG i δ (g δ):=rfl
theorem aI {a b:Prop} (x:a) (y:b):a/\b:=⟨x,y⟩
def EvS:=aI @Er<|aI @Aw<|aI @rm<|aI @Fo<|aI @Fp<|aI @Bi<|aI @Bh<|aI @C7<|aI @C6<|aI @Dc<|aI @C8<|aI @C9<|aI @De<|aI @Dd<|aI @zE<|aI @zD<|aI @Hh<|aI @Hi<|aI @Hl<|aI @Hj<|aI @Hk<|aI @DH<|aI @DG<|aI @Jp<|aI @Jq<|aI @FF<|aI @Gh<|aI @Gi<|aI @CG<|aI @Hd<|aI @He<|aI @DC<|aI @IH<|aI @IG<|aI @ET<|aI @zB<|aI @IA<|aI @ite_int<|aI @ID<|aI @IC<|aI @IB<|aI @Gr<|aI @CQ<|aI @Gq<|aI @CM<|aI @CO<|aI @CL<|aI @CP<|aI @CN<|aI @CT<|aI @CU<|aI @CS<|aI @zq<|aI @E6<|aI @A5<|aI @Ay<|aI @Ah<|aI @Aj<|aI @Es<|aI @Et<|aI @Eu<|aI @Ew<|aI @Ey<|aI @Ep<|aI @Ex<|aI @Eo<|aI @H0<|aI @Ap<|aI @wL<|aI @As<|aI @wO<|aI @Ar<|aI @wN<|aI @Bq<|aI @Bp<|aI @Bv<|aI @Bt<|aI @Bs<|aI @Bu<|aI @Fz<|aI @sq<|aI @yE<|aI @yD<|aI @rL<|aI @pT<|aI @rG<|aI @rK<|aI @uI<|aI @rM<|aI @rJ<|aI @GP<|aI @GU<|aI @GV<|aI @GO<|aI @GS<|aI @GQ<|aI @GR<|aI @C5<|aI @HP<|aI @HN<|aI @C3<|aI @C4<|aI @zA<|aI @xY<|aI @wZ<|aI @uA<|aI @xb<|aI @AE<|aI @wW<|aI @wY<|aI @wU<|aI @xa<|aI @xf<|aI @uQ<|aI @ix0<|aI @ix1<|aI @ix2<|aI @ix3<|aI @Qz<|aI @Qy<|aI @Qx<|aI @QR<|aI @QQ<|aI @QP<|aI @QO<|aI @QN<|aI @QM<|aI @QL<|aI @QK<|aI @QJ<|aI @t4<|aI @vq<|aI @vr<|aI @tZ<|aI @vp<|aI @Cn<|aI @Cm<|aI @Cp<|aI @Co<|aI @F9<|aI @F6<|aI @F7<|aI @OB<|aI @Oy<|aI @Cq<|aI @Cr<|aI @JK<|aI @Cu<|aI @Cv<|aI @Cw<|aI @Ck<|aI @Cy<|aI @Ct<|aI @F4<|aI @F3<|aI @F5<|aI @F8<|aI @Oz<|aI @OA<|aI @JQ<|aI @zy<|aI @JR<|aI @Gv<|aI @JY<|aI @GI<|aI @CW<|aI @Gy<|aI @Gw<|aI @J1<|aI @GJ<|aI @J0<|aI @J2<|aI @OC<|aI @J3<|aI @OD<|aI @JS<|aI @JZ<|aI @C1<|aI @JN<|aI @JU<|aI @GL<|aI @JO<|aI @CZ<|aI @CY<|aI @C0<|aI @oU<|aI @vz<|aI @vD<|aI @t6<|aI @vA<|aI @oS<|aI @yX<|aI @t7<|aI @mX<|aI @vx<|aI @yZ<|aI @vC<|aI @vy<|aI @yY<|aI @vB<|aI @t5<|aI @CC<|aI @Cz<|aI @CA<|aI @CD<|aI @Ge<|aI @Gf<|aI @Ga<|aI @Gd<|aI @GH<|aI @HQ<|aI @HR<|aI @JW<|aI @JV<|aI @GD<|aI @GB<|aI @FH<|aI @FG<|aI @BB<|aI @BA<|aI @GK<|aI @zx<|aI @Gz<|aI @JT<|aI @QS<|aI @im1<|aI @xc<|aI @yG<|aI @uJ<|aI @rN<|aI @uH<|aI @An<|aI @wJ<|aI @Aq<|aI @wM<|aI @Ao<|aI @wK<|aI @Ag<|aI @nV<|aI @Am<|aI @Av<|aI @Al<|aI @EC<|aI @JX<|aI @FK<|aI @FJ<|aI @JP<|aI @wC<|aI @Ac<|aI @El<|aI @rH<|aI @Ak<|aI @Au<|aI @Ek<|aI @HZ<|aI @AO<|aI @Im<|aI @AN<|aI @GA<|aI @Bz<|aI @zv<|aI @zw<|aI @zu<|aI @Ei<|aI @Eh<|aI @FL<|aI @FN<|aI @Gx<|aI @Kq<|aI @Kp<|aI @wX<|aI @zk<|aI @vM<|aI @zi<|aI @zm<|aI @CK<|aI @zh<|aI @zj<|aI @zg<|aI @zl<|aI @zp<|aI @zo<|aI @vP<|aI @By<|aI @GF<|aI @vO<|aI @zF<|aI @zt<|aI @Dw <| @vN
theorem sM:∀ {ds:List D},(∀ d∈ds,st d=.ok (some (f d)))->runC st ds=.ok (ds.map f)
 | [],_=>rfl
 | d::ds,h=>by
  unfold runC
  rw [h d (.head _),sM fun d hd=>h d (.tail _ hd)]
  rfl
theorem Ax (h:xs.length+ys.length<=100000):cw (.lst xs) (.lst ys)=.ok (.lst (xs++ys)):=by unfold cw;simp only;rw [if_pos h]
theorem bp {c:E} {b:S}:∀ {n:Nat} {δ:Dt},bF c b n δ ≠ .bad->∀ k,bF c b (n+k) δ=bF c b n δ
 | 0,δ,h,_=>absurd rfl h
 | n+1,δ,h,k=>by
  rw [show n+1+k=(n+k)+1 by omega]
  unfold bF at h ⊢
  split
  ·rename_i q
   rw [q] at h
   simp only at h
   unfold trn at h ⊢
   split
   ·rename_i q2;rw [q2] at h;exact bp h k
   ·rename_i q2;rw [q2] at h;exact bp h k
   ·rfl
   ·rfl
  ·rfl
  ·rfl
theorem sD {c:E} {b:S} {n:Nat} {δ:Dt} {o:O} (h:bF c b n δ=o) (ho:o ≠ .bad):jr c b δ=o:=by
 have hx:∃ n,bF c b n δ ≠ .bad:=⟨n,by rw [h];exact ho⟩
 unfold jr
 rw [dif_pos hx]
 have h1:=bp hx.choose_spec n
 have h2:=bp (show bF c b n δ ≠ .bad by rw [h];exact ho) hx.choose
 rw [Nat.add_comm] at h1
 rw [<- h1,h2,h]
theorem sE {c:E} {b:S} (I:Dt->Prop) (μ:Dt->Nat) (hs:∀ δ,I δ->(c δ=.ok ↥38)\/(c δ=.ok ↥24/\∃ δ',b δ=.nx δ'/\I δ'/\μ δ'<μ δ)) (δ:Dt) (h:I δ) :
  ∃ δ',jr c b δ=.nx δ'/\I δ'/\c δ'=.ok ↥38:=by
 have key:∀ (n:Nat) (δ:Dt),I δ->μ δ<n->∃ δ',bF c b n δ=.nx δ'/\I δ'/\c δ'=.ok ↥38:=by
  intro n
  induction n with
  | zero=>intro δ _ h;omega
  | succ n ih =>
   intro δ h hn
   rcases hs δ h with e | ⟨e,δ1,e1,i1,m1⟩
   ·exact ⟨δ,by unfold bF;rw [e],h,e⟩
   ·obtain ⟨δ2,e2,i2,c2⟩:=ih δ1 i1 ⋯
    exact ⟨δ2,by unfold bF;rw [e];simp only;rw [e1];exact e2,i2,c2⟩
 obtain ⟨δ',e,i,c'⟩:=key (μ δ+1) δ h (Nat.lt_succ_self _)
 exact ⟨δ',sD e (fun z=>nomatch z),i,c'⟩
end EV
local macro_rules | `(tactic| walk_at "pos")=>`(tactic| first | (with_reducible assumption) | decide +kernel | (with_reducible exact EV.ag _) | omega)
local macro_rules | `(tactic| walk_at "nb")=>`(tactic| first
 | (with_reducible assumption)
 | ((with_reducible apply EV.sX)<;>walk_at "nb")
 | ((with_reducible apply EV.Ij)<;>walk_at "nb")
 | ((with_reducible apply EV.cc)<;>walk_at "nb")
 | ((with_reducible apply EV.nb_neg_le)<;>walk_at "nb")
 | ((with_reducible apply EV.BY);(walk_at "pos");(walk_at "nb"))
 | ((with_reducible apply EV.pQ);(walk_at "pos");(walk_at "nb"))
 | ((with_reducible apply EV.nb_max)<;>walk_at "nb")
 | ((with_reducible apply EV.nb_min)<;>walk_at "nb")
 | ((with_reducible apply EV.nb_ite)<;>walk_at "nb")
 | exact EV.EE)
/- nb e<=a number -/
local macro_rules | `(tactic| walk_at "nbk")=>`(tactic| exact EV.AF (by walk_at "nb") (by decide +kernel))
local macro_rules | `(tactic| walk_at "mul")=>`(tactic| exact EV.MulOk.of (by walk_at "nb") (by walk_at "nb") (by decide +kernel))
local macro_rules | `(tactic| simp_arith [$ls,*])=>`(tactic| simp only [EV.EvS,reduceIte,Nat.reduceAdd,Nat.reduceSub,Int.reduceAdd,Int.reduceSub,Int.reduceMul,Int.reduceNeg,Int.reducePow,Int.reduceLT,Int.reduceLE,Int.reduceGT,Int.reduceGE,Int.reduceEq,Int.reduceNe,Int.reduceDiv,Int.reduceMod,Int.reduceToNat,String.reduceEq,String.reduceBEq,Nat.reduceLeDiff,Int.cast_ofNat_Int,Int.natCast_one,Int.natCast_zero,List.cons_append,List.nil_append,ne_eq,$ls,*])
namespace EV
open PySem (Str)
def Sz (E F:Int):Prop:=2<=E/\E<=15/\1<=F/\F<=112
def szE (c:Int):Int:=if c%8<4 then [5,8,11,15].getD (c%8).toNat 0 else if c%8<6 then 2+c / 8%14 else 2+c / 8%4
def szF (c:Int):Int:=if c%8<4 then [10,23,52,112].getD (c%8).toNat 0 else if c%8<6 then 1+c / 8 / 14%112 else 1+c / 8 / 4%5
theorem four {r:Int} (h0:0<=r) (h1:r<4):r=0\/r=1\/r=2\/r=3:=⋯
theorem Kg (c:Int):Sz (szE c) (szF c):=by
 unfold Sz szE szF
 by_cases h:c%8<4
 ·rw [if_pos h,if_pos h]
  rcases four (Int.emod_nonneg c ↥3) h with e | e | e | e<;>rw [e]<;>decide
 ·rw [if_neg h,if_neg h]
  by_cases h2:c%8<6
  ·rw [if_pos h2,if_pos h2];omega
  ·rw [if_neg h2,if_neg h2];omega
theorem ju {F:Int} (h:1<=F):2<=pw F:=fq (a:=1) h
theorem qZ {E:Int} (h:2<=E):4<=pw E:=fq (a:=2) h
theorem jj {F:Int} (h:1<=F):pw F=2*pw (F - 1):=by
 have:=fo (a:=F - 1) ⋯
 rw [show F - 1+1=F by omega] at this
 exact this
theorem part0 {P Q b:Int} (hP:0<P) (hQ:0<Q):b / (P*Q)=b / P / Q:=(Int.ediv_ediv_of_nonneg (Int.le_of_lt hP)).symm
theorem part1 {P Q b:Int} (hP:0<P) (hQ:0<Q):b%(P*Q) / Q=b / Q%P:=by
 have e1:=Int.emod_def b (P*Q)
 have e2:b - P*Q*(b / (P*Q))=b+Q*(-(P*(b / (P*Q)))):=by
  rw [Int.mul_neg,<-Int.sub_eq_add_neg,<-Int.mul_assoc,Int.mul_comm Q P]
 rw [e1,e2,Int.add_mul_ediv_left _ _ ⋯,Int.emod_def]
 have e3:b / (P*Q)=b / Q / P:=by rw [Int.mul_comm,Int.ediv_ediv_of_nonneg (Int.le_of_lt hQ)]
 rw [e3]
 omega
theorem part2 {P Q b:Int}:b%(P*Q)%Q=b%Q:=Int.emod_emod_of_dvd b (Int.dvd_mul_left P Q)
theorem Ab {P Q b:Int} (hP:0<P) (hQ:0<Q) (h0:0<=b) (h1:b<2*(P*Q)) :
  (0<=b / P / Q/\b / P / Q<=1)/\(0<=b / Q%P/\b / Q%P<P)/\(0<=b%Q/\b%Q<Q):=by
 refine ⟨⟨?_,?_⟩,⟨Int.emod_nonneg _ ⋯,Int.emod_lt_of_pos _ hP⟩,⟨Int.emod_nonneg _ ⋯,Int.emod_lt_of_pos _ hQ⟩⟩
 ·exact Int.ediv_nonneg (Int.ediv_nonneg h0 (Int.le_of_lt hP)) (Int.le_of_lt hQ)
 ·rw [<- part0 hP hQ]
  have:b / (P*Q)<2:=Int.ediv_lt_of_lt_mul (Int.mul_pos hP hQ) h1
  omega
theorem AS {ns:List Int} {j:Int} (h0:0<=j) (h:¬ j<(ns.length:Int)):ns.getD j.toNat 0=0:=by
 rw [List.getD_eq_getElem?_getD,List.getElem?_eq_none ⋯]
 rfl
theorem Oq:oIx (.lst (a::b::c::d::r)) (.int 3)=.ok d:=l7 (k:=3) rfl
theorem Qw:oIx (.lst (a::b::c::d::e::r)) (.int 4)=.ok e:=l7 (k:=4) rfl
def sgn (E F b:Int):Int:=b / pw E / pw F
def fld (E F b:Int):Int:=b / pw F%pw E
def fig (F b:Int):Int:=b%pw F
def In (E F b:Int):Prop:=0<=b/\b<pw (E+F+1)
theorem In.parts {E F b:Int} (h:Sz E F) (hb:In E F b):(0<=sgn E F b/\sgn E F b<=1)/\(0<=fld E F b/\fld E F b<pw E)/\(0<=fig F b/\fig F b<pw F):=by
 obtain ⟨h1,h2,h3,h4⟩:=h
 have eW:pw (E+F+1)=2*(pw E*pw F):=by rw [fo ⋯,aF ⋯ ⋯]
 exact Ab (P:=pw E) (Q:=pw F) (b:=b) (ag _) (ag _) hb.1 (by rw [<- eW];exact hb.2)
def kindS (E f g:Int):Str:=if f=0 then (if g=0 then "nought" else "faint") else if f=pw E - 1 then (if g=0 then "endless" else "none") else "plain"
def wh (F f g:Int):Int:=if f=0 then g else pw F+g
def lo (E F:Int):Int:=2 - pw (E - 1) - F
def po (E F f:Int):Int:=if f=0 then lo E F else lo E F+f - 1
def frT (w p:Int):Int:=if 0<=p then w*pw p else w
def frB (p:Int):Int:=if 0<=p then 1 else pw (-p)
theorem eJ {E F:Int} (h:Sz E F):pw E<=32768:=fq h.2.1
theorem wx {E F:Int} (h:Sz E F):pw F<=5192296858534827628530496329220096:=fq h.2.2.2
theorem nO {E F:Int} (h:Sz E F):pw (E - 1)<=16384:=fq (b:=14) (by have:=h.2.1;omega)
theorem dD {i:Int} {k:Nat} (h0:0<=i) (h:i<2^k):nb i<=k:=kN.mpr (by
 have:((i.natAbs:Nat):Int)<((2^k:Nat):Int):=by rw [Int.natAbs_of_nonneg h0];simpa using h
 exact Int.ofNat_lt.mp this)
theorem iH {s t:Int} (h0:0<=s) (h1:s<=1) (ht:nb t<=100000):MulOk s t:=by
 have:nb s<=1:=dD h0 ⋯
 unfold MulOk;omega
theorem eG {k:Int} (h0:0<=k) (h1:k<=1000000):bZ (.int 1) (.int k)=.ok (.int (pw k)):=by
 have:nb (1:Int)=1:=by decide
 rw [ar h0 ⋯,Int.one_mul]
theorem EY {ns:List Int} (hb:∀ m∈ns,nb m<=2^20) (k:Nat):nb (ns.getD k 0)<=2^20:=by
 rw [List.getD_eq_getElem?_getD]
 cases h:ns[k]? with
 | none=>exact Nat.zero_le _
 | some v=>exact hb v (List.mem_of_getElem? h)
theorem vF {E F b:Int} (h:Sz E F) (hb:In E F b):nb (wh F (fld E F b) (fig F b))<=128:=by
 obtain ⟨_,_,i3⟩:=hb.parts h
 have:=wx h
 have:=ag F
 unfold wh
 split
 ·exact dD i3.1 ⋯
 ·exact dD ⋯ ⋯
theorem DQ {E F b:Int} (h:Sz E F) (hb:In E F b) : -100000<=po E F (fld E F b)/\po E F (fld E F b)<=100000:=by
 obtain ⟨_,i2,_⟩:=hb.parts h
 have:=eJ h
 have:=nO h
 have:=ag (E - 1)
 obtain ⟨h1,h2,h3,h4⟩:=h
 unfold po lo
 split<;>omega
theorem Fe {α:Type} {xs:List α} {lo hi:Option Int} {d:α} (h:d∈EV.cut xs lo hi):d∈xs:=List.mem_of_mem_drop (List.mem_of_mem_take h)
end EV
namespace EV
def cd (E F b:Int):Int:=b%pw ↥0
def rk (E F b:Int):Int:=if pw ↥0<=b then -(cd E F b) else cd E F b
def vl (F c:Int):Int:=if c / pw F=0 then c else (pw F+c%pw F)*pw (c / pw F - 1)
def lnn (E F b:Int):Int:=if pw ↥0<=b then -(vl F (cd E F b)) else vl F (cd E F b)
def nn (E F b:Int):Prop:=pw ↥0 - pw F<cd E F b
noncomputable instance {E F b:Int}:Decidable (nn E F b):=inferInstanceAs (Decidable (_<_))
section
variable {E F a b c c':Int}
theorem Jg:0<=cd E F b/\cd E F b<pw ↥0:=by
 have:=ag ↥0
 exact ⟨Int.emod_nonneg _ ⋯,Int.emod_lt_of_pos _ this⟩
theorem Jh (h:Sz E F):cd E F b / pw F=fld E F b:=by
 obtain ⟨h1,h2,h3,h4⟩:=h
 unfold cd fld;rw [aF ⋯ ⋯,part1 (ag _) (ag _)]
theorem Jf (h:Sz E F):cd E F b%pw F=fig F b:=by
 obtain ⟨h1,h2,h3,h4⟩:=h
 unfold cd fig;rw [aF ⋯ ⋯,part2]
theorem aP (h:Sz E F):4*pw F<=pw ↥0:=by
 obtain ⟨h1,h2,h3,h4⟩:=h
 have:=ag F
 rw [aF ⋯ ⋯];exact Int.mul_le_mul_of_nonneg_right (qZ h1) ⋯
theorem CH (h:Sz E F):pw (E+F+1)=2*pw ↥0:=by
 obtain ⟨h1,h2,h3,h4⟩:=h
 exact fo ⋯
theorem B5 (F b:Int):0<=fig F b/\fig F b<pw F:=⟨Int.emod_nonneg _ (by have:=ag F;omega),Int.emod_lt_of_pos _ (ag F)⟩
theorem G5 (h:Sz E F) (hb:In E F b):sgn E F b=if pw ↥0<=b then 1 else 0:=by
 obtain ⟨h1,h2,h3,h4⟩:=id h
 have e0:sgn E F b=b / pw ↥0:=by unfold sgn;rw [aF ⋯ ⋯,part0 (ag _) (ag _)]
 have hw:=CH h
 have hp:=ag ↥0
 obtain ⟨b0,b1⟩:=hb
 rw [e0]
 split
 ·rename_i z
  have l:1<=b / pw ↥0:=Int.le_ediv_of_mul_le hp ⋯
  have u:b / pw ↥0<2:=Int.ediv_lt_of_lt_mul hp ⋯
  omega
 ·rename_i z
  exact Int.ediv_eq_zero_of_lt b0 ⋯
theorem ko:vl F 0=0:=by unfold vl;simp
theorem jP (h0:0<=c) (h:c<c'):vl F c<vl F c':=by
 have hQ:=ag F
 have hm:c / pw F<=c' / pw F:=Int.ediv_le_ediv hQ ⋯
 have hf0:0<=c / pw F:=Int.ediv_nonneg h0 ⋯
 have e:=Int.mul_ediv_add_emod c (pw F)
 have e':=Int.mul_ediv_add_emod c' (pw F)
 have r0:=Int.emod_nonneg c (show pw F≠0 by omega)
 have r1:=Int.emod_lt_of_pos c hQ
 have s0:=Int.emod_nonneg c' (show pw F≠0 by omega)
 have s1:=Int.emod_lt_of_pos c' hQ
 unfold vl
 generalize c / pw F=f at *
 generalize c' / pw F=f' at *
 generalize c%pw F=r at *
 generalize c'%pw F=r' at *
 by_cases z:f=0
 ·rw [if_pos z]
  subst z
  by_cases z':f'=0
  ·rw [if_pos z'];exact h
  ·rw [if_neg z']
   have p1:1<=pw (f' - 1):=ag _
   have:(pw F+r')*1<=(pw F+r')*pw (f' - 1):=Int.mul_le_mul_of_nonneg_left p1 ⋯
   rw [Int.mul_zero] at e
   omega
 ·rw [if_neg z,if_neg ⋯]
  by_cases q:f=f'
  ·subst q
   exact Int.mul_lt_mul_of_pos_right ⋯ (ag _)
  ·have e1:pw f=2*pw (f - 1):=jj ⋯
   have e2:pw f<=pw (f' - 1):=fq ⋯
   have k1:(pw F+r)*pw (f - 1)<(2*pw F)*pw (f - 1):=Int.mul_lt_mul_of_pos_right ⋯ (ag _)
   have k2:(2*pw F)*pw (f - 1)=pw F*pw f:=by rw [e1,Int.mul_comm 2,Int.mul_assoc]
   have k3:pw F*pw f<=pw F*pw (f' - 1):=Int.mul_le_mul_of_nonneg_left e2 ⋯
   have k4:pw F*pw (f' - 1)<=(pw F+r')*pw (f' - 1):=Int.mul_le_mul_of_nonneg_right ⋯ (Int.le_of_lt (ag _))
   omega
theorem BD (h0:0<=c) (h1:0<=c'):(vl F c<vl F c'↔c<c')/\(vl F c=vl F c'↔c=c'):=by
 rcases Int.lt_trichotomy c c' with q | q | q
 ·have:=jP (F:=F) h0 q;omega
 ·subst q;omega
 ·have:=jP (F:=F) h1 q;omega
theorem bH (h0:0<=c):0<=vl F c/\(vl F c=0↔c=0):=by
 have:=BD (F:=F) (Int.le_refl 0) h0
 have:=BD (F:=F) h0 (Int.le_refl 0)
 rw [ko] at *
 omega
theorem vL (h:Sz E F) (h0:0<=c) (h1:c<pw ↥0):c / pw F<pw E/\0<=c / pw F:=by
 obtain ⟨k1,k2,k3,k4⟩:=h
 refine ⟨Int.ediv_lt_of_lt_mul (ag _) ?_,Int.ediv_nonneg h0 (Int.le_of_lt (ag _))⟩
 rw [<- aF ⋯ ⋯];exact h1
def ab (E F b:Int):Int:=if rk E F b=pw ↥0 - pw F then b else if rk E F b<0 then pw ↥0 - (rk E F b+1) else rk E F b+1
def be (E F b:Int):Int:=if rk E F b = -↥29 then b else if 0<rk E F b then rk E F b - 1 else pw ↥0 - (rk E F b - 1)
theorem end_is (h:Sz E F):(pw E - 1)*pw F=pw ↥0 - pw F:=by
 obtain ⟨h1,h2,h3,h4⟩:=h
 rw [aF ⋯ ⋯,Int.sub_mul,Int.one_mul]
theorem CJ (h0:0<=c):vl F (c+1) - vl F c=pw (max (c / pw F - 1) 0):=by
 have hQ:=ag F
 have f0:0<=c / pw F:=Int.ediv_nonneg h0 ⋯
 have e:=Int.mul_ediv_add_emod c (pw F)
 have r0:=Int.emod_nonneg c (show pw F≠0 by omega)
 have r1:=Int.emod_lt_of_pos c hQ
 by_cases q:c%pw F+1<pw F
 ·have e1:(c+1) / pw F=c / pw F:=by
   rw [show c+1=(c%pw F+1)+pw F*↥21 by omega,Int.add_mul_ediv_left _ _ ⋯,Int.ediv_eq_zero_of_lt ⋯ q];omega
  have e2:(c+1)%pw F=c%pw F+1:=by
   rw [show c+1=(c%pw F+1)+pw F*↥21 by omega,Int.add_mul_emod_self_left,Int.emod_eq_of_lt ⋯ q]
  unfold vl
  rw [e1,e2]
  by_cases z:c / pw F=0
  ·rw [if_pos z,if_pos z,z]
   have:pw (max (0 - 1) 0)=1:=rfl
   omega
  ·rw [if_neg z,if_neg z,show max (c / pw F - 1) 0=c / pw F - 1 by omega,<-Int.sub_mul]
   rw [show pw F+(c%pw F+1) - (pw F+c%pw F)=1 by omega,Int.one_mul]
 ·have e1:(c+1) / pw F=c / pw F+1:=by
   rw [show c+1=0+pw F*(c / pw F+1) by rw [Int.mul_add];omega,Int.add_mul_ediv_left _ _ ⋯];simp
  have e2:(c+1)%pw F=0:=by
   rw [show c+1=0+pw F*(c / pw F+1) by rw [Int.mul_add];omega,Int.add_mul_emod_self_left];simp
  unfold vl
  rw [e1,e2,if_neg ⋯]
  by_cases z:c / pw F=0
  ·rw [if_pos z,z]
   have k1:pw (max (0 - 1) 0)=1:=rfl
   have k2:pw ((0:Int)+1 - 1)=1:=rfl
   rw [k1,k2]
   rw [z,Int.mul_zero] at e
   omega
  ·rw [if_neg z,show max (c / pw F - 1) 0=c / pw F - 1 by omega,show c / pw F+1 - 1=c / pw F by omega,jj (F:=c / pw F) ⋯]
   generalize pw (c / pw F - 1)=m
   rw [show pw F+0=pw F by omega,show pw F+c%pw F=2*pw F - 1 by omega,Int.sub_mul,Int.one_mul,<-Int.mul_assoc,Int.mul_comm (pw F) 2]
   omega
theorem fA {x a b:PySem.Str}:oIn (.str x) (.tup [.str a,.str b])=.ok (.bl (decide (a=x\/b=x))):=by
 unfold oIn isIn
 simp only [D.sc,List.all_cons,List.all_nil,Bool.and_self,Bool.and_true,if_true,List.any_cons,List.any_nil,D.beq,Bool.or_false]
 by_cases h1:a=x<;>by_cases h2:b=x<;>simp [h1,h2]
end
end EV
namespace EV
section
variable {t n p k a b c:Int}
theorem bc (h:p<=0):pw p=1:=by unfold pw;rw [Int.toNat_of_nonpos h];rfl
theorem cJ (hc:0<c):a*c<b*c↔a<b:=⟨fun h=>Int.lt_of_mul_lt_mul_right h (Int.le_of_lt hc),fun h=>Int.mul_lt_mul_of_pos_right h hc⟩
theorem nN (hk:0<=k):pw (p+k)*pw (-p)=pw k*pw p*pw (-(p+k)):=by
 by_cases h1:0<=p
 ·rw [bc (p := -p) ⋯,bc (p := -(p+k)) ⋯,aF h1 hk,Int.mul_one,Int.mul_one,Int.mul_comm]
 ·by_cases h2:0<=p+k
  ·rw [bc (p:=p) ⋯,bc (p := -(p+k)) ⋯,<-aF h2 ⋯,show p+k + -p=k by omega];omega
  ·rw [bc (p:=p) ⋯,bc (p:=p+k) ⋯,Int.one_mul,Int.mul_one,<-aF hk ⋯,show k + -(p+k) = -p by omega]
def Lt (t n p:Int):Prop:=t*pw (-p)<n*pw p
noncomputable instance:Decidable (Lt t n p):=inferInstanceAs (Decidable (_<_))
theorem iK (hk:0<=k):t*pw (-p)<pw k*(n*pw p)↔Lt t n (p+k):=by
 have z1:=ag (-(p+k))
 have z2:=ag (-p)
 unfold Lt
 rw [<- cJ z1,<-cJ (a:=t*pw (-(p+k))) z2]
 have e1:pw k*(n*pw p)*pw (-(p+k))=n*pw (p+k)*pw (-p):=by
  rw [Int.mul_assoc n,nN hk,<-Int.mul_assoc (pw k),Int.mul_comm (pw k) n]
  simp only [Int.mul_assoc]
 have e2:t*pw (-p)*pw (-(p+k))=t*pw (-(p+k))*pw (-p):=Int.mul_right_comm ..
 rw [e1,e2]
theorem Ik (h:0<t):pw ((nb t:Int) - 1)<=t:=by
 have h1:¬ nb t<=nb t - 1:=by
  have:nb t≠0:=fun z=>by
   have:=kN.mp (Nat.le_of_eq z)
   omega
  omega
 rw [kN] at h1
 have h2:((2^(nb t - 1):Nat):Int)<=t:=⋯
 unfold pw
 rw [show ((nb t:Int) - 1).toNat=nb t - 1 by omega]
 simpa using h2
theorem pP (h:0<t):1<=nb t:=by
 rcases Nat.eq_zero_or_pos (nb t) with z | z
 ·have:=kN.mp (Nat.le_of_eq z)
  omega
 ·exact z
def hgt (t n:Int):Int:=if Lt t n (nb t - nb n) then (nb t - nb n:Int) else nb t - nb n+1
theorem KU (ht:0<t) (hn:0<n):Lt t n ((nb t:Int) - nb n+1):=by
 have l1:=jl (i:=t) ⋯
 have l2:=Ik hn
 have l3:=pP hn
 unfold Lt
 generalize hp:(nb t:Int) - nb n+1=p
 have e:=nN (p:=p) (k:=(nb n:Int) - 1) ⋯
 rw [show p+((nb n:Int) - 1)=nb t by omega,bc (p := -(nb t:Int)) ⋯,Int.mul_one] at e
 have k1:t*pw (-p)<pw (nb t)*pw (-p):=Int.mul_lt_mul_of_pos_right l1 (ag _)
 have k2:pw ((nb n:Int) - 1)*pw p<=n*pw p:=Int.mul_le_mul_of_nonneg_right l2 (Int.le_of_lt (ag _))
 omega
theorem EH (ht:0<t) (hn:0<n):¬ Lt t n ((nb t:Int) - nb n - 1):=by
 have l1:=Ik ht
 have l2:=jl (i:=n) ⋯
 have l3:=pP ht
 unfold Lt
 generalize hp:(nb t:Int) - nb n - 1=p
 have e:=nN (p:=p) (k:=(nb n:Int)) ⋯
 rw [show p+(nb n:Int)=(nb t:Int) - 1 by omega,bc (p := -((nb t:Int) - 1)) ⋯,Int.mul_one] at e
 have k1:pw ((nb t:Int) - 1)*pw (-p)<=t*pw (-p):=Int.mul_le_mul_of_nonneg_right l1 (Int.le_of_lt (ag _))
 have k2:n*pw p<pw (nb n)*pw p:=Int.mul_lt_mul_of_pos_right l2 (ag _)
 omega
theorem xT (ht:0<t) (hn:0<n):Lt t n (hgt t n)/\¬ Lt t n (hgt t n - 1)/\hgt t n<=nb t /\ -(nb n:Int)<=hgt t n:=by
 have l1:=pP ht
 have l2:=pP hn
 unfold hgt
 by_cases g:Lt t n (nb t - nb n)
 ·rw [if_pos g]
  exact ⟨g,EH ht hn,⋯,⋯⟩
 ·rw [if_neg g]
  refine ⟨KU ht hn,?_,⋯,⋯⟩
  rw [show (nb t:Int) - nb n+1 - 1=nb t - nb n by omega]
  exact g
theorem rz (hn:0<n) (h:Lt t n p) (hq:p<=q):Lt t n q:=by
 have:=(iK (t:=t) (n:=n) (p:=p) (k:=q - p) ⋯).mp (by
  have z:1<=pw (q - p):=ag _
  have y:0<n*pw p:=Int.mul_pos hn (ag _)
  have:=Int.mul_le_mul_of_nonneg_right z (Int.le_of_lt y)
  unfold Lt at h
  omega)
 rw [show p+(q - p)=q by omega] at this
 exact this
def mh (E F t n:Int):Int:=max (lo E F) (hgt t n - F - 1)
def cW (p t:Int):Int:=t*pw (-p)
def cC (p n:Int):Int:=n*pw p
def rst (l s:Int):Int:=if l=0 then 0 else if 2*l<s then 1 else if 2*l=s then 2 else 3
theorem gU (hn:0<n):0<cC p n:=Int.mul_pos hn (ag _)
theorem oE (ht:0<=t):0<=cW p t:=Int.mul_nonneg ht (Int.le_of_lt (ag _))
variable {E F:Int}
theorem et (h:Sz E F) : -20000<=lo E F/\lo E F <= -1:=by
 have:=nO h
 have:2<=pw (E - 1):=ju (by have:=h.1;omega)
 obtain ⟨h1,h2,h3,h4⟩:=h
 unfold lo
 omega
theorem oB (h:Sz E F) (ht:0<t) (hn:0<n) :
  lo E F<=mh E F t n/\mh E F t n<=nb t/\cW ↥23 t<2*pw F*cC ↥23 n/\(lo E F<mh E F t n->pw F*cC ↥23 n<=cW ↥23 t):=by
 obtain ⟨g1,g2,g3,g4⟩:=xT ht hn
 have l:=et h
 obtain ⟨h1,h2,h3,h4⟩:=h
 have e:2*pw F=pw (F+1):=(fo ⋯).symm
 refine ⟨by unfold mh;omega,by unfold mh;omega,?_,fun q => ?_⟩
 ·rw [e]
  unfold cW cC
  rw [iK ⋯]
  exact rz hn g1 (by unfold mh;omega)
 ·have hP:mh E F t n=hgt t n - F - 1:=by unfold mh at q ⊢;omega
  have:=fun z=>g2 (by
   have:=(iK (t:=t) (n:=n) (p:=mh E F t n) (k:=F) ⋯).mp z
   rw [hP,show hgt t n - F - 1+F=hgt t n - 1 by omega] at this
   exact this)
  have:=Int.not_lt.mp this
  unfold cW cC
  omega
theorem EF (hA:0<=A) (hB:0<B) (hK:nb K<=m) (hm:m<=4000) (hw:A<K*B):fP A B:=by
 refine ⟨hB,.inr ?_⟩
 have n2:=cc hK (Nat.le_refl (nb B))
 have n3:nb A<=nb (K*B):=d9 ⋯
 omega
def bP (E F t n:Int):Int:=max (lo E F) ((hgt t n+1) / 2 - F - 1)
theorem kz (h:Sz E F) (ht:0<t) (hn:0<n) :
  lo E F<=bP E F t n/\bP E F t n<=nb t/\cW ↥11 t<(2*pw F)*(2*pw F)*cC ↥11 n/\(lo E F<bP E F t n->pw F*pw F*cC ↥11 n<=cW ↥11 t):=by
 obtain ⟨g1,g2,g3,g4⟩:=xT ht hn
 have l:=et h
 have nt:=pP ht
 obtain ⟨h1,h2,h3,h4⟩:=h
 have e:(2*pw F)*(2*pw F)=pw (2*F+2):=by
  rw [show 2*pw F=pw (F+1) from (fo ⋯).symm,<-aF ⋯ ⋯];congr 1;omega
 have e2:pw F*pw F=pw (2*F):=by rw [<- aF ⋯ ⋯];congr 1;omega
 refine ⟨by unfold bP;omega,by unfold bP;omega,?_,fun q => ?_⟩
 ·rw [e]
  unfold cW cC
  rw [iK ⋯]
  exact rz hn g1 (by unfold bP;omega)
 ·rw [e2]
  have:=fun z=>g2 (by
   have:=(iK (t:=t) (n:=n) (p:=2*bP E F t n) (k:=2*F) ⋯).mp z
   exact rz hn this (by unfold bP at q ⊢;omega))
  have:=Int.not_lt.mp this
  unfold cW cC
  omega
def FV (r A B:Int):Int:=if r*r*B=A then 0 else if 4*A<(2*r+1)*(2*r+1)*B then 1 else if 4*A=(2*r+1)*(2*r+1)*B then 2 else 3
theorem G2 {r s:Int} (hr:0<=r) (hs:0<=s) (h:r*r<s*s):r<s:=by
 refine Classical.byContradiction fun z => ?_
 have:=Int.mul_le_mul (show s<=r by omega) (show s<=r by omega) hs hr
 omega
theorem Il (h:Sz E F) (hA:0<=A) (hB:0<B) (hw:A<2*pw F*B):fP A B:=by
 refine ⟨hB,.inr ?_⟩
 have n1:nb (2*pw F)<=2+113:=cc ↥3 (dI (c:=112) h.2.2.2)
 have n2:=cc n1 (Nat.le_refl (nb B))
 have n3:nb A<=nb (2*pw F*B):=d9 ⋯
 omega
end
def yO (n r:Int):Prop:=0<=r/\r*r<=n/\n<(r+1)*(r+1)
end EV
namespace EV
section
variable {E F t n P w l A B K D:Int}
theorem CV (h:Sz E F) (hP:lo E F<=P):t*pw ↥20*cC P n=cW P t*(n*pw (P - lo E F)):=by
 have l:=et h
 have e:=nN (p := -P) (k:=P - lo E F) ⋯
 rw [show -P+(P - lo E F) = -(lo E F) by omega,Int.neg_neg,Int.neg_neg,bc (p:=lo E F) ⋯,Int.mul_one] at e
 unfold cW cC
 have e2:t*pw ↥20*(n*pw P)=t*n*(pw ↥20*pw P):=by
  rw [Int.mul_assoc,Int.mul_assoc,<-Int.mul_assoc (pw ↥20),Int.mul_comm (pw ↥20) n,Int.mul_assoc]
 have e3:t*pw (-P)*(n*pw (P - lo E F))=t*n*(pw (P - lo E F)*pw (-P)):=by
  rw [Int.mul_assoc,Int.mul_assoc,<-Int.mul_assoc (pw (-P)),Int.mul_comm (pw (-P)) n,Int.mul_assoc,Int.mul_comm (pw (-P))]
 rw [e2,e3,e]
def codeOf (E F P w:Int):Int:=(P - lo E F)*pw F+w
theorem iV (h:Sz E F) (hP:lo E F<=P) (w0:0<=w) (w1:w<2*pw F) (w2:lo E F<P->pw F<=w):0<=codeOf E F P w /\
  ((w<pw F/\P=lo E F/\codeOf E F P w=w)\/(pw F<=w/\codeOf E F P w / pw F=P - lo E F+1/\codeOf E F P w%pw F=w - pw F)):=by
 have hQ:=ag F
 have z:0<=(P - lo E F)*pw F:=Int.mul_nonneg ⋯ ⋯
 refine ⟨by unfold codeOf;omega,?_⟩
 by_cases g:w<pw F
 ·have e:P=lo E F:=by
   refine Classical.byContradiction fun q => ?_
   have:=w2 ⋯
   omega
  refine .inl ⟨g,e,?_⟩
  unfold codeOf
  rw [e,Int.sub_self,Int.zero_mul,Int.zero_add]
 ·refine .inr ⟨⋯,?_,?_⟩
  ·have e:codeOf E F P w=(w - pw F)+pw F*(P - lo E F+1):=by
    unfold codeOf;rw [Int.mul_add,Int.mul_comm (pw F) (P - lo E F)];omega
   rw [e,Int.add_mul_ediv_left _ _ ⋯,Int.ediv_eq_zero_of_lt ⋯ ⋯];omega
  ·have e:codeOf E F P w=(w - pw F)+pw F*(P - lo E F+1):=by
    unfold codeOf;rw [Int.mul_add,Int.mul_comm (pw F) (P - lo E F)];omega
   rw [e,Int.add_mul_emod_self_left,Int.emod_eq_of_lt ⋯ ⋯]
theorem oF (h:Sz E F) (hP:lo E F<=P) (w0:0<=w) (w1:w<2*pw F) (w2:lo E F<P->pw F<=w) :
  vl F (codeOf E F P w)=w*pw (P - lo E F)/\vl F (codeOf E F P w+1)=(w+1)*pw (P - lo E F):=by
 have hQ:=ag F
 obtain ⟨c0,c⟩:=iV h hP w0 w1 w2
 have s:=CJ (F:=F) c0
 have e1:vl F (codeOf E F P w)=w*pw (P - lo E F):=by
  rcases c with ⟨c1,c2,c3⟩ | ⟨c1,c2,c3⟩
  ·unfold vl
   rw [c3,c2,if_pos (Int.ediv_eq_zero_of_lt w0 c1),Int.sub_self,show pw 0=1 from rfl,Int.mul_one]
  ·unfold vl
   rw [c2,c3,if_neg ⋯,show P - lo E F+1 - 1=P - lo E F by omega,show pw F+(w - pw F)=w by omega]
 refine ⟨e1,?_⟩
 have e2:max (codeOf E F P w / pw F - 1) 0=P - lo E F:=by
  rcases c with ⟨c1,c2,c3⟩ | ⟨c1,c2,c3⟩
  ·rw [c3,Int.ediv_eq_zero_of_lt w0 c1,c2];omega
  ·rw [c2];omega
 rw [e2] at s
 rw [Int.add_mul,Int.one_mul,<-e1]
 omega
theorem GZ (hB:0<B) (hK:0<K) (l0:0<=l) (l1:l<B) (e:D*B=l*K):0<=D/\D<K/\(D=0↔l=0)/\(2*D<K↔2*l<B)/\(2*D=K↔2*l=B):=by
 have k0:0<=l*K:=Int.mul_nonneg l0 (Int.le_of_lt hK)
 have d0:0<=D:=by
  refine Classical.byContradiction fun q => ?_
  have:=Int.mul_neg_of_neg_of_pos (show D<0 by omega) hB
  omega
 have d1:D<K:=by
  rw [<- cJ hB,e,Int.mul_comm K]
  exact Int.mul_lt_mul_of_pos_right l1 hK
 have e2:2*D*B=2*l*K:=by rw [Int.mul_assoc,e,Int.mul_assoc]
 refine ⟨d0,d1,⟨fun q => ?_,fun q => ?_⟩,?_,?_⟩
 ·rw [q,Int.zero_mul] at e
  rcases Int.mul_eq_zero.mp e.symm with z | z
  ·exact z
  ·omega
 ·rw [q,Int.zero_mul] at e
  rcases Int.mul_eq_zero.mp e with z | z
  ·exact z
  ·omega
 ·rw [<- cJ hB,e2,Int.mul_comm K,cJ hK]
 ·constructor
  ·intro q
   rw [q,Int.mul_comm] at e2
   exact (Int.eq_of_mul_eq_mul_right ⋯ e2).symm
  ·intro q
   rw [q,Int.mul_comm B] at e2
   exact Int.eq_of_mul_eq_mul_right ⋯ e2
theorem between (h:Sz E F) (hn:0<n) (hP:lo E F<=P) (w0:0<=w) (w1:w<2*pw F) (w2:lo E F<P->pw F<=w) (l0:0<=l) (l1:l<cC P n) (e:cW P t=w*cC P n+l) :
  vl F (codeOf E F P w)*n<=t*pw ↥20/\t*pw ↥20<vl F (codeOf E F P w+1)*n/\(t*pw ↥20=vl F (codeOf E F P w)*n↔l=0) /\
  (2*(t*pw ↥20) - vl F (codeOf E F P w)*n - vl F (codeOf E F P w+1)*n<0↔2*l<cC P n) /\
  (2*(t*pw ↥20) - vl F (codeOf E F P w)*n - vl F (codeOf E F P w+1)*n=0↔2*l=cC P n):=by
 obtain ⟨v1,v2⟩:=oF h hP w0 w1 w2
 have u:=CV (t:=t) (n:=n) h hP
 have hB:=gU (p:=P) hn
 have hK:0<n*pw (P - lo E F):=Int.mul_pos hn (ag _)
 rw [v1,v2]
 have x1:w*pw (P - lo E F)*n=w*(n*pw (P - lo E F)):=by rw [Int.mul_assoc,Int.mul_comm (pw _) n]
 have x2:(w+1)*pw (P - lo E F)*n=w*(n*pw (P - lo E F))+n*pw (P - lo E F):=by rw [Int.add_mul,Int.one_mul,Int.add_mul,x1,Int.mul_comm (pw _) n]
 rw [x1,x2]
 generalize n*pw (P - lo E F)=K at *
 generalize t*pw ↥20=T at *
 rw [e,Int.add_mul] at u
 have s:=GZ (D:=T - w*K) hB hK l0 l1 (by
  rw [Int.sub_mul,u,Int.mul_right_comm w K];omega)
 omega
end
theorem bL {E F x:Int} (h:Sz E F) (x0:0<=x) (x1:x<pw ↥0):nb (vl F x)<=40000:=by
 obtain ⟨k1,k2,k3,k4⟩:=id h
 obtain ⟨v1,v2⟩:=vL h x0 x1
 have v3:=eJ h
 have v4:=wx h
 obtain ⟨r0,r1⟩:=B5 F x
 unfold fig at r0 r1
 unfold vl
 split
 ·exact Nat.le_trans (dD (k:=200) x0 (by
   have:pw ↥0<=pw 127:=fq ⋯
   have e:pw 127=170141183460469231731687303715884105728:=rfl
   omega)) ↥3
 ·have:=cc (dD (k:=128) (i:=pw F+x%pw F) ⋯ ⋯) (dI (k:=x / pw F - 1) (c:=32768) ⋯)
  omega
theorem js {E F x n:Int} (h:Sz E F) (x0:0<=x) (x1:x<pw ↥0) (nn:nb n<=10000000):MulOk (vl F x) n:=by
 have:=bL h x0 x1
 unfold MulOk;omega
theorem dn (hn:0<n) (x0:0<=x) (hxy:x<y):vl F x*n<vl F y*n:=Int.mul_lt_mul_of_pos_right (jP x0 hxy) hn
section
variable {E F T n c:Int}
theorem xA (h:Sz E F) (hn:0<n) (c0:0<=c) (h1:vl F c*n<=T) (h2:T<vl F (c+1)*n):T<n*pw F↔c<pw F:=by
 have hQ:=ag F
 have vQ:vl F (pw F)=pw F:=by
  unfold vl
  rw [Int.ediv_self ⋯,Int.emod_self,if_neg ↥3,Int.add_zero,show pw ((1:Int) - 1)=1 from rfl,Int.mul_one]
 constructor
 ·intro q
  refine Classical.byContradiction fun z => ?_
  have:vl F (pw F)*n<=vl F c*n:=by
   rcases Int.lt_or_eq_of_le (show pw F<=c by omega) with y | y
   ·exact Int.le_of_lt (dn hn ⋯ y)
   ·rw [y];exact Int.le_refl _
  rw [vQ,Int.mul_comm] at this
  omega
 ·intro q
  have:vl F (c+1)*n<=vl F (pw F)*n:=by
   rcases Int.lt_or_eq_of_le (show c+1<=pw F by omega) with y | y
   ·exact Int.le_of_lt (dn hn ⋯ y)
   ·rw [y];exact Int.le_refl _
  rw [vQ,Int.mul_comm (pw F)] at this
  omega
def jY (F T n c r:Int):Prop:=(r=0/\T=vl F c*n)\/(vl F c*n<T/\((r=1/\2*T - vl F c*n - vl F (c+1)*n<0)\/(r=2/\2*T - vl F c*n - vl F (c+1)*n=0)\/(r=3/\0<2*T - vl F c*n - vl F (c+1)*n)))
theorem AL (b:vl F c*n<=T/\T<vl F (c+1)*n/\(T=vl F c*n↔l=0)/\(2*T - vl F c*n - vl F (c+1)*n<0↔2*l<B)/\(2*T - vl F c*n - vl F (c+1)*n=0↔2*l=B)) (l0:0<=l):jY F T n c (rst l B):=by
 obtain ⟨b1,b2,b3,b4,b5⟩:=b
 unfold jY rst
 generalize vl F c*n=u at *
 generalize vl F (c+1)*n=v at *
 by_cases g0:l=0
 ·rw [if_pos g0];left;omega
 rw [if_neg g0]
 by_cases g1:2*l<B
 ·rw [if_pos g1];right;omega
 rw [if_neg g1]
 by_cases g2:2*l=B
 ·rw [if_pos g2];right;omega
 rw [if_neg g2];right;omega
end
section
variable {E F T n c c' r r' s t w p:Int}
theorem ym (hn:0<n) (c0:0<=c) (d0:0<=c') (h1:vl F c*n<=T) (h2:T<vl F (c+1)*n) (h3:vl F c'*n<=T) (h4:T<vl F (c'+1)*n):c=c':=by
 have up:∀ x y:Int,0<=x->x<=y->vl F x*n<=vl F y*n:=fun x y x0 q=>by
  rcases Int.lt_or_eq_of_le q with z | z
  ·exact Int.le_of_lt (dn hn x0 z)
  ·rw [z];exact Int.le_refl _
 rcases Int.lt_trichotomy c c' with q | q | q
 ·have:=up (c+1) c' ⋯ ⋯;omega
 ·exact q
 ·have:=up (c'+1) c ⋯ ⋯;omega
theorem uF (h1:jY F T n c r) (h2:jY F T n c r'):r=r':=by
 unfold jY at h1 h2
 omega
theorem az (h:Sz E F) (hs:0<=s/\s<=1) (c0:0<=c) (c1:c<pw ↥0):In E F ↥5/\sgn E F ↥5=s/\fld E F ↥5=c / pw F/\fig F ↥5=c%pw F:=by
 obtain ⟨k1,k2,k3,k4⟩:=id h
 have e1:cd E F ↥5=c:=by
  unfold cd
  rw [Int.add_comm,Int.add_mul_emod_self_right,Int.emod_eq_of_lt c0 c1]
 have e2:pw (E+F+1)=2*pw ↥0:=fo ⋯
 have hb:In E F ↥5:=by
  unfold In
  rw [e2]
  rcases (by omega:s=0\/s=1) with e | e<;>subst e<;>omega
 refine ⟨hb,?_,?_,?_⟩
 ·rw [G5 h hb]
  rcases (by omega:s=0\/s=1) with e | e<;>subst e
  ·rw [if_neg ⋯]
  ·rw [if_pos ⋯]
 ·have:=Jh (b:=s*pw ↥0+c) h
  rw [e1] at this
  exact this.symm
 ·have:=Jf (b:=s*pw ↥0+c) h
  rw [e1] at this
  exact this.symm
theorem iq:wh F ↥21 (c%pw F)*pw (po E F ↥21 - lo E F)=vl F c:=by
 unfold wh po vl
 split
 ·rename_i g
  rw [Int.sub_self,show pw 0=1 from rfl,Int.mul_one]
  have e:=Int.ediv_mul_add_emod c (pw F)
  rw [g] at e
  omega
 ·rw [show lo E F+c / pw F - 1 - lo E F=c / pw F - 1 by omega]
theorem uw (c0:0<=c):lo E F<=po E F ↥21:=by
 have:=Int.ediv_nonneg c0 (Int.le_of_lt (ag F))
 unfold po
 split<;>omega
theorem xX (h:Sz E F) (hp:lo E F<=p):frT w p*pw ↥20=w*pw (p - lo E F)*frB p:=by
 have l:=et h
 unfold frT frB
 split
 ·rw [Int.mul_assoc,<-aF ⋯ ⋯,Int.mul_one,show p + -lo E F=p - lo E F by omega]
 ·rw [Int.mul_assoc,<-aF ⋯ ⋯,show p - lo E F + -p = -lo E F by omega]
end
end EV
namespace EV
inductive Wy where
 | even | away | nought | up | down
def Wy.s:Wy->PySem.Str
 | .even=>"even" | .away=>"away" | .nought=>"nought" | .up=>"up" | .down=>"down"
def Wy.out:Wy->Int->Bool
 | .up,s=>decide (s=0)
 | .down,s=>decide (s=1)
 | _,_=>false
def Wy.brs:Wy->Int->Bool
 | .even,_=>true
 | .away,_=>true
 | w,s=>w.out s
def Wy.grw:Wy->Int->Bool->Int->Bool
 | .even,_,odd,r=>decide (r=3)||(decide (r=2)&&odd)
 | .away,_,_,r=>decide (2<=r)
 | w,s,_,_=>w.out s
def t9 (w:Wy):D:=.ins "Way" [("name",.str w.s)]
def ze:List PySem.Str:=["even","away","nought","up","down"]
def Wy.near (w:Wy) (o:Bool) (l:Int) (e:Bool):Bool:=match w with
 | .even=>decide (l<0)||(decide (l=0)&&e)
 | .away=>decide (l<0)
 | _ => !o
def Wy.far (w:Wy) (o:Bool) (l:Int) (e:Bool):Bool:=match w with
 | .even=>decide (0<l)||(decide (l=0)&&e)
 | .away=>decide (0<=l)
 | _=>o
def stK (w:Wy) (E F s c r:Int):Int:=if pw ↥0 - pw F<=c then (if w.brs s then pw ↥0 - pw F else pw ↥0 - pw F - 1) else if r=0 then c else if w.grw s (decide (c%2=1)) r then c+1 else c
def stF (w:Wy) (E F s c r:Int):Int:=if pw ↥0 - pw F<=c then 5 else if r=0 then 0 else if stK w E F s c r=pw ↥0 - pw F then 5 else if c<pw F then 3 else 1
theorem pO (h:0<=i):iG (.int i) (.int 1)=.ok (.int (i%2)):=by
 unfold iG
 simp only
 rw [if_pos ⟨h,by decide⟩]
 congr 2
 rw [show (1:Int).toNat=1 from rfl,Nat.and_one_is_mod]
 omega
theorem rn {x:PySem.Str} {ys:List PySem.Str}:gX (.str x) (.tup (ys.map D.str))=.ok (.bl (decide (x∉ys))):=by
 have h1:∀ ys:List PySem.Str,(ys.map D.str).all D.sc=true:=fun ys=>by induction ys with
  | nil=>rfl
  | cons a l ih=>simp only [List.map_cons,List.all_cons,ih,D.sc,Bool.and_self]
 have h2:∀ ys:List PySem.Str,((ys.map D.str).any fun y=>D.beq y (.str x))=decide (x∈ys):=fun ys=>by induction ys with
  | nil=>rfl
  | cons a l ih =>
   simp only [List.map_cons,List.any_cons,ih,D.beq]
   by_cases h:a=x
   ·subst h;simp
   ·have:¬ x=a:=fun z=>h z.symm
    simp [h,this]
 unfold gX oIn isIn
 simp only [D.sc,h1,Bool.and_self,if_true,h2,R.bind]
 by_cases h:x∈ys<;>simp [h]
theorem xj {w:Wy} {s c r l:Int} (h:(r=1/\l<0)\/(r=2/\l=0)\/(r=3/\0<l)) (g:w.grw s (decide (c%2=1)) r=false):w.near (w.out s) l (decide (c%2=0))=true:=by
 cases w<;>simp [Wy.near,Wy.grw,Wy.out] at g ⊢<;>first | exact g | omega
theorem B7 {w:Wy} {s c r l:Int} (h:(r=1/\l<0)\/(r=2/\l=0)\/(r=3/\0<l)) (g:w.grw s (decide (c%2=1)) r=true):w.far (w.out s) l (decide ((c+1)%2=0))=true:=by
 cases w<;>simp [Wy.far,Wy.grw,Wy.out] at g ⊢<;>first | exact g | omega
theorem oZ {E F s c:Int} (h:c<pw ↥0 - pw F):stK w E F s c 0=c/\stF w E F s c 0=0:=by
 unfold stF stK
 rw [if_neg ⋯,if_pos rfl,if_neg ⋯,if_pos rfl]
 exact ⟨rfl,rfl⟩
section
variable {E F s T T' n k c c' r r':Int} {w:Wy}
theorem BL (h:Sz E F) (c0:0<=c):0<=stK w E F s c r/\stK w E F s c r<=pw ↥0 - pw F:=by
 have h5:=aP h
 have hQ:=ag F
 unfold stK
 repeat' split
 all_goals omega
theorem Bw (hk:0<k) (h1:vl F c*n<=T) (h2:T<vl F (c+1)*n) (h3:jY F T n c r):vl F c*(n*k)<=T*k/\T*k<vl F (c+1)*(n*k)/\jY F (T*k) (n*k) c r:=by
 unfold jY at h3 ⊢
 rw [<- Int.mul_assoc,<-Int.mul_assoc]
 generalize vl F c*n=A at *
 generalize vl F (c+1)*n=B at *
 have e1:∀ x:Int,x<0->x*k<0:=fun x hx=>Int.mul_neg_of_neg_of_pos hx hk
 have e2:∀ x:Int,0<x->0<x*k:=fun x hx=>Int.mul_pos hx hk
 have e3:2*(T*k) - A*k - B*k=(2*T - A - B)*k:=by rw [Int.sub_mul,Int.sub_mul,Int.mul_assoc]
 have e4:∀ x y:Int,x<y->x*k<y*k:=fun x y q=>Int.mul_lt_mul_of_pos_right q hk
 refine ⟨Int.mul_le_mul_of_nonneg_right h1 (Int.le_of_lt hk),e4 _ _ h2,?_⟩
 rw [e3]
 rcases h3 with ⟨a,b⟩ | ⟨a,⟨b,d⟩ | ⟨b,d⟩ | ⟨b,d⟩⟩
 ·exact .inl ⟨a,by rw [b]⟩
 ·exact .inr ⟨e4 _ _ a,.inl ⟨b,e1 _ d⟩⟩
 ·exact .inr ⟨e4 _ _ a,.inr (.inl ⟨b,by rw [d,Int.zero_mul]⟩)⟩
 ·exact .inr ⟨e4 _ _ a,.inr (.inr ⟨b,e2 _ d⟩)⟩
theorem BK (g:c<pw ↥0 - pw F):stK w E F s c r=if r=0 then c else if w.grw s (decide (c%2=1)) r then c+1 else c:=by
 unfold stK
 rw [if_neg ⋯]
end
def At (F T n c r:Int):Prop:=0<=c/\vl F c*n<=T/\T<vl F (c+1)*n/\jY F T n c r
section
variable {E F s T T' n n' k c c' r r' b W P:Int} {w:Wy}
theorem Jo (hk:0<k) (h:At F T n c r):At F (T*k) (n*k) c r:=⟨h.1,Bw hk h.2.1 h.2.2.1 h.2.2.2⟩
theorem Cd (hk:0<k) (h:At F (T*k) (n*k) c r):At F T n c r:=by
 obtain ⟨h0,h1,h2,h3⟩:=h
 unfold jY at h3
 have q1:vl F c*(n*k)=vl F c*n*k:=(Int.mul_assoc _ _ _).symm
 have q2:vl F (c+1)*(n*k)=vl F (c+1)*n*k:=(Int.mul_assoc _ _ _).symm
 rw [q1] at h1
 rw [q2] at h2
 rw [q1,q2] at h3
 have e4:∀ x y:Int,x*k<y*k->x<y:=fun x y q=>Int.lt_of_mul_lt_mul_right q (Int.le_of_lt hk)
 have e3:2*(T*k) - vl F c*n*k - vl F (c+1)*n*k=(2*T - vl F c*n - vl F (c+1)*n)*k:=by rw [Int.sub_mul,Int.sub_mul,Int.mul_assoc 2]
 rw [e3] at h3
 have e1:∀ x:Int,x*k<0->x<0:=fun x hx=>e4 x 0 (by rw [Int.zero_mul];exact hx)
 have e2:∀ x:Int,0<x*k->0<x:=fun x hx=>e4 0 x (by rw [Int.zero_mul];exact hx)
 have e5:∀ x y:Int,x*k=y*k->x=y:=fun x y q=>Int.eq_of_mul_eq_mul_right ⋯ q
 refine ⟨h0,Int.le_of_mul_le_mul_right h1 hk,e4 _ _ h2,?_⟩
 rcases h3 with ⟨a,b⟩ | ⟨a,⟨b,d⟩ | ⟨b,d⟩ | ⟨b,d⟩⟩
 ·exact .inl ⟨a,e5 _ _ b⟩
 ·exact .inr ⟨e4 _ _ a,.inl ⟨b,e1 _ d⟩⟩
 ·exact .inr ⟨e4 _ _ a,.inr (.inl ⟨b,e5 _ 0 (by rw [d,Int.zero_mul])⟩)⟩
 ·exact .inr ⟨e4 _ _ a,.inr (.inr ⟨b,e2 _ d⟩)⟩
theorem yH (hn:0<n) (hn':0<n') (e:T'*n=T*n') (h:At F T n c r):At F T' n' c r:=by
 have:=Jo hn' h
 rw [<- e,Int.mul_comm n n'] at this
 exact Cd hn this
theorem FC (hn:0<n) (h:At F T n c r) (h':At F T n c' r'):c=c'/\r=r':=by
 have e:=ym hn h.1 h'.1 h.2.1 h.2.2.1 h'.2.1 h'.2.2.1
 subst e
 exact ⟨rfl,uF h.2.2.2 h'.2.2.2⟩
theorem Bx (hn:0<n) (c0:0<=c) (e:T=vl F c*n):At F T n c 0:=⟨c0,Int.le_of_eq e.symm,by rw [e];exact dn hn c0 ⋯,.inl ⟨rfl,e⟩⟩
theorem bB (hs:0<=s/\s<=1) (c0:0<=c) (c1:c<pw ↥0):↥5%pw ↥0=c/\↥5 / pw ↥0=s:=by
 have hH:=ag ↥0
 rw [Int.add_comm,Int.add_mul_emod_self_right,Int.emod_eq_of_lt c0 c1,Int.add_mul_ediv_right _ _ ⋯,Int.ediv_eq_zero_of_lt c0 c1]
 omega
theorem iM (h:Sz E F) (c0:0<=c) (c1:c<pw ↥0):c / pw F=pw E - 1↔pw ↥0 - pw F<=c:=by
 have hQ:=ag F
 have eM:=end_is h
 constructor
 ·intro z
  have:=Int.ediv_mul_le c (show pw F≠0 by omega)
  rw [z,eM] at this
  exact this
 ·intro z
  have a:=Int.le_ediv_of_mul_le (a:=pw E - 1) (b:=c) hQ (by rw [eM];exact z)
  have b:=(vL h c0 c1).1
  omega
theorem eV (h:Sz E F) (c0:0<=c) (c1:c<pw ↥0) :
  (pw ↥0 - pw F<c->kindS E ↥21 (c%pw F)=PySem.Str.ofString "none")/\(c=pw ↥0 - pw F->kindS E ↥21 (c%pw F)=PySem.Str.ofString "endless")/\(c=0->kindS E ↥21 (c%pw F)=PySem.Str.ofString "nought") /\
  (0<c->c<pw ↥0 - pw F->kindS E ↥21 (c%pw F)=PySem.Str.ofString "faint"\/kindS E ↥21 (c%pw F)=PySem.Str.ofString "plain"):=by
 have hQ:=ag F
 have h5:=aP h
 have eM:=end_is h
 have hE:=qZ h.1
 have l:=iM h c0 c1
 have e:=Int.ediv_mul_add_emod c (pw F)
 have r0:=Int.emod_nonneg c (show pw F≠0 by omega)
 unfold kindS
 refine ⟨fun q => ?_,fun q => ?_,fun q => ?_,fun q q2 => ?_⟩
 ·have f:=l.mpr ⋯
  rw [f,eM] at e
  rw [f,if_neg ⋯,if_pos rfl,if_neg ⋯]
 ·have f:=l.mpr ⋯
  rw [f,eM] at e
  rw [f,if_neg ⋯,if_pos rfl,if_pos ⋯]
 ·rw [q,Int.zero_ediv,Int.zero_emod,if_pos rfl,if_pos rfl]
 ·have f:¬ c / pw F=pw E - 1:=fun z=>by have:=l.mp z;omega
  by_cases g:c / pw F=0
  ·rw [g] at e
   rw [if_pos g,if_neg ⋯]
   exact .inl rfl
  ·rw [if_neg g,if_neg f]
   exact .inr rfl
theorem ow (h:Sz E F) (c0:0<=c) (c1:c<pw ↥0 - pw F) :
  0<=frT (wh F ↥21 (c%pw F)) (po E F ↥21)/\0<frB (po E F ↥21)/\nb (frT (wh F ↥21 (c%pw F)) (po E F ↥21))<=200000/\nb (frB (po E F ↥21))<=200000:=by
 have hQ:=ag F
 have hb:=(az (s:=0) (c:=c) h ↥3 c0 ⋯)
 have nw:=vF h hb.1
 have np:=DQ h hb.1
 rw [hb.2.2.1,hb.2.2.2] at nw
 rw [hb.2.2.1] at np
 have w0:0<=wh F ↥21 (c%pw F):=by
  have:=Int.emod_nonneg c (show pw F≠0 by omega)
  unfold wh
  split<;>omega
 generalize wh F ↥21 (c%pw F)=W at *
 generalize po E F ↥21=P at *
 refine ⟨?_,?_,?_,?_⟩
 ·unfold frT;split
  ·exact Int.mul_nonneg w0 (Int.le_of_lt (ag _))
  ·exact w0
 ·unfold frB;split
  ·decide
  ·exact ag _
 ·unfold frT;split
  ·have:=cc nw (dI (k:=P) (c:=100000) ⋯);omega
  ·omega
 ·unfold frB;split
  ·decide
  ·exact Nat.le_trans (dI (c:=100000) ⋯) ↥3
end
section
variable {E F E2 F2 c:Int}
theorem rep (h:Sz E F):∀ (p:Nat) (W:Int),0<=W->W<2*pw F->∃ c,0<=c/\vl F c=W*pw p
 | 0,W,w0,w1=>by
  have:=oF (P:=lo E F) h (Int.le_refl _) w0 w1 (fun q=>⋯)
  rw [Int.sub_self] at this
  exact ⟨_,(iV h (Int.le_refl _) w0 w1 (fun q=>⋯)).1,this.1⟩
 | p+1,W,w0,w1=>by
  by_cases g:pw F<=W
  ·have:=oF (P:=lo E F+(p+1:Nat)) h ⋯ w0 w1 (fun q=>g)
   rw [show lo E F+(p+1:Nat) - lo E F=(p+1:Nat) by omega] at this
   exact ⟨_,(iV (P:=lo E F+(p+1:Nat)) h ⋯ w0 w1 (fun q=>g)).1,this.1⟩
  ·obtain ⟨c,c0,e⟩:=rep h p (2*W) ⋯ ⋯
   refine ⟨c,c0,?_⟩
   rw [e,show ((p+1:Nat):Int)=(p:Int)+1 by omega,fo ⋯,Int.mul_assoc,Int.mul_left_comm]
theorem Gm (h:Sz E F):vl F ↥29=pw (pw (E - 1) + -(lo E F)):=by
 obtain ⟨h1,h2,h3,h4⟩:=id h
 have hQ:=ag F
 have hE:=qZ h1
 have e2:pw E=2*pw (E - 1):=by
  have:=fo (a:=E - 1) ⋯
  rw [show E - 1+1=E by omega] at this
  exact this
 unfold vl
 rw [<- end_is h,Int.mul_ediv_cancel _ ⋯,Int.mul_emod_left,if_neg ⋯,Int.add_zero,<-aF ⋯ ⋯]
 congr 1
 unfold lo
 omega
end
section
variable {E F s t n c T Z:Int} {w:Wy}
end
section
variable {E F P S A B G X t n r c:Int}
theorem wq (h:Sz E F) (hP:lo E F<=P):pw ↥20*pw ↥20*pw (2*P)=pw (-(2*P))*(pw (P - lo E F)*pw (P - lo E F)):=by
 have l:=et h
 by_cases g:0<=P
 ·rw [bc (p := -(2*P)) ⋯,Int.one_mul,show P - lo E F=P + -(lo E F) by omega,aF (a:=P) ⋯ ⋯,show 2*P=P+P by omega,aF (a:=P) ⋯ ⋯]
  generalize pw P=x
  generalize pw ↥20=z
  rw [Int.mul_assoc z z,Int.mul_left_comm z x,Int.mul_left_comm z x,Int.mul_assoc x z,Int.mul_comm z x]
 ·have e:pw ↥20=pw (-P)*pw (P - lo E F):=by rw [<- aF ⋯ ⋯];congr 1;omega
  rw [bc (p:=2*P) ⋯,Int.mul_one,show -(2*P) = -P + -P by omega,aF (a := -P) ⋯ ⋯,e]
  generalize pw (-P)=x
  generalize pw (P - lo E F)=z
  rw [Int.mul_assoc,Int.mul_assoc,Int.mul_left_comm z x]
theorem wu (h:Sz E F) (hP:lo E F<=P) (e:S*n=t*(pw ↥20*pw ↥20)):S*cC (2*P) n=cW (2*P) t*(pw (P - lo E F)*pw (P - lo E F)):=by
 unfold cW cC
 rw [<- Int.mul_assoc,e,Int.mul_assoc t,wq h hP,Int.mul_assoc t]
theorem oG (hB:0<B) (hG:0<G) (e:S*B=A*G):(X*G<=S↔X*B<=A)/\(X*G<S↔X*B<A)/\(X*G=S↔X*B=A):=by
 have q:X*G*B=X*B*G:=Int.mul_right_comm _ _ _
 have a1:X*G<S↔X*B<A:=by rw [<- cJ hB,q,e,cJ hG]
 have a2:X*G=S↔X*B=A:=by
  constructor
  ·intro z
   rw [z,e] at q
   exact (Int.eq_of_mul_eq_mul_right ⋯ q).symm
  ·intro z
   rw [z,<-e] at q
   exact Int.eq_of_mul_eq_mul_right ⋯ q
 omega
def RAt (F S c r:Int):Prop:=0<=c/\vl F c*vl F c<=S/\S<vl F (c+1)*vl F (c+1)/\((r=0/\vl F c*vl F c=S)\/(vl F c*vl F c<S/\((r=1/\4*S - (vl F c+vl F (c+1))*(vl F c+vl F (c+1))<0)\/(r=2/\4*S - (vl F c+vl F (c+1))*(vl F c+vl F (c+1))=0)\/(r=3/\0<4*S - (vl F c+vl F (c+1))*(vl F c+vl F (c+1))))))
theorem DF (h:Sz E F) (ht:0<t) (hn:0<n) (e:S*n=t*(pw ↥20*pw ↥20)) (hr:yO (cW ↥11 t / cC ↥11 n) r) :
  RAt F S (codeOf E F (bP E F t n) r) (FV r (cW ↥11 t) (cC ↥11 n)):=by
 obtain ⟨s1,s2,s3,s4⟩:=kz h ht hn
 have hB:=gU (p:=2*bP E F t n) hn
 have es:=wu h s1 e
 obtain ⟨r0,r1,r2⟩:=hr
 have qF:=ag F
 have w1:r<2*pw F:=G2 r0 ⋯ (by
  have:cW ↥11 t / cC ↥11 n<2*pw F*(2*pw F):=Int.ediv_lt_of_lt_mul hB s3
  omega)
 have w2:lo E F<bP E F t n->pw F<=r:=fun q=>by
  have y1:pw F*pw F<=cW ↥11 t / cC ↥11 n:=Int.le_ediv_of_mul_le hB (s4 q)
  have:=G2 (r:=pw F) (s:=r+1) ⋯ ⋯ ⋯
  omega
 have f1:r*r*cC ↥11 n<=cW ↥11 t:=by
  have:=Int.mul_le_mul_of_nonneg_right r1 (Int.le_of_lt hB)
  have:=Int.ediv_mul_le (cW ↥11 t) (show cC ↥11 n≠0 by omega)
  omega
 have f2:cW ↥11 t<(r+1)*(r+1)*cC ↥11 n:=by
  have:=Int.lt_ediv_add_one_mul_self (cW ↥11 t) hB
  have:=Int.mul_le_mul_of_nonneg_right (show cW ↥11 t / cC ↥11 n+1<=(r+1)*(r+1) by omega) (Int.le_of_lt hB)
  omega
 obtain ⟨v1,v2⟩:=oF h s1 r0 w1 w2
 have hG:=ag (bP E F t n - lo E F)
 have hGG:0<pw (bP E F t n - lo E F)*pw (bP E F t n - lo E F):=Int.mul_pos hG hG
 have q1:∀ x,x*pw (bP E F t n - lo E F)*(x*pw (bP E F t n - lo E F))=x*x*(pw (bP E F t n - lo E F)*pw (bP E F t n - lo E F)):=fun x=>by
  generalize pw (bP E F t n - lo E F)=g
  rw [Int.mul_assoc,Int.mul_left_comm g x,Int.mul_assoc]
 have q2:r*pw (bP E F t n - lo E F)+(r+1)*pw (bP E F t n - lo E F)=(2*r+1)*pw (bP E F t n - lo E F):=by
  rw [<- Int.add_mul];congr 1;omega
 unfold RAt
 rw [v1,v2,q2,q1,q1,q1]
 have c1:=oG (X:=r*r) hB hGG es
 have c2:=oG (X:=(r+1)*(r+1)) hB hGG es
 have c3:=oG (S:=4*S) (A:=4*cW ↥11 t) (X:=(2*r+1)*(2*r+1)) hB hGG (by rw [Int.mul_assoc,es,Int.mul_assoc])
 refine ⟨(iV h s1 r0 w1 w2).1,⋯,⋯,?_⟩
 unfold FV
 by_cases g0:r*r*cC ↥11 n=cW ↥11 t
 ·rw [if_pos g0];left;omega
 rw [if_neg g0]
 right
 refine ⟨⋯,?_⟩
 by_cases g1:4*cW ↥11 t<(2*r+1)*(2*r+1)*cC ↥11 n
 ·rw [if_pos g1];omega
 rw [if_neg g1]
 by_cases g2:4*cW ↥11 t=(2*r+1)*(2*r+1)*cC ↥11 n
 ·rw [if_pos g2];omega
 rw [if_neg g2];omega
theorem m8 {a b:Int} (ha:0<=a) (h:a<=b):a*a<=b*b:=Int.mul_le_mul h h ha ⋯
theorem Gn (hF:1<=F):vl F 1=1:=by
 have:=ju hF
 unfold vl
 rw [Int.ediv_eq_zero_of_lt ↥3 ⋯,if_pos rfl]
theorem vK:vl F (pw F)=pw F:=by
 have hQ:=ag F
 unfold vl
 rw [Int.ediv_self ⋯,Int.emod_self,if_neg ↥3,Int.add_zero,show pw ((1:Int) - 1)=1 from rfl,Int.mul_one]
theorem DE (h:Sz E F) (c0:0<c) (c1:c<pw ↥0 - pw F) {d:Int} (a:RAt F (vl F c*pw ↥20) d r):1<=d/\d+1<pw ↥0 - pw F/\(vl F c*pw ↥20<pw F*pw F↔d<pw F):=by
 obtain ⟨k1,k2,k3,k4⟩:=id h
 obtain ⟨d0,a1,a2,a3⟩:=a
 have hQ:=ju k3
 have h5:=aP h
 have l:=et h
 have hZ:=ag ↥20
 have hH:=ju (F:=E - 1) ⋯
 have vc:=bH (F:=F) (Int.le_of_lt c0)
 have S1:1<=vl F c*pw ↥20:=Int.mul_pos ⋯ hZ
 have vd:=bH (F:=F) d0
 refine ⟨?_,?_,?_,?_⟩
 ·refine Classical.byContradiction fun q => ?_
  have e:d=0:=⋯
  rw [e,show (0:Int)+1=1 from rfl,Gn k3] at a2
  omega
 ·have e2:pw E=2*pw (E - 1):=by
   have:=fo (a:=E - 1) ⋯
   rw [show E - 1+1=E by omega] at this
   exact this
  have eM:=end_is h
  have vm:vl F (pw ↥0 - pw F - pw F)=pw (pw (E - 1) - 1 + -(lo E F)):=by
   unfold vl
   rw [<- eM,show (pw E - 1)*pw F - pw F=(pw E - 2)*pw F by rw [show pw E - 2=pw E - 1 - 1 by omega,Int.sub_mul (pw E - 1),Int.one_mul],Int.mul_ediv_cancel _ ⋯,Int.mul_emod_left,if_neg ⋯,Int.add_zero,<-aF ⋯ ⋯]
   congr 1
   unfold lo
   omega
  have lt:d<pw ↥0 - pw F - pw F:=by
   refine Classical.byContradiction fun q => ?_
   have b1:pw (pw (E - 1) - 1 + -(lo E F))<=vl F d:=by
    rw [<- vm]
    rcases Int.lt_or_eq_of_le (show pw ↥0 - pw F - pw F<=d by omega) with z | z
    ·exact Int.le_of_lt (jP ⋯ z)
    ·rw [z];exact Int.le_refl _
   have b2:=m8 (Int.le_of_lt (ag _)) b1
   have b3:=jP (F:=F) (Int.le_of_lt c0) c1
   rw [Gm h] at b3
   have b4:=Int.mul_lt_mul_of_pos_right b3 hZ
   rw [<- aF ⋯ ⋯] at b2 b4
   have:=fq (a:=pw (E - 1) + -(lo E F) + -(lo E F)) (b:=pw (E - 1) - 1 + -(lo E F)+(pw (E - 1) - 1 + -(lo E F))) ⋯
   omega
  omega
 ·intro q
  refine Classical.byContradiction fun z => ?_
  have:pw F<=vl F d:=by
   rw [<- vK (F:=F)]
   rcases Int.lt_or_eq_of_le (show pw F<=d by omega) with y | y
   ·rw [vK]
    have:=jP (F:=F) (c:=pw F) ⋯ y
    rw [vK] at this
    omega
   ·rw [y];exact Int.le_refl _
  have:=m8 (show 0<=pw F by omega) this
  omega
 ·intro q
  have:vl F (d+1)<=pw F:=by
   rcases Int.lt_or_eq_of_le (show d+1<=pw F by omega) with y | y
   ·have:=jP (F:=F) (c:=d+1) ⋯ y
    rw [vK] at this
    omega
   ·rw [y,vK];exact Int.le_refl _
  have v1:=(bH (F:=F) (c:=d+1) ⋯).1
  have:=m8 v1 this
  omega
end
section
variable {E F s c r:Int}
theorem G0 (g:c<pw ↥0 - pw F):stF w E F s c r=if r=0 then 0 else if stK w E F s c r=pw ↥0 - pw F then 5 else if c<pw F then 3 else 1:=by
 unfold stF
 rw [if_neg ⋯]
end
end EV
namespace EV
open PySem
variable {E F s s' c c':Int}
def sx (s s':Int):Int:=if s=s' then 0 else 1
theorem ud:0<=sx s s'/\sx s s'<=1:=by unfold sx;split<;>decide
theorem Dj (hs:0<=s/\s<=1) (hs':0<=s'/\s'<=1):kJ (.int s) (.int s')=.ok (.int (sx s s')):=by
 rcases (by omega:s=0\/s=1) with e | e<;>rcases (by omega:s'=0\/s'=1) with e' | e'<;>subst e e'<;>rfl
theorem j9 (h:Sz E F) (c0:0<=c) (c1:c<pw ↥0):(kindS E ↥21 (c%pw F)=Str.ofString "none"↔pw ↥0 - pw F<c)/\(kindS E ↥21 (c%pw F)=Str.ofString "endless"↔c=pw ↥0 - pw F)/\(kindS E ↥21 (c%pw F)=Str.ofString "nought"↔c=0):=by
 have h5:=aP h
 have hQ:=ag F
 obtain ⟨a,b,d,f⟩:=eV h c0 c1
 have n1:Str.ofString "none"≠Str.ofString "endless":=by decide
 have n2:Str.ofString "none"≠Str.ofString "nought":=by decide
 have n3:Str.ofString "endless"≠Str.ofString "nought":=by decide
 have n4:Str.ofString "faint"≠Str.ofString "none"/\Str.ofString "faint"≠Str.ofString "endless"/\Str.ofString "faint"≠Str.ofString "nought":=by decide
 have n5:Str.ofString "plain"≠Str.ofString "none"/\Str.ofString "plain"≠Str.ofString "endless"/\Str.ofString "plain"≠Str.ofString "nought":=by decide
 by_cases g1:pw ↥0 - pw F<c
 ·rw [a g1];exact ⟨⟨fun _=>g1,fun _=>rfl⟩,⟨fun z=>absurd z n1,fun z=>⋯⟩,⟨fun z=>absurd z n2,fun z=>⋯⟩⟩
 by_cases g2:c=pw ↥0 - pw F
 ·rw [b g2];exact ⟨⟨fun z=>absurd z.symm n1,fun z=>⋯⟩,⟨fun _=>g2,fun _=>rfl⟩,⟨fun z=>absurd z n3,fun z=>⋯⟩⟩
 by_cases g3:c=0
 ·rw [d g3];exact ⟨⟨fun z=>absurd z.symm n2,fun z=>⋯⟩,⟨fun z=>absurd z.symm n3,fun z=>⋯⟩,⟨fun _=>g3,fun _=>rfl⟩⟩
 ·rcases f ⋯ ⋯ with e | e<;>rw [e]
  ·exact ⟨⟨fun z=>absurd z n4.1,fun z=>⋯⟩,⟨fun z=>absurd z n4.2.1,fun z=>⋯⟩,⟨fun z=>absurd z n4.2.2,fun z=>⋯⟩⟩
  ·exact ⟨⟨fun z=>absurd z n5.1,fun z=>⋯⟩,⟨fun z=>absurd z n5.2.1,fun z=>⋯⟩,⟨fun z=>absurd z n5.2.2,fun z=>⋯⟩⟩
theorem zS {t n t' n' U V W:Int} (h1:t*U=V*n) (h2:t'*U=W*n'):V*U*(n*t')=t*n'*U*W:=by
 have e1:V*U*(n*t')=V*n*(t'*U):=by ac_rfl
 have e2:t*n'*U*W=t*U*(W*n'):=by ac_rfl
 rw [e1,e2,h1,h2]
theorem kZ (h:Sz E F) (c0:0<=c):frT (wh F ↥21 (c%pw F)) (po E F ↥21)*pw ↥20=vl F c*frB (po E F ↥21):=by
 have fu:=xX (w:=wh F ↥21 (c%pw F)) h (uw (E:=E) (F:=F) c0)
 rw [iq] at fu
 exact fu
theorem AW (h:Sz E F) (c0:0<c) (c1:c<pw ↥0 - pw F):0<frT (wh F ↥21 (c%pw F)) (po E F ↥21):=by
 obtain ⟨f1,f2,f3,f4⟩:=ow h (Int.le_of_lt c0) c1
 have fu:=kZ h (Int.le_of_lt c0)
 have vc:=bH (F:=F) (Int.le_of_lt c0)
 refine Classical.byContradiction fun q => ?_
 have z:frT (wh F ↥21 (c%pw F)) (po E F ↥21)=0:=⋯
 rw [z,Int.zero_mul] at fu
 have:=Int.mul_pos (show 0<vl F c by omega) f2
 omega
end EV
namespace EV
theorem me:∀ bs:List Int,D.flats (bs.map D.int)=true
 | []=>rfl
 | b::bs=>by
  rw [List.map_cons]
  unfold D.flats
  rw [me bs]
  rfl
theorem mf {bs:List Int}:pY (bs.map D.int)=.ok (.lst (bs.map D.int)):=by
 unfold pY
 rw [if_pos (me bs)]
theorem Ff (f:α->β) (xs:List α) (lo hi:Option Int):EV.cut (xs.map f) lo hi=(EV.cut xs lo hi).map f:=by
 unfold EV.cut
 rw [List.length_map,List.map_take,List.map_drop]
theorem Fh (xs:List α) (lo hi:Option Int):(EV.cut xs lo hi).length<=xs.length:=by
 unfold EV.cut
 rw [List.length_take,List.length_drop]
 omega
end EV
namespace EV
open PySem
abbrev Tm:=Int×Int×Int
def tD (t:Tm):D:=.tup [.int t.1,.int t.2.1,.int t.2.2]
def tv (q:Int) (t:Tm):Int:=if t.1=1 then -(t.2.1*pw (t.2.2 - q)) else t.2.1*pw (t.2.2 - q)
def jd (q:Int):List Tm->Int
 | []=>0
 | t::r=>tv q t+jd q r
def oR:List Tm->Int
 | []=>0
 | t::r=>(r.map (·.2.2)).foldl min t.2.2
def Ce (t:Tm):Prop:=0<=t.2.1/\nb t.2.1<=1000 /\ -200000<=t.2.2/\t.2.2<=200000
theorem fold_min:∀ (l:List Int) (a:Int),l.foldl min a<=a/\(∀ x∈l,l.foldl min a<=x)/\(l.foldl min a=a\/l.foldl min a∈l)
 | [],a=>⟨Int.le_refl _,fun x hx=>(nomatch hx),.inl rfl⟩
 | b::l,a=>by
  obtain ⟨h1,h2,h3⟩:=fold_min l (min a b)
  rw [List.foldl_cons]
  refine ⟨⋯,fun x hx => ?_,?_⟩
  ·rcases List.mem_cons.mp hx with e | hx
   ·subst e;omega
   ·exact h2 x hx
  ·rcases h3 with e | e
   ·rw [e]
    by_cases g:a<=b
    ·exact .inl ⋯
    ·exact .inr (List.mem_cons.mpr (.inl ⋯))
   ·exact .inr (.tail _ e)
theorem rq (h:t∈ts):oR ts<=t.2.2:=by
 cases ts with
 | nil=>cases h
 | cons a r =>
  obtain ⟨h1,h2,_⟩:=fold_min (r.map (·.2.2)) a.2.2
  rcases List.mem_cons.mp h with e | h
  ·subst e;exact h1
  ·exact h2 _ (List.mem_map.mpr ⟨t,h,rfl⟩)
theorem sY (hn:ts≠[]):∃ t∈ts,oR ts=t.2.2:=by
 cases ts with
 | nil=>exact absurd rfl hn
 | cons x r =>
  obtain ⟨_,_,h3⟩:=fold_min (r.map (·.2.2)) x.2.2
  rcases h3 with e | e
  ·exact ⟨x,.head _,e⟩
  ·obtain ⟨t,ht,e'⟩:=List.mem_map.mp e
   exact ⟨t,.tail _ ht,e'.symm⟩
theorem xr (h0:a<=0/\0<=b) (h:∀ t∈ts,a<=t.2.2/\t.2.2<=b):a<=oR ts/\oR ts<=b:=by
 by_cases g:ts=[]
 ·subst g;exact h0
 ·obtain ⟨t,ht,e⟩:=sY g
  rw [e]
  exact h t ht
theorem xu (hn:ts≠[]) (h:∀ t∈ts,a<=t.2.2):a<=oR ts:=by
 obtain ⟨t,ht,e⟩:=sY hn
 rw [e]
 exact h t ht
theorem sG (hq:q<=p) (hp:p<=t.2.2):tv q t=tv p t*pw (p - q):=by
 have e:pw (t.2.2 - q)=pw (t.2.2 - p)*pw (p - q):=by rw [<- aF ⋯ ⋯];congr 1;omega
 unfold tv
 split
 ·rw [e,Int.neg_mul,Int.mul_assoc]
 ·rw [e,Int.mul_assoc]
theorem oY (hq:q<=p):∀ {ts:List Tm},(∀ t∈ts,p<=t.2.2)->jd q ts=jd p ts*pw (p - q)
 | [],_=>by unfold jd;rw [Int.zero_mul]
 | t::r,h=>by
  unfold jd
  rw [sG hq (h t (.head _)),oY hq fun t ht=>h t (.tail _ ht),Int.add_mul]
theorem Dk (h:∀ t∈ts,q<=t.2.2):jd q ts=jd (oR ts) ts*pw (oR ts - q):=by
 cases ts with
 | nil=>unfold jd;rw [Int.zero_mul]
 | cons t r=>exact oY (xu (by simp) h) fun t ht=>rq ht
theorem ints_of:∀ ns:List Int,intsOf (ns.map D.int)=some ns
 | []=>rfl
 | n::r=>by
  rw [List.map_cons]
  show (intsOf (r.map D.int)).map (n::·)=_
  rw [ints_of r]
  rfl
theorem xv:oP 0 [.lst ((ts.map (·.2.2)).map D.int)]=.ok (.int (oR ts)):=by
 unfold oP
 simp only [ints_of]
 cases ts with
 | nil=>rfl
 | cons t r=>rfl
theorem sL {st:D->R (Option D)} {f:Tm->Int} {ts:List Tm} (h:∀ t∈ts,st (tD t)=.ok (some (.int (f t)))):runC st (ts.map tD)=.ok ((ts.map f).map D.int):=by
 induction ts with
 | nil=>rfl
 | cons t r ih =>
  rw [List.map_cons]
  unfold runC
  rw [h t (.head _),ih fun t ht=>h t (.tail _ ht)]
  rfl
theorem AX (hq:q<=0) (hp:q<=p):frT w p*pw (-q)=w*pw (p - q)*frB p:=by
 unfold frT frB
 split
 ·rw [Int.mul_one,Int.mul_assoc,<-aF ⋯ ⋯]
  congr 2
 ·rw [Int.mul_assoc,<-aF ⋯ ⋯]
  congr 2
  omega
theorem jT [Decidable P]:nb (if P then -x else x)=nb x:=by
 split
 ·exact sW x
 ·rfl
theorem BJ:∀ {ts:List Tm},(∀ t∈ts,Ce t/\p<=t.2.2/\t.2.2 - p<=450000)->nb (jd p ts)<=451001+ts.length
 | [],_=>by unfold jd;decide
 | t::r,h=>by
  obtain ⟨⟨a1,a2,a3,a4⟩,a5,a6⟩:=h t (.head _)
  have ih:=BJ (p:=p) (ts:=r) fun t ht=>h t (.tail _ ht)
  have b1:nb (t.2.1*pw (t.2.2 - p))<=451001:=by
   have:=cc a2 (dI (k:=t.2.2 - p) (c:=450000) ⋯)
   omega
  have b2:nb (tv p t)<=451001:=by
   unfold tv
   split
   ·rw [sW];exact b1
   ·exact b1
  unfold jd
  rw [List.length_cons]
  exact Nat.le_trans (sX b2 ih) ⋯
def wt (E F s c:Int):Tm:=(s,wh F ↥21 (c%pw F),po E F ↥21)
theorem vE {E F s c:Int} (h:Sz E F) (c0:0<=c) (c1:c<pw ↥0 - pw F):Ce (wt E F s c)/\lo E F<=(wt E F s c).2.2/\(wt E F s c).2.2<=20000:=by
 have hQ:=ag F
 obtain ⟨b1,b2,b3,b4⟩:=az (s:=0) (c:=c) h ↥3 c0 ⋯
 have n:=vF h b1
 have i:=DQ h b1
 rw [b3] at n i
 rw [b4] at n
 have g:=uw (E:=E) (F:=F) c0
 have r0:=Int.emod_nonneg c (show pw F≠0 by omega)
 have d1:=(vL h c0 ⋯).1
 have hE:=eJ h
 have l:=et h
 obtain ⟨k1,k2,k3,k4⟩:=id h
 have hp1:=ag (E - 1)
 have x1 : -200000<=po E F ↥21:=⋯
 have x2:po E F ↥21<=200000:=⋯
 refine ⟨⟨?_,Nat.le_trans n ↥3,x1,x2⟩,g,?_⟩
 ·show 0<=wh F ↥21 (c%pw F)
  unfold wh
  split<;>omega
 ·show po E F ↥21<=20000
  have:=(vL h c0 (show c<pw ↥0 by omega)).2
  unfold po lo
  have hE1:=jj (F:=E) (by have:=h.1;omega)
  have hE2:=nO h
  split<;>omega
theorem JM {E F s c:Int} (c0:0<=c):tv (lo E F) (wt E F s c)=if s=1 then -(vl F c) else vl F c:=by
 unfold tv wt
 simp only
 rw [iq]
def xD:Tm ⊕ Int->D
 | .inl t=>tD t
 | .inr s=>.tup [.int s,.non,.int 0]
def nI (E F:Int) (x:Int×Int):Int:=x.1*pw ↥0+x.2
def Ll (E F:Int) (x:Int×Int):Prop:=(0<=x.1/\x.1<=1)/\0<=x.2/\x.2<pw ↥0
def xt (E F:Int) (x:Int×Int):Tm ⊕ Int:=if x.2=pw ↥0 - pw F then .inr x.1 else .inl (wt E F x.1 x.2)
def pm (E F:Int) (x y:Int×Int):Tm:=(sx x.1 y.1,wh F (x.2 / pw F) (x.2%pw F)*wh F (y.2 / pw F) (y.2%pw F),po E F (x.2 / pw F)+po E F (y.2 / pw F))
def pt (E F:Int) (x y:Int×Int):Tm ⊕ Int:=if x.2=pw ↥0 - pw F\/y.2=pw ↥0 - pw F then .inr (sx x.1 y.1) else .inl (pm E F x y)
theorem Kt {E F:Int} (h:Sz E F) (c0:0<=x.2) (c1:x.2<pw ↥0 - pw F) (d0:0<=y.2) (d1:y.2<pw ↥0 - pw F):Ce (pm E F x y)/\2*lo E F<=(pm E F x y).2.2/\(pm E F x y).2.2<=40000:=by
 obtain ⟨⟨a1,a2,a3,a4⟩,a5,a6⟩:=vE (s:=0) h c0 c1
 obtain ⟨⟨b1,b2,b3,b4⟩,b5,b6⟩:=vE (s:=0) h d0 d1
 have hQ:=ag F
 obtain ⟨x1,x2,x3,x4⟩:=az (s:=0) (c:=x.2) h ↥3 c0 ⋯
 have n:=vF h x1
 rw [x3,x4] at n
 obtain ⟨y1,y2,y3,y4⟩:=az (s:=0) (c:=y.2) h ↥3 d0 ⋯
 have n':=vF h y1
 rw [y3,y4] at n'
 have l:=et h
 unfold wt at *
 simp only at *
 unfold pm
 refine ⟨⟨Int.mul_nonneg a1 b1,Nat.le_trans (cc n n') ↥3,?_,?_⟩,?_,?_⟩<;>simp only<;>omega
theorem Ks {E F:Int} (c0:0<=x.2) (d0:0<=y.2):tv (2*lo E F) (pm E F x y)=if sx x.1 y.1=1 then -(vl F x.2*vl F y.2) else vl F x.2*vl F y.2:=by
 have a:=iq (E:=E) (F:=F) (c:=x.2)
 have b:=iq (E:=E) (F:=F) (c:=y.2)
 have g1:=uw (E:=E) (F:=F) c0
 have g2:=uw (E:=E) (F:=F) d0
 have e:pw (po E F (x.2 / pw F)+po E F (y.2 / pw F) - 2*lo E F)=pw (po E F (x.2 / pw F) - lo E F)*pw (po E F (y.2 / pw F) - lo E F):=by
  rw [<- aF ⋯ ⋯]
  congr 1
  omega
 have e2:wh F (x.2 / pw F) (x.2%pw F)*wh F (y.2 / pw F) (y.2%pw F)*pw (po E F (x.2 / pw F)+po E F (y.2 / pw F) - 2*lo E F)=vl F x.2*vl F y.2:=by
  rw [e,<-a,<-b]
  ac_rfl
 unfold tv pm
 simp only
 rw [e2]
theorem ro {X V:Int} (hV:0<V):(X*V<0↔X<0):=by
 constructor
 ·intro g
  refine Classical.byContradiction fun g' => ?_
  have:=Int.mul_nonneg (show 0<=X by omega) (Int.le_of_lt hV)
  omega
 ·exact fun g=>Int.mul_neg_of_neg_of_pos g hV
def fl (ps:List ((Int×Int)×(Int×Int))):List (Int×Int):=ps.flatMap fun p=>[p.1,p.2]
section
variable {E F:Int} {ps:List ((Int×Int)×(Int×Int))} {xs:List (Int×Int)}
theorem Gk (h:Sz E F) (c0:0<=c):tv (2*lo E F) (wt E F s c)=↥34*pw ↥20:=by
 have l:=et h
 have g:lo E F<=(wt E F s c).2.2:=uw (E:=E) (F:=F) c0
 rw [sG (p:=lo E F) (q:=2*lo E F) ⋯ g,JM c0]
 congr 2
 omega
theorem Ho (h:Sz E F):pw (-(2*lo E F))=pw ↥20*pw ↥20:=by
 have l:=et h
 rw [<- aF ⋯ ⋯]
 congr 1
 omega
end
end EV
namespace EV
open PySem
end EV
namespace EV
open PySem
theorem zI {w:Wy} {E F s c r:Int}:stF w E F s c r=0\/stF w E F s c r=1\/stF w E F s c r=3\/stF w E F s c r=5:=by
 unfold stF
 repeat' split
 all_goals simp
section
variable {w:Wy} {E F Eg Fg Em Fm s c:Int}
theorem Gp {F a b:Int} (a0:0<=a) (b0:0<=b):(vl F a<=vl F b↔a<=b)/\(vl F a=vl F b↔a=b):=by
 rcases (by omega:a<b\/a=b\/b<a) with q | q | q
 ·have:=jP (F:=F) a0 q
  omega
 ·subst q;omega
 ·have:=jP (F:=F) b0 q
  omega
end
end EV
namespace EV
open PySem
def Wy.m:Wy->Wy
 | .up=>.down
 | .down=>.up
 | w=>w
noncomputable instance wyDec:DecidableEq Wy:=fun a b=>by cases a<;>cases b<;>first | exact isTrue rfl | exact isFalse (by intro h;cases h)
section
variable {w:Wy} {E F s c r:Int}
end
section
variable {w:Wy} {E F X U sg sg' x y x' y':Int} {u:Prop}
end
theorem Ds {s v:Int} (hs:0<=s/\s<=1):(if 1 - s=1 then -v else v) = -(if s=1 then -v else v):=by
 rcases (by omega:s=0\/s=1) with e | e<;>subst e
 ·rfl
 ·simp
end EV
namespace EV
open PySem
def exq (F c:Int):Int:=max (c / pw F - 1) 0
theorem IP {F c:Int}:0<=exq F c:=by unfold exq;omega
theorem CI {F c:Int} (c0:0<=c):∃ w,0<=w/\w<2*pw F/\vl F c=w*pw (exq F c):=by
 have hQ:=ag F
 have r0:=Int.emod_nonneg c (show pw F≠0 by omega)
 have r1:=Int.emod_lt_of_pos c hQ
 have q0:=Int.ediv_nonneg c0 (Int.le_of_lt hQ)
 have em:=Int.mul_ediv_add_emod c (pw F)
 unfold vl exq
 by_cases g:c / pw F=0
 ·rw [if_pos g,g,show max ((0:Int) - 1) 0=0 by omega]
  rw [g,Int.mul_zero,Int.zero_add] at em
  exact ⟨c,c0,⋯,by rw [show pw 0=1 from rfl,Int.mul_one]⟩
 ·rw [if_neg g,show max (c / pw F - 1) 0=c / pw F - 1 by omega]
  exact ⟨pw F+c%pw F,⋯,⋯,rfl⟩
theorem bR {E F s c:Int} (hs:0<=s/\s<=1) (c0:0<=c) (c1:c<pw ↥0):lnn E F ↥5=if s=1 then -(vl F c) else vl F c:=by
 have q:=(bB (E:=E) (F:=F) hs c0 c1).1
 unfold lnn cd
 rw [q]
 rcases (by omega:s=0\/s=1) with e | e<;>subst e
 ·rw [Int.zero_mul,if_neg ⋯,if_neg ↥3]
 ·rw [Int.one_mul,if_pos ⋯,if_pos rfl]
end EV
namespace EV
open PySem
theorem EK:∀ n:Nat,0<n->∃ e,n - (n &&& (n - 1))=2^e/\(2^e ∣ n)/\(n &&& (n - 1))<=n:=by
 intro n
 induction n using Nat.strongRecOn with
 | ind n ih =>
  intro hn
  have d:=Nat.and_div_two (a:=n) (b:=n - 1)
  have m:(n &&& (n - 1))%2=0:=by
   have q:=Nat.and_mod_two_pow (a:=n) (b:=n - 1) (n:=1)
   rw [Nat.pow_one] at q
   rw [q]
   rcases (by omega:n%2=0\/n%2=1) with e | e
   ·rw [e];exact Nat.zero_and _
   ·rw [e,show (n - 1)%2=0 by omega];rfl
  by_cases g:n%2=1
  ·rw [show (n - 1) / 2=n / 2 by omega,Nat.and_self] at d
   refine ⟨0,by rw [Nat.pow_zero];omega,by rw [Nat.pow_zero];exact Nat.one_dvd _,⋯⟩
  ·obtain ⟨e,e1,e2,e3⟩:=ih (n / 2) ⋯ ⋯
   rw [show (n - 1) / 2=n / 2 - 1 by omega] at d
   obtain ⟨q,hq⟩:=e2
   refine ⟨e+1,?_,⟨q,?_⟩,⋯⟩
   ·rw [Nat.pow_succ];omega
   ·have e5:2^(e+1)*q=2*(2^e*q):=by rw [Nat.pow_succ];ac_rfl
    rw [e5,<-hq]
    omega
theorem EI {t:Int} (ht:0<t):∃ e w:Int,0<=e/\0<=w/\gY (.int t) (.int (-t))=.ok (.int (pw e))/\t=w*pw e/\t / pw e=w:=by
 obtain ⟨e,e1,⟨q,e2⟩,e3⟩:=EK t.toNat ⋯
 have hp:pw (e:Int)=((2^e:Nat):Int):=by unfold pw;simp
 have eq:t=(q:Int)*pw (e:Int):=by
  rw [hp,<-Int.natCast_mul,Nat.mul_comm,<-e2]
  omega
 refine ⟨e,q,⋯,⋯,?_,eq,?_⟩
 ·unfold gY
  simp only
  rw [if_pos ⟨⋯,⋯⟩,hp,show (- -t - 1).toNat=t.toNat - 1 by omega]
  congr 2
  omega
 ·rw [eq]
  exact Int.mul_ediv_cancel _ (by have:=ag (e:Int);omega)
end EV
namespace T
open EV
theorem Dr (c:Int):cv [.int c]=.ok (.tup [.int (szE c),.int (szF c)]):=by
 unfold cv dk
 by_cases h:c%8<4
 ·rcases four (Int.emod_nonneg c ↥3) h with e | e | e | e<;>(simp_arith [e,Oq];unfold szE szF;rw [e];rfl)
 ·by_cases h2:c%8<6
  ·simp_arith [h,h2]
   unfold szE szF
   rw [if_neg h,if_pos h2,if_neg h,if_pos h2]
  ·simp_arith [h,h2]
   unfold szE szF
   rw [if_neg h,if_neg h2,if_neg h,if_neg h2]
theorem vG (c:Int):∃ w:Wy,cT [.int c]=.ok (.str w.s):=by
 unfold cT dX
 rcases (by omega:c%5=0\/c%5=1\/c%5=2\/c%5=3\/c%5=4) with e | e | e | e | e
 ·exact ⟨.even,by simp_arith [e];rfl⟩
 ·exact ⟨.away,by simp_arith [e];rfl⟩
 ·exact ⟨.nought,by simp_arith [e];rfl⟩
 ·exact ⟨.up,by simp_arith [e,Oq];rfl⟩
 ·exact ⟨.down,by simp_arith [e,Qw];rfl⟩
theorem jw {E F c:Int} (h:Sz E F) (hc:nb c<=2^20):∃ s u,bf [.tup [.int E,.int F],.int c]=.ok (.int (s*pw ↥0+u))/\(0<=s/\s<=1)/\0<=u/\u<pw ↥0 - pw F:=by
 obtain ⟨k1,k2,k3,k4⟩:=id h
 have hh:=aP h
 have hQ:=ju k3
 have hH:=ag ↥0
 have hE1:2<=pw (E - 1):=ju ⋯
 have eE:=jj (F:=E) ⋯
 have eM:=end_is h
 have hE:=eJ h
 have s1:=eG (k:=E+F) ⋯ ⋯
 have s2:=eG (k:=F) ⋯ ⋯
 have s3:=eG (k:=E - 1) ⋯ ⋯
 have s4:=eG (k:=E) ⋯ ⋯
 have n1:nb (pw ↥0)<=128:=dI (c:=127) ⋯
 have c6:nb (c / 6)<=2^20:=pQ ↥3 hc
 have c12:nb (c / 6 / 2)<=2^20:=pQ ↥3 c6
 have c96:nb (c / 6 / 2 / 8)<=2^20:=pQ ↥3 c12
 have L6:6<=pw ↥0 - pw F:=⋯
 have nL:nb ↥29<=128:=Nat.le_trans (d9 (j:=pw ↥0) ⋯) n1
 have m2:=ao (MulOk.of (i:=2) (j:=pw ↥0 - pw F) (a:=2) ↥3 nL ↥3)
 have sd:0<=c / 6%2/\c / 6%2<=1:=⋯
 have ms:=ao (iH (t:=pw ↥0) sd.1 sd.2 (Nat.le_trans n1 ↥3))
 unfold bf cA
 by_cases g1:c%6<2
 ·have mm:=ao (MulOk.of (i:=c / 6) (j:=73846150927364518273645509182736455091829) (a:=2^20) (b:=200) c6 ↥3 ↥3)
  have p2:0<2*↥29:=⋯
  have r0:=Int.emod_nonneg (c / 6*73846150927364518273645509182736455091829) (show 2*↥29≠0 by omega)
  have r1:=Int.emod_lt_of_pos (c / 6*73846150927364518273645509182736455091829) p2
  have dv:=d8 (i:=c / 6*73846150927364518273645509182736455091829%(2*↥29)) (fP.small (j:=pw ↥0 - pw F) ⋯ ⋯)
  have lp:0<pw ↥0 - pw F:=⋯
  generalize hv:c / 6*73846150927364518273645509182736455091829%(2*↥29)=v at *
  have q0:=Int.ediv_nonneg r0 (Int.le_of_lt lp)
  have q1:v / ↥29<2:=Int.ediv_lt_of_lt_mul lp r1
  have t0:=Int.emod_nonneg v (show pw ↥0 - pw F≠0 by omega)
  have t1:=Int.emod_lt_of_pos v lp
  have mq:=ao (iH (s:=v / ↥29) (t:=pw ↥0) q0 ⋯ (Nat.le_trans n1 ↥3))
  exact ⟨v / ↥29,v%↥29,by simp_arith [s1,s2,g1,mm,m2,p2,hv,dv,lp,mq],⟨q0,⋯⟩,t0,t1⟩
 by_cases g2:c%6=2
 ·exact ⟨c / 6%2,c / 6 / 2%6,by simp_arith [s1,s2,g1,ms,eq_true g2],sd,⋯,⋯⟩
 by_cases g3:c%6=3
 ·refine ⟨c / 6%2,pw ↥0 - pw F - 1 - c / 6 / 2%4,?_,sd,⋯,⋯⟩
  simp_arith [s1,s2,g1,ms,g2,eq_true g3]
  congr 2
  omega
 have hp:pw (E - 1) - 1+1=pw (E - 1):=⋯
 have nm:nb (pw (E - 1) - 1)<=15:=dD ⋯ (by have:=nO h;omega)
 have sm:=ar (i:=pw (E - 1) - 1) (j:=F) ⋯ ⋯
 have eL:pw ↥0 - pw F=(pw E - 1)*pw F:=eM.symm
 by_cases g4:c%6=4
 ·have b1:pw F<=(pw (E - 1) - 1)*pw F:=by
   have:=Int.mul_le_mul_of_nonneg_right (show 1<=pw (E - 1) - 1 by omega) (show 0<=pw F by omega)
   omega
  have b2:(pw (E - 1) - 1)*pw F+2*pw F<=pw ↥0 - pw F:=by
   rw [eL,<-Int.add_mul]
   exact Int.mul_le_mul_of_nonneg_right ⋯ ⋯
  refine ⟨c / 6%2,(pw (E - 1) - 1)*pw F - 2+c / 6 / 2%5,?_,sd,⋯,⋯⟩
  simp_arith [s1,s2,s3,g1,ms,g2,g3,eq_true g4,sm]
  congr 2
  omega
 ·have mm:=ao (MulOk.of (i:=c / 6 / 2 / 8) (j:=73846150927364518273645509182736455091829) (a:=2^20) (b:=200) c96 ↥3 ↥3)
  have fp:0<pw F:=⋯
  have r0:=Int.emod_nonneg (c / 6 / 2 / 8*73846150927364518273645509182736455091829) (show pw F≠0 by omega)
  have r1:=Int.emod_lt_of_pos (c / 6 / 2 / 8*73846150927364518273645509182736455091829) fp
  generalize hv:c / 6 / 2 / 8*73846150927364518273645509182736455091829%pw F=v at *
  generalize hy:max 0 (min (pw E - 2) (pw (E - 1) - 1 - 3+c / 6 / 2%8))=y
  have y0:0<=y/\y<=pw E - 2:=⋯
  have ny:nb y<=16:=dD y0.1 ⋯
  have sy:=ar (i:=y) (j:=F) ⋯ ⋯
  have f1:0<=y*pw F:=Int.mul_nonneg y0.1 ⋯
  have f2:y*pw F+pw F<=pw ↥0 - pw F:=by
   have:y*pw F+pw F=(y+1)*pw F:=by rw [Int.add_mul,Int.one_mul]
   rw [this,eL]
   exact Int.mul_le_mul_of_nonneg_right ⋯ ⋯
  refine ⟨c / 6%2,y*pw F+v,?_,sd,⋯,⋯⟩
  simp_arith [s1,s2,s3,s4,g1,ms,g2,g3,g4,mm,fp,hv,hy,sy]
  congr 2
  omega
theorem yp {ns:List Int} {j:Int} (h0:0<=j):bx [.lst (ns.map .int),.int j]=.ok (.int (ns.getD j.toNat 0)):=by
 unfold bx dm
 by_cases h:j<(ns.length:Int)
 ·have e:oIx (.lst (ns.map D.int)) (.int j)=.ok (.int (ns.getD j.toNat 0)):=by
   obtain ⟨k,rfl⟩:=Int.eq_ofNat_of_zero_le h0
   have hk:k<ns.length:=⋯
   refine l7 ?_
   simp [List.getElem?_map,List.getElem?_eq_getElem hk,List.getD_eq_getElem?_getD]
  simp_arith [h,e]
 ·simp_arith [h,AS h0 h]
theorem bG (w:Wy):br [.str w.s]=.ok (t9 w):=by
 have h:gX (.str w.s) (.tup [.str "even",.str "away",.str "nought",.str "up",.str "down"])=.ok ↥38:=by
  show gX (.str w.s) (.tup (ze.map D.str))=_
  rw [rn]
  cases w<;>rfl
 unfold br kd
 simp_arith [h]
 rfl
theorem kr {E F:Int} (h:Sz E F):b9 [.tup [.int E,.int F]]=.ok (.int (pw ↥0)):=by
 obtain ⟨h1,h2,h3,h4⟩:=h
 unfold b9 gF
 simp_arith [eG (k:=E+F) ⋯ ⋯]
theorem zd {E F:Int}:kE [.tup [.int E,.int F]]=.ok (.int (E+F+1)):=by
 unfold kE oo
 simp_arith []
theorem du {E F b:Int} (h:Sz E F) (hb:In E F b):aR [.tup [.int E,.int F],.int b]=.ok (.tup [.int (sgn E F b),.int (fld E F b),.int (fig F b)]):=by
 obtain ⟨h1,h2,h3,h4⟩:=id h
 obtain ⟨hb0,hb1⟩:=hb
 have d1:fP b (pw ↥0):=⟨ag _,.inl (Nat.le_trans (dI (c:=127) ⋯) ↥3)⟩
 have d2:fP (b%pw ↥0) (pw F):=⟨ag _,.inl (Nat.le_trans (dI (c:=127) ⋯) ↥3)⟩
 have e0:b / pw ↥0=sgn E F b:=by unfold sgn;rw [aF ⋯ ⋯,part0 (ag _) (ag _)]
 have e1:b%pw ↥0 / pw F=fld E F b:=by unfold fld;rw [aF ⋯ ⋯,part1 (ag _) (ag _)]
 have e2:b%pw ↥0%pw F=fig F b:=by unfold fig;rw [aF ⋯ ⋯,part2]
 unfold aR kh
 simp_arith [zd,kr h,eG (k:=E+F+1) ⋯ ⋯,eG (k:=F) ⋯ ⋯,show ¬ b<0 by omega,show ¬ pw (E+F+1)<=b by omega,d8 d1,d8 d2,ag,e0,e1,e2]
theorem oI {E F:Int} {bs:List Int} (h:Sz E F) (hl:bs.length<=1000) (hb:∀ b∈bs,In E F b):cU [.tup [.int E,.int F],.lst (bs.map .int)]=.ok .non:=by
 have loop:∀ (cs:List Int),(∀ b∈cs,In E F b)->∀ (l:D) (z:Option D),∃ z',forL 2 (expr (call aR [var 0,var 2])) (cs.map D.int) [some ↥35,some (.lst (bs.map .int)),z]=.nx [some ↥35,some (.lst (bs.map .int)),z']:=fun cs=>by
  induction cs with
  | nil=>exact fun _ _ z=>⟨z,rfl⟩
  | cons c r ih =>
   intro hc l z
   obtain ⟨z',e⟩:=ih (fun b m=>hc b (.tail _ m)) l (some (.int c))
   refine ⟨z',?_⟩
   have p:=du h (hc c (.head _))
   rw [List.map_cons,fW]
   simp_arith [p,e]
 obtain ⟨z,e⟩:=loop bs hb .non none
 unfold cU dZ
 simp_arith [e]
theorem fB {E F:Int} (h:Sz E F):aY [.tup [.int E,.int F]]=.ok (.int (pw E - 1)):=by
 obtain ⟨h1,h2,h3,h4⟩:=h
 unfold aY dY
 simp_arith [eG (k:=E) ⋯ ⋯]
theorem kR {E F b:Int} (h:Sz E F) (hb:In E F b):aX [.tup [.int E,.int F],.int b]=.ok (.str (kindS E (fld E F b) (fig F b))):=by
 unfold aX tf
 simp_arith [du h hb,fB h]
 unfold kindS
 (repeat' split)<;>first | rfl | contradiction
theorem ox {E F s c:Int} (h:Sz E F) (hs:0<=s/\s<=1) (c0:0<=c) (c1:c<pw ↥0 - pw F):∃ K:PySem.Str,aX [.tup [.int E,.int F],.int ↥5]=.ok (.str K)/\¬ (PySem.Str.ofString "endless"=K\/PySem.Str.ofString "none"=K):=by
 have hQ:=ag F
 obtain ⟨b1,b2,b3,b4⟩:=az (c:=c) h hs c0 ⋯
 have k:=kR h b1
 rw [b3,b4] at k
 refine ⟨_,k,?_⟩
 have kc:=eV (c:=c) h c0 ⋯
 by_cases g:c=0
 ·rw [kc.2.2.1 g];decide
 ·rcases kc.2.2.2 ⋯ c1 with e | e<;>rw [e]<;>decide
theorem fZ {E F:Int} {xs:List (Int×Int)} (h:Sz E F) (hl:xs.length<=1000) (hx:∀ x∈xs,(0<=x.1/\x.1<=1)/\0<=x.2/\x.2<pw ↥0 - pw F):aE [.tup [.int E,.int F],.lst ((xs.map (nI E F)).map .int)]=.ok .non:=by
 have hQ:=ag F
 have cb:=oI (bs:=xs.map (nI E F)) h (by rw [List.length_map];exact hl) fun b m=>by
  obtain ⟨x,mx,rfl⟩:=List.mem_map.mp m
  obtain ⟨a,b,c⟩:=hx x mx
  exact (az h a b ⋯).1
 unfold aE cP
 generalize hbody:ifs _ _ _=body
 have loop:∀ (l:List (Int×Int)),(∀ x∈l,(0<=x.1/\x.1<=1)/\0<=x.2/\x.2<pw ↥0 - pw F)->∀ (z:Option D),∃ z',forL 2 body ((l.map (nI E F)).map D.int) [some ↥35,some (.lst ((xs.map (nI E F)).map .int)),z]=.nx [some ↥35,some (.lst ((xs.map (nI E F)).map .int)),z']:=fun l=>by
  induction l with
  | nil=>exact fun _ z=>⟨z,rfl⟩
  | cons x r ih =>
   intro hc z
   obtain ⟨z',e⟩:=ih (fun b m=>hc b (.tail _ m)) (some (.int (nI E F x)))
   refine ⟨z',?_⟩
   obtain ⟨a,b,c⟩:=hc x (.head _)
   obtain ⟨K,k,nk⟩:=ox h a b c
   have k':aX [.tup [.int E,.int F],.int (nI E F x)]=.ok (.str K):=k
   rw [List.map_cons,List.map_cons,fW]
   subst hbody
   simp_arith [k',fA,nk,e]
 obtain ⟨z,e⟩:=loop xs hx none
 simp_arith [cb,List.length_map,show xs.length<=100000 by omega,e]
theorem xK {E F s c y:Int} (h:Sz E F) (hs:0<=s/\s<=1) (c0:0<=c) (c1:c<pw ↥0 - pw F) (hy:y=0\/y=1\/y=3):aw [.tup [.int E,.int F],.tup [.int ↥5,.int y]]=.ok (.int ↥5):=by
 obtain ⟨K,k,nk⟩:=ox h hs c0 c1
 have ba:iG (.int y) (.int 4)=.ok (.int 0):=by rcases hy with e | e | e<;>subst e<;>rfl
 unfold aw bO
 simp_arith [k,fA,nk,ba]
theorem uG {E F s c:Int} (h:Sz E F) (hs:0<=s/\s<=1) (c0:0<=c) (c1:c<pw ↥0 - pw F):aw [.tup [.int E,.int F],.tup [.int ↥5,.int 5]]=.ex "NoLeft":=by
 obtain ⟨K,k,nk⟩:=ox h hs c0 c1
 have ba:iG (.int 5) (.int 4)=.ok (.int 4):=rfl
 unfold aw bO
 simp_arith [k,fA,nk,ba]
theorem jo {E F B:Int} {z b:D} {K:PySem.Str} (ek:aX [z,b]=.ok (.str K)) (hz:z=.tup [.int E,.int F]) (hb:b=.int B):bN [z,.lst [b]]=.ok (.bl (decide (K=PySem.Str.ofString "none"))):=by
 subst hz hb
 have st:stC (con ↥24) (call aX [var 1,var 0]) [0] [some ↥35,some (.lst [.int B]),none] (.int B)=.ok (some (.str K)):=by
  unfold stC inC
  simp_arith [List.getD_cons_zero,ek]
  unfold sV
  simp_arith []
 have rc:runC (stC (con ↥24) (call aX [var 1,var 0]) [0] [some ↥35,some (.lst [.int B]),none]) [.int B]=.ok [.str K]:=by
  rw [sM (f:=fun _=>.str K) (fun d hd=>by
   rw [List.mem_singleton] at hd
   rw [hd]
   exact st)]
  rfl
 have fr:pY [.str K]=.ok (.lst [.str K]):=rfl
 have i1:oIn (.str (PySem.Str.ofString "none")) (.lst [.str K])=.ok (.bl (decide (K=PySem.Str.ofString "none"))):=by
  unfold oIn isIn
  simp only [List.all_cons,List.all_nil,D.sc,Bool.and_self,if_true,List.any_cons,List.any_nil,D.beq,Bool.or_false]
  by_cases g:K=PySem.Str.ofString "none"
  ·rw [g];simp
  ·simp [g]
 have pb:∀ (a c:Option D) (ds:List D),pub 2 [a,c,some (.own ds)]=[a,c,some (.lst ds)]:=fun _ _ _=>rfl
 unfold bN fc
 simp_arith [rc,fr,i1,il,BG,Hr,pb,view]
theorem vg {E F B B':Int} {K K':PySem.Str} (ek:aX [.tup [.int E,.int F],.int B]=.ok (.str K)) (ek':aX [.tup [.int E,.int F],.int B']=.ok (.str K')) :
  bN [.tup [.int E,.int F],.lst [.int B,.int B']]=.ok (.bl (decide (K=PySem.Str.ofString "none"\/K'=PySem.Str.ofString "none"))):=by
 have st:stC (con ↥24) (call aX [var 1,var 0]) [0] [some ↥35,some (.lst [.int B,.int B']),none] (.int B)=.ok (some (.str K)):=by
  unfold stC inC
  simp_arith [List.getD_cons_zero,ek]
  unfold sV
  simp_arith []
 have st':stC (con ↥24) (call aX [var 1,var 0]) [0] [some ↥35,some (.lst [.int B,.int B']),none] (.int B')=.ok (some (.str K')):=by
  unfold stC inC
  simp_arith [List.getD_cons_zero,ek']
  unfold sV
  simp_arith []
 have rc:runC (stC (con ↥24) (call aX [var 1,var 0]) [0] [some ↥35,some (.lst [.int B,.int B']),none]) [.int B,.int B']=.ok [.str K,.str K']:=by
  simp only [runC,st,st',R.bind]
 have fr:pY [.str K,.str K']=.ok (.lst [.str K,.str K']):=rfl
 have i1:oIn (.str (PySem.Str.ofString "none")) (.lst [.str K,.str K'])=.ok (.bl (decide (K=PySem.Str.ofString "none"\/K'=PySem.Str.ofString "none"))):=by
  unfold oIn isIn
  simp only [List.all_cons,List.all_nil,D.sc,Bool.and_self,if_true,List.any_cons,List.any_nil,D.beq,Bool.or_false]
  by_cases g:K=PySem.Str.ofString "none"<;>by_cases g':K'=PySem.Str.ofString "none"<;>simp [g,g']
 have pb:∀ (a c:Option D) (ds:List D),pub 2 [a,c,some (.own ds)]=[a,c,some (.lst ds)]:=fun _ _ _=>rfl
 unfold bN fc
 simp_arith [rc,fr,i1,il,BG,Hr,pb,view]
theorem oH {t n:Int} (ht:0<=t) (hn:0<n):aO [.int t,.int n]=.ok .non:=by
 unfold aO bX
 simp_arith [show ¬ t<0 by omega,show ¬ n<1 by omega]
theorem iv {t n p:Int} (h1:nb t<=10000000) (h2:nb n<=10000000) (h3 : -10000000<=p) (h4:p<=10000000):di [.int t,.int n,.int p]=.ok (.tup [.int (cW p t),.int (cC p n)]):=by
 unfold di kg cW cC
 by_cases g:0<=p
 ·simp_arith [g,ar (i:=n) (j:=p) g ⋯,bc (p := -p) ⋯,Int.mul_one]
 ·simp_arith [g,ar (i:=t) (j := -p) ⋯ ⋯,bc (p:=p) ⋯,Int.mul_one]
theorem Fs {E F:Int} (h:Sz E F):pG [.tup [.int E,.int F]]=.ok (.int (pw (E - 1) - 1)):=by
 obtain ⟨h1,h2,h3,h4⟩:=h
 unfold pG tj
 simp_arith [eG (k:=E - 1) ⋯ ⋯]
theorem iL {E F:Int} (h:Sz E F):iF [.tup [.int E,.int F]]=.ok (.int (lo E F)):=by
 have e:1 - (pw (E - 1) - 1) - F=lo E F:=by unfold lo;omega
 unfold iF AU
 simp_arith [Fs h,e]
theorem kC {o a m:Int}:aM [.int o,.int a,.int m]=.ok (.int (if o=0 then 0 else if a<m then 1 else if a=m then 2 else 3)):=by
 unfold aM bW
 simp_arith []
theorem rest_of_ok {o s:Int} (h:nb o<=100000000):fS [.int o,.int s]=.ok (.int (rst o s)):=by
 have m:MulOk 2 o:=by walk_at "mul"
 unfold fS iP
 simp_arith [ao m,kC]
 rfl
theorem pW {t n:Int} (h1:nb t<=1000000) (h2:nb n<=1000000):fw [.int t,.int n]=.ok (.int (hgt t n)):=by
 have e:(cW ((nb t:Int) - nb n) t<cC ((nb t:Int) - nb n) n)=Lt t n ((nb t:Int) - nb n):=rfl
 unfold fw ki hgt
 by_cases g:Lt t n ((nb t:Int) - nb n)
 ·simp_arith [iv (t:=t) (n:=n) (p:=(nb t:Int) - nb n) ⋯ ⋯ ⋯ ⋯,e,g]
 ·simp_arith [iv (t:=t) (n:=n) (p:=(nb t:Int) - nb n) ⋯ ⋯ ⋯ ⋯,e,g]
theorem Bc {E F n:Int} (h:Sz E F) (hn:0<n):rl [.tup [.int E,.int F],.int 0,.int n]=.ok (.tup [.int 0,.int (lo E F),.int 0]):=by
 unfold rl xV
 simp_arith [oH (Int.le_refl 0) hn,iL h]
theorem Je {E F t n:Int} (h:Sz E F) (ht:0<t) (hn:0<n) (h1:nb t<=1000000) (h2:nb n<=1000000) :
  rl [.tup [.int E,.int F],.int t,.int n]=.ok (.tup [.int (cW ↥23 t / cC ↥23 n),.int ↥23,.int (rst (cW ↥23 t%cC ↥23 n) (cC ↥23 n))]):=by
 obtain ⟨s1,s2,s3,s4⟩:=oB h ht hn
 have l:=et h
 have hB:=gU (p:=mh E F t n) hn
 have hA:=oE (p:=mh E F t n) (Int.le_of_lt ht)
 have d:=Il h hA hB s3
 have eP:max (lo E F) (hgt t n - F - 1)=mh E F t n:=rfl
 have nB:nb (cC ↥23 n)<=3000000:=by
  have:=cc h2 (dI (k:=mh E F t n) (c:=1000000) ⋯)
  unfold cC;omega
 have nr:nb (cW ↥23 t%cC ↥23 n)<=3000000:=BY hB nB
 unfold rl xV
 simp_arith [oH (Int.le_of_lt ht) hn,show ¬ t=0 by omega,iL h,pW h1 h2,eP,iv (t:=t) (n:=n) (p:=mh E F t n) ⋯ ⋯ ⋯ ⋯,d8 d,hB,rest_of_ok (o:=cW ↥23 t%cC ↥23 n) (s:=cC ↥23 n) ⋯]
theorem bj {E F:Int} (h:Sz E F):aZ [.tup [.int E,.int F]]=.ok (.int ((pw E - 1)*pw F)):=by
 obtain ⟨h1,h2,h3,h4⟩:=id h
 have hb:nb (pw E)<=16:=dI (c:=15) ⋯
 have hb2:nb (pw E - 1)<=17:=by walk_at "nbk"
 unfold aZ iR
 simp_arith [fB h,ar (i:=pw E - 1) (j:=F) ⋯ ⋯]
theorem dt {E F s c:Int} (h:Sz E F) (hs:0<=s/\s<=1):cu [.tup [.int E,.int F],.int s,.int c]=.ok (.int ↥5):=by
 have n1:nb (pw ↥0)<=128:=dI (c:=127) (by have:=h.2.1;have:=h.2.2.2;omega)
 unfold cu kf
 simp_arith [kr h,ao (iH hs.1 hs.2 (Nat.le_trans n1 ↥3))]
theorem xB {E F c k:Int} (h:Sz E F):cS [.tup [.int E,.int F],.int c,.int k]=.ok (.int (if k=pw ↥0 - pw F then 5 else if c<pw F then 3 else 1)):=by
 obtain ⟨h1,h2,h3,h4⟩:=id h
 unfold cS dW
 simp_arith [bj h,end_is h,eG (k:=F) ⋯ ⋯]
theorem tm (w:Wy) (s:Int):aK [t9 w,.int s]=.ok (.bl (w.out s)):=by
 unfold aK a9 t9
 cases w<;>simp_arith [Wy.s,Wy.out]
theorem td (w:Wy) (s r:Int) (o:Bool) (h:¬ r=0):fz [t9 w,.int s,.bl o,.int r]=.ok (.bl (w.grw s o r)):=by
 have f:=tm w s
 have hm:eX "Way" "flees_nought" (t9 w)=true:=rfl
 unfold fz dF
 have nm:("flees_nought" != "name")=true:=by decide
 have e1:vi "Way" "name" (t9 w)=.ok (.str w.s):=rfl
 unfold t9 at *
 cases w
 ·by_cases g:r=3
  ·simp_arith [h,Wy.s,eq_true g]
   simp [Wy.grw,g]
  ·by_cases g2:r=2
   ·simp_arith [h,Wy.s,g,eq_true g2]
    simp [Wy.grw,g2]
   ·simp_arith [h,Wy.s,g,g2]
    simp [Wy.grw,g,g2]
 ·simp_arith [h,Wy.s]
  rfl
 ·simp only [Wy.s] at f
  simp_arith [h,Wy.s,nm,f]
  rfl
 ·simp only [Wy.s] at f
  simp_arith [h,Wy.s,nm,f]
  rfl
 ·simp only [Wy.s] at f
  simp_arith [h,Wy.s,nm,f]
  rfl
theorem p8 (w:Wy) (s:Int):dR [t9 w,.int s]=.ok (.bl (w.brs s)):=by
 have f:=tm w s
 have nm:("flees_nought" != "name")=true:=by decide
 have e2:∀ x:PySem.Str,oIn (.str x) (.tup [.str "even",.str "away"])=.ok (.bl (decide ((PySem.Str.ofString "even")=x\/(PySem.Str.ofString "away")=x))):=fun x=>fA
 unfold dR cV
 unfold t9 at *
 cases w
 ·simp_arith [Wy.s,e2]
  rfl
 ·simp_arith [Wy.s,e2]
  rfl
 ·simp only [Wy.s] at f
  simp_arith [Wy.s,e2,nm,f]
  rfl
 ·simp only [Wy.s] at f
  simp_arith [Wy.s,e2,nm,f]
  rfl
 ·simp only [Wy.s] at f
  simp_arith [Wy.s,e2,nm,f]
  rfl
theorem jf {E F s x P r:Int} (w:Wy) (h:Sz E F) (hs:0<=s/\s<=1) (hP:lo E F<=P) (hP2:P<=10000000) (hx:0<=x) :
  dA [.tup [.int E,.int F],.str w.s,.int s,.int x,.int P,.int r]=.ok (.tup [.int (s*pw ↥0+stK w E F s (codeOf E F P x) r),.int (stF w E F s (codeOf E F P x) r)]):=by
 obtain ⟨h1,h2,h3,h4⟩:=id h
 have l:=et h
 have n1:nb (P - lo E F)<=64:=dD ⋯ ⋯
 have c0:0<=codeOf E F P x:=by
  have:=Int.mul_nonneg (show 0<=P - lo E F by omega) (Int.le_of_lt (ag F))
  unfold codeOf;omega
 have ec:(P - lo E F)*pw F+x=codeOf E F P x:=rfl
 have mb:eX "Way" "bursts" (t9 w)=true:=rfl
 have mg:eX "Way" "grows" (t9 w)=true:=rfl
 have vw:∀ (a b c d e f:Option D) (l:Dt),var 6 (a::b::c::d::e::f::some (t9 w)::l)=.ok (t9 w):=fun _ _ _ _ _ _ _=>rfl
 unfold dA iO stF stK
 by_cases g:pw ↥0 - pw F<=codeOf E F P x
 ·cases gb:w.brs s
  ·simp_arith [bG w,iL h,ar (i:=P - lo E F) (j:=F) ⋯ ⋯,ec,bj h,end_is h,g,vw,mb,p8 w s,gb,dt h hs]
  ·simp_arith [bG w,iL h,ar (i:=P - lo E F) (j:=F) ⋯ ⋯,ec,bj h,end_is h,g,vw,mb,p8 w s,gb,dt h hs]
 ·by_cases gr:r=0
  ·simp_arith [bG w,iL h,ar (i:=P - lo E F) (j:=F) ⋯ ⋯,ec,bj h,end_is h,g,eq_true gr,dt h hs]
  ·cases gg:w.grw s (decide (codeOf E F P x%2=1)) r
   ·simp_arith [bG w,iL h,ar (i:=P - lo E F) (j:=F) ⋯ ⋯,ec,bj h,end_is h,g,gr,vw,mg,pO c0,td w s r _ gr,gg,dt h hs,xB h]
   ·simp_arith [bG w,iL h,ar (i:=P - lo E F) (j:=F) ⋯ ⋯,ec,bj h,end_is h,g,gr,vw,mg,pO c0,td w s r _ gr,gg,dt h hs,xB h]
theorem uq {E F s t n:Int} (w:Wy) (h:Sz E F) (hs:0<=s/\s<=1) (ht:0<t) (hn:0<n) (h1:nb t<=1000000) (h2:nb n<=1000000) :
  bJ [.tup [.int E,.int F],.str w.s,.int s,.int t,.int n]=.ok (.tup [.int (s*pw ↥0+stK w E F s (codeOf E F ↥23 (cW ↥23 t / cC ↥23 n)) (rst (cW ↥23 t%cC ↥23 n) (cC ↥23 n))),.int (stF w E F s (codeOf E F ↥23 (cW ↥23 t / cC ↥23 n)) (rst (cW ↥23 t%cC ↥23 n) (cC ↥23 n)))]):=by
 obtain ⟨s1,s2,s3,s4⟩:=oB h ht hn
 unfold bJ fU
 simp_arith [bG w,Je h ht hn h1 h2,jf w h hs s1 ⋯ (Int.ediv_nonneg (oE (p:=mh E F t n) (Int.le_of_lt ht)) (Int.le_of_lt (gU (p:=mh E F t n) hn)))]
theorem pC {E F s n:Int} (w:Wy) (h:Sz E F) (hs:0<=s/\s<=1) (hn:0<n):bJ [.tup [.int E,.int F],.str w.s,.int s,.int 0,.int n]=.ok (.tup [.int (s*pw ↥0),.int 0]):=by
 have l:=et h
 have h5:=aP h
 have hQ:=ag F
 have e0:codeOf E F (lo E F) 0=0:=by unfold codeOf;rw [Int.sub_self,Int.zero_mul];rfl
 have e:=jf (s:=s) (x:=0) (P:=lo E F) (r:=0) w h hs (Int.le_refl _) ⋯ (Int.le_refl 0)
 rw [e0,show stK w E F s 0 0=0 by unfold stK;rw [if_neg ⋯,if_pos rfl],show stF w E F s 0 0=0 by unfold stF;rw [if_neg ⋯,if_pos rfl],Int.add_zero] at e
 unfold bJ fU
 simp_arith [bG w,Bc h hn,e]
theorem ur {E F t n:Int} (h:Sz E F) (ht:0<=t) (hn:0<n) (n1:nb t<=1000000) (n2:nb n<=1000000) :
  ∃ c r,(∀ (w:Wy) (s:Int),0<=s/\s<=1->bJ [.tup [.int E,.int F],.str w.s,.int s,.int t,.int n]=.ok (.tup [.int (s*pw ↥0+stK w E F s c r),.int (stF w E F s c r)]))/\0<=c/\vl F c*n<=t*pw ↥20/\t*pw ↥20<vl F (c+1)*n/\jY F (t*pw ↥20) n c r:=by
 have l:=et h
 have h5:=aP h
 have hQ:=ag F
 by_cases g:t=0
 ·subst g
  refine ⟨0,0,fun w s hs => ?_,Int.le_refl 0,?_,?_,.inl ⟨rfl,?_⟩⟩
  ·rw [pC w h hs hn,show stK w E F s 0 0=0 by unfold stK;rw [if_neg ⋯,if_pos rfl],show stF w E F s 0 0=0 by unfold stF;rw [if_neg ⋯,if_pos rfl],Int.add_zero]
  ·rw [ko,Int.zero_mul,Int.zero_mul];exact Int.le_refl 0
  ·rw [Int.zero_mul]
   have:=jP (F:=F) (c:=0) (c':=0+1) (Int.le_refl 0) ↥3
   rw [ko] at this
   exact Int.mul_pos this hn
  ·rw [ko,Int.zero_mul,Int.zero_mul]
 have ht':0<t:=⋯
 obtain ⟨s1,s2,s3,s4⟩:=oB h ht' hn
 have hB:=gU (p:=mh E F t n) hn
 have hA:=oE (p:=mh E F t n) ht
 have w0:0<=cW ↥23 t / cC ↥23 n:=Int.ediv_nonneg hA (Int.le_of_lt hB)
 have w1:cW ↥23 t / cC ↥23 n<2*pw F:=Int.ediv_lt_of_lt_mul hB s3
 have w2:lo E F<mh E F t n->pw F<=cW ↥23 t / cC ↥23 n:=fun q=>Int.le_ediv_of_mul_le hB (s4 q)
 have l0:=Int.emod_nonneg (cW ↥23 t) (show cC ↥23 n≠0 by omega)
 have l1:=Int.emod_lt_of_pos (cW ↥23 t) hB
 have b:=between h hn s1 w0 w1 w2 l0 l1 (Int.ediv_mul_add_emod _ _).symm
 have c0:=(iV h s1 w0 w1 w2).1
 exact ⟨_,_,fun w s hs=>uq w h hs ht' hn n1 n2,c0,b.1,b.2.1,AL b l0⟩
theorem pD {E F t n:Int} (h:Sz E F) (ht:0<=t) (hn:0<n) (n1:nb t<=1000000) (n2:nb n<=1000000) :
  ∃ c r,(∀ (w:Wy) (s:Int),0<=s/\s<=1->bJ [.tup [.int E,.int F],.str w.s,.int s,.int t,.int n]=.ok (.tup [.int (s*pw ↥0+stK w E F s c r),.int (stF w E F s c r)]))/\At F (t*pw ↥20) n c r:=by
 obtain ⟨c,r,e,x⟩:=ur h ht hn n1 n2
 exact ⟨c,r,e,x⟩
theorem DK {E F s s' c c':Int} (h:Sz E F) (hs:0<=s/\s<=1) (hs':0<=s'/\s'<=1) (c0:0<c) (c1:c<pw ↥0 - pw F) (d0:0<c') (d1:c'<pw ↥0 - pw F) :
  ∃ k r,(∀ w:Wy,eQ [.tup [.int E,.int F],.str w.s,.tup [.int s,.int (frT (wh F ↥21 (c%pw F)) (po E F ↥21)),.int (frB (po E F ↥21))],.tup [.int s',.int (frT (wh F (c' / pw F) (c'%pw F)) (po E F (c' / pw F))),.int (frB (po E F (c' / pw F)))]]=.ok (.tup [.int (sx s s'*pw ↥0+stK w E F (sx s s') k r),.int (stF w E F (sx s s') k r)]))/\At F (vl F c*pw ↥20) (vl F c') k r:=by
 obtain ⟨f1,f2,f3,f4⟩:=ow h (Int.le_of_lt c0) c1
 obtain ⟨f1',f2',f3',f4'⟩:=ow h (Int.le_of_lt d0) d1
 have u:=kZ h (Int.le_of_lt c0)
 have u':=kZ h (Int.le_of_lt d0)
 have p':=AW h d0 d1
 have v':=bH (F:=F) (Int.le_of_lt d0)
 generalize frT (wh F ↥21 (c%pw F)) (po E F ↥21)=t at *
 generalize frB (po E F ↥21)=n at *
 generalize frT (wh F (c' / pw F) (c'%pw F)) (po E F (c' / pw F))=t' at *
 generalize frB (po E F (c' / pw F))=n' at *
 have m1:MulOk t n':=by walk_at "mul"
 have m2:MulOk n t':=by walk_at "mul"
 have n1:=cc f3 f4'
 have n2:=cc f4 f3'
 obtain ⟨k,r,e,a⟩:=pD h (Int.mul_nonneg f1 (Int.le_of_lt f2')) (Int.mul_pos f2 p') (Nat.le_trans n1 ↥3) (Nat.le_trans n2 ↥3)
 refine ⟨k,r,fun w => ?_,yH (Int.mul_pos f2 p') ⋯ (zS u u') a⟩
 unfold eQ gI
 simp_arith [Dj hs hs',ao m1,ao m2,e w _ ud]
theorem eI {s w p:Int} (hw:nb w<=1000000) (hp : -1000000<=p/\p<=1000000):aL [.tup [.int s,.int w,.int p]]=.ok (.tup [.int s,.int (frT w p),.int (frB p)]):=by
 unfold aL bV
 by_cases g:0<=p
 ·simp_arith [g,ar (i:=w) (j:=p) g ⋯,frT,frB]
 ·simp_arith [g,eG (k := -p) ⋯ ⋯,frT,frB]
theorem mY {E F b:Int} (h:Sz E F) (hb:In E F b) (hf:¬ fld E F b=pw E - 1):cE [.tup [.int E,.int F],.int b]=.ok (.tup [.int (sgn E F b),.int (wh F (fld E F b) (fig F b)),.int (po E F (fld E F b))]):=by
 obtain ⟨h1,h2,h3,h4⟩:=id h
 unfold cE om
 simp_arith [du h hb,fB h,iL h,hf,eG (k:=F) ⋯ ⋯]
 unfold wh po
 by_cases g:fld E F b=0
 ·simp only [if_pos g]
 ·simp only [if_neg g]
theorem kX {E F b:Int} (h:Sz E F) (hb:In E F b) (hf:¬ fld E F b=pw E - 1):bM [.tup [.int E,.int F],.int b]=.ok (.tup [.int (sgn E F b),.int (frT (wh F (fld E F b) (fig F b)) (po E F (fld E F b))),.int (frB (po E F (fld E F b)))]):=by
 have h1:=vF h hb
 have h2:=DQ h hb
 unfold bM gR
 simp_arith [mY h hb hf,eI (s:=sgn E F b) (w:=wh F (fld E F b) (fig F b)) (p:=po E F (fld E F b)) ⋯ ⋯]
theorem jv {E F:Int} (h:Sz E F):bw [.tup [.int E,.int F]]=.ok (.int ((pw E - 1)*pw F+pw (F - 1))):=by
 obtain ⟨h1,h2,h3,h4⟩:=id h
 unfold bw fE
 simp_arith [bj h,eG (k:=F - 1) ⋯ ⋯]
theorem xJ {E F s c:Int} (h:Sz E F) (hs:0<=s/\s<=1) (c0:0<=c) (c1:c<pw ↥0):aX [.tup [.int E,.int F],.int ↥5]=.ok (.str (kindS E ↥21 (c%pw F))):=by
 obtain ⟨b1,b2,b3,b4⟩:=az h hs c0 c1
 have:=kR h b1
 rw [b3,b4] at this
 exact this
theorem pF {E F s c:Int} (h:Sz E F) (hs:0<=s/\s<=1) (c0:0<=c) (c1:c<pw ↥0):aR [.tup [.int E,.int F],.int ↥5]=.ok (.tup [.int s,.int ↥21,.int (c%pw F)]):=by
 obtain ⟨b1,b2,b3,b4⟩:=az h hs c0 c1
 have:=du h b1
 rw [b2,b3,b4] at this
 exact this
theorem kY {E F s c:Int} (h:Sz E F) (hs:0<=s/\s<=1) (c0:0<=c) (c1:c<pw ↥0 - pw F):bM [.tup [.int E,.int F],.int ↥5]=.ok (.tup [.int s,.int (frT (wh F ↥21 (c%pw F)) (po E F ↥21)),.int (frB (po E F ↥21))]):=by
 have hQ:=ag F
 obtain ⟨b1,b2,b3,b4⟩:=az (c:=c) h hs c0 ⋯
 have:=kX h b1 (by rw [b3];intro z;have:=(iM h c0 ⋯).mp z;omega)
 rw [b2,b3,b4] at this
 exact this
theorem uS {E F s s' c c':Int} (w:Wy) (h:Sz E F) (hs:0<=s/\s<=1) (hs':0<=s'/\s'<=1) (c0:0<=c) (c1:c<pw ↥0) (d0:0<=c') (d1:c'<pw ↥0) :
  ∃ x y,bQ [.tup [.int E,.int F],.str w.s,.int ↥5,.int ↥30]=.ok (.tup [.int x,.int y]) /\
   (if pw ↥0 - pw F<c\/pw ↥0 - pw F<c' then x=pw ↥0 - pw F+pw (F - 1)/\y=0
    else if c=c'/\(c=0\/c=pw ↥0 - pw F) then x=pw ↥0 - pw F+pw (F - 1)/\y=16
    else if c=pw ↥0 - pw F then x=sx s s'*pw ↥0+↥29/\y=0
    else if c'=0 then x=sx s s'*pw ↥0+↥29/\y=8
    else if c=0\/c'=pw ↥0 - pw F then x=sx s s'*pw ↥0/\y=0
    else ∃ k r,x=sx s s'*pw ↥0+stK w E F (sx s s') k r/\y=stF w E F (sx s s') k r/\At F (vl F c*pw ↥20) (vl F c') k r):=by
 have h5:=aP h
 have hQ:=ag F
 obtain ⟨kn,ke,k0⟩:=j9 (c:=c) h c0 c1
 obtain ⟨ln,le,l0⟩:=j9 (c:=c') h d0 d1
 have kk:=xJ (c:=c) h hs c0 c1
 have kl:=xJ (c:=c') h hs' d0 d1
 have e:=vg kk kl
 have ee:=bj h
 have e2:=jv h
 rw [end_is h] at ee e2
 have pa:=pF (c:=c) h hs c0 c1
 have pb:=pF (c:=c') h hs' d0 d1
 have sg:=dt (c:=pw ↥0 - pw F) h (ud (s:=s) (s':=s'))
 have sg0:=dt (c:=0) h (ud (s:=s) (s':=s'))
 rw [Int.add_zero] at sg0
 have so:=Dj hs hs'
 have fa:c<pw ↥0 - pw F->_:=fun z=>kY (c:=c) h hs c0 z
 have fb:c'<pw ↥0 - pw F->_:=fun z=>kY (c:=c') h hs' d0 z
 have qa:=fun (z0:0<c) (z1:c<pw ↥0 - pw F) (y0:0<c') (y1:c'<pw ↥0 - pw F)=>DK h hs hs' z0 z1 y0 y1
 generalize kindS E ↥21 (c%pw F)=K at *
 generalize kindS E (c' / pw F) (c'%pw F)=L at *
 unfold bQ iS
 by_cases g1:pw ↥0 - pw F<c\/pw ↥0 - pw F<c'
 ·rw [decide_eq_true (by rw [kn,ln];exact g1)] at e
  exact ⟨pw ↥0 - pw F+pw (F - 1),0,by simp_arith [bG w,e,e2],by rw [if_pos g1];exact ⟨rfl,rfl⟩⟩
 rw [decide_eq_false (by rw [kn,ln];exact g1)] at e
 have gK:¬ K=PySem.Str.ofString "none":=fun z=>g1 (.inl (kn.mp z))
 have gL:¬ L=PySem.Str.ofString "none":=fun z=>g1 (.inr (ln.mp z))
 by_cases g2:c=c'/\(c=0\/c=pw ↥0 - pw F)
 ·have q:K=L/\(PySem.Str.ofString "nought"=K\/PySem.Str.ofString "endless"=K):=by
   obtain ⟨z,z2 | z2⟩:=g2
   ·exact ⟨(k0.mpr z2).trans (l0.mpr (z▸z2)).symm,.inl (k0.mpr z2).symm⟩
   ·exact ⟨(ke.mpr z2).trans (le.mpr (z▸z2)).symm,.inr (ke.mpr z2).symm⟩
  exact ⟨pw ↥0 - pw F+pw (F - 1),16,by simp_arith [bG w,e,kk,kl,eq_true q.1,fA,eq_true q.2,e2],by rw [if_neg g1,if_pos g2];exact ⟨rfl,rfl⟩⟩
 have q2:¬ (K=L/\(PySem.Str.ofString "nought"=K\/PySem.Str.ofString "endless"=K)):=by
  rintro ⟨z,z2 | z2⟩
  ·exact g2 ⟨(k0.mp z2.symm).trans (l0.mp (z▸z2.symm)).symm,.inl (k0.mp z2.symm)⟩
  ·exact g2 ⟨(ke.mp z2.symm).trans (le.mp (z▸z2.symm)).symm,.inr (ke.mp z2.symm)⟩
 have an:∀ δ2:Dt,eH (bin oEq (var 4) (var 5)) (bin oIn (var 4) (d7 [con (.str "nought"),con (.str "endless")])) (some ↥35::some (.str w.s)::some (.int ↥5)::some (.int ↥30)::some (.str K)::some (.str L)::δ2)=.ok ↥38:=fun δ2=>by
  by_cases z:K=L
  ·have z2:¬ (PySem.Str.ofString "nought"=K\/PySem.Str.ofString "endless"=K):=fun y=>q2 ⟨z,y⟩
   simp_arith [eq_true z,fA,z2]
  ·simp_arith [z]
 generalize hand:eH (bin oEq (var 4) (var 5)) (bin oIn (var 4) (d7 [con (.str "nought"),con (.str "endless")]))=A at *
 by_cases g3:c=pw ↥0 - pw F
 ·exact ⟨sx s s'*pw ↥0+↥29,0,by simp_arith [bG w,e,kk,kl,an,pa,pb,so,eq_true (ke.mpr g3),ee,sg],by rw [if_neg g1,if_neg g2,if_pos g3];exact ⟨rfl,rfl⟩⟩
 have gE:¬ K=PySem.Str.ofString "endless":=fun z=>g3 (ke.mp z)
 by_cases g4:c'=0
 ·have z:¬ K=PySem.Str.ofString "nought":=fun z=>g2 ⟨(k0.mp z).trans g4.symm,.inl (k0.mp z)⟩
  have z2:=l0.mpr g4
  have z3:¬ L=PySem.Str.ofString "endless":=by rw [z2];decide
  have z4:¬ (K=PySem.Str.ofString "nought"\/L=PySem.Str.ofString "endless"):=fun u=>u.elim z z3
  exact ⟨sx s s'*pw ↥0+↥29,8,by simp_arith [bG w,e,kk,kl,an,pa,pb,so,gE,z,z3,z4,eq_true z2,ee,sg],by rw [if_neg g1,if_neg g2,if_neg g3,if_pos g4];exact ⟨rfl,rfl⟩⟩
 have gN:¬ L=PySem.Str.ofString "nought":=fun z=>g4 (l0.mp z)
 by_cases g5:c=0\/c'=pw ↥0 - pw F
 ·have z:K=PySem.Str.ofString "nought"\/L=PySem.Str.ofString "endless":=g5.imp k0.mpr le.mpr
  exact ⟨sx s s'*pw ↥0,0,by simp_arith [bG w,e,kk,kl,an,pa,pb,so,gE,eq_true z,sg0],by rw [if_neg g1,if_neg g2,if_neg g3,if_neg g4,if_pos g5];exact ⟨rfl,rfl⟩⟩
 have y1:¬ K=PySem.Str.ofString "nought":=fun z=>g5 (.inl (k0.mp z))
 have y2:¬ L=PySem.Str.ofString "endless":=fun z=>g5 (.inr (le.mp z))
 obtain ⟨k,r,eq,a⟩:=qa ⋯ ⋯ ⋯ ⋯
 have fa:=fa ⋯
 have fb:=fb ⋯
 have y3:¬ (K=PySem.Str.ofString "nought"\/L=PySem.Str.ofString "endless"):=fun u=>u.elim y1 y2
 exact ⟨sx s s'*pw ↥0+stK w E F (sx s s') k r,stF w E F (sx s s') k r,by simp_arith [bG w,e,kk,kl,an,pa,pb,so,gE,y1,y2,y3,gN,fa,fb,eq w],by rw [if_neg g1,if_neg g2,if_neg g3,if_neg g4,if_neg g5];exact ⟨k,r,rfl,rfl,a⟩⟩
theorem AH {t:Tm}:fT [tD t]=.ok (tD (1 - t.1,t.2.1,t.2.2)):=by
 unfold fT ou tD
 simp_arith []
theorem zc {E F s c:Int} (h:Sz E F) (hs:0<=s/\s<=1) (c0:0<=c) (c1:c<pw ↥0 - pw F):cE [.tup [.int E,.int F],.int ↥5]=.ok (tD (wt E F s c)):=by
 have hQ:=ag F
 obtain ⟨b1,b2,b3,b4⟩:=az (c:=c) h hs c0 ⋯
 have wo:=mY h b1 (by rw [b3];intro z;have:=(iM h c0 ⋯).mp z;omega)
 rw [b2,b3,b4] at wo
 exact wo
theorem je {l:List D} {p:Int}:∀ {ts:List Tm} {acc:Int} {z3 z4:Option D},(∀ t∈ts,Ce t/\p<=t.2.2/\t.2.2 - p<=450000) ->
  ∃ z3' z4',forL 3 (seq (assign 4 (bin bZ (bin oIx (var 3) ⇑1) (bin cD (bin oIx (var 3) ⇑2) (var 1)))) (assign 2 (ife (bin oEq (bin oIx (var 3) ⇑0) ⇑1) (bin cD (var 2) (var 4)) (bin cw (var 2) (var 4))))) (ts.map tD) [some (.lst l),some (.int p),some (.int acc),z3,z4]=.nx [some (.lst l),some (.int p),some (.int (acc+jd p ts)),z3',z4']
 | [],acc,z3,z4,_=>⟨z3,z4,by rw [List.map_nil,AY,show jd p []=0 from rfl,Int.add_zero]⟩
 | t::r,acc,z3,z4,h=>by
  obtain ⟨⟨a1,a2,a3,a4⟩,a5,a6⟩:=h t (.head _)
  have sh:=ar (i:=t.2.1) (j:=t.2.2 - p) ⋯ ⋯
  by_cases g:t.1=1
  ·obtain ⟨z3',z4',ih⟩:=je (l:=l) (p:=p) (ts:=r) (acc:=acc - t.2.1*pw (t.2.2 - p)) (z3:=some (tD t)) (z4:=some (.int (t.2.1*pw (t.2.2 - p)))) fun t ht=>h t (.tail _ ht)
   refine ⟨z3',z4',?_⟩
   have e:jd p (t::r) = -(t.2.1*pw (t.2.2 - p))+jd p r:=by
    show tv p t+_=_
    unfold tv
    rw [if_pos g]
   rw [e,List.map_cons,fW]
   unfold tD at ih ⊢
   simp_arith [sh,eq_true g,ih]
   rw [Int.sub_eq_add_neg,Int.add_assoc]
  ·obtain ⟨z3',z4',ih⟩:=je (l:=l) (p:=p) (ts:=r) (acc:=acc+t.2.1*pw (t.2.2 - p)) (z3:=some (tD t)) (z4:=some (.int (t.2.1*pw (t.2.2 - p)))) fun t ht=>h t (.tail _ ht)
   refine ⟨z3',z4',?_⟩
   have e:jd p (t::r)=t.2.1*pw (t.2.2 - p)+jd p r:=by
    show tv p t+_=_
    unfold tv
    rw [if_neg g]
   rw [e,List.map_cons,fW]
   unfold tD at ih ⊢
   simp_arith [sh,g,ih]
   rw [Int.add_assoc]
theorem zC {ts:List Tm} (hl:ts.length<=100000) (h:∀ t∈ts,Ce t):kF [.lst (ts.map tD)]=.ok (.tup [.int (if jd (oR ts) ts<0 then 1 else 0),.int (if jd (oR ts) ts<0 then -(jd (oR ts) ts) else jd (oR ts) ts),.int (oR ts)]):=by
 have st:∀ δ,∀ t∈ts,stC (con ↥24) (bin oIx (var 0) ⇑2) [] δ (tD t)=.ok (some (.int t.2.2)):=fun δ t _=>by
  unfold stC inC tD
  simp_arith [List.map_nil]
  unfold sV
  simp_arith []
 have hb:=xr (ts:=ts) (a := -200000) (b:=200000) ↥3 fun t ht=>⟨(h t ht).2.2.1,(h t ht).2.2.2⟩
 obtain ⟨z3',z4',e⟩:=je (l:=ts.map tD) (p:=oR ts) (ts:=ts) (acc:=0) (z3:=none) (z4:=none) fun t ht=>⟨h t ht,rq ht,by have:=(h t ht).2.2.2;omega⟩
 rw [Int.zero_add] at e
 unfold kF oq
 by_cases g:jd (oR ts) ts<0
 ·simp_arith [List.length_map,hl,sL (st _),mf,xv,e,g]
 ·simp_arith [List.length_map,hl,sL (st _),mf,xv,e,g]
theorem zH {w:Wy} {E F s k r:Int}:stF w E F s k r=0↔(k<pw ↥0 - pw F/\r=0):=by
 unfold stF
 by_cases g:pw ↥0 - pw F<=k
 ·rw [if_pos g]
  constructor
  ·intro z;exact absurd z ↥3
  ·intro z;omega
 ·rw [if_neg g]
  by_cases q:r=0
  ·rw [if_pos q]
   exact ⟨fun _=>⟨⋯,q⟩,fun _=>rfl⟩
  ·rw [if_neg q]
   constructor
   ·intro z
    split at z
    ·exact absurd z ↥3
    ·split at z<;>exact absurd z ↥3
   ·intro z;exact absurd z.2 q
theorem AK {E F q:Int} {ts:List Tm} (h:Sz E F) (hl:ts.length<=1000) (hts:∀ t∈ts,Ce t) (hq:q<=0) (hp:∀ t∈ts,q<=t.2.2) (hn:ts≠[]) :
  ∃ k r,At F ((if jd q ts<0 then -(jd q ts) else jd q ts)*pw ↥20) (pw (-q)) k r/\(k<pw ↥0 - pw F/\r=0->bK [.tup [.int E,.int F],.lst (ts.map tD)]=.ok (.int ((if jd q ts<0 then 1 else 0)*pw ↥0+k)))/\(¬ (k<pw ↥0 - pw F/\r=0)->bK [.tup [.int E,.int F],.lst (ts.map tD)]=.ex "NoLeft"):=by
 have hb:=xr (ts:=ts) (a := -200000) (b:=200000) ↥3 fun t ht=>⟨(hts t ht).2.2.1,(hts t ht).2.2.2⟩
 have to:=zC ⋯ hts
 have es:=Dk hp
 have hq':q<=oR ts:=xu hn hp
 have nS:=BJ (p:=oR ts) fun t ht=>⟨hts t ht,rq ht,by have:=(hts t ht).2.2.2;omega⟩
 generalize oR ts=p at *
 have pp:=ag (p - q)
 generalize jd p ts=S at *
 have ni:=ro (X:=S) pp
 rw [es]
 have e1:(if S*pw (p - q)<0 then (1:Int) else 0)=if S<0 then 1 else 0:=by
  by_cases g:S<0
  ·rw [if_pos (ni.mpr g),if_pos g]
  ·rw [if_neg (fun y=>g (ni.mp y)),if_neg g]
 have e2:(if S*pw (p - q)<0 then -(S*pw (p - q)) else S*pw (p - q))=(if S<0 then -S else S)*pw (p - q):=by
  by_cases g:S<0
  ·rw [if_pos (ni.mpr g),if_pos g,Int.neg_mul]
  ·rw [if_neg (fun y=>g (ni.mp y)),if_neg g]
 rw [e1,e2]
 have nA:nb (if S<0 then -S else S)<=460000:=by rw [jT];omega
 have A0:0<=(if S<0 then -S else S):=by split<;>omega
 have hg:(0:Int)<=(if S<0 then 1 else 0)/\(if S<0 then (1:Int) else 0)<=1:=by split<;>decide
 generalize (if S<0 then -S else S)=A at *
 generalize (if S<0 then (1:Int) else 0)=g at *
 have wf:=eI (s:=g) (w:=A) (p:=p) ⋯ ⟨⋯,⋯⟩
 have hn':0<frB p:=by
  unfold frB
  split
  ·decide
  ·exact ag _
 have ht:0<=frT A p:=by
  unfold frT
  split
  ·exact Int.mul_nonneg A0 (Int.le_of_lt (ag _))
  ·exact A0
 have n1:nb (frT A p)<=1000000:=by
  unfold frT
  split
  ·have:=cc nA (dI (k:=p) (c:=200000) ⋯)
   omega
  ·omega
 have n2:nb (frB p)<=1000000:=by
  unfold frB
  split
  ·decide
  ·exact Nat.le_trans (dI (c:=200000) ⋯) ↥3
 obtain ⟨c,r,er,a⟩:=pD h ht hn' n1 n2
 have u:=AX (w:=A) (p:=p) (q:=q) hq hq'
 have er':=er .even g hg
 have ws:Wy.even.s=PySem.Str.ofString "even":=rfl
 rw [ws] at er'
 have z0:=zH (w:=.even) (E:=E) (F:=F) (s:=g) (k:=c) (r:=r)
 refine ⟨c,r,yH hn' (ag _) ?_ a,fun z => ?_,fun z => ?_⟩
 ·have x1:A*pw (p - q)*pw ↥20*frB p=A*pw (p - q)*frB p*pw ↥20:=by ac_rfl
  have x2:frT A p*pw ↥20*pw (-q)=frT A p*pw (-q)*pw ↥20:=by ac_rfl
  rw [x1,x2,u]
 ·have eK:stK .even E F g c r=c:=by rw [BK z.1,if_pos z.2]
  rw [eK,z0.mpr z] at er'
  unfold bK fV
  simp_arith [to,wf,er']
 ·have nf:¬ stF .even E F g c r=0:=fun y=>z (z0.mp y)
  generalize stK .even E F g c r=K at *
  generalize stF .even E F g c r=f at *
  unfold bK fV
  simp_arith [to,wf,er',nf]
theorem wR {E F s c:Int} (h:Sz E F) (hs:0<=s/\s<=1) (c0:0<=c) (c1:c<pw ↥0):aX [.tup [.int E,.int F],.int ↥5]=.ok (.str (kindS E ↥21 (c%pw F))):=by
 obtain ⟨b1,b2,b3,b4⟩:=az h hs c0 c1
 have:=kR h b1
 rw [b3,b4] at this
 exact this
theorem wQ {E F s c:Int} (h:Sz E F) (hs:0<=s/\s<=1) (c0:0<=c) (c1:c<pw ↥0):aR [.tup [.int E,.int F],.int ↥5]=.ok (.tup [.int s,.int ↥21,.int (c%pw F)]):=by
 obtain ⟨b1,b2,b3,b4⟩:=az h hs c0 c1
 have:=du h b1
 rw [b2,b3,b4] at this
 exact this
theorem kK {E F s c:Int} (h:Sz E F) (hs:0<=s/\s<=1) (c0:0<=c) (c1:c<pw ↥0 - pw F):aS [.tup [.int E,.int F],.int ↥5]=.ok (tD (wt E F s c)):=by
 have hQ:=ag F
 obtain ⟨b1,b2,b3,b4⟩:=az (c:=c) h hs c0 ⋯
 have wo:=mY h b1 (by rw [b3];intro z;have:=(iM h c0 ⋯).mp z;omega)
 rw [b2,b3,b4] at wo
 have k:=(j9 (c:=c) h c0 ⋯).2.1
 have kk:=wR (c:=c) h hs c0 ⋯
 have g:¬ kindS E ↥21 (c%pw F)=PySem.Str.ofString "endless":=fun z=>by have:=k.mp z;omega
 unfold aS cy tD wt
 simp_arith [kk,g,wo]
theorem kL {E F s c:Int} (h:Sz E F) (hs:0<=s/\s<=1) (c0:c=pw ↥0 - pw F):aS [.tup [.int E,.int F],.int ↥5]=.ok (.tup [.int s,.non,.int 0]):=by
 have hQ:=ag F
 have h5:=aP h
 have k:=(j9 (c:=c) h ⋯ ⋯).2.1
 have kk:=wR (c:=c) h hs ⋯ ⋯
 have pp:=wQ (c:=c) h hs ⋯ ⋯
 unfold aS cy
 simp_arith [kk,eq_true (k.mpr c0),pp]
theorem Gg {E F:Int} {x:Int×Int} (h:Sz E F) (hx:Ll E F x) (hn:x.2<=pw ↥0 - pw F):aS [.tup [.int E,.int F],.int (nI E F x)]=.ok (xD (xt E F x)):=by
 obtain ⟨a,b,c⟩:=hx
 unfold xt nI
 by_cases g:x.2=pw ↥0 - pw F
 ·rw [if_pos g]
  exact kL h a g
 ·rw [if_neg g]
  exact kK h a b ⋯
theorem kD {E F:Int} {x y:Int×Int} (h:Sz E F) (hx:Ll E F x) (hy:Ll E F y) (nx:x.2<=pw ↥0 - pw F) (ny:y.2<=pw ↥0 - pw F):aD [.tup [.int E,.int F],.int (nI E F x),.int (nI E F y)]=.ok (xD (pt E F x y)):=by
 have tx:=Gg h hx nx
 have ty:=Gg h hy ny
 have so:=Dj hx.1 hy.1
 unfold xt at tx ty
 unfold pt
 unfold aD cO
 by_cases g:x.2=pw ↥0 - pw F
 ·rw [if_pos g] at tx
  rw [if_pos (.inl g)]
  by_cases g':y.2=pw ↥0 - pw F
  ·rw [if_pos g'] at ty
   unfold xD at *
   simp_arith [tx,ty,so]
  ·rw [if_neg g'] at ty
   unfold xD tD wt at *
   simp_arith [tx,ty,so]
 ·rw [if_neg g] at tx
  by_cases g':y.2=pw ↥0 - pw F
  ·rw [if_pos g'] at ty
   rw [if_pos (.inr g')]
   unfold xD tD wt at *
   simp_arith [tx,ty,so]
  ·rw [if_neg g'] at ty
   rw [if_neg (fun z=>z.elim g g')]
   obtain ⟨⟨_,a2,_,_⟩,_,_⟩:=vE (s:=0) h hx.2.1 (show x.2<_ by omega)
   obtain ⟨⟨_,b2,_,_⟩,_,_⟩:=vE (s:=0) h hy.2.1 (show y.2<_ by omega)
   have mu:=ao (MulOk.of (i:=wh F (x.2 / pw F) (x.2%pw F)) (j:=wh F (y.2 / pw F) (y.2%pw F)) a2 b2 ↥3)
   unfold xD tD wt pm at *
   simp_arith [tx,ty,so,mu]
theorem Ii {n r:Int} (hn:0<=n) (hr:0<r) (hs:n<r*r):0<=(r+n / r) / 2/\(r+n / r) / 2<r/\n<((r+n / r) / 2+1)*((r+n / r) / 2+1):=by
 have q0:0<=n / r:=Int.ediv_nonneg hn ⋯
 have q1:n / r<r:=Int.ediv_lt_of_lt_mul hr hs
 have q2:n<(n / r+1)*r:=by
  have:=Int.lt_ediv_add_one_mul_self n hr
  exact this
 generalize n / r=q at *
 refine ⟨⋯,⋯,?_⟩
 have e:r+q+1<=2*((r+q) / 2+1):=⋯
 generalize (r+q) / 2+1=t at *
 have h4:(r+q+1)*(r+q+1)<=(2*t)*(2*t):=Int.mul_le_mul e e ⋯ ⋯
 have h5:4*((q+1)*r)<=(r+q+1)*(r+q+1):=by
  have h6:0<=(r - (q+1))*(r - (q+1)):=by
   rcases Int.le_total 0 (r - (q+1)) with z | z
   ·exact Int.mul_nonneg z z
   ·exact Int.mul_nonneg_of_nonpos_of_nonpos z z
  have e1:(r - (q+1))*(r - (q+1))=r*r - 2*((q+1)*r)+(q+1)*(q+1):=by
   simp only [Int.sub_mul,Int.mul_sub,Int.add_mul,Int.mul_add,Int.one_mul,Int.mul_one,Int.mul_comm r q];omega
  have e2:(r+q+1)*(r+q+1)=r*r+2*((q+1)*r)+(q+1)*(q+1):=by
   simp only [Int.add_mul,Int.mul_add,Int.one_mul,Int.mul_one,Int.mul_comm r q];omega
  rw [e1] at h6
  rw [e2]
  omega
 have h7:(2*t)*(2*t)=4*(t*t):=by
  rw [Int.mul_assoc,Int.mul_left_comm t 2 t];omega
 rw [h7] at h4
 omega
def Inv (n:Int) (δ:Dt):Prop:=∃ r,δ=[some (.int n),some (.int r)]/\0<=r/\n<(r+1)*(r+1)/\nb r<=3001
theorem mZ {n:Int} (h0:0<=n) (hb:nb n<=3000):∃ r,cR [.int n]=.ok (.int r)/\yO n r:=by
 unfold cR dU
 have hlt:¬ n<0:=⋯
 have hd:fP ((nb n:Int)+1) 2:=fP.small ↥3 ↥3
 have hsz:(nb (1:Int):Int)+((nb n:Int)+1) / 2<=134217728:=by
  have:nb (1:Int)=1:=by decide
  omega
 simp_arith [hlt,d8 hd,ar (show (0:Int)<=((nb n:Int)+1) / 2 by omega) hsz,Int.one_mul]
 have hin:Inv n [some (.int n),some (.int (pw (((nb n:Int)+1) / 2)))]:=by
  refine ⟨_,rfl,Int.le_of_lt (ag _),?_,Nat.le_trans (dI (c:=3000) ⋯) ↥3⟩
  have h1:=jl h0
  have h2:pw (nb n)<=pw (((nb n:Int)+1) / 2+((nb n:Int)+1) / 2):=fq ⋯
  rw [aF ⋯ ⋯] at h2
  have h3:=ag (((nb n:Int)+1) / 2)
  generalize pw (((nb n:Int)+1) / 2)=z at *
  have e:(z+1)*(z+1)=z*z+2*z+1:=by
   simp only [Int.add_mul,Int.mul_add,Int.one_mul,Int.mul_one];omega
  rw [e]
  omega
 obtain ⟨δ',e1,⟨r,rfl,r0,r1,r2⟩,e3⟩:=sE (c:=bin oGt (bin dH (var 1) (var 1)) (var 0)) (b:=assign 1 (bin oDiv (bin cw (var 1) (bin oDiv (var 0) (var 1))) ⇑2)) (Inv n) (fun δ=>match δ with | [_,some (.int r)]=>r.toNat | _=>0) (fun δ ⟨r,e,r0,r1,r2⟩=>by
  subst e
  have hm:MulOk r r:=MulOk.of r2 r2 ↥3
  simp_arith [ao hm]
  by_cases hc:n<r*r
  ·have hr:0<r:=by
    rcases Int.lt_or_eq_of_le r0 with z | z
    ·exact z
    ·rw [<- z] at hc;omega
   obtain ⟨n1,n2,n3⟩:=Ii h0 hr hc
   refine .inr ⟨by simp [hc],?_⟩
   simp_arith [d8 (fP.small (i:=n) hr (Nat.le_trans r2 ↥3)),d8 (fP.small (i:=r+n / r) (j:=2) ↥3 ↥3)]
   refine ⟨_,rfl,⟨_,rfl,n1,n3,Nat.le_trans (d9 ⋯) r2⟩,?_⟩
   show ((r+n / r) / 2).toNat<r.toNat
   omega
  ·exact .inl (by simp [hc])) _ hin
 refine ⟨r,?_,r0,?_,r1⟩
 ·simp_arith [e1]
 ·have hm:MulOk r r:=MulOk.of r2 r2 ↥3
  revert e3
  simp_arith [ao hm]
  intro e3
  have:¬ n<r*r:=by simpa using e3
  omega
theorem pE {A B r:Int} (hA:nb A<=50000000) (hB:nb B<=50000000) (hr:nb r<=1000):dB [.int A,.int B,.int r]=.ok (.int (FV r A B)):=by
 have n1:nb (2*r)<=1002:=by walk_at "nbk"
 have n2:nb (2*r+1)<=1003:=by walk_at "nbk"
 have n3:nb ((2*r+1)*(2*r+1))<=2006:=by walk_at "nbk"
 have n4:nb (r*r)<=2000:=by walk_at "nbk"
 have m1:MulOk 2 r:=by walk_at "mul"
 have m2:MulOk (2*r+1) (2*r+1):=by walk_at "mul"
 have m3:MulOk ((2*r+1)*(2*r+1)) B:=by walk_at "mul"
 have m4:MulOk r r:=by walk_at "mul"
 have m5:MulOk (r*r) B:=by walk_at "mul"
 have m6:MulOk 4 A:=by walk_at "mul"
 have e:(A - r*r*B=0)=(r*r*B=A):=by apply propext;omega
 unfold dB fD FV
 simp_arith [ao m1,ao m2,ao m3,ao m4,ao m5,ao m6,kC,e]
theorem DD {E F t n:Int} (h:Sz E F) (ht:0<t) (hn:0<n) (h1:nb t<=1000000) (h2:nb n<=1000000) :
  ∃ r,eO [.tup [.int E,.int F],.int t,.int n]=.ok (.tup [.int r,.int (bP E F t n),.int (FV r (cW ↥11 t) (cC ↥11 n))])/\yO (cW ↥11 t / cC ↥11 n) r:=by
 obtain ⟨s1,s2,s3,s4⟩:=kz h ht hn
 have l:=et h
 have hg:=xT ht hn
 have hB:=gU (p:=2*bP E F t n) hn
 have hA:=oE (p:=2*bP E F t n) (Int.le_of_lt ht)
 have q1:nb (2*pw F)<=2+113:=cc ↥3 (dI (c:=112) h.2.2.2)
 have q2:=cc q1 q1
 have d:=EF hA hB q2 ↥3 s3
 have eP:max (lo E F) ((hgt t n+1) / 2 - F - 1)=bP E F t n:=rfl
 have nB:nb (cC ↥11 n)<=4000000:=by
  have:=cc h2 (dI (k:=2*bP E F t n) (c:=2000000) ⋯)
  unfold cC;omega
 have nA:nb (cW ↥11 t)<=4000000:=by
  have:=cc h1 (dI (k := -↥11) (c:=2000000) ⋯)
  unfold cW;omega
 have nP:nb (bP E F t n)<=64:=by
  refine kN.mpr ?_
  have:(2:Nat)^64=18446744073709551616:=by decide
  omega
 have m2:MulOk 2 (bP E F t n):=by walk_at "mul"
 have x0:0<=cW ↥11 t / cC ↥11 n:=Int.ediv_nonneg hA (Int.le_of_lt hB)
 have x1:cW ↥11 t / cC ↥11 n<2*pw F*(2*pw F):=Int.ediv_lt_of_lt_mul hB s3
 have x2:nb (cW ↥11 t / cC ↥11 n)<=230:=Nat.le_trans (d9 ⋯) q2
 obtain ⟨r,er,hr⟩:=mZ x0 (Nat.le_trans x2 ↥3)
 have nr:nb r<=1000:=by
  obtain ⟨r0,r1,r2⟩:=hr
  have:nb r<=nb (cW ↥11 t / cC ↥11 n):=d9 (by
   have:r<=r*r:=by
    rcases Int.lt_or_eq_of_le r0 with z | z
    ·have:=Int.mul_le_mul_of_nonneg_left (show 1<=r by omega) r0
     omega
    ·rw [<- z];decide
   omega)
  omega
 refine ⟨r,?_,hr⟩
 unfold eO gH
 simp_arith [oH (Int.le_of_lt ht) hn,show ¬ t=0 by omega,iL h,pW h1 h2,eP,ao m2,iv (t:=t) (n:=n) (p:=2*bP E F t n) ⋯ ⋯ ⋯ ⋯,d8 d,er,pE (A:=cW ↥11 t) (B:=cC ↥11 n) (r:=r) ⋯ ⋯ nr]
theorem kA {E F s c:Int} (h:Sz E F) (hs:0<=s/\s<=1) (c0:0<=c) (c1:c<pw ↥0):aX [.tup [.int E,.int F],.int ↥5]=.ok (.str (kindS E ↥21 (c%pw F))):=by
 obtain ⟨b1,b2,b3,b4⟩:=az h hs c0 c1
 have:=kR h b1
 rw [b3,b4] at this
 exact this
theorem qW {E F s c:Int} (w:Wy) (h:Sz E F) (hs:0<=s/\s<=1) (hc:c=0\/(s=0/\c=pw ↥0 - pw F)):bD [.tup [.int E,.int F],.str w.s,.int ↥5]=.ok (.tup [.int ↥5,.int 0]):=by
 have h5:=aP h
 have hQ:=ag F
 have kc:=eV (c:=c) h ⋯ ⋯
 have kk:=kA (c:=c) h hs ⋯ ⋯
 have e:=jo kk rfl rfl
 have ee:=bj h
 rw [end_is h] at ee
 unfold bD gG
 rcases hc with g | ⟨g1,g2⟩
 ·rw [kc.2.2.1 g] at e kk
  rw [decide_eq_false ↥3] at e
  simp_arith [bG w,e,kk]
 ·rw [kc.2.1 g2] at e kk
  rw [decide_eq_false ↥3] at e
  subst g1
  have q:0*pw ↥0+c=pw ↥0 - pw F:=⋯
  rw [q] at e kk ⊢
  simp_arith [bG w,e,kk,ee]
theorem uu {E F c:Int} (w:Wy) (h:Sz E F) (c0:0<c) (c1:c<=pw ↥0 - pw F):bD [.tup [.int E,.int F],.str w.s,.int (1*pw ↥0+c)]=.ok (.tup [.int (pw ↥0 - pw F+pw (F - 1)),.int 16]):=by
 have h5:=aP h
 have hQ:=ag F
 have hs:(0:Int)<=1/\(1:Int)<=1:=by decide
 have kc:=eV (c:=c) h ⋯ ⋯
 have kk:=kA (c:=c) h hs ⋯ ⋯
 have e:=jo kk rfl rfl
 have ee:=bj h
 rw [end_is h] at ee
 have e2:=jv h
 rw [end_is h] at e2
 obtain ⟨b1,b2,b3,b4⟩:=az (c:=c) h hs ⋯ ⋯
 have pa:=du h b1
 rw [b2,b3,b4] at pa
 have k2:kindS E ↥21 (c%pw F)≠PySem.Str.ofString "none"/\kindS E ↥21 (c%pw F)≠PySem.Str.ofString "nought":=by
  by_cases g:c=pw ↥0 - pw F
  ·rw [kc.2.1 g];decide
  ·rcases kc.2.2.2 c0 ⋯ with y | y<;>rw [y]<;>decide
 rw [decide_eq_false k2.1] at e
 generalize kindS E ↥21 (c%pw F)=K at *
 unfold bD gG
 simp_arith [bG w,e,kk,k2.2,ee,show ¬ 1*pw ↥0+c=pw ↥0 - pw F by omega,pa,e2]
theorem wm {E F c:Int} (w:Wy) (h:Sz E F) (c0:0<c) (c1:c<pw ↥0 - pw F):∃ d r,bD [.tup [.int E,.int F],.str w.s,.int (0*pw ↥0+c)]=.ok (.tup [.int (0*pw ↥0+stK w E F 0 d r),.int (stF w E F 0 d r)])/\RAt F (vl F c*pw ↥20) d r:=by
 have h5:=aP h
 have hQ:=ag F
 have l:=et h
 have hs:(0:Int)<=0/\(0:Int)<=1:=by decide
 have kc:=eV (c:=c) h ⋯ ⋯
 have kk:=kA (c:=c) h hs ⋯ ⋯
 have e:=jo kk rfl rfl
 have ee:=bj h
 rw [end_is h] at ee
 obtain ⟨b1,b2,b3,b4⟩:=az (c:=c) h hs ⋯ ⋯
 have pa:=du h b1
 rw [b2,b3,b4] at pa
 have fa:=kX h b1 (by rw [b3];intro z;have:=(iM h ⋯ ⋯).mp z;omega)
 rw [b2,b3,b4] at fa
 have k2:kindS E ↥21 (c%pw F)≠PySem.Str.ofString "none"/\kindS E ↥21 (c%pw F)≠PySem.Str.ofString "nought":=by
  rcases kc.2.2.2 c0 c1 with y | y<;>rw [y]<;>decide
 rw [decide_eq_false k2.1] at e
 obtain ⟨f1,f2,f3,f4⟩:=ow h (Int.le_of_lt c0) c1
 have fu:=xX (w:=wh F ↥21 (c%pw F)) h (uw (E:=E) (F:=F) (Int.le_of_lt c0))
 rw [iq] at fu
 have vc:=bH (F:=F) (Int.le_of_lt c0)
 have t0:0<frT (wh F ↥21 (c%pw F)) (po E F ↥21):=by
  refine Classical.byContradiction fun q => ?_
  have z:frT (wh F ↥21 (c%pw F)) (po E F ↥21)=0:=⋯
  rw [z,Int.zero_mul] at fu
  have:=Int.mul_pos (show 0<vl F c by omega) f2
  omega
 generalize kindS E ↥21 (c%pw F)=K at *
 generalize frT (wh F ↥21 (c%pw F)) (po E F ↥21)=t at *
 generalize frB (po E F ↥21)=n at *
 obtain ⟨r,er,hr⟩:=DD h t0 f2 (Nat.le_trans f3 ↥3) (Nat.le_trans f4 ↥3)
 obtain ⟨s1,s2,s3,s4⟩:=kz h t0 f2
 have ra:=DF (S:=vl F c*pw ↥20) h t0 f2 (by rw [Int.mul_right_comm,<-fu,Int.mul_assoc]) hr
 have se:=jf (s:=0) (x:=r) (P:=bP E F t n) (r:=FV r (cW ↥11 t) (cC ↥11 n)) w h hs s1 ⋯ hr.1
 refine ⟨_,_,?_,ra⟩
 unfold bD gG
 simp_arith [bG w,e,kk,k2.2,ee,show ¬ 0*pw ↥0+c=pw ↥0 - pw F by omega,pa,fa,er,se]
theorem aH {E F c:Int} (h:Sz E F) (h0:0<=c) (h1:c<pw ↥0):ay [.tup [.int E,.int F],.int c]=.ok (.int (vl F c)):=by
 obtain ⟨k1,k2,k3,k4⟩:=id h
 obtain ⟨v1,v2⟩:=vL h h0 h1
 have v3:=eJ h
 have v4:=wx h
 obtain ⟨r0,r1⟩:=B5 F c
 unfold fig at r0 r1
 have n1:nb (pw F+c%pw F)<=128:=dD ⋯ ⋯
 unfold ay fG vl
 by_cases g:c / pw F=0
 ·simp_arith [show (0:Int)<=F by omega,eq_true g]
 ·simp_arith [show (0:Int)<=F by omega,g,eG (k:=F) ⋯ ⋯,ag,ar (i:=pw F+c%pw F) (j:=c / pw F - 1) ⋯ ⋯]
theorem B6 (w:Wy) (o e:Bool) (l:Int):dC [.str w.s,.bl o,.int l,.bl e]=.ok (.bl (w.far o l e)):=by
 unfold dC iQ
 cases w
 ·by_cases g:0<l
  ·simp_arith [Wy.s,g]
   simp [Wy.far,g]
  ·by_cases g2:l=0
   ·simp_arith [Wy.s,g,eq_true g2]
    simp [Wy.far,g2]
   ·simp_arith [Wy.s,g,g2]
    simp [Wy.far,g,g2]
 ·simp_arith [Wy.s]
  rfl
 ·simp_arith [Wy.s]
  rfl
 ·simp_arith [Wy.s]
  rfl
 ·simp_arith [Wy.s]
  rfl
theorem cQ (i:Int):aN [.int i]=.ok ↥24:=by
 unfold aN fF
 simp_arith []
theorem xi (w:Wy) (o e:Bool) (l:Int):cG [.str w.s,.bl o,.int l,.bl e]=.ok (.bl (w.near o l e)):=by
 unfold cG gO
 cases w
 ·by_cases g:l<0
  ·simp_arith [Wy.s,g]
   simp [Wy.near,g]
  ·by_cases g2:l=0
   ·simp_arith [Wy.s,g,eq_true g2]
    simp [Wy.near,g2]
   ·simp_arith [Wy.s,g,g2]
    simp [Wy.near,g,g2]
 ·simp_arith [Wy.s]
  rfl
 ·cases o<;>simp_arith [Wy.s]<;>rfl
 ·cases o<;>simp_arith [Wy.s]<;>rfl
 ·cases o<;>simp_arith [Wy.s]<;>rfl
section
variable {E F s T n c:Int}
theorem pH (w:Wy) (s:Int) (a:Option D) (l:Dt):or_ ↥18 ↥16 (a::some (.str w.s)::some (.int s)::l)=.ok (.bl (w.out s)):=by
 cases w<;>simp_arith [Wy.s,Wy.out]<;>rfl
theorem p9 (w:Wy) (s:Int) (a a3 a4 a5 a6 a7 a8:Option D) (l:Dt):or_ (bin oEq (var 1) (con (.str "even"))) ↥36 (a::some (.str w.s)::some (.int s)::a3::a4::a5::a6::a7::a8::some (.bl (w.out s))::l)=.ok (.bl (w.brs s)):=by
 have v9:var 9 (a::some (.str w.s)::some (.int s)::a3::a4::a5::a6::a7::a8::some (.bl (w.out s))::l)=.ok (.bl (w.out s)):=rfl
 cases w<;>simp_arith [Wy.s,v9]<;>rfl
theorem kM (w:Wy) (s:Int) (a a3 a4 a5 a6 a7 a8:Option D) (l:Dt):eH (bin oNe (var 1) (con (.str "even"))) ↥22 (a::some (.str w.s)::some (.int s)::a3::a4::a5::a6::a7::a8::some (.bl (w.out s))::l)=.ok (.bl (!w.brs s)):=by
 have v9:var 9 (a::some (.str w.s)::some (.int s)::a3::a4::a5::a6::a7::a8::some (.bl (w.out s))::l)=.ok (.bl (w.out s)):=rfl
 cases w<;>simp_arith [Wy.s,v9]<;>first | rfl | (generalize hq:Wy.out _ s=q;cases q<;>simp [Wy.brs,hq])
theorem A3 (w:Wy) (h:Sz E F) (hs:0<=s/\s<=1) (hn:0<n) (nT:nb T<=10000000) (nn:nb n<=10000000) (hb:w.brs s=true) (hT:vl F ↥29*n<=T) :
  aJ [.tup [.int E,.int F],.str w.s,.int s,.int T,.int n,.tup [.int (s*pw ↥0+↥29),.int 5]]=.ok ↥24:=by
 obtain ⟨k1,k2,k3,k4⟩:=id h
 have hh:=aP h
 have hQ:=ag F
 have eM:=end_is h
 have ns:nb s<=1:=dD hs.1 ⋯
 have nE:nb (pw E - 1)<=15:=dD (by have:=ag E;omega) (by have:=eJ h;omega)
 have m2:MulOk 2 T:=by walk_at "mul"
 have eK:s*pw ↥0+↥29 - s*pw ↥0=pw ↥0 - pw F:=⋯
 unfold aJ cg
 have ho:=pH w s
 have hbr:=p9 w s
 have hnb:=kM w s
 generalize or_ ↥18 ↥16=OUT at ho ⊢
 generalize or_ (bin oEq (var 1) (con (.str "even"))) ↥36=BRS at hbr ⊢
 generalize eH (bin oNe (var 1) (con (.str "even"))) ↥22=NBR at hnb ⊢
 simp_arith [cQ,ho,hbr,hnb,hb,ar (i:=s) (j:=E+F) ⋯ ⋯,eK,eG (k:=E) ⋯ ⋯,ar (i:=pw E - 1) (j:=F) ⋯ ⋯,eM,show 0<=pw ↥0 - pw F by omega,Int.le_refl,aH (c:=pw ↥0 - pw F) h ⋯ ⋯,ao (js (x:=pw ↥0 - pw F) h ⋯ ⋯ nn),hT]
theorem uO (w:Wy) (h:Sz E F) (hs:0<=s/\s<=1) (hn:0<n) (nT:nb T<=10000000) (nn:nb n<=10000000) (hb:w.brs s=false) (hT:vl F ↥29*n<=T) :
  aJ [.tup [.int E,.int F],.str w.s,.int s,.int T,.int n,.tup [.int (s*pw ↥0+(pw ↥0 - pw F - 1)),.int 5]]=.ok ↥24:=by
 obtain ⟨k1,k2,k3,k4⟩:=id h
 have hh:=aP h
 have hQ:=ag F
 have eM:=end_is h
 have ns:nb s<=1:=dD hs.1 ⋯
 have nE:nb (pw E - 1)<=15:=dD (by have:=ag E;omega) (by have:=eJ h;omega)
 have m2:MulOk 2 T:=by walk_at "mul"
 have eK:s*pw ↥0+(pw ↥0 - pw F - 1) - s*pw ↥0=pw ↥0 - pw F - 1:=⋯
 have e1:pw ↥0 - pw F - 1+1=pw ↥0 - pw F:=⋯
 have lt:=dn (F:=F) (x:=pw ↥0 - pw F - 1) (y:=pw ↥0 - pw F) hn ⋯ ⋯
 unfold aJ cg
 have ho:=pH w s
 have hbr:=p9 w s
 have hnb:=kM w s
 generalize or_ ↥18 ↥16=OUT at ho ⊢
 generalize or_ (bin oEq (var 1) (con (.str "even"))) ↥36=BRS at hbr ⊢
 generalize eH (bin oNe (var 1) (con (.str "even"))) ↥22=NBR at hnb ⊢
 simp_arith [cQ,ho,hbr,hnb,hb,ar (i:=s) (j:=E+F) ⋯ ⋯,eK,eG (k:=E) ⋯ ⋯,ar (i:=pw E - 1) (j:=F) ⋯ ⋯,eM,show 0<=pw ↥0 - pw F - 1 by omega,show pw ↥0 - pw F - 1<=pw ↥0 - pw F by omega,aH (c:=pw ↥0 - pw F - 1) h ⋯ ⋯,ao (js (x:=pw ↥0 - pw F - 1) h ⋯ ⋯ nn),show ¬ pw ↥0 - pw F - 1=pw ↥0 - pw F by omega,show ¬ T=vl F (pw ↥0 - pw F - 1)*n by omega,ar (i:=n) (j:=F) ⋯ ⋯,show vl F (pw ↥0 - pw F - 1)*n<T by omega,e1,aH (c:=pw ↥0 - pw F) h ⋯ ⋯,ao (js (x:=pw ↥0 - pw F) h ⋯ ⋯ nn),hT]
 split<;>rfl
theorem uP (w:Wy) (h:Sz E F) (hs:0<=s/\s<=1) (hn:0<n) (nT:nb T<=10000000) (nn:nb n<=10000000) (c0:0<=c) (c1:c<pw ↥0 - pw F) (hT:T=vl F c*n) :
  aJ [.tup [.int E,.int F],.str w.s,.int s,.int T,.int n,.tup [.int ↥5,.int 0]]=.ok ↥24:=by
 obtain ⟨k1,k2,k3,k4⟩:=id h
 have hh:=aP h
 have hQ:=ag F
 have eM:=end_is h
 have ns:nb s<=1:=dD hs.1 ⋯
 have nE:nb (pw E - 1)<=15:=dD (by have:=ag E;omega) (by have:=eJ h;omega)
 have m2:MulOk 2 T:=by walk_at "mul"
 have eK:s*pw ↥0+c - s*pw ↥0=c:=⋯
 unfold aJ cg
 have ho:=pH w s
 have hbr:=p9 w s
 have hnb:=kM w s
 generalize or_ ↥18 ↥16=OUT at ho ⊢
 generalize or_ (bin oEq (var 1) (con (.str "even"))) ↥36=BRS at hbr ⊢
 generalize eH (bin oNe (var 1) (con (.str "even"))) ↥22=NBR at hnb ⊢
 simp_arith [cQ,ho,hbr,hnb,ar (i:=s) (j:=E+F) ⋯ ⋯,eK,eG (k:=E) ⋯ ⋯,ar (i:=pw E - 1) (j:=F) ⋯ ⋯,eM,c0,show c<=pw ↥0 - pw F by omega,aH (c:=c) h c0 ⋯,ao (js (x:=c) h c0 ⋯ nn),show ¬ c=pw ↥0 - pw F by omega,eq_true hT]
theorem yc (w:Wy) (h:Sz E F) (hs:0<=s/\s<=1) (hn:0<n) (nT:nb T<=10000000) (nn:nb n<=10000000) (c0:0<=c) (c1:c<pw ↥0 - pw F) (h1:vl F c*n<T) (h2:T<vl F (c+1)*n)
  (hw:w.near (w.out s) (2*T - vl F c*n - vl F (c+1)*n) (decide (c%2=0))=true) :
  aJ [.tup [.int E,.int F],.str w.s,.int s,.int T,.int n,.tup [.int ↥5,.int (if c<pw F then 3 else 1)]]=.ok ↥24:=by
 obtain ⟨k1,k2,k3,k4⟩:=id h
 have hh:=aP h
 have hQ:=ag F
 have eM:=end_is h
 have ns:nb s<=1:=dD hs.1 ⋯
 have nE:nb (pw E - 1)<=15:=dD (by have:=ag E;omega) (by have:=eJ h;omega)
 have m2:MulOk 2 T:=by walk_at "mul"
 have eK:s*pw ↥0+c - s*pw ↥0=c:=⋯
 have ld:=xA h hn c0 (Int.le_of_lt h1) h2
 have hnear:=xi w (w.out s) (decide (c%2=0)) (2*T - vl F c*n - vl F (c+1)*n)
 rw [hw] at hnear
 have ns2:(nb s:Int)+↥0<=134217728:=⋯
 unfold aJ cg
 have ho:=pH w s
 have hbr:=p9 w s
 have hnb:=kM w s
 generalize or_ ↥18 ↥16=OUT at ho ⊢
 generalize or_ (bin oEq (var 1) (con (.str "even"))) ↥36=BRS at hbr ⊢
 generalize eH (bin oNe (var 1) (con (.str "even"))) ↥22=NBR at hnb ⊢
 have i10:ifs (bin oLt (var 3) (bin bZ (var 4) ↥10)) (assign 10 ⇑3) aq [some ↥35,some (.str w.s),some (.int s),some (.int T),some (.int n),some (.tup [.int ↥5,.int (if c<pw F then 3 else 1)]),some (.int c),some (.int ↥29),some (.int (vl F c*n)),some (.bl (w.out s)),some (.int 1),none,none]=.nx [some ↥35,some (.str w.s),some (.int s),some (.int T),some (.int n),some (.tup [.int ↥5,.int (if c<pw F then 3 else 1)]),some (.int c),some (.int ↥29),some (.int (vl F c*n)),some (.bl (w.out s)),some (.int (if c<pw F then 3 else 1)),none,none]:=by
  have sh:=ar (i:=n) (j:=F) ⋯ ⋯
  clear hnear ho hbr hnb hw
  by_cases g:c<pw F<;>simp_arith [sh,ld,g]
 generalize ifs (bin oLt (var 3) (bin bZ (var 4) ↥10)) (assign 10 ⇑3) aq=I10 at *
 generalize (if c<pw F then 3 else 1:Int)=fl at *
 simp_arith [i10,cQ,ho,hbr,hnb,ar (j:=E+F) ⋯ ns2,eK,eG (k:=E) ⋯ ⋯,ar (i:=pw E - 1) (j:=F) ⋯ ⋯,eM,c0,show c<=pw ↥0 - pw F by omega,aH (c:=c) h c0 ⋯,ao (js (x:=c) h c0 ⋯ nn),show ¬ c=pw ↥0 - pw F by omega,show ¬ T=vl F c*n by omega,ar (i:=n) (j:=F) ⋯ ⋯,ld,h1,aH (c:=c+1) h ⋯ ⋯,ao (js (x:=c+1) h ⋯ ⋯ nn),show ¬ vl F (c+1)*n<=T by omega,ao m2,hnear]
theorem A2 (w:Wy) (h:Sz E F) (hs:0<=s/\s<=1) (hn:0<n) (nT:nb T<=10000000) (nn:nb n<=10000000) (c0:0<=c) (c1:c<pw ↥0 - pw F) (h1:vl F c*n<T) (h2:T<vl F (c+1)*n)
  (hw:w.far (w.out s) (2*T - vl F (c+1)*n - vl F c*n) (decide ((c+1)%2=0))=true) :
  aJ [.tup [.int E,.int F],.str w.s,.int s,.int T,.int n,.tup [.int (s*pw ↥0+(c+1)),.int (if c+1=pw ↥0 - pw F then 5 else if c<pw F then 3 else 1)]]=.ok ↥24:=by
 obtain ⟨k1,k2,k3,k4⟩:=id h
 have hh:=aP h
 have hQ:=ag F
 have eM:=end_is h
 have ns:nb s<=1:=dD hs.1 ⋯
 have nE:nb (pw E - 1)<=15:=dD (by have:=ag E;omega) (by have:=eJ h;omega)
 have m2:MulOk 2 T:=by walk_at "mul"
 have eK:s*pw ↥0+(c+1) - s*pw ↥0=c+1:=⋯
 have e1:c+1 - 1=c:=⋯
 have ld:=xA h hn c0 (Int.le_of_lt h1) h2
 have hfar:=B6 w (w.out s) (decide ((c+1)%2=0)) (2*T - vl F (c+1)*n - vl F c*n)
 rw [hw] at hfar
 have ns2:(nb s:Int)+↥0<=134217728:=⋯
 unfold aJ cg
 have ho:=pH w s
 have hbr:=p9 w s
 have hnb:=kM w s
 generalize or_ ↥18 ↥16=OUT at ho ⊢
 generalize or_ (bin oEq (var 1) (con (.str "even"))) ↥36=BRS at hbr ⊢
 generalize eH (bin oNe (var 1) (con (.str "even"))) ↥22=NBR at hnb ⊢
 have i10:ifs (bin oLt (var 3) (bin bZ (var 4) ↥10)) (assign 10 ⇑3) aq [some ↥35,some (.str w.s),some (.int s),some (.int T),some (.int n),some ↥26,some (.int (c+1)),some (.int ↥29),some (.int (vl F (c+1)*n)),some (.bl (w.out s)),some (.int 1),none,none]=.nx [some ↥35,some (.str w.s),some (.int s),some (.int T),some (.int n),some ↥26,some (.int (c+1)),some (.int ↥29),some (.int (vl F (c+1)*n)),some (.bl (w.out s)),some (.int (if c<pw F then 3 else 1)),none,none]:=by
  have sh:=ar (i:=n) (j:=F) ⋯ ⋯
  clear hfar ho hbr hnb hw
  by_cases g:c<pw F<;>simp_arith [sh,ld,g]
 have i5:ifs (bin oEq (var 6) (var 7)) (assign 10 ⇑5) aq [some ↥35,some (.str w.s),some (.int s),some (.int T),some (.int n),some ↥26,some (.int (c+1)),some (.int ↥29),some (.int (vl F (c+1)*n)),some (.bl (w.out s)),some (.int (if c<pw F then 3 else 1)),none,none]=.nx [some ↥35,some (.str w.s),some (.int s),some (.int T),some (.int n),some ↥26,some (.int (c+1)),some (.int ↥29),some (.int (vl F (c+1)*n)),some (.bl (w.out s)),some (.int (if c+1=pw ↥0 - pw F then 5 else if c<pw F then 3 else 1)),none,none]:=by
  clear hfar ho hbr hnb hw i10
  generalize (if c<pw F then 3 else 1:Int)=fl
  by_cases g2:c+1=pw ↥0 - pw F
  ·simp_arith [eq_true g2]
  ·simp_arith [g2]
 generalize ifs (bin oLt (var 3) (bin bZ (var 4) ↥10)) (assign 10 ⇑3) aq=I10 at *
 generalize ifs (bin oEq (var 6) (var 7)) (assign 10 ⇑5) aq=I5 at *
 generalize (if c+1=pw ↥0 - pw F then 5 else if c<pw F then 3 else 1:Int)=f2 at *
 generalize (if c<pw F then 3 else 1:Int)=fl at *
 simp_arith [i10,i5,cQ,ho,hbr,hnb,ar (j:=E+F) ⋯ ns2,eK,eG (k:=E) ⋯ ⋯,ar (i:=pw E - 1) (j:=F) ⋯ ⋯,eM,show 0<=c+1 by omega,show c+1<=pw ↥0 - pw F by omega,aH (c:=c+1) h ⋯ ⋯,ao (js (x:=c+1) h ⋯ ⋯ nn),show ¬ vl F (c+1)*n<=T by omega,show ¬ T=vl F (c+1)*n by omega,ar (i:=n) (j:=F) ⋯ ⋯,ld,show ¬ vl F (c+1)*n<T by omega,e1,aH (c:=c) h c0 ⋯,ao (js (x:=c) h c0 ⋯ nn),show ¬ T<=vl F c*n by omega,ao m2,hfar]
theorem A4 {r:Int} (w:Wy) (h:Sz E F) (hs:0<=s/\s<=1) (hn:0<n) (nT:nb T<=10000000) (nn:nb n<=10000000) (c0:0<=c) (h1:vl F c*n<=T) (h2:c<pw ↥0 - pw F->T<vl F (c+1)*n)
  (hr:jY F T n c r) :
  aJ [.tup [.int E,.int F],.str w.s,.int s,.int T,.int n,.tup [.int (s*pw ↥0+stK w E F s c r),.int (stF w E F s c r)]]=.ok ↥24:=by
 have hh:=aP h
 have hQ:=ag F
 by_cases g:pw ↥0 - pw F<=c
 ·have hT:vl F ↥29*n<=T:=by
   rcases Int.lt_or_eq_of_le g with y | y
   ·have:=dn (F:=F) hn (show 0<=pw ↥0 - pw F by omega) y
    omega
   ·rw [y];exact h1
  unfold stF stK
  simp only [if_pos g]
  cases gb:w.brs s
  ·exact uO w h hs hn nT nn gb hT
  ·exact A3 w h hs hn nT nn gb hT
 have h2:=h2 ⋯
 rcases hr with ⟨e,eT⟩ | ⟨h1',hr⟩
 ·have e1:stK w E F s c r=c:=by unfold stK;rw [if_neg g,if_pos e]
  have e2:stF w E F s c r=0:=by unfold stF;rw [if_neg g,if_pos e]
  rw [e1,e2]
  exact uP w h hs hn nT nn c0 ⋯ eT
 have r0:¬ r=0:=⋯
 cases gg:w.grw s (decide (c%2=1)) r
 ·have e1:stK w E F s c r=c:=by unfold stK;rw [if_neg g,if_neg r0,gg];rfl
  have e2:stF w E F s c r=if c<pw F then 3 else 1:=by unfold stF;rw [if_neg g,if_neg r0,e1,if_neg ⋯]
  rw [e1,e2]
  exact yc w h hs hn nT nn c0 ⋯ h1' h2 (xj hr gg)
 ·have e1:stK w E F s c r=c+1:=by unfold stK;rw [if_neg g,if_neg r0,gg];rfl
  have e2:stF w E F s c r=if c+1=pw ↥0 - pw F then 5 else if c<pw F then 3 else 1:=by unfold stF;rw [if_neg g,if_neg r0,e1]
  rw [e1,e2]
  refine A2 w h hs hn nT nn c0 ⋯ h1' h2 (B7 (l:=2*T - vl F (c+1)*n - vl F c*n) ?_ gg)
  omega
end
theorem jk {a b:Int}:cF [.tup [.int a,.int b]]=.ok ↥24:=by
 unfold cF gM
 simp_arith [cQ]
theorem eB {E F b:Int} (h:Sz E F):aT [.tup [.int E,.int F],.int b]=.ok (.int (lnn E F b)):=by
 obtain ⟨h1,h2,h3,h4⟩:=id h
 have hv:=aH (c:=b%pw ↥0) h (Jg (b:=b)).1 (Jg (b:=b)).2
 unfold aT gP lnn cd
 by_cases g:pw ↥0<=b
 ·simp_arith [eG (k:=E+F) ⋯ ⋯,ag,hv,g]
 ·simp_arith [eG (k:=E+F) ⋯ ⋯,ag,hv,g]
theorem rF {E F x b d Y st:Int} (h:Sz E F) (hb:0<=b/\b<=1) (d0:0<=d) (d1:d<pw ↥0 - pw F) (hst:0<=st/\st<=100000) (eY:(if b=1 then -(vl F d) else vl F d)*pw st=Y) (hz:Y=0->b=0/\d=0) :
  eS [.tup [.int E,.int F],.tup [.int x,.int (b*pw ↥0+d)],.int x,.int Y,.int st]=.ok ↥24:=by
 obtain ⟨k1,k2,k3,k4⟩:=id h
 have hQ:=ag F
 have hH:=ag ↥0
 have s1:=eG (k:=E+F) ⋯ ⋯
 have s2:=eG (k:=F) ⋯ ⋯
 have n1:nb (pw ↥0)<=128:=dI (c:=127) ⋯
 have m2:=ao (MulOk.of (i:=2) (j:=pw ↥0) (a:=2) ↥3 n1 ↥3)
 have q1:=(bB (E:=E) (F:=F) hb d0 ⋯).1
 have l1:=eB (b:=b*pw ↥0+d) h
 rw [bR hb d0 ⋯] at l1
 have v1:=bL (x:=d) h d0 ⋯
 have sh:=ar (i:=if b=1 then -(vl F d) else vl F d) (j:=st) hst.1 (by rw [jT];omega)
 rw [eY] at sh
 have bd:0<=b*pw ↥0+d/\b*pw ↥0+d<2*pw ↥0:=by
  rcases (by omega:b=0\/b=1) with e | e<;>subst e
  ·rw [Int.zero_mul];omega
  ·rw [Int.one_mul];omega
 unfold eS gQ
 by_cases z:Y=0
 ·obtain ⟨z1,z2⟩:=hz z
  subst z1 z2
  rw [Int.zero_mul,Int.add_zero] at *
  rw [if_neg (show ¬ (0:Int)=1 by decide)] at l1 sh
  simp_arith [s1,s2,cQ,m2,bd.1,bd.2,hH,q1,show ¬ pw ↥0 - pw F<=0 by omega,l1,sh,eq_true z]
 ·simp_arith [s1,s2,cQ,m2,bd.1,bd.2,hH,q1,show ¬ pw ↥0 - pw F<=d by omega,l1,sh,z]
theorem E1 {E F Y st:Int} (h:Sz E F) (hst:0<=st/\st<=100000) (nY:nb Y<=200000) (no:∀ d,0<=d->d<pw ↥0 - pw F->¬ ↥28=vl F d*pw st):cH [.tup [.int E,.int F],.int Y,.int st]=.ok ↥38:=by
 obtain ⟨k1,k2,k3,k4⟩:=id h
 have hh:=aP h
 have hQ:=ag F
 have nE:nb (pw E - 1)<=15:=dD (by have:=ag E;omega) (by have:=eJ h;omega)
 have s2:=eG (k:=E) ⋯ ⋯
 have s3:=ar (i:=pw E - 1) (j:=F) ⋯ ⋯
 rw [end_is h] at s3
 have s4:=eG (k:=st) hst.1 ⋯
 have s5:=ar (i:=2) (j:=F) ⋯ (by have:nb 2=2:=rfl;omega)
 have b2:=aH (c:=pw ↥0 - pw F) h ⋯ ⋯
 have pst:=ag st
 have nA:nb ↥28<=200000:=by rw [jT];exact nY
 have A0:0<=↥28:=by split<;>omega
 have ba:vj [.int Y]=.ok (.int ↥28):=rfl
 generalize ↥28=A at *
 have sr:=rm (i:=A) (j:=st) hst.1
 have em:=Int.mul_ediv_add_emod A (pw st)
 have t0:=Int.ediv_nonneg A0 (Int.le_of_lt pst)
 unfold cH eZ
 by_cases g1:A%pw st=0
 ·rw [g1,Int.add_zero,Int.mul_comm] at em
  by_cases g2:A / pw st=0
  ·exfalso
   exact no 0 ↥3 ⋯ (by rw [ko,Int.zero_mul,<-em,g2,Int.zero_mul])
  ·obtain ⟨e,w,e0,w0,ob,ew,eq⟩:=EI (t:=A / pw st) ⋯
   have pe:=ag e
   have wp:0<w:=by
    refine Classical.byContradiction fun z => ?_
    have:w=0:=⋯
    rw [this,Int.zero_mul] at ew
    omega
   have le:pw e<=A / pw st:=by
    have:=Int.mul_le_mul_of_nonneg_right (show 1<=w by omega) (Int.le_of_lt pe)
    omega
   have dv:lR (.int (A / pw st)) (.int (pw e))=.ok (.int w):=by
    rw [sU pe,eq]
   by_cases b1:A / pw st<vl F ↥29
   ·by_cases b3:w<2*pw F
    ·exfalso
     obtain ⟨d,d0,ed⟩:=rep h e.toNat w w0 b3
     have ed:vl F d=A / pw st:=by
      rw [ed,ew]
      congr 2
      omega
     have dl:d<pw ↥0 - pw F:=by
      refine Classical.byContradiction fun z => ?_
      have:=(Gp (F:=F) (a:=pw ↥0 - pw F) (b:=d) ⋯ d0).1.mpr ⋯
      omega
     exact no d d0 dl (by rw [ed];exact em.symm)
    ·simp_arith [s2,s3,ba,s4,pst,eq_true g1,sr,g2,b2,b1,ob,dv,s5,b3]
   ·simp_arith [s2,s3,ba,s4,pst,eq_true g1,sr,g2,b2,b1]
 ·simp_arith [s2,s3,ba,s4,pst,g1]
theorem AJ:∀ n:Nat,0<n->∃ e q,n - (n &&& (n - 1))=2^e/\n=2^e*q/\q%2=1/\(n &&& (n - 1))<=n:=by
 intro n
 induction n using Nat.strongRecOn with
 | ind n ih =>
  intro hn
  have d:=Nat.and_div_two (a:=n) (b:=n - 1)
  have m:(n &&& (n - 1))%2=0:=by
   have q:=Nat.and_mod_two_pow (a:=n) (b:=n - 1) (n:=1)
   rw [Nat.pow_one] at q
   rw [q]
   rcases (by omega:n%2=0\/n%2=1) with e | e
   ·rw [e];exact Nat.zero_and _
   ·rw [e,show (n - 1)%2=0 by omega];rfl
  by_cases g:n%2=1
  ·rw [show (n - 1) / 2=n / 2 by omega,Nat.and_self] at d
   exact ⟨0,n,by rw [Nat.pow_zero];omega,by rw [Nat.pow_zero,Nat.one_mul],g,⋯⟩
  ·obtain ⟨e,q,e1,hq,od,e3⟩:=ih (n / 2) ⋯ ⋯
   rw [show (n - 1) / 2=n / 2 - 1 by omega] at d
   refine ⟨e+1,q,?_,?_,od,⋯⟩
   ·rw [Nat.pow_succ];omega
   ·have e5:2^(e+1)*q=2*(2^e*q):=by rw [Nat.pow_succ];ac_rfl
    rw [e5,<-hq]
    omega
theorem EJ {t:Int} (ht:0<t):∃ e w:Int,0<=e/\0<=w/\gY (.int t) (.int (-t))=.ok (.int (pw e))/\t=w*pw e/\t / pw e=w/\w%2=1:=by
 obtain ⟨e,q,e1,e2,od,e3⟩:=AJ t.toNat ⋯
 have hp:pw (e:Int)=((2^e:Nat):Int):=by unfold pw;simp
 have eq:t=(q:Int)*pw (e:Int):=by
  rw [hp,<-Int.natCast_mul,Nat.mul_comm,<-e2]
  omega
 refine ⟨e,q,⋯,⋯,?_,eq,?_,⋯⟩
 ·unfold gY
  simp only
  rw [if_pos ⟨⋯,⋯⟩,hp,show (- -t - 1).toNat=t.toNat - 1 by omega]
  congr 2
  omega
 ·rw [eq]
  exact Int.mul_ediv_cancel _ (by have:=ag (e:Int);omega)
theorem AZ {E F Y st d:Int} (h:Sz E F) (hst:0<=st/\st<=100000) (nY:nb Y<=200000) (d0:0<=d) (d1:d<pw ↥0 - pw F) (ed:↥28=vl F d*pw st):cH [.tup [.int E,.int F],.int Y,.int st]=.ok ↥24:=by
 obtain ⟨k1,k2,k3,k4⟩:=id h
 have hh:=aP h
 have hQ:=ag F
 have nE:nb (pw E - 1)<=15:=dD (by have:=ag E;omega) (by have:=eJ h;omega)
 have s2:=eG (k:=E) ⋯ ⋯
 have s3:=ar (i:=pw E - 1) (j:=F) ⋯ ⋯
 rw [end_is h] at s3
 have s4:=eG (k:=st) hst.1 ⋯
 have s5:=ar (i:=2) (j:=F) ⋯ (by have:nb 2=2:=rfl;omega)
 have b2:=aH (c:=pw ↥0 - pw F) h ⋯ ⋯
 have pst:=ag st
 have nA:nb ↥28<=200000:=by rw [jT];exact nY
 have ba:vj [.int Y]=.ok (.int ↥28):=rfl
 generalize ↥28=A at *
 have sr:=rm (i:=A) (j:=st) hst.1
 have g1:A%pw st=0:=by rw [ed];exact Int.mul_emod_left _ _
 have g2:A / pw st=vl F d:=by rw [ed];exact Int.mul_ediv_cancel _ ⋯
 rw [g2] at sr
 have v0:=bH (F:=F) d0
 have v1:=jP (F:=F) (c:=d) (c':=pw ↥0 - pw F) d0 d1
 unfold cH eZ
 by_cases z:vl F d=0
 ·simp_arith [s2,s3,ba,s4,pst,eq_true g1,sr,eq_true z]
 ·obtain ⟨e,w,e0,w0,ob,ew,eq,od⟩:=EJ (t:=vl F d) ⋯
  obtain ⟨u,u0,u1,eu⟩:=CI (F:=F) d0
  have pe:=ag e
  have dv:lR (.int (vl F d)) (.int (pw e))=.ok (.int w):=by rw [sU pe,eq]
  have xq:0<=exq F d:=IP
  have wl:w<2*pw F:=by
   rw [eu] at ew
   by_cases q:exq F d<=e
   ·have p1:pw e=pw (e - exq F d)*pw (exq F d):=by rw [<- aF ⋯ xq];congr 1;omega
    rw [p1,<-Int.mul_assoc] at ew
    have ew':=Int.eq_of_mul_eq_mul_right (by have:=ag (exq F d);omega) ew
    have pp:=ag (e - exq F d)
    have:=Int.mul_le_mul_of_nonneg_left (show 1<=pw (e - exq F d) by omega) w0
    omega
   ·exfalso
    have p1:pw (exq F d)=pw (exq F d - e)*pw e:=by rw [<- aF ⋯ e0];congr 1;omega
    rw [p1,<-Int.mul_assoc] at ew
    have ew':=Int.eq_of_mul_eq_mul_right ⋯ ew
    have p2:pw (exq F d - e)=2*pw (exq F d - e - 1):=by
     rw [show (2:Int)=pw 1 from rfl,<-aF ↥3 ⋯]
     congr 1
     omega
    rw [p2,<-Int.mul_assoc,Int.mul_comm u 2,Int.mul_assoc] at ew'
    omega
  simp_arith [s2,s3,ba,s4,pst,eq_true g1,sr,z,b2,v1,ob,dv,s5,wl]
theorem Du {Y d F U:Int} (e:↥28=vl F d*U):(if (if Y<0 then (1:Int) else 0)=1 then -(vl F d) else vl F d)*U=Y:=by
 by_cases g:Y<0
 ·rw [if_pos g] at e ⊢
  rw [if_pos rfl,Int.neg_mul]
  omega
 ·rw [if_neg g] at e ⊢
  rw [if_neg ↥3]
  exact e.symm
theorem rE {E F S d r:Int} (w:Wy) (h:Sz E F) (a:RAt F S d r) (d1:1<=d) (d2:d+1<pw ↥0 - pw F) (nS:nb S<=1000000) (ld:S<pw F*pw F↔d<pw F) :
  eR [.tup [.int E,.int F],.str w.s,.int S,.tup [.int (0*pw ↥0+stK w E F 0 d r),.int (stF w E F 0 d r)]]=.ok ↥24:=by
 obtain ⟨k1,k2,k3,k4⟩:=id h
 obtain ⟨d0,a1,a2,a3⟩:=a
 have hQ:=ag F
 have eM:=end_is h
 have nE:nb (pw E - 1)<=15:=dD (by have:=ag E;omega) (by have:=eJ h;omega)
 have s1:=eG (k:=E) ⋯ ⋯
 have s2:=ar (i:=pw E - 1) (j:=F) ⋯ ⋯
 have s3:=eG (k:=2*F) ⋯ ⋯
 have e2:pw (2*F)=pw F*pw F:=by rw [<- aF ⋯ ⋯];congr 1;omega
 rw [e2] at s3
 have nF:nb F<=8:=dD ⋯ ⋯
 have mF:MulOk 2 F:=by walk_at "mul"
 have v0:=bL (x:=d) h d0 ⋯
 have v1:=bL (x:=d+1) h ⋯ ⋯
 have m1:MulOk (vl F d) (vl F d):=by walk_at "mul"
 have m2:MulOk (vl F (d+1)) (vl F (d+1)):=by walk_at "mul"
 have m4:MulOk 4 S:=by walk_at "mul"
 have n12:nb (vl F d+vl F (d+1))<=40001:=by walk_at "nbk"
 have n21:nb (vl F (d+1)+vl F d)<=40001:=by walk_at "nbk"
 have p1:=ao (MulOk.of (i:=vl F d+vl F (d+1)) (j:=vl F d+vl F (d+1)) (a:=40001) (b:=40001) n12 n12 ↥3)
 have p2:dH (.int (vl F (d+1)+vl F d)) (.int (vl F (d+1)+vl F d))=.ok (.int ((vl F d+vl F (d+1))*(vl F d+vl F (d+1)))):=by
  rw [Int.add_comm]
  exact p1
 have ho:oEq (.str w.s) (.str (PySem.Str.ofString "up"))=.ok (.bl (w.out 0)):=by cases w<;>rfl
 have vv:=jP (F:=F) (c:=d) (c':=d+1) d0 ⋯
 have vn:=(bH (F:=F) d0).1
 rw [Int.zero_mul,Int.zero_add]
 unfold eR gJ
 rcases a3 with ⟨g,ge⟩ | ⟨g,gr⟩
 ·subst g
  rw [(oZ (show d<pw ↥0 - pw F by omega)).1,(oZ (show d<pw ↥0 - pw F by omega)).2]
  simp_arith [s1,s2,eM,show 0<=d by omega,show d<pw ↥0 - pw F by omega,aH (c:=d) h d0 ⋯,ao m1,eq_true ge]
 have r0:¬ r=0:=⋯
 have g1:¬ pw ↥0 - pw F<=d:=⋯
 cases gg:w.grw 0 (decide (d%2=1)) r
 ·have f1:stK w E F 0 d r=d:=by unfold stK;rw [if_neg g1,if_neg r0,gg];rfl
  have f2:stF w E F 0 d r=if d<pw F then 3 else 1:=by unfold stF;rw [if_neg g1,if_neg r0,f1,if_neg ⋯]
  rw [f1,f2]
  have hn':=xi w (w.out 0) (decide (d%2=0)) (4*S - (vl F d+vl F (d+1))*(vl F d+vl F (d+1)))
  rw [xj gr gg] at hn'
  by_cases g2:d<pw F
  ·simp_arith [s1,s2,eM,show 0<=d by omega,show d<pw ↥0 - pw F by omega,aH (c:=d) h d0 ⋯,ao m1,show ¬ vl F d*vl F d=S by omega,ao mF,s3,ld,g2,g,aH (c:=d+1) h ⋯ ⋯,ao m4,p1,ho,hn',ao m2,a2]
  ·simp_arith [s1,s2,eM,show 0<=d by omega,show d<pw ↥0 - pw F by omega,aH (c:=d) h d0 ⋯,ao m1,show ¬ vl F d*vl F d=S by omega,ao mF,s3,ld,g2,g,aH (c:=d+1) h ⋯ ⋯,ao m4,p1,ho,hn',ao m2,a2]
 ·have f1:stK w E F 0 d r=d+1:=by unfold stK;rw [if_neg g1,if_neg r0,gg];rfl
  have f2:stF w E F 0 d r=if d<pw F then 3 else 1:=by unfold stF;rw [if_neg g1,if_neg r0,f1,if_neg ⋯]
  rw [f1,f2]
  have hn':=B6 w (w.out 0) (decide ((d+1)%2=0)) (4*S - (vl F d+vl F (d+1))*(vl F d+vl F (d+1)))
  rw [B7 gr gg] at hn'
  by_cases g2:d<pw F
  ·simp_arith [s1,s2,eM,show 0<=d+1 by omega,show d+1<pw ↥0 - pw F by omega,aH (c:=d) h d0 ⋯,ao m1,show ¬ vl F (d+1)*vl F (d+1)=S by omega,ao mF,s3,ld,g2,show ¬ vl F (d+1)*vl F (d+1)<S by omega,show d+1 - 1=d by omega,aH (c:=d+1) h ⋯ ⋯,ao m4,p2,ho,hn',ao m2,g]
  ·simp_arith [s1,s2,eM,show 0<=d+1 by omega,show d+1<pw ↥0 - pw F by omega,aH (c:=d) h d0 ⋯,ao m1,show ¬ vl F (d+1)*vl F (d+1)=S by omega,ao mF,s3,ld,g2,show ¬ vl F (d+1)*vl F (d+1)<S by omega,show d+1 - 1=d by omega,aH (c:=d+1) h ⋯ ⋯,ao m4,p2,ho,hn',ao m2,g]
theorem BE {E F s c g K s' c' Y:Int} (h:Sz E F) (hs:0<=s/\s<=1) (hs':0<=s'/\s'<=1) (hg:0<=g/\g<=1) (c0:0<=c) (c1:c<pw ↥0 - pw F) (d0:0<=c') (d1:c'<pw ↥0 - pw F) (K0:0<=K) (K1:K<pw ↥0 - pw F)
  (eY:Y=↥34*pw ↥20 - ↥32) :
  ∃ k r,At F ↥28 (pw ↥20) k r/\∃ a1 b1 d1 a2 b2 d2 a3 b3 d3:Int,cE [.tup [.int E,.int F],.int ↥5]=.ok (.tup [.int a1,.int b1,.int d1])/\aD [.tup [.int E,.int F],.int (g*pw ↥0+K),.int ↥30]=.ok (.tup [.int a2,.int b2,.int d2])/\fT [.tup [.int a2,.int b2,.int d2]]=.ok (.tup [.int a3,.int b3,.int d3]) /\
   (k<pw ↥0 - pw F/\r=0->bK [.tup [.int E,.int F],.lst [.tup [.int a1,.int b1,.int d1],.tup [.int a3,.int b3,.int d3]]]=.ok (.int ((if Y<0 then 1 else 0)*pw ↥0+k)))/\(¬ (k<pw ↥0 - pw F/\r=0)->bK [.tup [.int E,.int F],.lst [.tup [.int a1,.int b1,.int d1],.tup [.int a3,.int b3,.int d3]]]=.ex "NoLeft"):=by
 have hQ:=ag F
 have l:=et h
 have w1:=zc h hs c0 c1
 have pr:=kD (x:=(g,K)) (y:=(s',c')) h ⟨hg,K0,show K<_ by omega⟩ ⟨hs',d0,show c'<_ by omega⟩ (Int.le_of_lt K1) (Int.le_of_lt d1)
 have ept:pt E F (g,K) (s',c')=.inl (pm E F (g,K) (s',c')):=if_neg (by show ¬ (K=_\/c'=_);omega)
 rw [ept] at pr
 have pr':aD [.tup [.int E,.int F],.int (g*pw ↥0+K),.int ↥30]=.ok (tD (pm E F (g,K) (s',c'))):=pr
 have mn:=AH (t:=pm E F (g,K) (s',c'))
 obtain ⟨t1,p1,_⟩:=vE (s:=s) h c0 c1
 obtain ⟨t2,p2,_⟩:=Kt (x:=(g,K)) (y:=(s',c')) h K0 K1 d0 d1
 have sg:=ud (s:=g) (s':=s')
 have pv:tv (2*lo E F) (pm E F (g,K) (s',c'))=if sx g s'=1 then -(vl F K*vl F c') else vl F K*vl F c':=Ks K0 d0
 have nv:tv (2*lo E F) (↥39:Tm) = -(tv (2*lo E F) (pm E F (g,K) (s',c'))):=Ds sg
 have t3:Ce (↥39:Tm):=t2
 have p3:2*lo E F<=(↥39:Tm).2.2:=p2
 generalize (↥39:Tm)=m at *
 have all:∀ t∈[wt E F s c,m],Ce t/\2*lo E F<=t.2.2:=fun t ht=>by
  rcases List.mem_cons.mp ht with e | ht
  ·subst e;exact ⟨t1,⋯⟩
  ·rw [List.mem_singleton.mp ht];exact ⟨t3,p3⟩
 have es:jd (2*lo E F) [wt E F s c,m]=Y:=by
  show tv _ (wt E F s c)+(tv _ m+0)=_
  rw [Gk h c0,nv,pv,eY]
  omega
 obtain ⟨k,r,a,y1,y2⟩:=AK (q:=2*lo E F) (ts:=[wt E F s c,m]) h (show 2<=1000 by decide) (fun t ht=>(all t ht).1) ⋯ (fun t ht=>(all t ht).2) (by simp)
 rw [es] at a y1
 rw [List.map_cons,List.map_cons,List.map_nil] at y1 y2
 rw [Ho h] at a
 have vt:∀ t:Tm,∃ a b c:Int,tD t=.tup [.int a,.int b,.int c]:=fun t=>⟨_,_,_,rfl⟩
 obtain ⟨x1,z1,u1,e1⟩:=vt (wt E F s c)
 obtain ⟨x2,z2,u2,e2⟩:=vt (pm E F (g,K) (s',c'))
 obtain ⟨x3,z3,u3,e3⟩:=vt m
 rw [e1] at w1 y1 y2
 rw [e2] at pr' mn
 rw [e3] at mn y1 y2
 exact ⟨k,r,Cd (ag _) a,x1,z1,u1,x2,z2,u2,x3,z3,u3,w1,pr',mn,y1,y2⟩
theorem ya {E F s c s' c':Int} (h:Sz E F) (hs:0<=s/\s<=1) (hs':0<=s'/\s'<=1) (c0:0<=c) (c1:c<pw ↥0 - pw F) (d0:0<=c') (d1:c'<pw ↥0 - pw F):aE [.tup [.int E,.int F],.lst [.int ↥5,.int ↥30]]=.ok .non :=
 fZ (xs:=[(s,c),(s',c')]) h (show 2<=1000 by decide) (fun x hx=>by
  rcases List.mem_cons.mp hx with e | hx
  ·subst e;exact ⟨hs,c0,c1⟩
  ·rcases List.mem_cons.mp hx with e | hx
   ·subst e;exact ⟨hs',d0,d1⟩
   ·cases hx)
theorem qY {E F s c g K s' c' y Y:Int} (w:Wy) (h:Sz E F) (hs:0<=s/\s<=1) (hs':0<=s'/\s'<=1) (hg:0<=g/\g<=1) (c0:0<=c) (c1:c<pw ↥0 - pw F) (d0:0<=c') (d1:c'<pw ↥0 - pw F) (K0:0<=K) (K1:K<pw ↥0 - pw F) (hy:y=0\/y=1\/y=3)
  (ea:bQ [.tup [.int E,.int F],.str w.s,.int ↥5,.int ↥30]=.ok (.tup [.int (g*pw ↥0+K),.int y]))
  (eY:Y=↥34*pw ↥20 - ↥32) :
  ∃ k r,At F ↥28 (pw ↥20) k r/\(k<pw ↥0 - pw F/\r=0->au [.tup [.int E,.int F],.str w.s,.int ↥5,.int ↥30]=.ok ↥31)/\(¬ (k<pw ↥0 - pw F/\r=0)->au [.tup [.int E,.int F],.str w.s,.int ↥5,.int ↥30]=.ex "NoLeft"):=by
 obtain ⟨k,r,a,x1,z1,u1,x2,z2,u2,x3,z3,u3,w1,pr,mn,y1,y2⟩:=BE h hs hs' hg c0 c1 d0 d1 K0 K1 eY
 have cf:=ya h hs hs' c0 c1 d0 d1
 have ka:=xK h hg K0 K1 hy
 refine ⟨k,r,a,fun z => ?_,fun z => ?_⟩
 ·have y1:=y1 z
  have q:aB [.tup [.int E,.int F],.str w.s,.int ↥5,.int ↥30]=.ok ↥31:=by
   generalize (if Y<0 then (1:Int) else 0)=b at *
   unfold aB bh
   simp_arith [bG w,cf,ea,ka,pr,w1,mn,y1]
  unfold au bA
  generalize (if Y<0 then (1:Int) else 0)=b at *
  simp_arith [q]
 ·have y2:=y2 z
  have q:aB [.tup [.int E,.int F],.str w.s,.int ↥5,.int ↥30]=.ex "NoLeft":=by
   unfold aB bh
   simp_arith [bG w,cf,ea,ka,pr,w1,mn,y2]
  unfold au bA
  simp_arith [q]
theorem yb {E F s c:Int} (h:Sz E F) (hs:0<=s/\s<=1) (c0:0<=c) (c1:c<pw ↥0 - pw F):aE [.tup [.int E,.int F],.lst [.int ↥5]]=.ok .non :=
 fZ (xs:=[(s,c)]) h (show 1<=1000 by decide) (fun x hx=>by
  rw [List.mem_singleton.mp hx]
  exact ⟨hs,c0,c1⟩)
theorem Hf {E F s c g K y Y:Int} (w:Wy) (h:Sz E F) (hs:0<=s/\s<=1) (hg:0<=g/\g<=1) (c0:0<=c) (c1:c<pw ↥0 - pw F) (K0:0<=K) (K1:K<pw ↥0 - pw F) (hy:y=0\/y=1\/y=3)
  (ea:bD [.tup [.int E,.int F],.str w.s,.int ↥5]=.ok (.tup [.int (g*pw ↥0+K),.int y]))
  (eY:Y=↥34*pw ↥20 - (if sx g g=1 then -(vl F K*vl F K) else vl F K*vl F K)) :
  ∃ k r,At F ↥28 (pw ↥20) k r/\(k<pw ↥0 - pw F/\r=0->au [.tup [.int E,.int F],.str w.s,.int ↥5,.non]=.ok ↥31)/\(¬ (k<pw ↥0 - pw F/\r=0)->au [.tup [.int E,.int F],.str w.s,.int ↥5,.non]=.ex "NoLeft"):=by
 obtain ⟨k,r,a,x1,z1,u1,x2,z2,u2,x3,z3,u3,w1,pr,mn,y1,y2⟩:=BE h hs hg hg c0 c1 K0 K1 K0 K1 eY
 have cf:=yb h hs c0 c1
 have ka:=xK h hg K0 K1 hy
 refine ⟨k,r,a,fun z => ?_,fun z => ?_⟩
 ·have y1:=y1 z
  have q:bu [.tup [.int E,.int F],.str w.s,.int ↥5]=.ok ↥31:=by
   generalize (if Y<0 then (1:Int) else 0)=b at *
   unfold bu cK
   simp_arith [bG w,cf,ea,ka,pr,w1,mn,y1]
  unfold au bA
  generalize (if Y<0 then (1:Int) else 0)=b at *
  simp_arith [q]
 ·have y2:=y2 z
  have q:bu [.tup [.int E,.int F],.str w.s,.int ↥5]=.ex "NoLeft":=by
   unfold bu cK
   simp_arith [bG w,cf,ea,ka,pr,w1,mn,y2]
  unfold au bA
  simp_arith [q]
theorem A1 {E F s c:Int} (h:Sz E F) (hs:0<=s/\s<=1) (c0:pw ↥0 - pw F<=c) (c1:c<pw ↥0):∃ K:PySem.Str,aX [.tup [.int E,.int F],.int ↥5]=.ok (.str K)/\(PySem.Str.ofString "endless"=K\/PySem.Str.ofString "none"=K):=by
 have hh:=aP h
 have hQ:=ag F
 obtain ⟨b1,b2,b3,b4⟩:=az (c:=c) h hs ⋯ c1
 have k:=kR h b1
 rw [b3,b4] at k
 have kc:=eV (c:=c) h ⋯ c1
 refine ⟨_,k,?_⟩
 by_cases g:c=pw ↥0 - pw F
 ·exact .inl (kc.2.1 g).symm
 ·exact .inr (kc.1 ⋯).symm
theorem nZ {E F s c y:Int} (h:Sz E F) (hs:0<=s/\s<=1) (c0:pw ↥0 - pw F<=c) (c1:c<pw ↥0):aw [.tup [.int E,.int F],.tup [.int ↥5,.int y]]=.ex "NoLeft":=by
 obtain ⟨K,k,nk⟩:=A1 h hs c0 c1
 unfold aw bO
 simp_arith [k,fA,eq_true nk]
theorem sA {E F s c s' c' x y:Int} (w:Wy) (h:Sz E F) (hs:0<=s/\s<=1) (hs':0<=s'/\s'<=1) (c0:0<=c) (c1:c<pw ↥0 - pw F) (d0:0<=c') (d1:c'<pw ↥0 - pw F)
  (ea:bQ [.tup [.int E,.int F],.str w.s,.int ↥5,.int ↥30]=.ok (.tup [.int x,.int y])) (ka:aw [.tup [.int E,.int F],.tup [.int x,.int y]]=.ex "NoLeft") :
  au [.tup [.int E,.int F],.str w.s,.int ↥5,.int ↥30]=.ex "NoLeft":=by
 have cf:=ya h hs hs' c0 c1 d0 d1
 have q:aB [.tup [.int E,.int F],.str w.s,.int ↥5,.int ↥30]=.ex "NoLeft":=by
  unfold aB bh
  simp_arith [bG w,cf,ea,ka]
 unfold au bA
 simp_arith [q]
theorem FE {E F s c x y:Int} (w:Wy) (h:Sz E F) (hs:0<=s/\s<=1) (c0:0<=c) (c1:c<pw ↥0 - pw F)
  (ea:bD [.tup [.int E,.int F],.str w.s,.int ↥5]=.ok (.tup [.int x,.int y])) (ka:aw [.tup [.int E,.int F],.tup [.int x,.int y]]=.ex "NoLeft") :
  au [.tup [.int E,.int F],.str w.s,.int ↥5,.non]=.ex "NoLeft":=by
 have cf:=yb h hs c0 c1
 have q:bu [.tup [.int E,.int F],.str w.s,.int ↥5]=.ex "NoLeft":=by
  unfold bu cK
  simp_arith [bG w,cf,ea,ka]
 unfold au bA
 simp_arith [q]
def Oth (H a x o:Int) (two:D):Prop:=(two=.non/\¬ H<a/\o=x)\/(two=.int o/\¬ o%H=0)
theorem core {E F s c g K s' c' y Y k r:Int} {two:D} (w:Wy) (h:Sz E F) (hs:0<=s/\s<=1) (hs':0<=s'/\s'<=1) (hg:0<=g/\g<=1) (c0:0<=c) (c1:c<pw ↥0 - pw F) (d0:0<=c') (d1:c'<pw ↥0 - pw F) (K0:0<=K) (K1:K<pw ↥0 - pw F) (hy:y=0\/y=1\/y=3)
  (ot:Oth (pw ↥0) ↥5 (g*pw ↥0+K) ↥30 two)
  (eY:Y=↥34*pw ↥20 - ↥32)
  (an:aG [.tup [.int E,.int F],.str w.s,.int ↥5,two,.tup [.int (g*pw ↥0+K),.int y]]=.ok ↥24)
  (a:At F ↥28 (pw ↥20) k r)
  (y1:k<pw ↥0 - pw F/\r=0->au [.tup [.int E,.int F],.str w.s,.int ↥5,two]=.ok ↥31)
  (y2:¬ (k<pw ↥0 - pw F/\r=0)->au [.tup [.int E,.int F],.str w.s,.int ↥5,two]=.ex "NoLeft") :
  aC [.tup [.int E,.int F],.str w.s,.int ↥5,two,.tup [.int (g*pw ↥0+K),.int y]]=.ok ↥24:=by
 obtain ⟨k1,k2,k3,k4⟩:=id h
 have hh:=aP h
 have hQ:=ag F
 have hH:=ag ↥0
 have l:=et h
 have e1:pw (E - 1) - 2+F = -(lo E F):=by unfold lo;omega
 have s1:=eG (k:=E+F) ⋯ ⋯
 have s2:=eG (k:=F) ⋯ ⋯
 have s9:=eG (k:=E - 1) ⋯ ⋯
 have hU:=ag ↥20
 have l1:=eB (b:=s*pw ↥0+c) h
 have l2:=eB (b:=s'*pw ↥0+c') h
 have l3:=eB (b:=g*pw ↥0+K) h
 rw [bR hs c0 ⋯] at l1
 rw [bR hs' d0 ⋯] at l2
 rw [bR hg K0 ⋯] at l3
 have v1:=bL (x:=c) h c0 ⋯
 have v2:=bL (x:=c') h d0 ⋯
 have v3:=bL (x:=K) h K0 ⋯
 have sh:=ar (i:=if s=1 then -(vl F c) else vl F c) (j := -(lo E F)) ⋯ (by rw [jT];omega)
 have mu:=ao (MulOk.of (i:=if g=1 then -(vl F K) else vl F K) (j:=if s'=1 then -(vl F c') else vl F c') (a:=40000) (b:=40000) (by rw [jT];exact v3) (by rw [jT];exact v2) ↥3)
 have ep:(if g=1 then -(vl F K) else vl F K)*(if s'=1 then -(vl F c') else vl F c')=if sx g s'=1 then -(vl F K*vl F c') else vl F K*vl F c':=by
  rcases (by omega:g=0\/g=1) with e | e<;>rcases (by omega:s'=0\/s'=1) with e' | e'<;>subst e e'<;>simp [sx,Int.neg_mul,Int.mul_neg]
 rw [ep] at mu
 have qx:=(bB (E:=E) (F:=F) hg K0 ⋯).1
 have nY:nb Y<=200000:=by
  have a1:=cc (a:=40000) (b:=20001) (show nb ↥34<=40000 by rw [jT];exact v1) (dI (k := -(lo E F)) (c:=20000) ⋯)
  have a2:nb (-↥32)<=80000:=by
   rw [sW,jT]
   exact cc v3 v2
  have:=sX a1 a2
  rw [eY,Int.sub_eq_add_neg]
  omega
 have b4:iG (.int y) (.int 4)=.ok (.int 0):=by rcases hy with e | e | e<;>subst e<;>rfl
 have nq:¬ pw ↥0 - pw F<=K:=⋯
 have toRep:∀ d,0<=d->↥28=vl F d*pw ↥20->k=d/\r=0:=fun d q0 e=>FC hU a (Bx hU q0 e)
 unfold aC b7
 by_cases rp:k<pw ↥0 - pw F/\r=0
 ·have fd:=y1 rp
  have k0':=a.1
  have eA:↥28=vl F k*pw ↥20:=by
   rcases a.2.2.2 with ⟨_,e⟩ | ⟨_,e⟩
   ·exact e
   ·rcases e with e | e | e<;>omega
  have ft:=AZ (st := -(lo E F)) h ⋯ nY k0' rp.1 eA
  have hb':(0:Int)<=(if Y<0 then 1 else 0)/\(if Y<0 then (1:Int) else 0)<=1:=by split<;>decide
  have ll:=rF (x:=g*pw ↥0+K) h hb' k0' rp.1 (st := -(lo E F)) ⋯ (Du eA) (fun z=>by
   rw [z] at eA
   rw [if_neg (show ¬ (0:Int)<0 by decide)] at eA
   have vk:=bH (F:=F) k0'
   have:vl F k=0:=by
    rcases Int.mul_eq_zero.mp eA.symm with q | q
    ·exact q
    ·omega
   exact ⟨by rw [z];rfl,vk.2.mp this⟩)
  clear toRep y1 y2 a
  generalize ↥34=P1 at *
  generalize (if s'=1 then -(vl F c') else vl F c')=P2 at *
  generalize ↥32=P at *
  generalize (if g=1 then -(vl F K) else vl F K)=A at *
  generalize (if Y<0 then (1:Int) else 0)=b at *
  rcases ot with ⟨rfl,o1,o2⟩ | ⟨rfl,o1⟩
  ·rw [o2] at l2
   have e:A=P2:=by
    have:=l3.symm.trans l2
    cases this
    rfl
   subst e
   simp_arith [s1,s9,e1,fd,o1,an,l1,l3,sh,mu,hH,qx,s2,nq,b4,<-eY,ft,ll]
  ·simp_arith [s1,s9,e1,fd,hH,o1,an,l1,l2,l3,sh,mu,qx,s2,nq,b4,<-eY,ft,ll]
 ·have no:=y2 rp
  have ft:=E1 (st := -(lo E F)) h ⋯ nY (fun d q0 q1 e=>rp (by obtain ⟨z1,z2⟩:=toRep d q0 e;exact ⟨⋯,z2⟩))
  clear toRep y1 y2 a
  generalize ↥34=P1 at *
  generalize (if s'=1 then -(vl F c') else vl F c')=P2 at *
  generalize ↥32=P at *
  generalize (if g=1 then -(vl F K) else vl F K)=A at *
  rcases ot with ⟨rfl,o1,o2⟩ | ⟨rfl,o1⟩
  ·rw [o2] at l2
   have e:A=P2:=by
    have:=l3.symm.trans l2
    cases this
    rfl
   subst e
   simp_arith [s1,s9,e1,no,o1,an,l1,l3,sh,mu,hH,qx,s2,nq,b4,<-eY,ft]
  ·simp_arith [s1,s9,e1,no,hH,o1,an,l1,l2,l3,sh,mu,qx,s2,nq,b4,<-eY,ft]
theorem Fi {E F s c g K y s' c':Int} (w:Wy) (h:Sz E F) (hs:0<=s/\s<=1) (hs':0<=s'/\s'<=1) (hg:0<=g/\g<=1) (c0:0<=c) (c1:c<pw ↥0 - pw F) (d0:0<=c') (d1:c'<pw ↥0 - pw F) (dp:¬ c'=0) (K0:0<=K) (K1:K<=pw ↥0 - pw F) (big:K=pw ↥0 - pw F\/y=5) (y0:0<=y)
  (an:aG [.tup [.int E,.int F],.str w.s,.int ↥5,.int ↥30,.tup [.int (g*pw ↥0+K),.int y]]=.ok ↥24)
  (no:au [.tup [.int E,.int F],.str w.s,.int ↥5,.int ↥30]=.ex "NoLeft") :
  aC [.tup [.int E,.int F],.str w.s,.int ↥5,.int ↥30,.tup [.int (g*pw ↥0+K),.int y]]=.ok ↥24:=by
 obtain ⟨k1,k2,k3,k4⟩:=id h
 have hh:=aP h
 have hQ:=ag F
 have hH:=ag ↥0
 have l:=et h
 have e1:pw (E - 1) - 2+F = -(lo E F):=by unfold lo;omega
 have s1:=eG (k:=E+F) ⋯ ⋯
 have s2:=eG (k:=F) ⋯ ⋯
 have s9:=eG (k:=E - 1) ⋯ ⋯
 have l1:=eB (b:=s*pw ↥0+c) h
 have l2:=eB (b:=s'*pw ↥0+c') h
 have l3:=eB (b:=g*pw ↥0+K) h
 rw [bR hs c0 ⋯] at l1
 rw [bR hs' d0 ⋯] at l2
 rw [bR hg K0 ⋯] at l3
 have v1:=bL (x:=c) h c0 ⋯
 have v2:=bL (x:=c') h d0 ⋯
 have v3:=bL (x:=K) h K0 ⋯
 have sh:=ar (i:=if s=1 then -(vl F c) else vl F c) (j := -(lo E F)) ⋯ (by rw [jT];omega)
 have mu:=ao (MulOk.of (i:=if g=1 then -(vl F K) else vl F K) (j:=if s'=1 then -(vl F c') else vl F c') (a:=40000) (b:=40000) (by rw [jT];exact v3) (by rw [jT];exact v2) ↥3)
 have qx:=(bB (E:=E) (F:=F) hg K0 ⋯).1
 have q2:=(bB (E:=E) (F:=F) hs' d0 ⋯).1
 generalize ↥34=P1 at *
 generalize (if s'=1 then -(vl F c') else vl F c')=P2 at *
 generalize (if g=1 then -(vl F K) else vl F K)=A at *
 unfold aC b7
 by_cases q:pw ↥0 - pw F<=K
 ·simp_arith [s1,s9,e1,no,hH,q2,dp,an,l1,l2,l3,sh,mu,qx,s2,eq_true q]
 ·have y5:y=5:=big.elim (fun z=>absurd z ⋯) id
  have b5:iG (.int 5) (.int 4)=.ok (.int 4):=rfl
  rw [y5] at an ⊢
  simp_arith [s1,s9,e1,no,hH,q2,dp,an,l1,l2,l3,sh,mu,qx,s2,q,b5]
theorem Lk {E F s c s' c' x y:Int} (w:Wy) (h:Sz E F) (hs:0<=s/\s<=1) (hs':0<=s'/\s'<=1) (c0:0<=c) (c1:c<pw ↥0 - pw F) (d0:0<c') (d1:c'<pw ↥0 - pw F)
  (z:(c=0/\x=sx s s'*pw ↥0/\y=0)\/(0<c/\∃ k r,x=sx s s'*pw ↥0+stK w E F (sx s s') k r/\y=stF w E F (sx s s') k r/\At F (vl F c*pw ↥20) (vl F c') k r)) :
  aG [.tup [.int E,.int F],.str w.s,.int ↥5,.int ↥30,.tup [.int x,.int y]]=.ok ↥24:=by
 obtain ⟨k1,k2,k3,k4⟩:=id h
 have hQ:=ag F
 have hH:=ag ↥0
 have l:=et h
 have e1:pw (E - 1) - 2+F = -(lo E F):=by unfold lo;omega
 have s1:=eG (k:=E+F) ⋯ ⋯
 have s9:=eG (k:=E - 1) ⋯ ⋯
 have n1:nb (pw ↥0)<=128:=dI (c:=127) ⋯
 have dv:∀ i,oDiv (.int i) (.int (pw ↥0))=.ok (.int (i / pw ↥0)):=fun i=>d8 (fP.small hH ⋯)
 obtain ⟨q1,q2⟩:=bB (E:=E) (F:=F) hs c0 ⋯
 obtain ⟨r1,r2⟩:=bB (E:=E) (F:=F) (c:=c') hs' ⋯ ⋯
 have sg:=ud (s:=s) (s':=s')
 have xo:kJ (.int s) (.int s')=.ok (.int (sx s s')):=by
  rcases (by omega:s=0\/s=1) with e | e<;>rcases (by omega:s'=0\/s'=1) with e' | e'<;>subst e e'<;>rfl
 have mg:MulOk (sx s s') (pw ↥0):=iH sg.1 sg.2 (Nat.le_trans n1 ↥3)
 have l1:=eB (b:=s*pw ↥0+c) h
 have l2:=eB (b:=s'*pw ↥0+c') h
 rw [bR hs c0 ⋯] at l1
 rw [bR hs' ⋯ ⋯] at l2
 have v1:=bL (x:=c) h c0 ⋯
 have v2:=bL (x:=c') h ⋯ ⋯
 have p1:=bH (F:=F) c0
 have p2:=bH (F:=F) (c:=c') ⋯
 have ab:∀ (t v:Int),0<=v->vj [.int (if t=1 then -v else v)]=.ok (.int v):=fun t v hv=>by
  show R.ok (D.int (if (if t=1 then -v else v)<0 then -(if t=1 then -v else v) else (if t=1 then -v else v)))=_
  congr 2
  split<;>split<;>omega
 have a1:=ab s (vl F c) p1.1
 have a2:=ab s' (vl F c') p2.1
 have sh:=ar (i:=vl F c) (j := -(lo E F)) ⋯ ⋯
 unfold aG cj
 rcases z with ⟨e,rfl,rfl⟩ | ⟨cp,k,r,rfl,rfl,a⟩
 ·have qe:oEq (.tup [.int (sx s s'*pw ↥0),.int 0]) (.tup [.int (sx s s'*pw ↥0),.int 0])=.ok ↥24:=by rw [nV];simp
  simp_arith [s1,s9,jk,dv,q2,r2,xo,hH,q1,eq_true e,ao mg,qe]
 ·have nS:nb (vl F c*pw ↥20)<=1000000:=by
   have:=cc v1 (dI (k := -(lo E F)) (c:=20000) ⋯)
   omega
  have fr:=A4 w h sg (show 0<vl F c' by omega) (Nat.le_trans nS ↥3) (Nat.le_trans v2 ↥3) a.1 a.2.1 (fun _=>a.2.2.1) a.2.2.2
  generalize ↥34=P1 at *
  generalize (if s'=1 then -(vl F c') else vl F c')=P2 at *
  simp_arith [s1,s9,e1,jk,dv,q2,r2,xo,hH,q1,show ¬ c=0 by omega,l1,l2,a1,a2,sh,fr]
theorem EW {E F s c s' c':Int} (w:Wy) (h:Sz E F) (hs:0<=s/\s<=1) (hs':0<=s'/\s'<=1) (c0:0<=c) (c1:c<pw ↥0 - pw F) (d0:0<=c') (d1:c'<pw ↥0 - pw F) :
  ∃ x y,bQ [.tup [.int E,.int F],.str w.s,.int ↥5,.int ↥30]=.ok (.tup [.int x,.int y])/\aC [.tup [.int E,.int F],.str w.s,.int ↥5,.int ↥30,.tup [.int x,.int y]]=.ok ↥24:=by
 obtain ⟨k1,k2,k3,k4⟩:=id h
 have hh:=aP h
 have hQ:=ju k3
 have hH:=ag ↥0
 have sg:=ud (s:=s) (s':=s')
 obtain ⟨x,y,ea,o⟩:=uS w h hs hs' c0 (show c<pw ↥0 by omega) d0 (show c'<pw ↥0 by omega)
 refine ⟨x,y,ea,?_⟩
 rw [if_neg ⋯] at o
 by_cases dz:c'=0
 ·-- by nought: nothing is kept
  have s1:=eG (k:=E+F) ⋯ ⋯
  have s2:=eG (k:=F) ⋯ ⋯
  have q2:=(bB (E:=E) (F:=F) hs' d0 ⋯).1
  have fin:∀ (g K:Int),(0<=g/\g<=1)->pw ↥0 - pw F<=K->K<pw ↥0->x=g*pw ↥0+K->aC [.tup [.int E,.int F],.str w.s,.int ↥5,.int ↥30,.tup [.int x,.int y]]=.ok ↥24:=fun g K hg a b e=>by
   subst e
   have no:=sA w h hs hs' c0 c1 d0 d1 ea (nZ h hg a b)
   have qx:=(bB (E:=E) (F:=F) hg ⋯ b).1
   unfold aC b7
   simp_arith [s1,no,hH,q2,eq_true dz,jk,qx,s2,a]
  by_cases cz:c=0
  ·rw [if_pos ⟨⋯,.inl cz⟩] at o
   have e2:=jj (F:=F) k3
   have hq1:=ag (F - 1)
   exact fin 0 (pw ↥0 - pw F+pw (F - 1)) ↥3 ⋯ ⋯ (by rw [o.1];omega)
  ·rw [if_neg ⋯,if_neg ⋯,if_pos dz] at o
   exact fin (sx s s') ↥29 sg ⋯ ⋯ o.1
 ·rw [if_neg ⋯,if_neg ⋯,if_neg dz] at o
  have o':(c=0/\x=sx s s'*pw ↥0/\y=0)\/(0<c/\∃ k r,x=sx s s'*pw ↥0+stK w E F (sx s s') k r/\y=stF w E F (sx s s') k r/\At F (vl F c*pw ↥20) (vl F c') k r):=by
   by_cases cz:c=0
   ·rw [if_pos (.inl cz)] at o
    exact .inl ⟨cz,o⟩
   ·rw [if_neg ⋯] at o
    exact .inr ⟨⋯,o⟩
  have an:=Lk w h hs hs' c0 c1 (show 0<c' by omega) d1 o'
  obtain ⟨K,K0,K1,ex,hy⟩:∃ K,0<=K/\K<=pw ↥0 - pw F/\x=sx s s'*pw ↥0+K/\(y=0\/y=1\/y=3\/y=5):=by
   rcases o' with ⟨_,e1,e2⟩ | ⟨_,k,r,e1,e2,a⟩
   ·exact ⟨0,⋯,⋯,by rw [e1,Int.add_zero],.inl e2⟩
   ·have i:=BL (w:=w) (s:=sx s s') (r:=r) h a.1
    exact ⟨_,i.1,i.2,e1,by rw [e2];exact zI⟩
  clear o o'
  subst ex
  by_cases big:K=pw ↥0 - pw F\/y=5
  ·have no:au [.tup [.int E,.int F],.str w.s,.int ↥5,.int ↥30]=.ex "NoLeft":=by
    by_cases q:K=pw ↥0 - pw F
    ·exact sA w h hs hs' c0 c1 d0 d1 ea (nZ h sg ⋯ ⋯)
    ·have y5:y=5:=big.elim (fun z=>absurd z q) id
     rw [y5] at ea
     exact sA w h hs hs' c0 c1 d0 d1 ea (uG h sg K0 ⋯)
   exact Fi w h hs hs' sg c0 c1 d0 d1 dz K0 K1 big ⋯ an no
  ·have K1':K<pw ↥0 - pw F:=⋯
   have hy':y=0\/y=1\/y=3:=⋯
   obtain ⟨k,r,a,y1,y2⟩:=qY w h hs hs' sg c0 c1 d0 d1 K0 K1' hy' ea rfl
   exact core w h hs hs' sg c0 c1 d0 d1 K0 K1' hy' (.inr ⟨rfl,by rw [(bB (E:=E) (F:=F) hs' d0 ⋯).1];exact dz⟩) rfl an a y1 y2
theorem EU {E F s c:Int} (w:Wy) (h:Sz E F) (hs:0<=s/\s<=1) (c0:0<=c) (c1:c<pw ↥0 - pw F) :
  ∃ x y,bD [.tup [.int E,.int F],.str w.s,.int ↥5]=.ok (.tup [.int x,.int y])/\aC [.tup [.int E,.int F],.str w.s,.int ↥5,.non,.tup [.int x,.int y]]=.ok ↥24:=by
 obtain ⟨k1,k2,k3,k4⟩:=id h
 have hh:=aP h
 have hQ:=ju k3
 have hH:=ag ↥0
 have l:=et h
 have e1:pw (E - 1) - 2+F = -(lo E F):=by unfold lo;omega
 have s1:=eG (k:=E+F) ⋯ ⋯
 have s2:=eG (k:=F) ⋯ ⋯
 have s9:=eG (k:=E - 1) ⋯ ⋯
 have q1:=(bB (E:=E) (F:=F) hs c0 ⋯).1
 by_cases cz:c=0
 ·subst cz
  have er:=qW (c:=0) w h hs (.inl rfl)
  refine ⟨_,_,er,?_⟩
  have an:aG [.tup [.int E,.int F],.str w.s,.int (s*pw ↥0+0),.non,.tup [.int (s*pw ↥0+0),.int 0]]=.ok ↥24:=by
   have qe:oEq (.tup [.int (s*pw ↥0+0),.int 0]) (.tup [.int (s*pw ↥0+0),.int 0])=.ok ↥24:=by rw [nV];simp
   unfold aG cj
   generalize s*pw ↥0+0=a at *
   simp_arith [s1,s9,jk,hH,q1,qe]
  obtain ⟨k,r,a,y1,y2⟩:=Hf w h hs hs c0 c1 c0 c1 (.inl rfl) er rfl
  exact core w h hs hs hs c0 c1 c0 c1 c0 c1 (.inl rfl) (.inl ⟨rfl,by have:=Int.mul_le_mul_of_nonneg_right hs.2 (Int.le_of_lt hH);omega,rfl⟩) rfl an a y1 y2
 ·rcases (by omega:s=0\/s=1) with e | e<;>subst e
  ·obtain ⟨d,r,er,ra⟩:=wm w h (show 0<c by omega) c1
   obtain ⟨i1,i2,i3⟩:=DE h (show 0<c by omega) c1 ra
   refine ⟨_,_,er,?_⟩
   have l1:=eB (b:=0*pw ↥0+c) h
   rw [bR ↥3 c0 ⋯,if_neg ↥3] at l1
   have v1:=bL (x:=c) h c0 ⋯
   have sh:=ar (i:=vl F c) (j := -(lo E F)) ⋯ ⋯
   have nS:nb (vl F c*pw ↥20)<=1000000:=by
    have:=cc v1 (dI (k := -(lo E F)) (c:=20000) ⋯)
    omega
   have rf:=rE w h ra i1 i2 nS i3
   have dl:d<pw ↥0 - pw F:=⋯
   have eK:=BK (w:=w) (s:=0) (r:=r) dl
   have eF:=G0 (w:=w) (s:=0) (r:=r) dl
   have Kl:stK w E F 0 d r<pw ↥0 - pw F:=by
    rw [eK]
    split
    ·omega
    ·split<;>omega
   have K0:0<=stK w E F 0 d r:=(BL (w:=w) (s:=0) (r:=r) h ra.1).1
   have hy:stF w E F 0 d r=0\/stF w E F 0 d r=1\/stF w E F 0 d r=3:=by
    rw [eF]
    split
    ·exact .inl rfl
    ·rw [if_neg ⋯]
     split
     ·exact .inr (.inr rfl)
     ·exact .inr (.inl rfl)
   have an:aG [.tup [.int E,.int F],.str w.s,.int (0*pw ↥0+c),.non,.tup [.int (0*pw ↥0+stK w E F 0 d r),.int (stF w E F 0 d r)]]=.ok ↥24:=by
    generalize 0*pw ↥0+stK w E F 0 d r=X at *
    generalize stF w E F 0 d r=y at *
    generalize 0*pw ↥0+c=A at *
    unfold aG cj
    simp_arith [s1,s9,e1,jk,hH,q1,cz,l1,sh,rf]
   obtain ⟨k,r',a,y1,y2⟩:=Hf w h hs hs c0 c1 K0 Kl hy er rfl
   exact core w h hs hs hs c0 c1 K0 Kl K0 Kl hy (.inl ⟨rfl,⋯,rfl⟩) rfl an a y1 y2
  ·have er:=uu w h (show 0<c by omega) (Int.le_of_lt c1)
   refine ⟨_,_,er,?_⟩
   have e2:=jj (F:=F) k3
   have hq1:=ag (F - 1)
   have ex:pw ↥0 - pw F+pw (F - 1)=0*pw ↥0+(pw ↥0 - pw F+pw (F - 1)):=⋯
   rw [ex] at er ⊢
   have no:=FE w h hs c0 c1 er (nZ h ↥3 ⋯ ⋯)
   have qx:=(bB (E:=E) (F:=F) (s:=0) (c:=pw ↥0 - pw F+pw (F - 1)) ↥3 ⋯ ⋯).1
   unfold aC b7
   simp_arith [s1,no,show pw ↥0<1*pw ↥0+c by omega,jk,hH,qx,s2,show pw ↥0 - pw F<=pw ↥0 - pw F+pw (F - 1) by omega]
theorem AM:Good Ad:=by
 intro ns hl hb
 have h:=Kg (ns.getD 0 0)
 obtain ⟨w,ew⟩:=vG (ns.getD 1 0)
 have c0:=yp (ns:=ns) (j:=0) ↥3
 have c1:=yp (ns:=ns) (j:=1) ↥3
 have q0:ns.getD (0:Int).toNat 0=ns.getD 0 0:=rfl
 have q1:ns.getD (1:Int).toNat 0=ns.getD 1 0:=rfl
 rw [q0] at c0
 rw [q1] at c1
 have so:=Dr (c:=ns.getD 0 0)
 have n1:=EY hb 1
 generalize szE (ns.getD 0 0)=E at *
 generalize szF (ns.getD 0 0)=F at *
 generalize ns.getD 1 0=q' at *
 generalize ns.getD 0 0=q at *
 generalize hcs:EV.cut ns (some 2) none=cs
 have lcs:cs.length<=63:=by
  have:=Fh ns (some 2) none
  rw [hcs] at this
  omega
 have ecs:EV.cut (ns.map D.int) (some 2) none=cs.map D.int:=by rw [<- hcs];exact Ff _ _ _ _
 have bcs:∀ c∈cs++[4],nb c<=2^20:=fun c hc=>by
  rcases List.mem_append.mp hc with m | m
  ·exact hb c (by rw [<- hcs] at m;exact Fe m)
  ·rcases List.mem_cons.mp m with z | z
   ·subst z;decide
   ·cases z
 have ad:cw (.lst (cs.map D.int)) (.lst [.int 4])=.ok (.lst ((cs++[4]).map D.int)):=by
  rw [Ax (by rw [List.length_map];simp;omega),List.map_append]
  rfl
 obtain ⟨s0,u0,ef0,hs0,a0,a1⟩:=jw h (show nb (q' / 5)<=2^20 from pQ ↥3 n1)
 unfold Ad AV
 generalize hbody:seq (assign 5 _) _=body
 have loop:∀ (l:List Int),(∀ c∈l,nb c<=2^20)->∀ (s u:Int) (z4 z5:Option D),(0<=s/\s<=1)->0<=u->u<pw ↥0 - pw F->∃ δ',forL 4 body (l.map D.int) [some (.lst (ns.map .int)),some ↥35,some (.str w.s),some (.int (s*pw ↥0+u)),z4,z5]=.nx δ':=fun l=>by
  induction l with
  | nil=>exact fun _ s u z4 z5 _ _ _=>⟨_,rfl⟩
  | cons c r ih =>
   intro hc s u z4 z5 hs u0 u1
   obtain ⟨s',v,ef,hs',v0,v1⟩:=jw h (hc c (.head _))
   rw [List.map_cons,fW]
   subst hbody
   obtain ⟨x,y,ed,ho⟩:=EW w h hs hs' u0 u1 v0 v1
   obtain ⟨x2,y2,er,hr⟩:=EU w h hs' v0 v1
   obtain ⟨δ',e⟩:=ih (fun c m=>hc c (.tail _ m)) s' v (some (.int c)) (some (.int (s'*pw ↥0+v))) hs' v0 v1
   refine ⟨δ',?_⟩
   rw [<- e]
   simp_arith [ef,ed,ho,er,hr]
 obtain ⟨δ',e⟩:=loop (cs++[4]) bcs s0 u0 none none hs0 a0 a1
 simp_arith [c0,so,c1,ew,ef0,ecs,ad,List.length_map,List.length_append,e]
end T
open PySem PySem.W PyProof.Rows
set_option maxHeartbeats 0 in
theorem PySem.Challenge.cw_roundmill_k44_quotient_and_root_left_holds : PySem.Challenge.rw_roundmill_k44_quotient_and_root_left.Holds := by
 w_on;o_law
 refine holds_open (q:=H.q) (loose:=[]) (Xt:=H.Xt) (XP:=XL H.q []) (Yf:=(kHook H.K H.as H.he).obs) (Ya:=(kHook H.K H.as H.he).val) (YP:=(kHook H.K H.as H.he).says) (N:=7312) H.left (kHook H.K H.as H.he).of (kHook H.K H.as H.he).keeps (fun s e=>xl_of s (Bool.and_eq_true_iff.mp e).1) XL.keeps (by rfl) (by rfl) (by rfl) (fun s e=>recFacts_of (Bool.and_eq_true_iff.mp e).2) (by rfl) (by first | assumption | decide +kernel) (by decide +kernel) ⟨rfl,rfl,rfl,rfl,rfl,by decide +kernel⟩ ?hw ?hc
 (case hw=>w_witness2)
 k_fill
 refine ES.vH (l:=PySem.Challenge.rw_roundmill_k44_quotient_and_root_left) (k:=35) (x:="_law_script") (f:=T.Ad) T.AM rfl rfl ⟨rfl,by decide,by decide⟩ (by decide +kernel) (fun w h Y=>PySem.W.kIn_of Y) ?F
 case F =>
  intro w mg fa h KX GG hmg
  refine' T.all_mk KX GG hmg ?n_Way ?pg_Way ?hd_Way ?po_Way ?sa_Way ?na_Way ?aIWay ?uIWay ?mm_Way ?kc_Way ?lIWay ?eIWay ?kIWay ?q1 ?q2 ?q3 ?q4 ?q5 ?q6 ?q7 ?q8 ?q9 ?q10 ?q11 ?q12 ?q13 ?q14 ?q15 ?q16 ?q17 ?q18 ?q19 ?q20 ?q21 ?q22 ?q23 ?q24 ?q25 ?a26 ?u26 ?l26 ?e26 ?k26 ?a27 ?u27 ?l27 ?e27 ?k27 ?a28 ?u28 ?l28 ?e28 ?k28 ?q29 ?q30 ?q31 ?q32 ?q33 ?q34 ?q35 ?q36 ?q37 ?q38 ?q39 ?q40 ?q41 ?q42 ?q43 ?q44 ?q45 ?q46 ?q47 ?q48 ?q49 ?q50 ?q51 ?q52 ?q53 ?q54 ?q55 ?q56 ?q57 ?q58 ?q59 ?q60 ?a61 ?l61 ?e61 ?k61 ?z_min ?z_max ?z_len ?z_abs ?z_int ?z_isinstance ?z_bool ?z_tuple ?y_NAMES ?yl_NAMES ?y_NOT_FINITE ?yl_NOT_FINITE ?y_GREAT ?y_INEXACT ?y_SMALL ?y_WRONG ?y_POLE ?n_MillError ?n_NoBits ?n_NotFinite ?n_NoWay ?n_NoFraction ?n_NoLeft ?xi_NoWay ?xi_NoBits ?xi_NotFinite ?xi_NoLeft ?xi_NoFraction ?v_MillError ?w_NoSize ?v_NoBits ?w_NoParts ?w_NoRank ?v_NotFinite ?v_NoWay ?w_NoFlags ?v_NoFraction ?w_Unlike ?w_Empty ?v_NoLeft ?w_NoText ?w_NoRow ?w_NoName ?w_Stopped ?cb_MillError ?r_MillError_MillError ?r_MillError_NoBits ?r_MillError_NotFinite ?r_MillError_NoWay ?r_MillError_NoFraction ?r_MillError_NoLeft ?itab ?i_int_NoneType ?i_int_bool ?i_int_int ?i_int_str ?i_int_tuple ?i_int_list ?i_bool_NoneType ?i_bool_bool ?i_bool_int ?i_bool_str ?i_bool_tuple ?i_bool_list ?i_tuple_NoneType ?i_tuple_bool ?i_tuple_int ?i_tuple_str ?i_tuple_tuple ?i_tuple_list ?ht
  (case n_Way | pg_Way | hd_Way | po_Way | sa_Way | na_Way | aIWay | uIWay | mm_Way | kc_Way | lIWay | eIWay | kIWay=>k_is)
  (case q1 | q2 | q3 | q4 | q5 | q6 | q7 | q8 | q9 | q10 | q11 | q12 | q13 | q14 | q15 | q16 | q17 | q18 | q19 | q20 | q21 | q22 | q23 | q24 | q25=>exact ES.Jd (by k_is) (by k_is) (by k_is) (by k_is))
  (case a26 | u26 | l26 | e26 | k26 | a27 | u27 | l27 | e27 | k27 | a28 | u28 | l28 | e28 | k28=>k_is)
  (case q29 | q30 | q31 | q32 | q33 | q34 | q35 | q36 | q37 | q38 | q39 | q40 | q41 | q42 | q43 | q44 | q45 | q46 | q47 | q48 | q49 | q50 | q51 | q52 | q53 | q54 | q55 | q56 | q57 | q58 | q59 | q60=>exact ES.Jd (by k_is) (by k_is) (by k_is) (by k_is))
  (case a61 | l61 | e61 | k61 | z_min | z_max | z_len | z_abs | z_int | z_isinstance | z_bool | z_tuple | y_NAMES | yl_NAMES | y_NOT_FINITE | yl_NOT_FINITE | y_GREAT | y_INEXACT | y_SMALL | y_WRONG | y_POLE | n_MillError | n_NoBits | n_NotFinite | n_NoWay | n_NoFraction | n_NoLeft=>k_is)
  (case xi_NoWay | xi_NoBits | xi_NotFinite | xi_NoLeft | xi_NoFraction=>k_exc)
  (case v_MillError=>exact ⟨by k_is,by k_is,by k_is,by k_is,by k_is,⟨_,by k_is⟩⟩)
  (case w_NoSize=>k_is)
  (case v_NoBits=>exact ⟨by k_is,by k_is,by k_is,by k_is,by k_is,⟨_,by k_is⟩⟩)
  (case w_NoParts | w_NoRank=>k_is)
  (case v_NotFinite | v_NoWay=>exact ⟨by k_is,by k_is,by k_is,by k_is,by k_is,⟨_,by k_is⟩⟩)
  (case w_NoFlags=>k_is)
  (case v_NoFraction=>exact ⟨by k_is,by k_is,by k_is,by k_is,by k_is,⟨_,by k_is⟩⟩)
  (case w_Unlike | w_Empty=>k_is)
  (case v_NoLeft=>exact ⟨by k_is,by k_is,by k_is,by k_is,by k_is,⟨_,by k_is⟩⟩)
  (case w_NoText | w_NoRow | w_NoName | w_Stopped=>k_is)
  (case cb_MillError=>exact ⟨⟨_,by k_is⟩,by k_is,by k_is,by k_is⟩)
  (case r_MillError_MillError | r_MillError_NoBits | r_MillError_NotFinite | r_MillError_NoWay | r_MillError_NoFraction | r_MillError_NoLeft=>k_is)
  (case itab=>kernel_rfl)
  (case i_int_NoneType | i_int_bool | i_int_int | i_int_str | i_int_tuple | i_int_list | i_bool_NoneType | i_bool_bool | i_bool_int | i_bool_str | i_bool_tuple | i_bool_list | i_tuple_NoneType | i_tuple_bool | i_tuple_int | i_tuple_str | i_tuple_tuple | i_tuple_list=>kit_is)
  (case ht=>kernel_rfl)
#print axioms PySem.Challenge.cw_roundmill_k44_quotient_and_root_left_holds
