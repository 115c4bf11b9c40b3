import PyProof.Rows.All
import Wide.All
import OpenK.AllK
import Wide.FinOn
import Lean
import PyProof.EqAt
import PyProof.EqKinds
import PyProof.TupleCall
import PySem.Challenge.RW_roundmill_k58_rows_refused
set_option Elab.async false
set_option linter.all false
set_option genSizeOf false
set_option maxRecDepth 100000
local macro_rules (kind:=Lean.Parser.Command.declaration)
 | s=>if (s[1].isOfKind ``Lean.Parser.Command.definition||s[1].isOfKind ``Lean.Parser.Command.abbrev)&&s[0][4].getNumArgs == 0&&s[1][1][0].getId != `bmV then pure (s.setArg 0 (s[0].setArg 4 (Lean.mkNullNode #[Lean.mkNode ``Lean.Parser.Command.noncomputable #[Lean.mkAtom "noncomputable"]]))) else Lean.Macro.throwUnsupported
set_option hygiene false
local macro_rules | `(⋯)=>`(by omega)
local macro_rules | `(⇑$x)=>`(con (.int $x))
local macro_rules | `(↥$n:num)=>match n.getNat with | 0=>`(by decide) | 1=>`(Life.mk [] [] [] 0 [] [] false #[] [] 0 false false false 0 [2000,10,10] false 0 true [] [] 0 false) | 2=>`(PySem.W.fnOf x qual (eA st) (ah st) (aa st) .none kV doc pm an cdv ct) | 3=>`(vS "roundmill.errors" 187) | 4=>`(model X.prog X.w) | 5=>`(.tup [.int E,.int F]) | 6=>`(.type "tuple") | 7=>`(cxU X xs ksn sc C fp s H W) | 8=>`(Shared.mk (hf w.params) ⟨[]⟩ (Drawn.mk 0 0 0 0) 1171 os) | 9=>`(E+F) | 10=>`(importedModules (Program.main PySem.Challenge.pw_roundmill_k58_rows_refused).body) | 11=>`(Addr×Obj) | 12=>`(some (.builtin "ValueError.__new__")) | 13=>`(.type "ValueError") | 14=>`(.type "builtin_function_or_method") | 15=>`(.builtin "object.__init_subclass__") | 16=>`(model prog w) | 17=>`(cxU X [x] ksn sc C fp s H W) | 18=>`(bin oIx (var 0) ⇑1) | 19=>`(cxU X xs ksn sc s3.heap.objs.size fp s3 H3 WW) | 20=>`(.type "BaseException") | 21=>`(ifs (bin oEq (bin oMod (bin oDiv (var 3) ⇑5) ⇑4) ⇑0) (assign 4 (bin oIx (iX [con (.str "evens"),con (.str ""),con (.str "Up"),con (.str "none"),con (.str "down ")]) (bin oMod (var 3) ⇑5))) (av)) | 22=>`(P.v 0) | 23=>`(2*fQ E F t n) | 24=>`(.type "dict") | 25=>`(fD I q (by simp)) | 26=>`(bs.map .int) | 27=>`(s*pw ↥9+c) | 28=>`(Nat.le_refl _) | 29=>`(hide H os) | 30=>`(Int×Int) | 31=>`(aB.refl _) | 32=>`(P.xp (P.call 0 c_way_of (a1 (P.v 1)))) | 33=>`(iX [con (.str "even"),con (.str "away"),con (.str "nought"),con (.str "up"),con (.str "down")]) | 34=>`((false,eval e X.env)) | 35=>`(.type "object") | 36=>`(.type "code") | 37=>`(.tup [.int x,.int y]) | 38=>`((∀ c o,c≠z->c≠i1->c≠i2->s.heap.get? c=some o->h'.get? c=some o)) | 39=>`(.Pass ⟨0,0,0,0⟩) | _=>Lean.Macro.throwUnsupported
set_option hygiene true
namespace L2
open PySem PySem.Spec PyProof.Rows
abbrev Key:=Sum Int Str
def Lc:Key->Value->Bool
 | .inl k,v=>Value.isInt k v
 | .inr x,v=>Value.isStrOf x v
def VC (w:World):Key->Int
 | .inl k=>hashInt k
 | .inr x=>hashStr w x
theorem bF:∀ {k:Key} {v:Value},Lc k v=true->(∃ i t,k=Sum.inl i/\v=Value.int i t)\/(∃ x t,k=Sum.inr x/\v=Value.str x t)
 | .inl i,v,h=>by
  obtain ⟨t,e⟩:=Value.isInt_shape (k:=i) (v:=v) h
  exact .inl ⟨i,t,rfl,e⟩
 | .inr x,v,h=>by
  obtain ⟨t,e⟩:=Value.isStrOf_shape (x:=x) (v:=v) h
  exact .inr ⟨x,t,rfl,e⟩
theorem Lb (a b:Int):decide ((Sum.inl a:Key)=Sum.inl b)=(a == b):=by
 by_cases e:a=b
 ·subst e;simp
 ·have h:¬ (Sum.inl a:Key)=Sum.inl b:=fun q=>e (Sum.inl.inj q)
  rw [decide_eq_false h]
  exact (beq_eq_false_iff_ne.mpr e).symm
theorem K8 (a b:Str):decide ((Sum.inr a:Key)=Sum.inr b)=decide (a=b):=by
 by_cases e:a=b
 ·subst e;simp
 ·have h:¬ (Sum.inr a:Key)=Sum.inr b:=fun q=>e (Sum.inr.inj q)
  rw [decide_eq_false h,decide_eq_false e]
theorem La (a:Int) (b:Str):decide ((Sum.inl a:Key)=Sum.inr b)=false:=decide_eq_false (fun q=>nomatch q)
theorem K9 (a:Str) (b:Int):decide ((Sum.inr a:Key)=Sum.inl b)=false:=decide_eq_false (fun q=>nomatch q)
def zQ (prog:Program) (w:World):PySem.KeyKind prog w Key where
 is:=Lc
 hash:=VC w
 inj:=fun v a b ha hb=>by
  rcases bF ha with ⟨i,t,rfl,rfl⟩ | ⟨x,t,rfl,rfl⟩
  ·rcases bF hb with ⟨j,u,rfl,e⟩ | ⟨y,u,rfl,e⟩
   ·injection e with e1 _;rw [e1]
   ·exact nomatch e
  ·rcases bF hb with ⟨j,u,rfl,e⟩ | ⟨y,u,rfl,e⟩
   ·exact nomatch e
   ·injection e with e1 _;rw [e1]
 byValue:=fun k v h=>by
  rcases bF h with ⟨i,t,rfl,rfl⟩ | ⟨x,t,rfl,rfl⟩<;>rfl
 pyHash:=fun hv h=>by
  rcases bF hv with ⟨i,t,rfl,rfl⟩ | ⟨x,t,rfl,rfl⟩
  ·exact wpAny_pyHash_int h
  ·exact wpAny_pyHash_str h
 eqBool:=fun hu hv h=>by
  rcases bF hu with ⟨i,t,rfl,rfl⟩ | ⟨x,t,rfl,rfl⟩
  ·rcases bF hv with ⟨j,u,rfl,rfl⟩ | ⟨y,u,rfl,rfl⟩
   ·rw [Lb] at h;exact wpAny_eqBool_int h
   ·rw [La] at h;exact SeqAt.EqAt.int_str i t y u _ _ _ _ h
  ·rcases bF hv with ⟨j,u,rfl,rfl⟩ | ⟨y,u,rfl,rfl⟩
   ·rw [K9] at h;exact SeqAt.EqAt.str_int x t j u _ _ _ _ h
   ·rw [K8] at h;exact wpAny_eqBool_str h
 «strs»:=fun k x t v h=>by
  rcases bF h with ⟨i,u,rfl,e⟩ | ⟨y,u,rfl,e⟩
  ·exact nomatch e
  ·injection e with e1 _
   subst e1
   cases v<;>rfl
end L2
namespace L2
open PySem PySem.Spec PyProof.Rows
inductive V where
 | non | bl (b:Bool) | int (i:Int) | str (x:Str) | byt (b:Array UInt8) | flt (b:UInt64) | ref (a:Addr) | ty (n:String)
 deriving DecidableEq
def RelV:V->Value->Prop
 | .non,u=>u=Value.none
 | .bl b,u=>u=Value.bool b
 | .int i,u=>∃ t,u=Value.int i t
 | .str x,u=>∃ t,u=Value.str x t
 | .byt b,u=>∃ t,u=Value.bytes b t
 | .flt b,u=>∃ t,u=Value.float b t
 | .ref a,u=>u=Value.ref a
 | .ty n,u=>u=Value.type n
abbrev Vals:List V->List Value->Prop:=Paired RelV
theorem Vals.length {xs:List V} {us:List Value} (r:Vals xs us):xs.length=us.length:=Paired.length r
theorem Vals.get:∀ {xs:List V} {us:List Value} {i:Nat} {x:V},Vals xs us->xs[i]? = some x->∃ u,us[i]? = some u/\RelV x u
 | _,_,_,_,.nil,e=>by simp at e
 | _,_,0,_,.cons r _,e=>by simp at e;subst e;exact ⟨_,rfl,r⟩
 | _,_,i+1,x,.cons _ t,e=>by
  obtain ⟨u,h1,h2⟩:=Vals.get (i:=i) (x:=x) t (by simpa using e)
  exact ⟨u,by simpa using h1,h2⟩
theorem Vals.set {x:V} {u:Value} (r:RelV x u):∀ {xs:List V} {us:List Value} (i:Nat),Vals xs us->Vals (xs.set i x) (us.set i u)
 | _,_,_,.nil=>.nil
 | _,_,0,.cons _ t=>.cons r t
 | _,_,i+1,.cons q t=>.cons q (Vals.set r i t)
theorem Vals.append:∀ {xs ys:List V} {us ws:List Value},Vals xs us->Vals ys ws->Vals (xs++ys) (us++ws)
 | _,_,_,_,.nil,s=>s
 | _,_,_,_,.cons r t,s=>.cons r (Vals.append t s)
theorem Vals.take:∀ {xs:List V} {us:List Value} (n:Nat),Vals xs us->Vals (xs.take n) (us.take n)
 | _,_,0,_=>.nil
 | _,_,_+1,.nil=>.nil
 | _,_,n+1,.cons r t=>.cons r (Vals.take n t)
theorem Vals.drop:∀ {xs:List V} {us:List Value} (n:Nat),Vals xs us->Vals (xs.drop n) (us.drop n)
 | _,_,0,r=>r
 | _,_,_+1,.nil=>.nil
 | _,_,n+1,.cons _ t=>Vals.drop n t
def Bt:Option V->Option Value->Prop
 | some v,some u=>RelV v u
 | none,none=>True
 | _,_=>False
def KV {κ:Type}:List (κ×V)->List (κ×Value)->Prop:=Paired fun (p:κ×V) (q:κ×Value)=>p.1=q.1/\RelV p.2 q.2
def kV:Key->V
 | .inl i=>.int i
 | .inr x=>.str x
inductive HO where
 /-- a list -/
 | lst (xs:List V)
 /-- a tuple (never changes) -/
 | tup (xs:List V)
 /-- a dict whose keys are ints and texts;one whose keys are tuples of ints and texts (the empty one is both) -/
 | dK (kvs:List (Key×V)) | dT (kvs:List (List Key×V))
 /-- a set of ints: its members,its size -/
 | set (S:Int->Bool) (n:Nat)
 /-- an instance of the class at C,its dict at dx,its attributes -/
 | ins (C dx:Addr) (fs:List (Str×V))
 /-- the dict of the instance at x -/
 | own (x:Addr)
 /-- the dict of an exception -/
 | xd (fs:List (Str×V))
 /-- a bound method,f of x -/
 | met (f x:Addr)
 /-- a range object lo,lo+1,.. below hi -/
 | rng (lo hi:Int)
 /-- a thing that is known to the object (the script;a dict while a loop walks it): read,never written while it is so -/
 | frz (o:Obj) (u:HO)
 /-- a code object's table -/
 | tbl (ps:Array Value)
 /-- any other thing,by what is true of its one object (a def of one's own: SetO a S n:=HO.ext fun h=>..) -/
 | ext (φ:Heap->Prop)
abbrev Hp:=Addr->Option HO
def upd (H:Hp) (a:Addr) (o:HO):Hp:=fun b=>if b=a then some o else H b
theorem aQ {H:Hp} {a:Addr} {o:HO}:upd H a o a=some o:=by unfold upd;rw [if_pos rfl]
theorem aW {H:Hp} {a b:Addr} {o:HO} (h:b≠a):upd H a o b=H b:=by unfold upd;rw [if_neg h]
theorem cY {H:Hp} {a b:Addr} {o:HO} (h:H a=some o) (h':H b=none):a≠b:=by
 intro e;subst e;rw [h] at h';cases h'
section
variable (P:Program) (w:World)
def iE (H:Hp) (h:Heap) (a:Addr):HO->Prop
 | .lst xs=>xs.length<=sizeLine/\∃ (its:List Value) (n:Nat),Vals xs its/\h.get? a=some { cls:=.type "list",data:=.seq its.toArray n }
 | .tup xs=>xs.length<=sizeLine/\∃ its:List Value,Vals xs its/\IsTup h a its.toArray
 | .dK kvs=>kvs.length<=sizeLine/\(a == sysModules)=false/\∃ vs,KV kvs vs/\h.DictOf (zQ P w) a vs
 | .dT kvs=>kvs.length<=sizeLine/\(a == sysModules)=false/\∃ xs:List (List Key×Addr×Value),
   Paired (fun (p:List Key×V) (q:List Key×Addr×Value)=>p.1=q.1/\H q.2.1=some (.tup (p.1.map kV))/\RelV p.2 q.2.2) kvs xs /\
   ∃ o es ep,h.get? a=some o/\o.ExactDict/\o.data=.dict es ep/\es.toList=xs.map (entryOfKey (tupleKind (zQ P w)))/\(xs.map (·.1)).Nodup
 | .set S n=>h.SetOf (intKind P w) a S n
 | .ins C dx fs=>H dx=some (.own a)/\fs.length<=1000/\dx≠a/\h.get? a=some (PySem.W.instObj C dx) /\
   ∃ mA,h.Ns1 dx mA/\(∀ f,Bt (fs.lookup f) (mA f))/\PySem.Within mA (fs.map (·.1))
 | .own _=>∃ o,h.get? a=some o
 | .xd fs=>∃ mA,h.Ns1 a mA/\∀ f,Bt (fs.lookup f) (mA f)
 | .rng lo hi=>∃ t u v,h.get? a=some { cls:=.type "range",data:=.fields #[.int lo t,.int hi u,.int 1 v] }
 | .frz o u=>h.get? a=some o/\iE H h a u
 | .tbl ps=>h.get? a=some { cls:=.none,data:=.fields ps }
 | .met f x=>h.get? a=some (PySem.W.methodObj (.ref f) (.ref x))
 | .ext φ=>φ h/\(∃ o,h.get? a=some o)/\∀ h1 h2:Heap,φ h1->(∀ o,h1.get? a=some o->h2.get? a=some o)->φ h2
def HOk (H:Hp) (h:Heap):Prop:=∀ a o,H a=some o->iE P w H h a o
end
section
variable {P:Program} {w:World} {H H':Hp} {h h':Heap} {a:Addr} {o:HO}
theorem iE.lt (x:iE P w H h a o):a<h.objs.size:=by
 cases o with
 | lst xs=>obtain ⟨_,_,_,_,e⟩:=x;exact Heap.lt_size e
 | tup xs=>obtain ⟨_,_,_,p⟩:=x;exact p.lt
 | dK kvs=>obtain ⟨_,_,_,_,o,_,_,e,_⟩:=x;exact Heap.lt_size e
 | dT kvs=>obtain ⟨_,_,_,_,o,_,_,e,_⟩:=x;exact Heap.lt_size e
 | set S n=>obtain ⟨o,_,_,_,e,_⟩:=x;exact Heap.lt_size e
 | ins C dx fs=>obtain ⟨_,_,_,e,_⟩:=x;exact Heap.lt_size e
 | own y=>obtain ⟨_,e⟩:=x;exact Heap.lt_size e
 | xd fs=>obtain ⟨_,⟨_,_,_,e,_⟩,_⟩:=x;exact Heap.lt_size e
 | rng lo hi=>obtain ⟨_,_,_,e⟩:=x;exact Heap.lt_size e
 | frz ob u=>obtain ⟨e,_⟩:=x;exact Heap.lt_size e
 | tbl ps=>exact Heap.lt_size (show h.get? a=some _ from x)
 | met f y=>exact Heap.lt_size (show h.get? a=some _ from x)
 | ext φ=>obtain ⟨_,⟨_,e⟩,_⟩:=x;exact Heap.lt_size e
theorem Paired.mapP {α β:Type} {F G:α->β->Prop}:∀ {l₁:List α} {l₂:List β},Paired F l₁ l₂->(∀ a b,F a b->G a b)->Paired G l₁ l₂
 | _,_,.nil,_=>.nil
 | _,_,.cons r t,f=>.cons (f _ _ r) (Paired.mapP t f)
theorem iE.stay (x:iE P w H h a o) (k:∀ b u,(b=a\/H b=some (.own a))->h.get? b=some u->h'.get? b=some u)
  (ho:∀ b,H b=some (.own a)->H' b=some (.own a)) (ht:∀ b xs,H b=some (.tup xs)->H' b=some (.tup xs)):iE P w H' h' a o:=by
 induction o with
 | lst xs=>obtain ⟨z,its,n,r,e⟩:=x;exact ⟨z,its,n,r,k _ _ (.inl rfl) e⟩
 | tup xs=>obtain ⟨z,its,r,ob,e,c⟩:=x;exact ⟨z,its,r,ob,k _ _ (.inl rfl) e,c⟩
 | dK kvs=>obtain ⟨z,y,vs,r,ob,es,ep,e,c⟩:=x;exact ⟨z,y,vs,r,ob,es,ep,k _ _ (.inl rfl) e,c⟩
 | dT kvs =>
  obtain ⟨z,y,xs,r,ob,es,ep,e,c⟩:=x
  exact ⟨z,y,xs,Paired.mapP r fun p q z=>⟨z.1,ht _ _ z.2.1,z.2.2⟩,ob,es,ep,k _ _ (.inl rfl) e,c⟩
 | set S n=>obtain ⟨ob,es,ep,t,e,c⟩:=x;exact ⟨ob,es,ep,t,k _ _ (.inl rfl) e,c⟩
 | ins C dx fs =>
  obtain ⟨d,z,ne,e,mA,⟨od,es,ep,e2,c⟩,r⟩:=x
  exact ⟨ho _ d,z,ne,k _ _ (.inl rfl) e,mA,⟨od,es,ep,k _ _ (.inr d) e2,c⟩,r⟩
 | own y=>obtain ⟨ob,e⟩:=x;exact ⟨ob,k _ _ (.inl rfl) e⟩
 | xd fs=>obtain ⟨mA,⟨od,es,ep,e,c⟩,r⟩:=x;exact ⟨mA,⟨od,es,ep,k _ _ (.inl rfl) e,c⟩,r⟩
 | rng lo hi=>obtain ⟨t,u,v,e⟩:=x;exact ⟨t,u,v,k _ _ (.inl rfl) e⟩
 | frz ob u ih=>obtain ⟨e,q⟩:=x;exact ⟨k _ _ (.inl rfl) e,ih q⟩
 | tbl ps =>
  have e:h.get? a=some { cls:=.none,data:=.fields ps }:=x
  show h'.get? a=some { cls:=.none,data:=.fields ps }
  exact k a _ (.inl rfl) e
 | met f y =>
  have e:h.get? a=some (PySem.W.methodObj (.ref f) (.ref y)):=x
  show h'.get? a=some (PySem.W.methodObj (.ref f) (.ref y))
  exact k a _ (.inl rfl) e
 | ext φ=>obtain ⟨p,⟨o,e⟩,st⟩:=x;exact ⟨st _ _ p fun o q=>k _ _ (.inl rfl) q,⟨o,k _ _ (.inl rfl) e⟩,st⟩
theorem HOk.lt (x:HOk P w H h) (e:H a=some o):a<h.objs.size:=(x a o e).lt
theorem HOk.fresh (x:HOk P w H h) (e:h.objs.size<=a):H a=none:=by
 cases q:H a with
 | none=>rfl
 | some u=>exact absurd (Nat.lt_of_lt_of_le (x.lt q) e) (Nat.lt_irrefl _)
theorem HOk.kept (x:HOk P w H h) (k:∀ b u,h.get? b=some u->h'.get? b=some u):HOk P w H h':=fun a o e =>
 (x a o e).stay (fun b u _ q=>k b u q) (fun _ q=>q) fun _ _ q=>q
theorem HOk.laid (x:HOk P w H h) (k:∀ b u,h.get? b=some u->h'.get? b=some u) (hp:h.objs.size<=a) (new:iE P w (upd H a o) h' a o):HOk P w (upd H a o) h':=fun b u e=>by
 have hn:=x.fresh hp
 by_cases hb:b=a
 ·subst hb;rw [aQ] at e;cases e;exact new
 ·rw [aW hb] at e
  exact (x b u e).stay (fun c v _ q=>k c v q) (fun c q=>by rw [aW (cY q hn)];exact q) fun c xs q=>by rw [aW (cY q hn)];exact q
end
def Rd (H:Hp) (a:Addr) (u:HO):Prop:=H a=some u\/∃ o,H a=some (.frz o u)
theorem Rd.ok {P:Program} {w:World} {H:Hp} {h:Heap} {a:Addr} {u:HO} (r:Rd H a u) (x:HOk P w H h):iE P w H h a u:=by
 rcases r with r | ⟨o,r⟩
 ·exact x a u r
 ·obtain ⟨_,q⟩:=x a _ r
  exact q
def Mut:Option HO->Prop
 | some (.lst _)=>True
 | some (.dK _)=>True
 | some (.dT _)=>True
 | some (.set _ _)=>True
 | some (.ins _ _ _)=>True
 | some (.ext _)=>True
 | _=>False
section
variable {P:Program} {w:World} {H:Hp} {h h':Heap} {x e:Addr} {o':HO}
theorem HOk.write (ok:HOk P w H h) (mu:Mut (H x)) (he:e=x\/H e=some (.own x)) (k:∀ b u,b≠e->h.get? b=some u->h'.get? b=some u) (heo:∃ u,h'.get? e=some u)
  (new:iE P w (upd H x o') h' x o'):HOk P w (upd H x o') h':=fun b u q=>by
 have nown:∀ c y,H c=some (.own y)->c≠x:=fun c y r z=>by subst z;rw [r] at mu;exact mu
 have ntup:∀ c xs,H c=some (.tup xs)->c≠x:=fun c xs r z=>by subst z;rw [r] at mu;exact mu
 by_cases hb:b=x
 ·subst hb;rw [aQ] at q;cases q;exact new
 ·rw [aW hb] at q
  by_cases hbe:b=e
  ·have q':H b=some (.own x):=by
    rcases he with z | z
    ·exact absurd (hbe.trans z) hb
    ·rw [hbe];exact z
   rw [q] at q';cases q'
   obtain ⟨v,hv⟩:=heo
   exact ⟨v,by rw [hbe];exact hv⟩
  ·refine (ok b u q).stay (fun c v hc r=>k c v ?_ r) (fun c r=>by rw [aW (nown c b r)];exact r) fun c xs r=>by rw [aW (ntup c xs r)];exact r
   rcases hc with rfl | hc
   ·exact hbe
   ·rintro rfl
    rcases he with z | z
    ·exact nown c b hc z
    ·rw [hc] at z;cases z;exact hb rfl
end
structure Un (fs ex:List Addr) (H H':Hp) (h h':Heap):Prop where
 keep:∀ b o,h.get? b=some o->H b=none->b∉fs->b∉ex->h'.get? b=some o
 slot:∀ b o,h.get? b=some o->H b=none->b∈fs->b∉ex->∃ sl,h'.get? b=some { o with slots:=sl }
 free:∀ b o,h.get? b=some o->H b=none->b∉ex->H' b=none
 there:∀ b o,h.get? b=some o->b∉ex->∃ o',h'.get? b=some o'
 tups:∀ b xs,H b=some (.tup xs)->H' b=some (.tup xs)
 frzs:∀ b o u,H b=some (.frz o u)->H' b=some (.frz o u)
 tbls:∀ b ps,H b=some (.tbl ps)->∃ more,H' b=some (.tbl (ps++more))
section
variable {fs fs' ex ex':List Addr} {H H1 H2:Hp} {h h1 h2 h':Heap} {a x e:Addr} {o:HO}
theorem Un.any (u:Un fs ex H H1 h h1) {b:Addr} {ob:Obj} (q:h.get? b=some ob) (n:H b=none) (hx:b∉ex):∃ sl,h1.get? b=some { ob with slots:=sl }:=by
 by_cases hb:b∈fs
 ·exact u.slot b ob q n hb hx
 ·exact ⟨ob.slots,u.keep b ob q n hb hx⟩
theorem Un.kept (k:∀ b u,h.get? b=some u->h'.get? b=some u):Un fs ex H H h h' :=
 ⟨fun b ob q _ _ _=>k b ob q,fun b ob q _ _ _=>⟨ob.slots,k b ob q⟩,fun _ _ _ n _=>n,fun b ob q _=>⟨ob,k b ob q⟩,fun _ _ q=>q,fun _ _ _ q=>q,fun _ ps q=>⟨#[],by rw [q];simp⟩⟩
theorem Un.refl:Un fs ex H H h h:=Un.kept fun _ _ q=>q
theorem Un.laid (k:∀ b u,h.get? b=some u->h'.get? b=some u) (hp:h.objs.size<=a) (hn:H a=none):Un fs ex H (upd H a o) h h' where
 keep:=fun b u q _ _ _=>k b u q
 slot:=fun b u q _ _ _=>⟨u.slots,k b u q⟩
 free:=fun b u q n _=>by rw [aW (Nat.ne_of_lt (Nat.lt_of_lt_of_le (Heap.lt_size q) hp))];exact n
 there:=fun b u q _=>⟨u,k b u q⟩
 tups:=fun b xs q=>by rw [aW (cY q hn)];exact q
 frzs:=fun b u xs q=>by rw [aW (cY q hn)];exact q
 tbls:=fun b ps q=>⟨#[],by rw [aW (cY q hn),q];simp⟩
theorem Un.write (mu:Mut (H x)) (he:e=x\/H e=some (.own x)) (k:∀ b u,b≠e->h.get? b=some u->h'.get? b=some u) (heo:∃ u,h'.get? e=some u):Un fs ex H (upd H x o) h h':=by
 have hx:∀ b,H b=none->b≠x:=fun b n z=>by subst z;rw [n] at mu;exact mu
 have hb:∀ b,H b=none->b≠e:=fun b n z=>by
  subst z
  rcases he with r | r
  ·exact hx b n r
  ·rw [n] at r;cases r
 have hm:∀ b u,H b=some u->¬ Mut (some u)->b≠x:=fun b u q nm z=>by subst z;rw [q] at mu;exact nm mu
 refine ⟨fun b u q n _ _=>k b u (hb b n) q,fun b u q n _ _=>⟨u.slots,k b u (hb b n) q⟩,fun b u q n _=>by rw [aW (hx b n)];exact n,fun b u q _ => ?_,
  fun b xs q=>by rw [aW (hm b _ q fun z=>z)];exact q,fun b u xs q=>by rw [aW (hm b _ q fun z=>z)];exact q,fun b ps q=>⟨#[],by rw [aW (hm b _ q fun z=>z),q];simp⟩⟩
 by_cases hbe:b=e
 ·subst hbe;exact heo
 ·exact ⟨u,k b u hbe q⟩
end
def trk (h:Heap) (H:Hp):List Addr:=(List.range h.objs.size).filter fun a=>(H a).isSome
def Dv (h:Heap) (H:Hp):Heap:=PySem.W.hideAll h (trk h H)
theorem Aj (h:Heap) (H:Hp):(Dv h H).objs.size=h.objs.size:=PySem.W.hideAll_size _ _
theorem Du {h:Heap} {H:Hp} {b:Addr} {o:Obj} (e:h.get? b=some o) (n:H b=none):(Dv h H).get? b=some o :=
 PySem.W.hideAll_get _ e fun hm=>by
  have q:(H b).isSome=true:=(List.mem_filter.mp hm).2
  rw [n] at q;simp at q
theorem G9 {h:Heap} {H:Hp} {b:Addr} {o:Obj} (e:(Dv h H).get? b=some o):h.get? b=some o/\H b=none:=by
 have e':h.get? b=some o:=PySem.W.of_hideAll (trk h H) e
 refine ⟨e',?_⟩
 cases q:H b with
 | none=>rfl
 | some x =>
  have hm:b∈trk h H:=List.mem_filter.mpr ⟨List.mem_range.mpr (Heap.lt_size e'),by simp [q]⟩
  have z:(Dv h H).get? b=none:=PySem.W.hideAll_none (trk h H) hm
  rw [z] at e;cases e
def IG (g h:Heap) (L:Addr):List ↥11:=(List.range h.objs.size).filterMap fun a=>if a=L\/(g.get? a).isSome=true then none else (h.get? a).map fun o=>(a,o)
def rest (g h:Heap) (L d:Addr):List ↥11:=(IG g h L).filter fun p=>decide (p.1≠d)
end L2
namespace L2
open PySem PySem.Spec PyProof.Rows
structure Mod (K:PySem.W.Frag) (mg:Str->Option Value) (base:Heap):Prop where
 kin:K.In base
 glob:base.Ns mainGlobals mg
 blt:∃ mb,base.Ns builtinsNs mb/\∀ x:Str,x≠"__name__"->mb x=bootBuiltins x
 nolimit:base.NoLimit
structure Cx where
 prog:Program
 w:World
 K:PySem.W.Frag
 mg:Str->Option Value
 base:Heap
 A:Around
 N:List Str
 s₀:Shared
 H₀:Hp
 env:Env
 outer:List Env
 stack:List Env
 ex:List Addr
 fn:Str->Bool
 calm:Bool
 pn:List ↥11
 xe:Value->Shared->Prop
def frs (l:List Env):List Addr:=l.filterMap (·.frame)
abbrev Cx.fs (X:Cx):List Addr:=frs X.outer
def Vis (sc:Scope) (x:Str):Prop:=sc.names.lookup x=some .local\/sc.names.lookup x=some .cell\/sc.names.lookup x=some .free
def Loc (sc:Scope) (x:Str):Prop:=sc.names.lookup x=some .local\/sc.names.lookup x=some .cell
def Look (env:Env) (h:Heap) (m:Str->Option Value) (x:Str) (u:Value):Prop :=
 (env.kindOf x=some .local/\m x=some u)\/((env.kindOf x=some .cell\/env.kindOf x=some .free)/\∃ c,env.cells.lookup x=some c/\h.IsCell c (some u))
structure Cx.Ok (X:Cx):Prop where
 mod:Mod X.K X.mg X.base
 kind:X.env.scope.kind=.function
 glob:X.env.globals=mainGlobals
 blt:X.env.builtins=builtinsNs
 above:X.s₀.heap.objs.size<=X.env.locals
 inj:∀ x y c,X.env.cells.lookup x=some c->X.env.cells.lookup y=some c->x=y
 has:∀ x,(X.env.kindOf x=some .cell\/X.env.kindOf x=some .free)->∃ c,X.env.cells.lookup x=some c
 cab:∀ x c,X.fn x=true->X.env.cells.lookup x=some c->X.s₀.heap.objs.size<=c
 hd:X.calm=true->X.A.handled=none
 frames:X.A.frames=some X.stack
 stk:X.stack=X.outer\/(X.stack=X.env::X.outer/\X.env.frame=some X.env.locals)
 exf:∀ b∈X.ex,b≠X.env.locals/\∀ x c,X.env.cells.lookup x=some c->c≠b
 bs:∀ b o,X.base.get? b=some o->X.s₀.heap.get? b=some o/\X.H₀ b=none
 bsz:X.base.objs.size<=X.s₀.heap.objs.size
 noex:∀ b o,X.base.get? b=some o->b∉X.ex
 exfs:∀ b∈X.ex,b∉X.fs
 funs:X.s₀.heap.FunFrames X.base X.outer
 frf:∀ b∈X.fs,X.H₀ b=none
structure Inv (X:Cx) (pins:List ↥11) (σ:List (Option V)) (H:Hp) (s:Shared):Prop where
 ok:X.Ok
 os:s.os=X.s₀.os
 bare:AllBare s.gens
 base:Un X.fs X.ex X.H₀ H X.s₀.heap s.heap
 loc:∃ m,s.heap.Ns X.env.locals m/\∀ (i:Nat) (x:Str) (v:V),X.N[i]? = some x->σ[i]? = some (some v)->Vis X.env.scope x->∃ u,RelV v u/\Look X.env s.heap m x u
 cell:∀ x c,X.env.cells.lookup x=some c->∃ v,s.heap.IsCell c v
 free:H X.env.locals=none
 freeC:∀ x c,X.env.cells.lookup x=some c->H c=none
 pin:∀ p∈X.pn++pins,s.heap.get? p.1=some p.2/\H p.1=none/\p.1≠X.env.locals/\p.1∉X.fs/\∀ v,p.2.data ≠ .cell v
 hok:HOk X.prog X.w H s.heap
 len:σ.length=X.N.length
section
variable {X:Cx} {pins:List ↥11} {σ:List (Option V)} {H H':Hp} {s:Shared} {h':Heap}
theorem Cx.Ok.nofr (ok:X.Ok) {b:Addr} {o:Obj} (e:X.base.get? b=some o):b∉X.fs:=fun hb=>by
 have:=(ok.funs.mem hb).1
 rw [e] at this;cases this
theorem Inv.bs (I:Inv X pins σ H s):∀ b o,X.base.get? b=some o->s.heap.get? b=some o/\H b=none:=fun b o e =>
 ⟨I.base.keep b o (I.ok.bs b o e).1 (I.ok.bs b o e).2 (I.ok.nofr e) (I.ok.noex b o e),I.base.free b o (I.ok.bs b o e).1 (I.ok.bs b o e).2 (I.ok.noex b o e)⟩
theorem Inv.bk (I:Inv X pins σ H s):∀ b o,X.base.get? b=some o->s.heap.get? b=some o:=fun b o e=>(I.bs b o e).1
theorem Inv.mod (I:Inv X pins σ H s):Mod X.K X.mg X.base:=I.ok.mod
theorem Inv.kIn (I:Inv X pins σ H s):X.K.In s.heap:=I.ok.mod.kin.keeps I.bk
theorem Inv.lt (I:Inv X pins σ H s):X.env.locals<s.heap.objs.size:=let ⟨_,hn,_⟩:=I.loc;hn.lt
theorem Inv.sz (I:Inv X pins σ H s):X.s₀.heap.objs.size<=s.heap.objs.size:=Nat.le_trans I.ok.above (Nat.le_of_lt I.lt)
theorem Inv.nofs (I:Inv X pins σ H s) {a:Addr} (h:s.heap.objs.size<=a):a∉X.fs:=fun hb=>by
 obtain ⟨_,o,ho,_⟩:=I.ok.funs.mem hb
 exact absurd (Nat.lt_of_lt_of_le (Heap.lt_size ho) (Nat.le_trans I.sz h)) (Nat.lt_irrefl _)
theorem Inv.cne (I:Inv X pins σ H s):∀ x c,X.env.cells.lookup x=some c->c≠X.env.locals:=fun x c e z=>by
 obtain ⟨v,o,ho,hd⟩:=I.cell x c e
 obtain ⟨m,⟨o',es,ep,ho',hd',_⟩,_⟩:=I.loc
 rw [z,ho'] at ho;cases ho;rw [hd'] at hd;cases hd
theorem Inv.funs (I:Inv X pins σ H s):s.heap.FunFrames X.base X.outer:=by
 have all:∀ (l:List Env),(∀ b∈frs l,b∈X.fs)->X.s₀.heap.FunFrames X.base l->s.heap.FunFrames X.base l:=by
  intro l
  induction l with
  | nil=>intro _ _;trivial
  | cons env r ih =>
   intro hs hl
   obtain ⟨hk,⟨L,o,hf,hn,ho,hd⟩,hr⟩:=hl
   have hL:L∈X.fs:=hs L (by unfold frs;rw [List.filterMap_cons,hf];exact List.mem_cons_self)
   obtain ⟨sl,e⟩:=I.base.slot L o ho (I.ok.frf L hL) hL fun z=>I.ok.exfs L z hL
   exact ⟨hk,⟨L,_,hf,hn,e,hd⟩,ih (fun b hb=>hs b (by unfold frs;rw [List.filterMap_cons,hf];exact List.mem_cons_of_mem _ hb)) hr⟩
 exact all X.outer (fun _ hb=>hb) I.ok.funs
theorem Inv.stack (I:Inv X pins σ H s):s.heap.FunFrames X.base X.stack:=by
 rcases I.ok.stk with e | ⟨e,hf⟩
 ·rw [e];exact I.funs
 ·rw [e]
  obtain ⟨m,hn,_⟩:=I.loc
  refine .cons (by rw [I.ok.kind];decide) hf hn ?_ I.funs
  exact Heap.get?_none_of_le (Nat.le_trans I.ok.bsz I.ok.above)
theorem Inv.stkSub (I:Inv X pins σ H s):∀ b∈frs X.stack,b∈X.env.locals::X.fs:=fun b hb=>by
 rcases I.ok.stk with e | ⟨e,hf⟩
 ·rw [e] at hb;exact List.mem_cons_of_mem _ hb
 ·rw [e] at hb
  unfold frs at hb
  rw [List.filterMap_cons,hf] at hb
  exact hb
theorem Inv.stkFree (I:Inv X pins σ H s):∀ b∈frs X.stack,H b=none:=fun b hb=>by
 rcases List.mem_cons.mp (I.stkSub b hb) with e | hb
 ·rw [e];exact I.free
 ·obtain ⟨_,o,ho,_⟩:=I.ok.funs.mem hb
  exact I.base.free b o ho (I.ok.frf b hb) fun z=>I.ok.exfs b z hb
theorem Inv.step {g':Array GenState} {t':Nat} {d':Drawn} {ch:List Addr} (I:Inv X pins σ H s)
  (hch:∀ b∈ch,(b∈X.ex\/X.s₀.heap.objs.size<=b)/\b≠X.env.locals/\(∀ x c,X.env.cells.lookup x=some c->c≠b)/\∀ p∈X.pn++pins,p.1≠b)
  (keep:∀ b o,b≠X.env.locals->b∉X.fs->b∉ch->s.heap.get? b=some o->H b=none->h'.get? b=some o)
  (slot:∀ b o,b≠X.env.locals->b∈X.fs->b∉ch->s.heap.get? b=some o->H b=none->∃ sl,h'.get? b=some { o with slots:=sl }) (free:∀ b o,b∉ch->s.heap.get? b=some o->H b=none->H' b=none)
  (there:∀ b o,b∉ch->s.heap.get? b=some o->∃ o',h'.get? b=some o')
  (tups:∀ b xs,H b=some (.tup xs)->H' b=some (.tup xs)) (frzs:∀ b o u,H b=some (.frz o u)->H' b=some (.frz o u)) (tbls:∀ b ps,H b=some (.tbl ps)->∃ more,H' b=some (.tbl (ps++more)))
  (ns:∀ m,s.heap.Ns X.env.locals m->h'.Ns X.env.locals m) (hok:HOk X.prog X.w H' h') (hg:AllBare g') :
  Inv X pins σ H' { s with heap:=h',gens:=g',drawn:=d',toks:=t' }:=by
 have neL:∀ b o,X.s₀.heap.get? b=some o->b≠X.env.locals:=fun b o e=>Nat.ne_of_lt (Nat.lt_of_lt_of_le (Heap.lt_size e) I.ok.above)
 have neC:∀ b o,X.s₀.heap.get? b=some o->b∉X.ex->b∉ch:=fun b o e hx hb=>by
  rcases (hch b hb).1 with z | z
  ·exact hx z
  ·exact absurd (Nat.lt_of_lt_of_le (Heap.lt_size e) z) (Nat.lt_irrefl _)
 have cellK:∀ x c,X.env.cells.lookup x=some c->∀ v,s.heap.IsCell c v->h'.IsCell c v:=fun x c e v ⟨o,ho,hd⟩=>by
  have nch:c∉ch:=fun z=>(hch c z).2.2.1 x c e rfl
  by_cases hc:c∈X.fs
  ·obtain ⟨sl,q⟩:=slot c o (I.cne x c e) hc nch ho (I.freeC x c e)
   exact ⟨_,q,hd⟩
  ·exact ⟨o,keep c o (I.cne x c e) hc nch ho (I.freeC x c e),hd⟩
 refine ⟨I.ok,I.os,hg,⟨fun b o e n hb hx => ?_,fun b o e n hb hx => ?_,fun b o e n hx => ?_,fun b o e hx => ?_,fun b xs e=>tups b xs (I.base.tups b xs e),fun b o xs e=>frzs b o xs (I.base.frzs b o xs e),fun b ps e => ?_⟩,?_,fun x c e => ?_,?_,fun x c e => ?_,fun p hp => ?_,hok,I.len⟩
 ·exact keep b o (neL b o e) hb (neC b o e hx) (I.base.keep b o e n hb hx) (I.base.free b o e n hx)
 ·obtain ⟨sl,e1⟩:=I.base.slot b o e n hb hx
  obtain ⟨sl',e2⟩:=slot b _ (neL b o e) hb (neC b o e hx) e1 (I.base.free b o e n hx)
  exact ⟨sl',e2⟩
 ·obtain ⟨o',e1⟩:=I.base.there b o e hx
  exact free b o' (neC b o e hx) e1 (I.base.free b o e n hx)
 ·obtain ⟨o',e1⟩:=I.base.there b o e hx
  exact there b o' (neC b o e hx) e1
 ·obtain ⟨m1,e1⟩:=I.base.tbls b ps e
  obtain ⟨m2,e2⟩:=tbls b _ e1
  exact ⟨m1++m2,by rw [e2,Array.append_assoc]⟩
 ·obtain ⟨m,hn,hl⟩:=I.loc
  refine ⟨m,ns m hn,fun i x v e1 e2 e3 => ?_⟩
  obtain ⟨u,r,l⟩:=hl i x v e1 e2 e3
  refine ⟨u,r,?_⟩
  rcases l with l | ⟨k,c,e,z⟩
  ·exact .inl l
  ·exact .inr ⟨k,c,e,cellK x c e _ z⟩
 ·obtain ⟨v,z⟩:=I.cell x c e
  exact ⟨v,cellK x c e v z⟩
 ·obtain ⟨m,⟨o,_,_,ho,_⟩,_⟩:=I.loc
  exact free _ o (fun z=>(hch _ z).2.1 rfl) ho I.free
 ·obtain ⟨v,o,ho,hd⟩:=I.cell x c e
  exact free c o (fun z=>(hch c z).2.2.1 x c e rfl) ho (I.freeC x c e)
 ·obtain ⟨e,n,ne,nf,d⟩:=I.pin p hp
  have nch:p.1∉ch:=fun z=>(hch p.1 z).2.2.2 p hp rfl
  exact ⟨keep p.1 p.2 ne nf nch e n,free p.1 p.2 nch e n,ne,nf,d⟩
theorem Inv.un {t':Nat} (I:Inv X pins σ H s) (u:Un X.fs [] H H' s.heap h') (hok:HOk X.prog X.w H' h'):Inv X pins σ H' { s with heap:=h',toks:=t' }:=by
 obtain ⟨m,⟨o,es,ep,ho,r⟩,_⟩:=id I.loc
 obtain ⟨sl,hL⟩:=u.any ho I.free (by simp)
 exact I.step (g':=s.gens) (d':=s.drawn) (ch:=[]) (fun _ z=>nomatch z) (fun b o _ hb _ e n=>u.keep b o e n hb (by simp)) (fun b o _ hb _ e n=>u.slot b o e n hb (by simp)) (fun b o _ e n=>u.free b o e n (by simp)) (fun b o _ e=>u.there b o e (by simp)) u.tups u.frzs u.tbls (fun m' hm=>by
  obtain ⟨o',es',ep',ho',r'⟩:=hm
  rw [ho] at ho';cases ho'
  exact ⟨_,es',ep',hL,r'⟩) hok I.bare
theorem Inv.call {g':Array GenState} {t':Nat} {d':Drawn} {ch:List Addr} (I:Inv X pins σ H s) (u:Un (frs X.stack) ch H H' s.heap h') (hok:HOk X.prog X.w H' h') (hg:AllBare g')
  (hch:∀ b∈ch,(b∈X.ex\/X.s₀.heap.objs.size<=b)/\b≠X.env.locals/\(∀ x c,X.env.cells.lookup x=some c->c≠b)/\∀ p∈X.pn++pins,p.1≠b) :
  Inv X pins σ H' { s with heap:=h',gens:=g',drawn:=d',toks:=t' }:=by
 obtain ⟨m,⟨o,es,ep,ho,r⟩,_⟩:=id I.loc
 obtain ⟨sl,hL⟩:=u.any ho I.free fun z=>(hch _ z).2.1 rfl
 exact I.step (ch:=ch) hch (fun b o hL hb hc e n=>u.keep b o e n (fun z=>(List.mem_cons.mp (I.stkSub b z)).elim hL hb) hc) (fun b o _ _ hc e n=>u.any e n hc) (fun b o hc e n=>u.free b o e n hc) (fun b o hc e=>u.there b o e hc) u.tups u.frzs u.tbls (fun m' hm=>by
  obtain ⟨o',es',ep',ho',r'⟩:=hm
  rw [ho] at ho';cases ho'
  exact ⟨_,es',ep',hL,r'⟩) hok hg
theorem Inv.turned {t':Nat} {it:Addr} (I:Inv X pins σ H s) (k:∀ b o,b≠it->s.heap.get? b=some o->h'.get? b=some o) (hn:H it=none) (hL:it≠X.env.locals)
  (h1:it∈X.ex\/X.s₀.heap.objs.size<=it) (h2:∀ x c,X.env.cells.lookup x=some c->c≠it) (h3:∀ p∈X.pn++pins,p.1≠it):Inv X pins σ H { s with heap:=h',toks:=t' }:=by
 have nit:∀ b u,H b=some u->b≠it:=fun b u e z=>by rw [z,hn] at e;cases e
 refine I.step (g':=s.gens) (d':=s.drawn) (ch:=[it]) (fun b hb => ?_) (fun b o _ _ hc e _=>k b o (fun z=>hc (by simp [z])) e) (fun b o _ _ hc e _=>⟨o.slots,k b o (fun z=>hc (by simp [z])) e⟩) (fun _ _ _ _ n=>n)
  (fun b o hc e=>⟨o,k b o (fun z=>hc (by simp [z])) e⟩) (fun _ _ e=>e) (fun _ _ _ e=>e) (fun b ps e=>⟨#[],by rw [e];simp⟩) (fun m hm => ?_) (fun b u e => ?_) I.bare
 ·have e:b=it:=by simpa using hb
  subst e
  exact ⟨h1,hL,h2,h3⟩
 ·obtain ⟨o,es,ep,ho,r⟩:=hm
  exact ⟨o,es,ep,k _ o (Ne.symm hL) ho,r⟩
 ·refine (I.hok b u e).stay (fun c v hc q=>k c v ?_ q) (fun _ q=>q) fun _ _ q=>q
  rcases hc with z | z
  ·rw [z];exact nit b u e
  ·exact nit c _ z
theorem Inv.tok (I:Inv X pins σ H s) (t:Nat):Inv X pins σ H { s with toks:=t }:=I.un (h':=s.heap) (t':=t) Un.refl I.hok
theorem Inv.kept {t':Nat} (I:Inv X pins σ H s) (k:∀ b u,s.heap.get? b=some u->h'.get? b=some u):Inv X pins σ H { s with heap:=h',toks:=t' }:=I.un (Un.kept k) (I.hok.kept k)
theorem Inv.laid {a:Addr} {o:HO} {t':Nat} (I:Inv X pins σ H s) (k:∀ b u,s.heap.get? b=some u->h'.get? b=some u) (hp:s.heap.objs.size<=a) (new:iE X.prog X.w (upd H a o) h' a o) :
  Inv X pins σ (upd H a o) { s with heap:=h',toks:=t' }:=I.un (Un.laid k hp (I.hok.fresh hp)) (I.hok.laid k hp new)
theorem Inv.write {x e:Addr} {o:HO} {t':Nat} (I:Inv X pins σ H s) (mu:Mut (H x)) (he:e=x\/H e=some (.own x)) (k:∀ b u,b≠e->s.heap.get? b=some u->h'.get? b=some u) (heo:∃ u,h'.get? e=some u)
  (new:iE X.prog X.w (upd H x o) h' x o):Inv X pins σ (upd H x o) { s with heap:=h',toks:=t' }:=I.un (Un.write mu he k heo) (I.hok.write mu he k heo new)
theorem Inv.pins_of {pins':List ↥11} (I:Inv X pins σ H s) (h:∀ p∈pins',s.heap.get? p.1=some p.2/\H p.1=none/\p.1≠X.env.locals/\p.1∉X.fs/\∀ v,p.2.data ≠ .cell v):Inv X pins' σ H s :=
 ⟨I.ok,I.os,I.bare,I.base,I.loc,I.cell,I.free,I.freeC,fun p hp=>(List.mem_append.mp hp).elim (fun z=>I.pin p (List.mem_append_left _ z)) (h p),I.hok,I.len⟩
theorem qq {N:List Str} (hN:N.Nodup) {i j:Nat} {x:Str} (a:N[i]? = some x) (b:N[j]? = some x):i=j:=by
 obtain ⟨h1,e1⟩:=List.getElem?_eq_some_iff.mp a
 obtain ⟨h2,e2⟩:=List.getElem?_eq_some_iff.mp b
 exact (List.getElem_inj hN).mp (e1.trans e2.symm)
theorem yI {M:Model} {A:Around} {E:Value->Shared->Prop} {i:Nat} {x:Str} {v:V} {u:Value} {Q:Unit->Shared->Prop} (I:Inv X pins σ H s) (hN:X.N.Nodup) (hi:X.N[i]? = some x) (hx:Loc X.env.scope x) (r:RelV v u)
  (h:∀ s',Inv X pins (σ.set i (some v)) H s'->(∃ a,Heap.SameBut a s.heap s'.heap/\(a=X.env.locals\/X.env.cells.lookup x=some a))->Q () s') (hf:X.fn x=true\/X.env.scope.names.lookup x=some .local:=by first | exact .inl rfl | exact .inr rfl | assumption):wpAny M A (storeName X.env x u) Q E s:=by
 obtain ⟨m,hn,hl⟩:=id I.loc
 have hcls:(X.env.scope.kind == .class||(X.env.scope.kind == .module&&X.env.locals != X.env.globals))=false:=by rw [I.ok.kind];rfl
 have hiσ:i<σ.length:=by rw [I.len];exact (List.getElem?_eq_some_iff.mp hi).1
 have cne:=I.cne
 have tracked:∀ {a:Addr} {h':Heap},(∃ o,s.heap.get? a=some o/\H a=none)->Heap.SameBut a s.heap h'->HOk X.prog X.w H h':=fun {a h'} ha hs b ob e=>by
  obtain ⟨_,_,hfree⟩:=ha
  refine (I.hok b ob e).stay (fun c w' hc q=>(hs.2 c ?_).trans q) (fun _ q=>q) fun _ _ q=>q
  rintro rfl
  rcases hc with rfl | hc
  ·rw [hfree] at e;cases e
  ·rw [hfree] at hc;cases hc
 rcases hx with hk | hk
 ·refine wpAny_storeName_local hk hn (fun h' hn' hs => ?_) hcls
  obtain ⟨oL,_,_,hoL,_⟩:=id hn
  refine h _ ⟨I.ok,I.os,I.bare,⟨fun b o e n hb hx => ?_,fun b o e n hb hx => ?_,I.base.free,fun b o e hx => ?_,I.base.tups,I.base.frzs,I.base.tbls⟩,⟨_,hn',fun j y v' e1 e2 e3 => ?_⟩,fun y c e => ?_,I.free,I.freeC,fun p hp => ?_,tracked ⟨oL,hoL,I.free⟩ hs,by simpa using I.len⟩ ⟨_,hs,.inl rfl⟩
  ·exact (hs.2 b (Nat.ne_of_lt (Nat.lt_of_lt_of_le (Heap.lt_size e) I.ok.above))).trans (I.base.keep b o e n hb hx)
  ·obtain ⟨sl,e1⟩:=I.base.slot b o e n hb hx
   exact ⟨sl,(hs.2 b (Nat.ne_of_lt (Nat.lt_of_lt_of_le (Heap.lt_size e) I.ok.above))).trans e1⟩
  ·obtain ⟨o',e1⟩:=I.base.there b o e hx
   exact ⟨o',(hs.2 b (Nat.ne_of_lt (Nat.lt_of_lt_of_le (Heap.lt_size e) I.ok.above))).trans e1⟩
  ·by_cases hj:j=i
   ·subst hj
    rw [hi] at e1;cases e1
    rw [List.getElem?_set_self hiσ] at e2
    cases e2
    exact ⟨u,r,.inl ⟨hk,by simp⟩⟩
   ·rw [List.getElem?_set_ne (Ne.symm hj)] at e2
    obtain ⟨u',r',q⟩:=hl j y v' e1 e2 e3
    refine ⟨u',r',?_⟩
    rcases q with ⟨k,e⟩ | ⟨k,c,e,z⟩
    ·refine .inl ⟨k,?_⟩
     have:y≠x:=fun e=>hj (qq hN e1 (e▸hi))
     simp [this,e]
    ·exact .inr ⟨k,c,e,z.sameBut hs (cne y c e)⟩
  ·obtain ⟨w',z⟩:=I.cell y c e
   exact ⟨w',z.sameBut hs (cne y c e)⟩
  ·obtain ⟨e,n,ne,nf,d⟩:=I.pin p hp
   exact ⟨(hs.2 p.1 ne).trans e,n,ne,nf,d⟩
 ·have hfn:X.fn x=true:=by
   rcases hf with z | z
   ·exact z
   ·rw [z] at hk;cases hk
  obtain ⟨c,hc⟩:=I.ok.has x (.inl hk)
  obtain ⟨w',z⟩:=I.cell x c hc
  refine wpAny_storeName_cell I.ok.kind hk hc z (fun h' hc' hs => ?_)
  obtain ⟨oc,hoc,hocd⟩:=id z
  refine h { s with heap:=h' } ⟨I.ok,I.os,I.bare,⟨fun b o e n hb hx => ?_,fun b o e n hb hx => ?_,I.base.free,fun b o e hx => ?_,I.base.tups,I.base.frzs,I.base.tbls⟩,⟨m,hn.sameBut hs (Ne.symm (cne x c hc)),fun j y v' e1 e2 e3 => ?_⟩,fun y c' e => ?_,I.free,I.freeC,fun p hp => ?_,tracked ⟨oc,hoc,I.freeC x c hc⟩ hs,by simpa using I.len⟩ ⟨c,hs,.inr hc⟩
  ·exact (hs.2 b (Nat.ne_of_lt (Nat.lt_of_lt_of_le (Heap.lt_size e) (I.ok.cab x c hfn hc)))).trans (I.base.keep b o e n hb hx)
  ·obtain ⟨sl,e1⟩:=I.base.slot b o e n hb hx
   exact ⟨sl,(hs.2 b (Nat.ne_of_lt (Nat.lt_of_lt_of_le (Heap.lt_size e) (I.ok.cab x c hfn hc)))).trans e1⟩
  ·obtain ⟨o',e1⟩:=I.base.there b o e hx
   exact ⟨o',(hs.2 b (Nat.ne_of_lt (Nat.lt_of_lt_of_le (Heap.lt_size e) (I.ok.cab x c hfn hc)))).trans e1⟩
  ·by_cases hj:j=i
   ·subst hj
    rw [hi] at e1;cases e1
    rw [List.getElem?_set_self hiσ] at e2
    cases e2
    exact ⟨u,r,.inr ⟨.inl hk,c,hc,hc'⟩⟩
   ·rw [List.getElem?_set_ne (Ne.symm hj)] at e2
    obtain ⟨u',r',q⟩:=hl j y v' e1 e2 e3
    refine ⟨u',r',?_⟩
    rcases q with q | ⟨k,c',e,z'⟩
    ·exact .inl q
    ·refine .inr ⟨k,c',e,z'.sameBut hs ?_⟩
     rintro rfl
     exact hj (qq hN e1 (I.ok.inj _ _ _ e hc▸hi))
  ·by_cases hcc:c'=c
   ·subst hcc;exact ⟨_,hc'⟩
   ·obtain ⟨w2,z2⟩:=I.cell y c' e
    exact ⟨w2,z2.sameBut hs hcc⟩
  ·obtain ⟨e,n,ne,nf,d⟩:=I.pin p hp
   refine ⟨(hs.2 p.1 ?_).trans e,n,ne,nf,d⟩
   intro q
   rw [q,hoc] at e
   have q':oc=p.2:=Option.some.inj e
   exact d w' (by rw [<- q'];exact hocd)
theorem lD {M:Model} {A:Around} {E:Value->Shared->Prop} {i:Nat} {x:Str} {v:V} {u:Value} {Q:Unit->Shared->Prop} (I:Inv X pins σ H s) (hN:X.N.Nodup) (hi:X.N[i]? = some x) (hx:Loc X.env.scope x) (r:RelV v u)
  (h:∀ s',Inv X pins (σ.set i (some v)) H s'->Q () s') (hf:X.fn x=true\/X.env.scope.names.lookup x=some .local:=by first | exact .inl rfl | exact .inr rfl | assumption):wpAny M A (storeName X.env x u) Q E s :=
 yI I hN hi hx r (fun s' I' _=>h s' I') hf
theorem Inv.call' {s':Shared} {ch:List Addr} (I:Inv X pins σ H s) (ho:s'.os=s.os) (u:Un (frs X.stack) ch H H' s.heap s'.heap) (hok:HOk X.prog X.w H' s'.heap) (hg:AllBare s'.gens)
  (hch:∀ b∈ch,(b∈X.ex\/X.s₀.heap.objs.size<=b)/\b≠X.env.locals/\(∀ x c,X.env.cells.lookup x=some c->c≠b)/\∀ p∈X.pn++pins,p.1≠b):Inv X pins σ H' s':=by
 obtain ⟨h',g',d',t',o'⟩:=s'
 have e:o'=s.os:=ho
 subst e
 exact I.call (g':=g') (t':=t') (d':=d') u hok hg hch
end
abbrev XK:=Value->Option Addr->Hp->Prop
abbrev St:=List (Option V)
abbrev VK:=V->Hp->Prop
abbrev TE:=St->Hp->VK->Prop
abbrev TT:=St->Hp->(Bool->Hp->Prop)->Prop
abbrev TA:=St->Hp->(List V->Hp->Prop)->Prop
structure Ends where
 nx:St->Hp->Prop
 rt:VK
 bk:St->Hp->Prop:=fun _ _=>False
 ct:St->Hp->Prop:=fun _ _=>False
abbrev TS:=Ends->St->Hp->Prop
def EP (X:Cx) (pins:List ↥11) (σ:St) (Q:VK) (u:Value) (s':Shared):Prop:=∃ v H',Inv X pins σ H' s'/\RelV v u/\Q v H'
def TP (X:Cx) (pins:List ↥11) (σ:St) (Q:Bool->Hp->Prop) (b:Bool) (s':Shared):Prop:=∃ H',Inv X pins σ H' s'/\Q b H'
def AP (X:Cx) (pins:List ↥11) (σ:St) (Q:List V->Hp->Prop) (us:List Value) (s':Shared):Prop:=∃ vs H',Inv X pins σ H' s'/\Vals vs us/\Q vs H'
def SP (X:Cx) (pins:List ↥11) (D:Ends) (f:Flow) (s':Shared):Prop :=
 match f with
 | .next=>∃ σ' H',Inv X pins σ' H' s'/\D.nx σ' H'
 | .brk=>∃ σ' H',Inv X pins σ' H' s'/\D.bk σ' H'
 | .cont=>∃ σ' H',Inv X pins σ' H' s'/\D.ct σ' H'
 | .ret u=>∃ v σ' H',Inv X pins σ' H' s'/\RelV v u/\D.rt v H'
def PE (X:Cx) (e:Expr) (t:TE):Prop :=
 ∀ (pins:List ↥11) (s:Shared) (σ:St) (H:Hp) (Q:VK),Inv X pins σ H s->t σ H Q->wpAny ↥4 X.A (eval e X.env) (EP X pins σ Q) X.xe s
def PT (X:Cx) (e:Expr) (t:TT):Prop :=
 ∀ (pins:List ↥11) (s:Shared) (σ:St) (H:Hp) (Q:Bool->Hp->Prop),Inv X pins σ H s->t σ H Q->wpAny ↥4 X.A (isTrue e X.env (eval e X.env)) (TP X pins σ Q) X.xe s
def PW (X:Cx) (e:Expr) (t:TT):Prop :=
 ∀ (whole:Sem Value) (pins:List ↥11) (s:Shared) (σ:St) (H:Hp) (Q:Bool->Hp->Prop),Inv X pins σ H s->t σ H Q->wpAny ↥4 X.A (isTrue e X.env whole) (TP X pins σ Q) X.xe s
theorem PW.pt {X:Cx} {e:Expr} {t:TT} (h:PW X e t):PT X e t:=h _
def PA (X:Cx) (es:List Expr) (t:TA):Prop :=
 ∀ (pos:Pos) (pins:List ↥11) (s:Shared) (σ:St) (H:Hp) (Q:List V->Hp->Prop),Inv X pins σ H s->t σ H Q->wpAny ↥4 X.A (spliced (backTo pos (starEach es X.env))) (AP X pins σ Q) X.xe s
def PS (X:Cx) (st:Stmt) (t:TS):Prop :=
 ∀ (pins:List ↥11) (s:Shared) (σ:St) (H:Hp) (D:Ends),Inv X pins σ H s->t D σ H->wpAny ↥4 X.A (exec st X.env) (SP X pins D) X.xe s
def PSs (X:Cx) (st:List Stmt) (t:TS):Prop :=
 ∀ (pins:List ↥11) (s:Shared) (σ:St) (H:Hp) (D:Ends),Inv X pins σ H s->t D σ H->wpAny ↥4 X.A (execs st X.env) (SP X pins D) X.xe s
theorem thn {α:Type} {t:Sem α} {Q Q':α->Shared->Prop} {M:Model} {A:Around} {E:Value->Shared->Prop} {s:Shared} (h:wpAny M A t Q E s) (hQ:∀ a s,Q a s->Q' a s):wpAny M A t Q' E s:=wpAny_mono h hQ fun _ _ x=>x
end L2
namespace L2
open PySem PySem.Spec PyProof.Rows
section
variable {X:Cx}
theorem bin {a b:Expr} {ta tb:TE} (ha:PE X a ta) (hb:PE X b tb) {pins:List ↥11} {s:Shared} {σ:St} {H:Hp} {R:V->V->Hp->Prop} (I:Inv X pins σ H s) (h:ta σ H fun x H1=>tb σ H1 fun y H2=>R x y H2)
  {α:Type} {Q:α->Shared->Prop} {f:Value->Value->Sem α}
  (hf:∀ v u s2 x y H2,Inv X pins σ H2 s2->RelV x v->RelV y u->R x y H2->wpAny ↥4 X.A (f v u) Q X.xe s2) :
  wpAny ↥4 X.A (eval a X.env) (fun v s₁=>wpAny ↥4 X.A (eval b X.env) (fun u s₂=>wpAny ↥4 X.A (f v u) Q X.xe s₂) X.xe s₁) X.xe s:=by
 refine thn (ha pins s σ H _ I h) fun v s1 ⟨x,H1,I1,r1,q1⟩ => ?_
 refine thn (hb pins s1 σ H1 _ I1 q1) fun u s2 ⟨y,H2,I2,r2,q2⟩ => ?_
 exact hf v u s2 x y H2 I2 r1 r2 q2
def Oa (i:Nat):TE:=fun σ H Q=>∃ v,σ[i]? = some (some v)/\Q v H
def tC (v:V):TE:=fun _ H Q=>Q v H
theorem mi {i:Nat} {x:Str} {pos:Pos} (hN:X.N[i]? = some x) (hv:Vis X.env.scope x) (hd:(x == ("__debug__":Str))=false:=by decide) (hcd:(x == ("__classdict__":Str))=false:=by decide):PE X (.Name x pos) (Oa i):=by
 intro pins s σ H Q I h
 obtain ⟨v,e,h⟩:=h
 obtain ⟨m,hn,hl⟩:=I.loc
 obtain ⟨u,r,l⟩:=hl i x v hN e hv
 have fin:EP X pins σ Q u s:=⟨v,H,I,r,h⟩
 rcases l with ⟨hk,hm⟩ | ⟨hk,c,hc,hcell⟩
 ·exact wpAny_Name (wpAny_loadName_local I.ok.kind hk hn hm fin) hd
 ·rcases hk with hk | hk
  ·exact wpAny_Name (wpAny_loadName_cell I.ok.kind hk hc hcell fin) hd
  ·exact wpAny_Name (wpAny_loadName_free I.ok.kind hk hc hcell fin hcd) hd
theorem Kq {i j pos}:PE X (.Constant (.int i) j pos) (tC (.int i)):=fun _ _ _ H _ I h=>wpAny_Constant_int ⟨.int i,H,I.tok _,⟨_,rfl⟩,h⟩
theorem Nb {b j pos}:PE X (.Constant (.bool b) j pos) (tC (.bl b)):=fun _ _ _ H _ I h=>Constant_bool ⟨.bl b,H,I,rfl,h⟩
theorem Ko {j pos}:PE X (.Constant .none j pos) (tC .non):=fun _ _ _ H _ I h=>Constant_none ⟨.non,H,I,rfl,h⟩
theorem Ew {x j pos}:PE X (.Constant (.str x) j pos) (tC (.str x)):=fun _ _ _ H _ I h=>Calls.Constant_str ⟨.str x,H,I.tok _,⟨_,rfl⟩,h⟩
def Gl (X:Cx) (x:Str):Prop:=X.env.kindOf x=some .globalImplicit
theorem mK {E:Value->Shared->Prop} {pins:List ↥11} {s:Shared} {σ:St} {H:Hp} {x:Str} {u:Value} {pos:Pos} {Q:Value->Shared->Prop} (I:Inv X pins σ H s) (hg:Gl X x) (hm:X.mg x=some u) (h:Q u s)
  (hd:(x == ("__debug__":Str))=false:=by decide):wpAny ↥4 X.A (eval (.Name x pos) X.env) Q E s :=
 Calls.Name_function_global I.ok.kind hg (Calls.loadGlobal_global (by rw [I.ok.glob];exact I.mod.glob.keeps I.bk) hm h) hd
theorem mL {E:Value->Shared->Prop} {pins:List ↥11} {s:Shared} {σ:St} {H:Hp} {x:Str} {u:Value} {pos:Pos} {Q:Value->Shared->Prop} (I:Inv X pins σ H s) (hg:Gl X x) (hm:X.mg x=none) (hv:bootBuiltins x=some u) (h:Q u s)
  (hn:x≠"__name__":=by decide) (hd:(x == ("__debug__":Str))=false:=by decide):wpAny ↥4 X.A (eval (.Name x pos) X.env) Q E s:=by
 obtain ⟨mb,h1,h2⟩:=I.mod.blt
 exact Calls.Name_function_global I.ok.kind hg (Calls.loadGlobal_builtin (by rw [I.ok.glob];exact I.mod.glob.keeps I.bk) hm (by rw [I.ok.blt];exact h1.keeps I.bk) ((h2 x hn).trans hv) h) hd
theorem ux {x:Str} {v:V} {u:Value} {pos:Pos} (hg:Gl X x) (hm:X.mg x=some u) (r:RelV v u) (hd:(x == ("__debug__":Str))=false:=by decide):PE X (.Name x pos) (tC v) :=
 fun _ _ _ H _ I h=>mK I hg hm ⟨v,H,I,r,h⟩ hd
theorem GU {x:Str} {v:V} {u:Value} {pos:Pos} (hg:Gl X x) (hm:X.mg x=none) (hv:bootBuiltins x=some u) (r:RelV v u) (hn:x≠"__name__":=by decide) (hd:(x == ("__debug__":Str))=false:=by decide):PE X (.Name x pos) (tC v) :=
 fun _ _ _ H _ I h=>mL I hg hm hv ⟨v,H,I,r,h⟩ hn hd
variable {a b:Expr} {ta tb:TE} {pos:Pos}
def tB (t:TE):TT:=fun σ H Q=>t σ H fun x H1=>∃ c,x=.bl c/\Q c H1
theorem Kc {e:Expr} {t:TE} (h:PE X e t) (he:∀ whole,isTrue e X.env whole=(do let v<-whole;standAt e.pos;holding [v] (truthy v)):=by intro _;rfl):PT X e (tB t):=by
 intro pins s σ H Q I hw
 refine isTrue_plain (thn (h pins s σ H _ I hw) fun v s1 ⟨x,H1,I1,r1,q1⟩ => ?_) (he _)
 obtain ⟨d,rfl,q⟩:=q1
 cases r1
 exact wpAny_truthy_bool ⟨H1,I1,q⟩
variable {tA tB':TT} {rest:List Expr}
def Th (t u:TT):TT:=fun σ H Q=>t σ H fun c H1=>if c=true then u σ H1 Q else Q false H1
def tOr (t u:TT):TT:=fun σ H Q=>t σ H fun c H1=>if c=true then Q true H1 else u σ H1 Q
def Ta (t:TT):TT:=fun σ H Q=>t σ H fun c H1=>Q (!c) H1
theorem GK (ha:PT X a tA):PW X (.BoolOp .And [a] pos) tA:=by
 intro wh pins s σ H Q I h
 refine isTrue_and (thn (ha pins s σ H Q I h) fun c s1 e => ?_)
 cases c with
 | true=>exact isTrue_and_nil e
 | false=>exact e
theorem J9 (ha:PT X a tA):PW X (.BoolOp .Or [a] pos) tA:=by
 intro wh pins s σ H Q I h
 refine isTrue_or (thn (ha pins s σ H Q I h) fun c s1 e => ?_)
 cases c with
 | false=>exact isTrue_or_nil e
 | true=>exact e
theorem Ka (ha:PT X a tA) (hb:PW X (.BoolOp .And (b::rest) pos) tB'):PW X (.BoolOp .And (a::b::rest) pos) (Th tA tB'):=by
 intro wh pins s σ H Q I h
 refine isTrue_and (thn (ha pins s σ H _ I h) fun c s1 ⟨H1,I1,q1⟩ => ?_)
 cases c with
 | true=>exact hb wh pins s1 σ H1 Q I1 q1
 | false=>exact ⟨H1,I1,q1⟩
theorem M3 (ha:PT X a tA) (hb:PW X (.BoolOp .Or (b::rest) pos) tB'):PW X (.BoolOp .Or (a::b::rest) pos) (tOr tA tB'):=by
 intro wh pins s σ H Q I h
 refine isTrue_or (thn (ha pins s σ H _ I h) fun c s1 ⟨H1,I1,q1⟩ => ?_)
 cases c with
 | true=>exact ⟨H1,I1,q1⟩
 | false=>exact hb wh pins s1 σ H1 Q I1 q1
theorem Kd (ha:PT X a tA):PT X (.UnaryOp .Not a pos) (Ta tA):=by
 intro pins s σ H Q I h
 exact isTrue_not (ha pins s σ H (fun c H1=>Q (!c) H1) I h)
def MS (ta tb:TE):TE:=fun σ H Q=>ta σ H fun x H1=>∃ c,x=.bl c/\if c=true then tb σ H1 Q else Q (.bl false) H1
def S9 (ta tb:TE):TE:=fun σ H Q=>ta σ H fun x H1=>∃ c,x=.bl c/\if c=true then Q (.bl true) H1 else tb σ H1 Q
theorem Kn {op} {t:TE} (h:PE X a t):PE X (.BoolOp op [a] pos) t:=fun pins s σ H Q I hw=>BoolOp_one (h pins s σ H Q I hw)
theorem Ku (ha:PE X a ta) (hb:PE X (.BoolOp .And (b::rest) pos) tb):PE X (.BoolOp .And (a::b::rest) pos) (MS ta tb):=by
 intro pins s σ H Q I h
 refine BoolOp_and (thn (ha pins s σ H _ I h) fun v s1 ⟨x,H1,I1,r1,q1⟩ => ?_)
 obtain ⟨c,rfl,q1⟩:=q1
 cases r1
 refine wpAny_truthy_bool ?_
 cases c with
 | true=>exact hb pins s1 σ H1 Q I1 q1
 | false=>exact ⟨.bl false,H1,I1,rfl,q1⟩
theorem M8 (ha:PE X a ta) (hb:PE X (.BoolOp .Or (b::rest) pos) tb):PE X (.BoolOp .Or (a::b::rest) pos) (S9 ta tb):=by
 intro pins s σ H Q I h
 refine BoolOp_or (thn (ha pins s σ H _ I h) fun v s1 ⟨x,H1,I1,r1,q1⟩ => ?_)
 obtain ⟨c,rfl,q1⟩:=q1
 cases r1
 refine wpAny_truthy_bool ?_
 cases c with
 | false=>exact hb pins s1 σ H1 Q I1 q1
 | true=>exact ⟨.bl true,H1,I1,rfl,q1⟩
def tIf (t:TT) (ta tb:TE):TE:=fun σ H Q=>t σ H fun c H1=>if c=true then ta σ H1 Q else tb σ H1 Q
theorem CC {c:Expr} (hc:PT X c tA) (ha:PE X a ta) (hb:PE X b tb):PE X (.IfExp c a b pos) (tIf tA ta tb):=by
 intro pins s σ H Q I h
 refine wpAny_IfExp (thn (hc pins s σ H _ I h) fun d s1 ⟨H1,I1,q1⟩ => ?_)
 cases d with
 | true=>exact ha pins s1 σ H1 Q I1 q1
 | false=>exact hb pins s1 σ H1 Q I1 q1
end
end L2
namespace L2
open PySem PySem.Spec PyProof.Rows
def SqL (K:PySem.W.Frag) (H:Hp) (a:Addr) (xs:List V):Prop :=
 Rd H a (.lst xs) \/
  ∃ (o:Obj) (its:Array Value) (n:Nat),K.lookup a=some o/\o.cls=.type "list"/\o.dict=none/\o.data=.seq its n/\its.size<=sizeLine/\Vals xs its.toList
def SqT (K:PySem.W.Frag) (H:Hp) (a:Addr) (xs:List V):Prop :=
 Rd H a (.tup xs) \/
  ∃ (o:Obj) (its:Array Value) (n:Nat),K.lookup a=some o/\o.cls=.type "tuple"/\o.data=.seq its n/\its.size<=sizeLine/\Vals xs its.toList
def V2:Value->Option V
 | .none=>some .non
 | .bool b=>some (.bl b)
 | .int i _=>some (.int i)
 | .str x _=>some (.str x)
 | .bytes b _=>some (.byt b)
 | .float b _=>some (.flt b)
 | .ref a=>some (.ref a)
 | .type n=>some (.ty n)
 | _=>none
theorem RelV.abs {x:V} {u:Value} (r:RelV x u):V2 u=some x:=by
 cases x with
 | non=>cases r;rfl
 | bl _=>cases r;rfl
 | int _=>obtain ⟨t,rfl⟩:=r;rfl
 | str _=>obtain ⟨t,rfl⟩:=r;rfl
 | byt _=>obtain ⟨t,rfl⟩:=r;rfl
 | flt _=>obtain ⟨t,rfl⟩:=r;rfl
 | ref _=>cases r;rfl
 | ty _=>cases r;rfl
theorem RelV.inj {x y:V} {u:Value} (r:RelV x u) (q:RelV y u):x=y:=Option.some.inj (r.abs.symm.trans q.abs)
theorem Vals.inj:∀ {xs ys:List V} {us:List Value},Vals xs us->Vals ys us->xs=ys
 | _,_,_,.nil,.nil=>rfl
 | _,_,_,.cons r t,.cons r' t'=>by rw [r.inj r',Vals.inj t t']
section
variable {X:Cx} {pins:List ↥11} {σ:St} {H:Hp} {s:Shared} {a:Addr} {xs ys:List V}
theorem SqL.of {K:PySem.W.Frag} (h:H a=some (.lst xs)):SqL K H a xs:=.inl (.inl h)
theorem SqT.of {K:PySem.W.Frag} (h:H a=some (.tup xs)):SqT K H a xs:=.inl (.inl h)
theorem Inv.list (I:Inv X pins σ H s) (h:SqL X.K H a xs):∃ its:List Value,Vals xs its/\PlainL s.heap a its.toArray/\xs.length<=sizeLine:=by
 rcases h with h | ⟨o,its,n,hk,hc,hd,hs,hz,r⟩
 ·obtain ⟨z,its,n,r,e⟩:=h.ok I.hok
  exact ⟨its,r,⟨_,n,e,rfl,rfl,rfl⟩,z⟩
 ·refine ⟨its.toList,r,⟨o,n,I.kIn a o hk,hc,hd,by simpa using hs⟩,?_⟩
  have e:=r.length
  simp only [Array.length_toList] at e
  omega
theorem Inv.tuple (I:Inv X pins σ H s) (h:SqT X.K H a xs):∃ its:List Value,Vals xs its/\IsTup s.heap a its.toArray/\xs.length<=sizeLine:=by
 rcases h with h | ⟨o,its,n,hk,hc,hs,hz,r⟩
 ·obtain ⟨z,its,r,p⟩:=h.ok I.hok
  exact ⟨its,r,p,z⟩
 ·refine ⟨its.toList,r,⟨o,I.kIn a o hk,hc,n,by simpa using hs⟩,?_⟩
  have e:=r.length
  simp only [Array.length_toList] at e
  omega
theorem Inv.list_inj (I:Inv X pins σ H s) (h:SqL X.K H a xs) (h':SqL X.K H a ys):xs=ys:=by
 obtain ⟨its,r,⟨o,n,e,_,_,d⟩,_⟩:=I.list h
 obtain ⟨its',r',⟨o',n',e',_,_,d'⟩,_⟩:=I.list h'
 rw [e] at e';cases e'
 rw [d] at d'
 injection d' with d1 _
 have:its=its':=by simpa using congrArg Array.toList d1
 subst this
 exact r.inj r'
theorem Inv.tuple_inj (I:Inv X pins σ H s) (h:SqT X.K H a xs) (h':SqT X.K H a ys):xs=ys:=by
 obtain ⟨its,r,⟨o,e,_,n,d⟩,_⟩:=I.tuple h
 obtain ⟨its',r',⟨o',e',_,n',d'⟩,_⟩:=I.tuple h'
 rw [e] at e';cases e'
 rw [d] at d'
 injection d' with d1 _
 have:its=its':=by simpa using congrArg Array.toList d1
 subst this
 exact r.inj r'
end
abbrev Cx.wish (X:Cx) (E:Value->Shared->Prop):Cx:={ X with xe:=E }
abbrev Cx.nox (X:Cx):Cx:=X.wish fun _ _=>False
theorem Cx.Ok.wish {X:Cx} (ok:X.Ok) (E:Value->Shared->Prop):(X.wish E).Ok :=
 ⟨ok.mod,ok.kind,ok.glob,ok.blt,ok.above,ok.inj,ok.has,ok.cab,ok.hd,ok.frames,ok.stk,ok.exf,ok.bs,ok.bsz,ok.noex,ok.exfs,ok.funs,ok.frf⟩
theorem Cx.Ok.unwish {X:Cx} {E:Value->Shared->Prop} (ok:(X.wish E).Ok):X.Ok :=
 ⟨ok.mod,ok.kind,ok.glob,ok.blt,ok.above,ok.inj,ok.has,ok.cab,ok.hd,ok.frames,ok.stk,ok.exf,ok.bs,ok.bsz,ok.noex,ok.exfs,ok.funs,ok.frf⟩
section
variable {X:Cx} {pins:List ↥11} {σ:St} {H:Hp} {s:Shared} {E:Value->Shared->Prop}
theorem Inv.wish (I:Inv X pins σ H s) (E:Value->Shared->Prop):Inv (X.wish E) pins σ H s:=⟨I.ok.wish E,I.os,I.bare,I.base,I.loc,I.cell,I.free,I.freeC,I.pin,I.hok,I.len⟩
theorem Inv.unwish (I:Inv (X.wish E) pins σ H s):Inv X pins σ H s:=⟨I.ok.unwish,I.os,I.bare,I.base,I.loc,I.cell,I.free,I.freeC,I.pin,I.hok,I.len⟩
theorem SP.unwish {D:Ends} {f:Flow} {s':Shared} (h:SP (X.wish E) pins D f s'):SP X pins D f s':=by
 cases f with
 | next=>obtain ⟨σ',H',I,q⟩:=h;exact ⟨σ',H',I.unwish,q⟩
 | brk=>obtain ⟨σ',H',I,q⟩:=h;exact ⟨σ',H',I.unwish,q⟩
 | cont=>obtain ⟨σ',H',I,q⟩:=h;exact ⟨σ',H',I.unwish,q⟩
 | ret u=>obtain ⟨v,σ',H',I,r,q⟩:=h;exact ⟨v,σ',H',I.unwish,r,q⟩
theorem PSs.nox {st:List Stmt} {t:TS} (h:PSs X.nox st t):PSs X st t:=fun pins s σ H D I hw =>
 wpAny_mono (h pins s σ H D (I.wish _) hw) (fun _ _ q=>q.unwish) fun _ _ z=>False.elim z
end
section
variable {X:Cx} {st:Stmt} {rest:List Stmt} {t u:TS} {e:Expr} {te:TE} {pos:Pos}
def MO:TS:=fun D σ H=>D.nx σ H
def S5 (t u:TS):TS:=fun D σ H=>t { D with nx:=u D } σ H
theorem GL:PSs X [] MO:=fun _ _ σ H _ I h=>wpAny_execs_nil ⟨σ,H,I,h⟩
theorem Cw (h1:PS X st t) (h2:PSs X rest u):PSs X (st::rest) (S5 t u):=by
 intro pins s σ H D I h
 refine wpAny_execs_cons (thn (h1 pins s σ H { D with nx:=u D } I h) fun f s1 q => ?_)
 cases f with
 | next =>
  obtain ⟨σ',H',I',q⟩:=q
  exact h2 pins s1 σ' H' D I' q
 | ret v=>exact q
 | brk=>exact q
 | cont=>exact q
theorem yZ (h1:PS X st t):PSs X [st] t:=by
 intro pins s σ H D I h
 refine wpAny_execs_cons (thn (h1 pins s σ H D I h) fun f s1 q => ?_)
 cases f with
 | next=>exact wpAny_execs_nil q
 | ret v=>exact q
 | brk=>exact q
 | cont=>exact q
theorem Inv.quiet {pins:List ↥11} {σ:St} {H:Hp} {s:Shared} (I:Inv X pins σ H s):interactive X.env=false:=by simp [interactive,I.ok.kind]
def MQ (te:TE):TS:=fun D σ H=>te σ H fun _ H1=>D.nx σ H1
theorem uq (he:PE X e te) (hs:swapsWith e none pos.line X.env=pure false:=by rfl):PS X (.Expr e pos) (MQ te):=by
 intro pins s σ H D I h
 exact wpAny_Expr_any (thn (he pins s σ H _ I h) fun v s1 ⟨x,H1,I1,r1,q1⟩=>⟨σ,H1,I1,q1⟩) I.quiet hs
def S6 (te:TE):TS:=fun D σ H=>te σ H D.rt
theorem Et (he:PE X e te):PS X (.Return (some e) pos) (S6 te):=by
 intro pins s σ H D I h
 exact wpAny_Return_some (thn (he pins s σ H _ I h) fun v s1 ⟨x,H1,I1,r1,q1⟩=>⟨x,σ,H1,I1,r1,q1⟩)
def Td (c:TT) (t u:TS):TS:=fun D σ H=>c σ H fun b H1=>if b=true then t D σ H1 else u D σ H1
theorem Ke {c:Expr} {a b:List Stmt} {tc:TT} (hc:PT X c tc) (ha:PSs X a t) (hb:PSs X b u):PS X (.If c a b pos) (Td tc t u):=by
 intro pins s σ H D I h
 refine wpAny_If (thn (hc pins s σ H _ I h) fun d s1 ⟨H1,I1,q1⟩ => ?_)
 cases d with
 | true=>exact ha pins s1 σ H1 D I1 q1
 | false=>exact hb pins s1 σ H1 D I1 q1
end
abbrev TG:=V->St->Hp->(St->Hp->Prop)->Prop
abbrev TGs:=List V->St->Hp->(St->Hp->Prop)->Prop
def PG (X:Cx) (target:Expr) (t:TG):Prop :=
 ∀ (pins:List ↥11) (s:Shared) (σ:St) (H:Hp) (v:V) (u:Value) (Q:St->Hp->Prop),Inv X pins σ H s->RelV v u->t v σ H Q ->
  wpAny ↥4 X.A (assign target X.env u) (fun _ s'=>∃ σ' H',Inv X pins σ' H' s'/\Q σ' H') X.xe s
abbrev N8:=V->V->V->Hp->(Hp->Prop)->Prop
def SD (X:Cx) (t:N8):Prop :=
 ∀ (pins:List ↥11) (s:Shared) (σ:St) (H:Hp) (o i v:V) (ov iv u:Value) (Q:Hp->Prop),Inv X pins σ H s->RelV o ov->RelV i iv->RelV v u->t o i v H Q ->
  wpAny ↥4 X.A (setItem ov iv u) (fun _ s'=>∃ H',Inv X pins σ H' s'/\Q H') X.xe s
section
variable {X:Cx} {pos:Pos}
def uS (i:Nat):TG:=fun v σ H Q=>Q (σ.set i (some v)) H
theorem uw {i:Nat} {x:Str} (hN:X.N.Nodup) (hi:X.N[i]? = some x) (hx:Loc X.env.scope x) (hf:X.fn x=true\/X.env.scope.names.lookup x=some .local:=by first | exact .inl rfl | exact .inr rfl | assumption):PG X (.Name x pos) (uS i):=by
 intro pins s σ H v u Q I r h
 exact wpAny_assign_Name (lD I hN hi hx r (fun s' I'=>⟨_,H,I',h⟩) hf)
def VO:TGs:=fun vs σ H Q=>vs=[]/\Q σ H
def NI (t:TG) (u:TGs):TGs:=fun vs σ H Q=>∃ v r,vs=v::r/\t v σ H fun σ' H'=>u r σ' H' Q
def VN (to ti:TE) (t:N8):TG:=fun v σ H Q=>to σ H fun o H1=>ti σ H1 fun i H2=>t o i v H2 fun H3=>Q σ H3
theorem Kl {o i:Expr} {to ti:TE} {t:N8} (ho:PE X o to) (hi:PE X i ti) (hs:SD X t)
  (ha:∀ v,assign (.Subscript o i pos) X.env v=(do
   let ov<-holding [v] (eval o X.env)
   let iv<-holding [v,ov] (eval i X.env)
   standAt pos
   holding [v,ov,iv] (setItem ov iv v)
   release [v,ov,iv] []):=by intro _;rfl):PG X (.Subscript o i pos) (VN to ti t):=by
 intro pins s σ H v u Q I r h
 rw [ha]
 refine wpAny_bind (wpAny_holding (thn (ho pins s σ H _ I h) fun ov s1 ⟨x,H1,I1,r1,q1⟩ => ?_))
 refine wpAny_bind (wpAny_holding (thn (hi pins s1 σ H1 _ I1 q1) fun iv s2 ⟨y,H2,I2,r2,q2⟩ => ?_))
 refine wpAny_bind (wpAny_standAt (wpAny_bind (wpAny_holding (thn (hs pins s2 σ H2 x y v ov iv u _ I2 r1 r2 r q2) fun _ s3 ⟨H3,I3,q3⟩ => ?_))))
 exact wpAny_release ⟨σ,H3,I3,q3⟩
def Ob (te:TE) (g:TG):TS:=fun D σ H=>te σ H fun x H1=>g x σ H1 D.nx
theorem Kh {tg e:Expr} {te:TE} {g:TG} (he:PE X e te) (hg:PG X tg g) (hs:swapsWithSole [tg] e pos.line X.env=pure false:=by rfl) (hw:swappedStores [tg] e X.env=pure none:=by rfl)
  (h1:(assignEach [tg] X.env).map (·.2)=[assign tg X.env]:=by rfl):PS X (.Assign [tg] e pos) (Ob te g):=by
 intro pins s σ H D I h
 refine wpAny_Assign_stores (thn (he pins s σ H _ I h) fun v s1 ⟨x,H1,I1,r1,q1⟩ => ?_) hs hw
 rw [h1]
 exact thn (hg pins s1 σ H1 x v _ I1 r1 q1) fun _ s2 q=>q
theorem za {i:Nat} {x:Str} {e:Expr} {te:TE} {pos':Pos} (hN:X.N.Nodup) (hi:X.N[i]? = some x) (hx:Loc X.env.scope x) (he:PE X e te) (hs:swapsWith e (some (.Name x pos')) pos.line X.env=pure false:=by rfl) (hf:X.fn x=true\/X.env.scope.names.lookup x=some .local:=by first | exact .inl rfl | exact .inr rfl | assumption) :
  PS X (.Assign [.Name x pos'] e pos) (Ob te (uS i)):=by
 intro pins s σ H D I h
 refine wpAny_Assign_Name (thn (he pins s σ H _ I h) fun v s1 ⟨y,H1,I1,r1,q1⟩ => ?_) hs
 exact lD I1 hN hi hx r1 (fun s2 I2=>⟨_,H1,I2,q1⟩) hf
end
section
variable {X:Cx} {pos:Pos}
def El (c:TT) (tb:TS):TS:=fun D σ H=>∃ W:Nat->St->Hp->Prop,(∃ m,W m σ H)/\∀ m σ H,W m σ H ->
 c σ H fun b H1=>if b=true then ∃ N:St->Hp->Prop,(∀ σ' H',N σ' H'->∃ m',m'<m/\W m' σ' H')/\tb { D with nx:=N,ct:=N,bk:=D.nx } σ H1 else D.nx σ H1
theorem Cy {c:Expr} {body:List Stmt} {tc:TT} {tb:TS} (hp:PassesOwn ↥4 X.A X.env X.xe) (hc:PT X c tc) (hb:PSs X body tb):PS X (.While c body [] pos) (El tc tb):=by
 intro pins s σ H D I h
 obtain ⟨W,⟨m0,w0⟩,turn⟩:=h
 refine wpAny_While (codeAny_whileLoop (fun n s'=>∃ σ' H',Inv X pins σ' H' s'/\W n σ' H') ?_ m0 ⟨σ,H,I,w0⟩)
 rintro n s1 ⟨σ1,H1,I1,w1⟩
 refine wpAny_passesOwn hp (thn (hc pins s1 σ1 H1 _ I1 (turn n σ1 H1 w1)) fun b s2 ⟨H2,I2,q2⟩ => ?_)
 cases b with
 | true =>
  obtain ⟨N,hN,q2⟩:=q2
  rw [if_pos rfl]
  refine wpAny_passesOwn hp (thn (hb pins s2 σ1 H2 _ I2 q2) fun f s3 q3 => ?_)
  cases f with
  | next =>
   obtain ⟨σ3,H3,I3,n3⟩:=q3
   obtain ⟨m',hm,w3⟩:=hN σ3 H3 n3
   exact ⟨m',hm,σ3,H3,I3,w3⟩
  | cont =>
   obtain ⟨σ3,H3,I3,n3⟩:=q3
   obtain ⟨m',hm,w3⟩:=hN σ3 H3 n3
   exact ⟨m',hm,σ3,H3,I3,w3⟩
  | brk=>exact q3
  | ret v=>exact q3
 | false =>
  rw [if_neg Bool.false_ne_true]
  exact wpAny_execs_nil ⟨σ1,H2,I2,q2⟩
end
structure It where
 go:Nat->Hp->Prop
 yld:Nat->Hp->V->Hp->Prop
 stop:Nat->Hp->Prop
def yh (X:Cx) (pins:List ↥11) (H:Hp) (b:Addr):Prop :=
 H b=none/\b≠X.env.locals/\b∉X.fs/\(b∈X.ex\/X.s₀.heap.objs.size<=b)/\(∀ x c,X.env.cells.lookup x=some c->c≠b)/\∀ p∈X.pn++pins,p.1≠b
theorem Inv.fpOk {X:Cx} {pins:List ↥11} {σ:St} {H H':Hp} {s:Shared} {b:Addr} (I:Inv X pins σ H s) (hb:s.heap.objs.size<=b) (hn:H' b=none):yh X pins H' b:=by
 refine ⟨hn,Nat.ne_of_gt (Nat.lt_of_lt_of_le I.lt hb),I.nofs hb,.inr (Nat.le_trans I.sz hb),fun x c e z => ?_,fun p hp z => ?_⟩
 ·obtain ⟨v,q⟩:=I.cell x c e
  exact absurd (Nat.lt_of_lt_of_le q.lt (by rw [z];exact hb)) (Nat.lt_irrefl _)
 ·exact absurd (Nat.lt_of_lt_of_le (Heap.lt_size (I.pin p hp).1) (by rw [z];exact hb)) (Nat.lt_irrefl _)
structure Turn (P:Program) (w:World) (K:PySem.W.Frag) (tg:Expr) (J:It) (fp:List Addr) (it:Addr) (tn:Nat->Heap->Prop):Prop where
 mem:it∈fp
 obj:∀ i h,tn i h->∀ b∈fp,∃ o,h.get? b=some o/\∀ v,o.data ≠ .cell v
 keep:∀ i h h',tn i h->(∀ b∈fp,∀ o,h.get? b=some o->h'.get? b=some o)->tn i h'
 item:∀ (X:Cx),X.prog=P->X.w=w->X.K=K->X.calm=true->∀ (i:Nat) (pins:List ↥11) (s:Shared) (σ:St) (H:Hp) (E:Value->Shared->Prop),Inv X pins σ H s->(∀ b∈fp,yh X pins H b)->tn i s.heap->J.go i H ->
  wpAny (model P w) X.A (pyNext (.ref it)) (fun r s1=>∃ u,r=some u /\
   wpAny (model P w) X.A (letOwnedTupleGo tg (.ref it) u) (fun _ s2=>∃ x H',Inv X pins σ H' s2/\RelV x u/\J.yld i H x H'/\tn (i+1) s2.heap/\∀ b∈fp,H' b=none) E s1) E s
 done:∀ (X:Cx),X.prog=P->X.w=w->X.K=K->X.calm=true->∀ (i:Nat) (pins:List ↥11) (s:Shared) (σ:St) (H:Hp) (E:Value->Shared->Prop),Inv X pins σ H s->(∀ b∈fp,yh X pins H b)->tn i s.heap->J.stop i H ->
  wpAny (model P w) X.A (pyNext (.ref it)) (fun r s1=>r=none/\Inv X pins σ H s1) E s
 self:∀ (A:Around) (i:Nat) (s:Shared) (Q:Value->Shared->Prop) (E:Value->Shared->Prop),tn i s.heap->Q (.ref it) s->wpAny (model P w) A (pyIter (.ref it)) Q E s
abbrev TI:=St->Hp->(It->Hp->Prop)->Prop
def PIE (X:Cx) (pins:List ↥11) (σ:St) (tg:Expr) (R:It->Hp->Prop) (itv:Value) (s2:Shared):Prop :=
 ∃ (it:Addr) (fp:List Addr) (tn:Nat->Heap->Prop) (J:It) (H':Hp),itv=.ref it/\Inv X pins σ H' s2/\Turn X.prog X.w X.K tg J fp it tn/\tn 0 s2.heap/\(∀ b∈fp,yh X pins H' b)/\R J H'
def PI (X:Cx) (tg iter:Expr) (wi:TI):Prop :=
 ∀ (pins:List ↥11) (s:Shared) (σ:St) (H:Hp) (R:It->Hp->Prop),Inv X pins σ H s->wi σ H R ->
  wpAny ↥4 X.A (eval iter X.env) (fun v s1=>wpAny ↥4 X.A (pyIter v) (PIE X pins σ tg R) X.xe s1) X.xe s
theorem HI {M:Model} {A:Around} {E:Value->Shared->Prop} {s:Shared} {tg:Expr} {it:Addr} {u:Value} {o:Obj} {n:String} {vs:Array Value} {Q:Unit->Shared->Prop} (ho:s.heap.get? it=some o) (hc:o.cls=.type n) (hd:o.data=.fields vs)
  (hn:["enumerate","zip","dict_itemiterator","dict_reverseitemiterator","odict_iterator","itertools.zip_longest","itertools.pairwise"].contains n=false) (hQ:Q () s):wpAny M A (letOwnedTupleGo tg (.ref it) u) Q E s:=by
 unfold letOwnedTupleGo
 cases tg<;>first
  | exact wpAny_pure hQ
  | (cases u<;>first
    | exact wpAny_pure hQ
    | (refine wpAny_bind (wpAny_load ho ?_)
       rw [hc,hd]
       show wpAny M A (if (["enumerate","zip","dict_itemiterator","dict_reverseitemiterator","odict_iterator","itertools.zip_longest","itertools.pairwise"].contains n&&vs[0]? == some (rawInt _))=true then _ else _) Q E s
       rw [if_neg (by intro h;rw [hn,Bool.false_and] at h;cases h)]
       exact wpAny_pure hQ))
def Itl (K:PySem.W.Frag) (a:Addr):It :=
 ⟨fun i H=>∃ xs x,SqL K H a xs/\xs[i]? = some x,fun i H x H'=>H'=H/\∀ xs,SqL K H a xs->xs[i]? = some x,fun i H=>∃ xs,SqL K H a xs/\xs.length<=i⟩
def Itt (K:PySem.W.Frag) (a:Addr):It :=
 ⟨fun i H=>∃ xs x,SqT K H a xs/\xs[i]? = some x,fun i H x H'=>H'=H/\∀ xs,SqT K H a xs->xs[i]? = some x,fun i H=>∃ xs,SqT K H a xs/\xs.length<=i⟩
def Itr (lo:Int) (n:Nat):It:=⟨fun i _=>i<n,fun i H x H'=>H'=H/\x=.int (lo+i),fun i _=>n<=i⟩
theorem yD {P:Program} {w:World} {K:PySem.W.Frag} {tg:Expr} (a it:Addr):Turn P w K tg (Itl K a) [it] it (fun i h=>h.IsListIter it a i) where
 mem:=by simp
 obj:=fun i h st b hb=>by
  have e:b=it:=by simpa using hb
  subst e
  obtain ⟨o,e,c,d⟩:=st
  exact ⟨o,e,fun v z=>by rw [d] at z;cases z⟩
 keep:=fun i h h' st k=>st.at fun o e=>k it (by simp) o e
 item:=by
  intro X hP hw hK hc i pins s σ H E I hf st hg
  subst hP hw hK
  obtain ⟨xs,x,hq,hx⟩:=hg
  obtain ⟨its,rv,p,hz⟩:=I.list hq
  obtain ⟨u,hu,ru⟩:=rv.get hx
  obtain ⟨f0,f1,f2,f3,f4,f5⟩:=hf it (by simp)
  refine wpAny_pyNext_list_item st p.isList (x:=u) (by simpa using hu) fun h' st' sb => ?_
  have I1:Inv X pins σ H { s with heap:=h' }:=I.turned (t':=s.toks) (fun b o hb e=>(sb.2 b hb).trans e) f0 f1 f3 f4 f5
  obtain ⟨o,e,c,d⟩:=id st'
  exact ⟨u,rfl,HI (s:={ s with heap:=h' }) e c d ↥0 ⟨x,H,I1,ru,⟨rfl,fun ys hy=>by rw [I.list_inj hy hq];exact hx⟩,st',fun b hb=>(hf b hb).1⟩⟩
 done:=by
  intro X hP hw hK hc i pins s σ H E I hf st hg
  subst hP hw hK
  obtain ⟨xs,hq,hx⟩:=hg
  obtain ⟨its,rv,p,hz⟩:=I.list hq
  obtain ⟨f0,f1,f2,f3,f4,f5⟩:=hf it (by simp)
  have hl:=rv.length
  exact wpAny_pyNext_list_end (I.ok.hd hc) st p.isList (by simp;omega) fun h' eb=>⟨rfl,I.turned (t':=s.toks) (fun b o hb e=>eb b o hb e) f0 f1 f3 f4 f5⟩
 self:=fun _ _ _ _ _ st h=>wpAny_pyIter_listiter st h
theorem wR {P:Program} {w:World} {K:PySem.W.Frag} {tg:Expr} (a it:Addr):Turn P w K tg (Itt K a) [it] it (fun i h=>h.IsTupleIter it a i) where
 mem:=by simp
 obj:=fun i h st b hb=>by
  have e:b=it:=by simpa using hb
  subst e
  obtain ⟨o,e,c,d⟩:=st
  exact ⟨o,e,fun v z=>by rw [d] at z;cases z⟩
 keep:=fun i h h' st k=>st.at fun o e=>k it (by simp) o e
 item:=by
  intro X hP hw hK hc i pins s σ H E I hf st hg
  subst hP hw hK
  obtain ⟨xs,x,hq,hx⟩:=hg
  obtain ⟨its,rv,p,hz⟩:=I.tuple hq
  obtain ⟨u,hu,ru⟩:=rv.get hx
  obtain ⟨f0,f1,f2,f3,f4,f5⟩:=hf it (by simp)
  refine wpAny_pyNext_tuple_item st (show s.heap.IsTuple a its.toArray from p) (x:=u) (by simpa using hu) fun h' st' sb => ?_
  have I1:Inv X pins σ H { s with heap:=h' }:=I.turned (t':=s.toks) (fun b o hb e=>(sb.2 b hb).trans e) f0 f1 f3 f4 f5
  obtain ⟨o,e,c,d⟩:=id st'
  exact ⟨u,rfl,HI (s:={ s with heap:=h' }) e c d ↥0 ⟨x,H,I1,ru,⟨rfl,fun ys hy=>by rw [I.tuple_inj hy hq];exact hx⟩,st',fun b hb=>(hf b hb).1⟩⟩
 done:=by
  intro X hP hw hK hc i pins s σ H E I hf st hg
  subst hP hw hK
  obtain ⟨xs,hq,hx⟩:=hg
  obtain ⟨its,rv,p,hz⟩:=I.tuple hq
  obtain ⟨f0,f1,f2,f3,f4,f5⟩:=hf it (by simp)
  have hl:=rv.length
  exact wpAny_pyNext_tuple_end (I.ok.hd hc) st (show s.heap.IsTuple a its.toArray from p) (by simp;omega) fun h' eb=>⟨rfl,I.turned (t':=s.toks) (fun b o hb e=>eb b o hb e) f0 f1 f3 f4 f5⟩
 self:=fun _ _ _ _ _ st h=>wpAny_pyIter_tupleiter st h
theorem wU {P:Program} {w:World} {K:PySem.W.Frag} {tg:Expr} (it:Addr) (lo:Int) (n:Nat):Turn P w K tg (Itr lo n) [it] it (fun i h=>IsRangeIter h it (lo+(i:Nat)*1) ((n:Int) - (i:Nat)) 1) where
 mem:=by simp
 obj:=fun i h st b hb=>by
  have e:b=it:=by simpa using hb
  subst e
  exact ⟨_,st,fun v z=>by
   have z':Data.fields _=Data.cell v:=z
   cases z'⟩
 keep:=fun i h h' st k=>k it (by simp) _ st
 item:=by
  intro X hP hw hK hc i pins s σ H E I hf st hg
  subst hP hw hK
  obtain ⟨f0,f1,f2,f3,f4,f5⟩:=hf it (by simp)
  have W:=Walks.range (prog:=X.prog) (w:=X.w) (I.ok.hd hc) it lo 1 n
  refine W.item i s _ _ hg st fun v h' tk hv st' kk => ?_
  obtain ⟨t,rfl⟩:=hv
  have I1:Inv X pins σ H { s with heap:=h',toks:=tk }:=I.turned (fun b o hb e=>kk b o (by simpa using hb) e) f0 f1 f3 f4 f5
  refine ⟨_,rfl,HI (s:={ s with heap:=h',toks:=tk }) (n:="range_iterator") st' rfl rfl ↥0 ⟨.int (lo+i),H,I1,⟨t,?_⟩,⟨rfl,rfl⟩,st',fun b hb=>(hf b hb).1⟩⟩
  rw [Int.mul_one]
 done:=by
  intro X hP hw hK hc i pins s σ H E I hf st hg
  subst hP hw hK
  obtain ⟨f0,f1,f2,f3,f4,f5⟩:=hf it (by simp)
  exact wpAny_pyNext_range_end (I.ok.hd hc) st (by have:n<=i:=hg;omega) fun h' eb=>⟨rfl,I.turned (t':=s.toks) (fun b o hb e=>eb b o hb e) f0 f1 f3 f4 f5⟩
 self:=fun _ _ _ _ _ st h=>wpAny_pyIter_rangeiter st h
end L2
namespace L2
open PySem PySem.Spec PyProof.Rows
section
variable {X:Cx} {tg:Expr}
def NH (K:PySem.W.Frag) (tl:TE):TI:=fun σ H R=>tl σ H fun x H1=>∃ a,x=.ref a/\(∃ xs,SqL K H1 a xs)/\R (Itl K a) H1
def VM (K:PySem.W.Frag) (tl:TE):TI:=fun σ H R=>tl σ H fun x H1=>∃ a,x=.ref a/\(∃ xs,SqT K H1 a xs)/\R (Itt K a) H1
theorem GQ {l:Expr} {tl:TE} (hl:PE X l tl):PI X tg l (NH X.K tl):=by
 intro pins s σ H R I h
 refine thn (hl pins s σ H _ I h) fun v s1 ⟨x,H1,I1,r1,q1⟩ => ?_
 obtain ⟨a,e,⟨xs,hq⟩,q⟩:=q1
 subst e
 cases r1
 obtain ⟨its,rv,p,hz⟩:=I1.list hq
 refine wpAny_pyIter_list p.isList ?_
 refine ⟨s1.heap.objs.size,[s1.heap.objs.size],_,_,H1,rfl,I1.kept (t':=s1.toks) fun b o e=>Heap.get?_push_of_some _ e,yD a _,⟨_,Heap.get?_push_size _ rfl,rfl,rfl⟩,fun b hb => ?_,q⟩
 have e:b=s1.heap.objs.size:=by simpa using hb
 subst e
 exact I1.fpOk ↥28 (I1.hok.fresh ↥28)
theorem Kk {l:Expr} {tl:TE} (hl:PE X l tl):PI X tg l (VM X.K tl):=by
 intro pins s σ H R I h
 refine thn (hl pins s σ H _ I h) fun v s1 ⟨x,H1,I1,r1,q1⟩ => ?_
 obtain ⟨a,e,⟨xs,hq⟩,q⟩:=q1
 subst e
 cases r1
 obtain ⟨its,rv,p,hz⟩:=I1.tuple hq
 refine wpAny_pyIter_tuple (show s1.heap.IsTuple a its.toArray from p) ?_
 refine ⟨s1.heap.objs.size,[s1.heap.objs.size],_,_,H1,rfl,I1.kept (t':=s1.toks) fun b o e=>Heap.get?_push_of_some _ e,wR a _,⟨_,Heap.get?_push_size _ rfl,rfl,rfl⟩,fun b hb => ?_,q⟩
 have e:b=s1.heap.objs.size:=by simpa using hb
 subst e
 exact I1.fpOk ↥28 (I1.hok.fresh ↥28)
theorem Cu {pins:List ↥11} {σ:St} {H:Hp} {s:Shared} {R:It->Hp->Prop} {E:Value->Shared->Prop} {lo hi:Int} {t u v:Tok} {tk:Nat} (I:Inv X pins σ H s) (h1 : -(2^62)<=lo) (h2:lo<2^62) (h3 : -(2^62)<=hi) (h4:hi<2^62)
  (q:R (Itr lo (hi - lo).toNat) H):wpAny ↥4 X.A (pyIter (.ref s.heap.objs.size)) (PIE X pins σ tg R) E { s with heap:=s.heap.push { cls:=.type "range",data:=.fields #[.int lo t,.int hi u,.int 1 v] },toks:=tk }:=by
 refine wpAny_pyIter_range (IsRange.new ..) (small_one h1 h2 h3 h4) ?_
 have I1:Inv X pins σ H { s with heap:=s.heap.push { cls:=.type "range",data:=.fields #[.int lo t,.int hi u,.int 1 v] },toks:=tk }:=I.kept fun b o e=>Heap.get?_push_of_some _ e
 refine ⟨(s.heap.push { cls:=.type "range",data:=.fields #[.int lo t,.int hi u,.int 1 v] }).objs.size,[(s.heap.push { cls:=.type "range",data:=.fields #[.int lo t,.int hi u,.int 1 v] }).objs.size],_,_,H,rfl,
  I1.kept (t':=tk) fun b o e=>Heap.get?_push_of_some _ e,wU _ lo (hi - lo).toNat,?_,fun b hb => ?_,q⟩
 ·have e1:lo+((0:Nat):Int)*1=lo:=by simp
  have e2:(((hi - lo).toNat:Nat):Int) - ((0:Nat):Int)=Builtin.Range.rangeSize lo hi 1:=by rw [rangeSize_one];split<;>omega
  show IsRangeIter _ _ (lo+((0:Nat):Int)*1) ((((hi - lo).toNat:Nat):Int) - ((0:Nat):Int)) 1
  rw [e1,e2]
  exact Heap.get?_push_size _ rfl
 ·have e:b=(s.heap.push { cls:=.type "range",data:=.fields #[.int lo t,.int hi u,.int 1 v] }).objs.size:=by simpa using hb
  subst e
  exact I1.fpOk ↥28 (I1.hok.fresh ↥28)
def NG (ta:TA):TI:=fun σ H R=>ta σ H fun vs H1=>∃ j:Int,vs=[.int j] /\ -(2^62)<=j/\j<2^62/\R (Itr 0 j.toNat) H1
theorem zd {a:Expr} {ta:TA} {p pos:Pos} (hg:Gl X "range") (hm:X.mg "range"=none) (ha:PA X [a] ta) (hs:starEach [a] X.env=[(false,eval a X.env)]:=by rfl):PI X tg (.Call (.Name "range" p) [a] [] pos) (NG ta):=by
 intro pins s σ H R I h
 refine Call_ (mL I hg hm boot_range (PyProof.Rows.callWith_type1 (thn (ha pos pins s σ H _ I h) fun us s1 ⟨vs,H1,I1,r1,q1⟩ => ?_) hs rfl))
 obtain ⟨j,e,q1,q2,q⟩:=q1
 subst e
 cases r1 with
 | cons r rr =>
  cases rr
  obtain ⟨t,rfl⟩:=r
  exact call_range_1 (Cu I1 ⋯ ⋯ q1 q2 (by simpa using q))
def Te (wi:TI) (g:TG) (tb:TS):TS:=fun D σ H=>wi σ H fun J H1=>∃ W:Nat->Nat->St->Hp->Prop,(∃ m,W 0 m σ H1)/\∀ i m σ H,W i m σ H ->
 (J.stop i H/\D.nx σ H)\/(J.go i H/\∃ N:St->Hp->Prop,(∀ σ' H',N σ' H'->∃ m',m'<m/\W (i+1) m' σ' H')/\∀ x H',J.yld i H x H'->g x σ H' fun σ2 H2=>tb { D with nx:=N,ct:=N,bk:=D.nx } σ2 H2)
def oO (fp:List Addr) (h:Heap):List ↥11:=fp.filterMap fun b=>(h.get? b).map fun o=>(b,o)
theorem dW {fp:List Addr} {h:Heap} {b:Addr} {o:Obj} (hb:b∈fp) (e:h.get? b=some o):(b,o)∈oO fp h:=List.mem_filterMap.mpr ⟨b,hb,by rw [e];rfl⟩
theorem rZ {fp:List Addr} {h:Heap} {p:Addr×Obj} (hp:p∈oO fp h):p.1∈fp/\h.get? p.1=some p.2:=by
 obtain ⟨b,hb,e⟩:=List.mem_filterMap.mp hp
 cases q:h.get? b with
 | none=>rw [q] at e;cases e
 | some o =>
  rw [q] at e
  have e':(b,o)=p:=Option.some.inj e
  subst e'
  exact ⟨hb,q⟩
theorem Inv.pinned {pins:List ↥11} {σ:St} {H:Hp} {s:Shared} {fp:List Addr} (I:Inv X pins σ H s) (hf:∀ b∈fp,yh X pins H b) (ho:∀ b∈fp,∃ o,s.heap.get? b=some o/\∀ v,o.data ≠ .cell v):Inv X (pins++oO fp s.heap) σ H s :=
 I.pins_of fun p hp=>(List.mem_append.mp hp).elim (fun z=>I.pin p (List.mem_append_right _ z)) fun z=>by
  obtain ⟨hb,e⟩:=rZ z
  obtain ⟨f0,f1,f2,_⟩:=hf p.1 hb
  obtain ⟨o,e',d⟩:=ho p.1 hb
  rw [e] at e';cases e'
  exact ⟨e,f0,f1,f2,d⟩
theorem Inv.unpinned {pins pl:List ↥11} {σ:St} {H:Hp} {s:Shared} (I:Inv X (pins++pl) σ H s):Inv X pins σ H s:=I.pins_of fun p hp=>I.pin p (List.mem_append_right _ (List.mem_append_left _ hp))
theorem Kf {iter:Expr} {body:List Stmt} {wi:TI} {g:TG} {tb:TS} {pos:Pos} (hp:PassesOwn ↥4 X.A X.env X.xe) (hc:X.calm=true) (hi:PI X tg iter wi) (hg:PG X tg g) (hb:PSs X body tb)
  (hs:∀ x,foldedSetIterable iter X.env x=pure x:=by intro _;rfl):PS X (.For tg iter body [] pos) (Te wi g tb):=by
 intro pins s σ H D I h
 refine wpAny_For (thn (hi pins s σ H _ I h) fun v s1 h1=>thn h1 fun itv s2 h2 => ?_) hs
 obtain ⟨it,fp,tn,J,H2,e,I2,T,st2,f2,W,⟨m0,w0⟩,turn⟩:=h2
 subst e
 have stat:∀ {H':Hp},(∀ b∈fp,H' b=none)->∀ b∈fp,yh X pins H' b:=fun hn b hb=>⟨hn b hb,(f2 b hb).2⟩
 refine codeAny_forLoop_any (fun n s'=>∃ i σ' H',Inv X pins σ' H' s'/\tn i s'.heap/\(∀ b∈fp,H' b=none)/\W i n σ' H') ?_ m0 ⟨0,σ,H2,I2,st2,fun b hb=>(f2 b hb).1,w0⟩
 rintro n s3 ⟨i,σ3,H3,I3,st3,fr3,w3⟩
 rcases turn i n σ3 H3 w3 with ⟨stop,qn⟩ | ⟨go,N,hN,step⟩
 ·refine wpAny_passesOwn hp (thn (T.done X rfl rfl rfl hc i pins s3 σ3 H3 X.xe I3 (stat fr3) st3 stop) fun r s4 ⟨hr,I4⟩ => ?_)
  subst hr
  exact wpAny_execs_nil ⟨σ3,H3,I4,qn⟩
 ·refine wpAny_passesOwn hp (thn (T.item X rfl rfl rfl hc i pins s3 σ3 H3 X.xe I3 (stat fr3) st3 go) fun r s4 ⟨u,hr,h4⟩ => ?_)
  subst hr
  refine wpAny_passesOwn hp (thn h4 fun _ s5 ⟨x,H5,I5,r5,y5,st5,fr5⟩ => ?_)
  have I5':=I5.pinned (stat fr5) (T.obj _ _ st5)
  refine wpAny_passesOwn hp (thn (hg _ s5 σ3 H5 x u _ I5' r5 (step x H5 y5)) fun _ s6 ⟨σ6,H6,I6,q6⟩ => ?_)
  refine wpAny_passesOwn hp (thn (hb _ s6 σ6 H6 _ I6 q6) fun f s7 q7 => ?_)
  have again:∀ {σ7:St} {H7:Hp},Inv X (pins++oO fp s5.heap) σ7 H7 s7->N σ7 H7->∃ m,m<n/\∃ i σ' H',Inv X pins σ' H' s7/\tn i s7.heap/\(∀ b∈fp,H' b=none)/\W i m σ' H':=fun {σ7 H7} I7 n7=>by
   obtain ⟨m',hm,w7⟩:=hN σ7 H7 n7
   refine ⟨m',hm,i+1,σ7,H7,I7.unpinned,T.keep _ _ _ st5 fun b hb o e=>(I7.pin (b,o) (List.mem_append_right _ (List.mem_append_right _ (dW hb e)))).1,fun b hb => ?_,w7⟩
   obtain ⟨o,e,d⟩:=T.obj _ _ st5 b hb
   exact (I7.pin (b,o) (List.mem_append_right _ (List.mem_append_right _ (dW hb e)))).2.1
  cases f with
  | next=>obtain ⟨σ7,H7,I7,n7⟩:=q7;exact again I7 n7
  | cont=>obtain ⟨σ7,H7,I7,n7⟩:=q7;exact again I7 n7
  | brk=>obtain ⟨σ7,H7,I7,q7⟩:=q7;exact ⟨σ7,H7,I7.unpinned,q7⟩
  | ret v=>obtain ⟨x7,σ7,H7,I7,r7,q7⟩:=q7;exact ⟨x7,σ7,H7,I7.unpinned,r7,q7⟩
end
theorem vx {c:TT} {tb:TS} {D:Ends} {σ:St} {H:Hp} (Pv:St->Hp->Prop) (μ:St->Hp->Nat) (h0:Pv σ H)
  (hs:∀ σ H,Pv σ H->c σ H fun b H1=>if b=true then tb { D with nx:=fun σ' H'=>Pv σ' H'/\μ σ' H'<μ σ H,ct:=fun σ' H'=>Pv σ' H'/\μ σ' H'<μ σ H,bk:=D.nx } σ H1 else D.nx σ H1)
  (mono:∀ σ H Q Q',(∀ b H1,Q b H1->Q' b H1)->c σ H Q->c σ H Q'):El c tb D σ H:=by
 refine ⟨fun m σ H=>m=μ σ H/\Pv σ H,⟨_,rfl,h0⟩,?_⟩
 rintro m σ H ⟨rfl,p⟩
 refine mono σ H _ _ (fun b H1 q => ?_) (hs σ H p)
 cases b with
 | true=>exact ⟨_,fun σ' H' ⟨p',l⟩=>⟨_,l,rfl,p'⟩,q⟩
 | false=>exact q
end L2
namespace L2
open PySem PySem.Spec PyProof.Rows
abbrev R2:=V->V->Hp->VK->Prop
def OpR (X:Cx) (f:Value->Value->Sem Value) (r:R2):Prop :=
 ∀ (pins:List ↥11) (s:Shared) (σ:St) (H:Hp) (x y:V) (v u:Value) (Q:VK),Inv X pins σ H s->RelV x v->RelV y u->r x y H Q ->
  wpAny ↥4 X.A (f v u) (EP X pins σ Q) X.xe s
def UnR (X:Cx) (f:Value->Sem Value) (r:V->Hp->VK->Prop):Prop :=
 ∀ (pins:List ↥11) (s:Shared) (σ:St) (H:Hp) (x:V) (v:Value) (Q:VK),Inv X pins σ H s->RelV x v->r x H Q ->
  wpAny ↥4 X.A (f v) (EP X pins σ Q) X.xe s
def gB (X:Cx) (f:Value) (r:List V->Hp->VK->Prop):Prop :=
 ∀ (pins:List ↥11) (s:Shared) (σ:St) (H:Hp) (xs:List V) (us:List Value) (Q:VK),Inv X pins σ H s->Vals xs us->r xs H Q ->
  wpAny ↥4 X.A (call f us) (EP X pins σ Q) X.xe s
def tOp (r:R2) (ta tb:TE):TE:=fun σ H Q=>ta σ H fun x H1=>tb σ H1 fun y H2=>r x y H2 Q
def tUn (r:V->Hp->VK->Prop) (ta:TE):TE:=fun σ H Q=>ta σ H fun x H1=>r x H1 Q
def rI (C:Int->Int->Prop) (g:Int->Int->V):R2:=fun x y H Q=>∃ i j,x=.int i/\y=.int j/\C i j/\Q (g i j) H
def rI0 (g:Int->Int->V):R2:=fun x y H Q=>∃ i j,x=.int i/\y=.int j/\Q (g i j) H
def rU (g:Int->V):V->Hp->VK->Prop:=fun x H Q=>∃ i,x=.int i/\Q (g i) H
section
variable {X:Cx} {a b c:Expr} {ta tb tc:TE} {pos:Pos}
theorem NY (ha:PE X a ta) (hb:PE X b tb) {pins:List ↥11} {s:Shared} {σ:St} {H:Hp} {R:V->V->Hp->Prop} (I:Inv X pins σ H s)
  (h:ta σ H fun x H1=>tb σ H1 fun y H2=>R x y H2) {Q:Value->Shared->Prop} {f:Value->Value->Sem Value}
  (hf:∀ v u s2 x y H2,Inv X pins σ H2 s2->RelV x v->RelV y u->R x y H2->wpAny ↥4 X.A (f v u) Q X.xe s2) :
  wpAny ↥4 X.A (eval a X.env) (fun v s₁=>wpAny ↥4 X.A (eval b X.env) (fun u s₂=>wpAny ↥4 X.A (f v u) Q X.xe s₂) X.xe s₁) X.xe s:=by
 refine thn (ha pins s σ H _ I h) fun v s1 ⟨x,H1,I1,r1,q1⟩ => ?_
 refine thn (hb pins s1 σ H1 _ I1 q1) fun u s2 ⟨y,H2,I2,r2,q2⟩ => ?_
 exact hf v u s2 x y H2 I2 r1 r2 q2
theorem M9 {op:Operator} {r:R2} (ho:OpR X (binaryOp op) r) (ha:PE X a ta) (hb:PE X b tb):PE X (.BinOp a op b pos) (tOp r ta tb):=by
 intro pins s σ H Q I h
 exact wpAny_BinOp (NY ha hb I h fun v u s2 x y H2 I2 rx ry q=>ho pins s2 σ H2 x y v u Q I2 rx ry q)
theorem M7 {op:UnaryOp} {r:V->Hp->VK->Prop} (ho:UnR X (unaryOp op) r) (ha:PE X a ta):PE X (.UnaryOp op a pos) (tUn r ta):=by
 intro pins s σ H Q I h
 exact UnaryOp_ (thn (ha pins s σ H _ I h) fun v s1 ⟨x,H1,I1,r1,q1⟩=>ho pins s1 σ H1 x v Q I1 r1 q1)
theorem opI {f:Value->Value->Sem Value} {C:Int->Int->Prop} {g:Int->Int->Int}
  (rule:∀ (i j:Int) (t u:Tok) (s:Shared) (Q:Value->Shared->Prop) (E:Value->Shared->Prop),C i j->Q (.int (g i j) s.toks) { s with toks:=s.toks+1 }->wpAny ↥4 X.A (f (.int i t) (.int j u)) Q E s) :
  OpR X f (rI C fun i j=>.int (g i j)):=by
 intro pins s σ H x y v u Q I rx ry h
 obtain ⟨i,j,rfl,rfl,hc,q⟩:=h
 obtain ⟨t,rfl⟩:=rx
 obtain ⟨t',rfl⟩:=ry
 exact rule i j t t' s _ _ hc ⟨.int (g i j),H,I.tok _,⟨_,rfl⟩,q⟩
theorem KN {f:Value->Value->Sem Value} {g:Int->Int->Int}
  (rule:∀ (i j:Int) (t u:Tok) (s:Shared) (Q:Value->Shared->Prop) (E:Value->Shared->Prop),Q (.int (g i j) s.toks) { s with toks:=s.toks+1 }->wpAny ↥4 X.A (f (.int i t) (.int j u)) Q E s) :
  OpR X f (rI0 fun i j=>.int (g i j)):=by
 intro pins s σ H x y v u Q I rx ry h
 obtain ⟨i,j,rfl,rfl,q⟩:=h
 obtain ⟨t,rfl⟩:=rx
 obtain ⟨t',rfl⟩:=ry
 exact rule i j t t' s _ _ ⟨.int (g i j),H,I.tok _,⟨_,rfl⟩,q⟩
theorem Nk {f:Value->Value->Sem Value} {g:Int->Int->Bool}
  (rule:∀ (i j:Int) (t u:Tok) (s:Shared) (Q:Value->Shared->Prop) (E:Value->Shared->Prop),Q (.bool (g i j)) s->wpAny ↥4 X.A (f (.int i t) (.int j u)) Q E s) :
  OpR X f (rI0 fun i j=>.bl (g i j)):=by
 intro pins s σ H x y v u Q I rx ry h
 obtain ⟨i,j,rfl,rfl,q⟩:=h
 obtain ⟨t,rfl⟩:=rx
 obtain ⟨t',rfl⟩:=ry
 exact rule i j t t' s _ _ ⟨.bl (g i j),H,I,rfl,q⟩
theorem KL:OpR X (binaryOp .Add) (rI0 fun i j=>.int (i+j)):=KN fun _ _ _ _ _ _ _ q=>add_int q
theorem KC:OpR X (binaryOp .Sub) (rI0 fun i j=>.int (i - j)):=KN fun _ _ _ _ _ _ _ q=>sub_int q
theorem KG:OpR X (binaryOp .Mod) (rI (fun _ j=>0<j) fun i j=>.int (i%j)):=opI fun i j _ _ _ _ _ hc q=>by
 have h1:(0:Int)<j:=hc
 exact mod_int' ⋯ (by rw [Int.fmod_eq_emod_of_nonneg i ⋯];exact q)
theorem KJ:OpR X (binaryOp .BitAnd) (rI0 fun i j=>.int (Builtin.bitAnd i j)):=KN fun _ _ _ _ _ _ _ q=>and_int q
theorem Nd:OpR X (binaryOp .BitOr) (rI0 fun i j=>.int (Builtin.bitOr i j)):=KN fun _ _ _ _ _ _ _ q=>or_int q
theorem KA:OpR X (binaryOp .BitXor) (rI0 fun i j=>.int (Builtin.bitXor i j)):=KN fun _ _ _ _ _ _ _ q=>xor_int q
theorem unI {f:Value->Sem Value} {g:Int->Int}
  (rule:∀ (i:Int) (t:Tok) (s:Shared) (Q:Value->Shared->Prop) (E:Value->Shared->Prop),Q (.int (g i) s.toks) { s with toks:=s.toks+1 }->wpAny ↥4 X.A (f (.int i t)) Q E s) :
  UnR X f (rU fun i=>.int (g i)):=by
 intro pins s σ H x v Q I rx h
 obtain ⟨i,rfl,q⟩:=h
 obtain ⟨t,rfl⟩:=rx
 exact rule i t s _ _ ⟨.int (g i),H,I.tok _,⟨_,rfl⟩,q⟩
theorem Jn:UnR X (unaryOp .USub) (rU fun i=>.int (-i)):=unI fun _ _ _ _ _ q=>neg_int q
end
def Mb:V->V->Bool
 | .non,.non=>true | .non,.int _=>true | .int _,.non=>true | .non,.bl _=>true | .bl _,.non=>true | .non,.str _=>true | .str _,.non=>true
 | .int _,.int _=>true | .bl _,.bl _=>true | .str _,.str _=>true | .byt _,.byt _=>true
 | .int _,.str _=>true | .str _,.int _=>true | .bl _,.str _=>true | .str _,.bl _=>true
 | _,_=>false
def rEq:R2:=fun x y H Q=>Mb x y=true/\Q (.bl (decide (x=y))) H
def rNe:R2:=fun x y H Q=>Mb x y=true/\Q (.bl (!decide (x=y))) H
theorem uY {i j:Int}:decide (V.int i=V.int j)=(i == j):=by
 rw [Bool.eq_iff_iff]
 simp
theorem AH {i j:Bool}:decide (V.bl i=V.bl j)=(i == j):=by
 rw [Bool.eq_iff_iff]
 simp
theorem uX {i j:Str}:decide (V.str i=V.str j)=(i == j):=by
 rw [Bool.eq_iff_iff]
 simp
theorem AG {i j:Array UInt8}:decide (V.byt i=V.byt j)=(i.toList == j.toList):=by
 rw [Bool.eq_iff_iff]
 cases i
 cases j
 simp
section
variable {X:Cx} {a b c:Expr} {ta tb tc:TE} {pos:Pos}
theorem fD {pins:List ↥11} {σ:St} {H:Hp} {s:Shared} {Q:VK} {k k':Bool} (I:Inv X pins σ H s) (q:Q (.bl k) H) (e:k=k'):EP X pins σ Q (.bool k') s:=by
 subst e
 exact ⟨.bl k,H,I,rfl,q⟩
theorem Nj:OpR X (compareOp .Eq) rEq:=by
 intro pins s σ H x y v u Q I rx ry h
 obtain ⟨hs,q⟩:=h
 cases x with
 | non =>
  cases rx
  cases y with
  | non=>cases ry;exact PySem.EqNone.eq_none_none ↥25
  | bl j=>cases ry;exact PySem.EqNone.eq_none_bool ↥25
  | int j=>obtain ⟨t',rfl⟩:=ry;exact PySem.EqNone.eq_none_int ↥25
  | str j=>obtain ⟨t',rfl⟩:=ry;exact PySem.EqNone.eq_none_str ↥25
  | _=>exact absurd (show false=true from hs) Bool.false_ne_true
 | bl i =>
  cases rx
  cases y with
  | non=>cases ry;exact PySem.EqNone.eq_bool_none ↥25
  | bl j=>cases ry;exact eq_bool (fD I q AH)
  | str j=>obtain ⟨t',rfl⟩:=ry;exact PySem.EqMixed.eq_bool_str ↥25
  | _=>exact absurd (show false=true from hs) Bool.false_ne_true
 | int i =>
  obtain ⟨t,rfl⟩:=rx
  cases y with
  | non=>cases ry;exact PySem.EqNone.eq_int_none ↥25
  | int j=>obtain ⟨t',rfl⟩:=ry;exact eq_int (fD I q uY)
  | str j=>obtain ⟨t',rfl⟩:=ry;exact PySem.EqMixed.eq_int_str ↥25
  | _=>exact absurd (show false=true from hs) Bool.false_ne_true
 | str i =>
  obtain ⟨t,rfl⟩:=rx
  cases y with
  | non=>cases ry;exact PySem.EqNone.eq_str_none ↥25
  | bl j=>cases ry;exact PySem.EqMixed.eq_str_bool ↥25
  | int j=>obtain ⟨t',rfl⟩:=ry;exact PySem.EqMixed.eq_str_int ↥25
  | str j=>obtain ⟨t',rfl⟩:=ry;exact eq_str (fD I q uX)
  | _=>exact absurd (show false=true from hs) Bool.false_ne_true
 | byt i =>
  obtain ⟨t,rfl⟩:=rx
  cases y with
  | byt j=>obtain ⟨t',rfl⟩:=ry;exact PySem.W.eq_bytes (fD I q AG)
  | _=>exact absurd (show false=true from hs) Bool.false_ne_true
 | _=>cases y<;>exact absurd (show false=true from hs) Bool.false_ne_true
theorem Nf:OpR X (compareOp .NotEq) rNe:=by
 intro pins s σ H x y v u Q I rx ry h
 obtain ⟨hs,q⟩:=h
 cases x with
 | non =>
  cases rx
  cases y with
  | non=>cases ry;exact PySem.EqNone.ne_none_none ↥25
  | bl j=>cases ry;exact PySem.EqNone.ne_none_bool ↥25
  | int j=>obtain ⟨t',rfl⟩:=ry;exact PySem.EqNone.ne_none_int ↥25
  | str j=>obtain ⟨t',rfl⟩:=ry;exact PySem.EqNone.ne_none_str ↥25
  | _=>exact absurd (show false=true from hs) Bool.false_ne_true
 | bl i =>
  cases rx
  cases y with
  | non=>cases ry;exact PySem.EqNone.ne_bool_none ↥25
  | bl j=>cases ry;exact ne_bool (fD I q (congrArg not AH))
  | str j=>obtain ⟨t',rfl⟩:=ry;exact PySem.EqMixed.ne_bool_str ↥25
  | _=>exact absurd (show false=true from hs) Bool.false_ne_true
 | int i =>
  obtain ⟨t,rfl⟩:=rx
  cases y with
  | non=>cases ry;exact PySem.EqNone.ne_int_none ↥25
  | int j=>obtain ⟨t',rfl⟩:=ry;exact ne_int (fD I q (congrArg not uY))
  | str j=>obtain ⟨t',rfl⟩:=ry;exact PySem.EqMixed.ne_int_str ↥25
  | _=>exact absurd (show false=true from hs) Bool.false_ne_true
 | str i =>
  obtain ⟨t,rfl⟩:=rx
  cases y with
  | non=>cases ry;exact PySem.EqNone.ne_str_none ↥25
  | bl j=>cases ry;exact PySem.EqMixed.ne_str_bool ↥25
  | int j=>obtain ⟨t',rfl⟩:=ry;exact PySem.EqMixed.ne_str_int ↥25
  | str j=>obtain ⟨t',rfl⟩:=ry;exact ne_str (fD I q (congrArg not uX))
  | _=>exact absurd (show false=true from hs) Bool.false_ne_true
 | byt i =>
  obtain ⟨t,rfl⟩:=rx
  cases y with
  | byt j=>obtain ⟨t',rfl⟩:=ry;exact PySem.W.ne_bytes (fD I q (congrArg not AG))
  | _=>exact absurd (show false=true from hs) Bool.false_ne_true
 | _=>cases y<;>exact absurd (show false=true from hs) Bool.false_ne_true
theorem Ng:OpR X (compareOp .Lt) (rI0 fun i j=>.bl (decide (i<j))):=Nk fun _ _ _ _ _ _ _ q=>lt_int q
theorem Nh:OpR X (compareOp .Gt) (rI0 fun i j=>.bl (decide (j<i))):=Nk fun _ _ _ _ _ _ _ q=>gt_int q
theorem Ni:OpR X (compareOp .GtE) (rI0 fun i j=>.bl (decide (j<=i))):=Nk fun _ _ _ _ _ _ _ q=>ge_int q
theorem zk:OpR X (compareOp .In) (fun x y H Q=>∃ i j,x=.str i/\y=.str j/\Q (.bl (!(Builtin.Str.occurrences j i 0 j.length 1).isEmpty)) H):=by
 intro pins s σ H x y v u Q I rx ry h
 obtain ⟨i,j,rfl,rfl,q⟩:=h
 obtain ⟨t,rfl⟩:=rx
 obtain ⟨t',rfl⟩:=ry
 exact in_str (fD I q rfl)
theorem KH:OpR X (compareOp .Is) (fun x y H Q=>y=.non/\Q (.bl (decide (x=.non))) H):=by
 intro pins s σ H x y v u Q I rx ry h
 obtain ⟨rfl,q⟩:=h
 cases ry
 refine is_none_gen (fD I q ?_)
 cases x<;>first
  | (cases rx;rfl)
  | (obtain ⟨t,rfl⟩:=rx;rfl)
def isObj:HO->Bool
 | .lst _=>true
 | .ins _ _ _=>true
 | _=>false
theorem mB {pins:List ↥11} {s:Shared} {σ:St} {H:Hp} {a:Addr} {o:HO} (I:Inv X pins σ H s) (h:H a=some o) (p:isObj o=true):∃ ob,s.heap.get? a=some ob/\ob.cls ≠ .type "tuple":=by
 cases o with
 | lst xs =>
  obtain ⟨_,its,n,_,e⟩:xs.length<=sizeLine/\∃ (its:List Value) (n:Nat),Vals xs its/\s.heap.get? a=some { cls:=.type "list",data:=.seq its.toArray n }:=I.hok a _ h
  exact ⟨_,e,(by show Value.type "list" ≠ .type "tuple";decide +kernel)⟩
 | ins C dx fs =>
  have x:=I.hok a _ h
  obtain ⟨_,_,_,e,_⟩:=x
  exact ⟨_,e,(by show Value.ref C ≠ .type "tuple";exact fun z=>by cases z)⟩
 | _=>exact absurd (show false=true from p) Bool.false_ne_true
theorem ju (b:Expr) {op:CmpOp} (h:op ≠ .In:=by decide) (h2:op ≠ .NotIn:=by decide):behindInMarks op b=false:=by
 have e1:(op == CmpOp.In)=false:=by cases op<;>first | rfl | exact absurd rfl h
 have e2:(op == CmpOp.NotIn)=false:=by cases op<;>first | rfl | exact absurd rfl h2
 cases b<;>simp [behindInMarks,e1,e2]
theorem GS {op:CmpOp} {r:R2} (ho:OpR X (compareOp op) r) (ha:PE X a ta) (hb:PE X b tb) (hm:behindInMarks op b=false):PE X (.Compare a [op] [b] pos) (tOp r ta tb):=by
 intro pins s σ H Q I h
 exact wpAny_Compare1 (NY ha hb I h fun v u s2 x y H2 I2 rx ry q=>ho pins s2 σ H2 x y v u Q I2 rx ry q) hm
def MM (t:TE):TT:=fun σ H Q=>t σ H fun x H'=>∃ k,x=.bl k/\Q k H'
theorem yY {op:CmpOp} {r:R2} (ho:OpR X (compareOp op) r) (ha:PE X a ta) (hb:PE X b tb) (hm:behindInMarks op b=false):PT X (.Compare a [op] [b] pos) (MM (tOp r ta tb)):=by
 intro pins s σ H Q I h
 refine wpAny_isTrue_Compare1 (thn (ha pins s σ H _ I h) fun v s1 ⟨x,H1,I1,r1,q1⟩=>thn (hb pins s1 σ H1 _ I1 q1) fun u s2 ⟨y,H2,I2,r2,q2⟩ =>
  thn (ho pins s2 σ H2 x y v u _ I2 r1 r2 q2) fun c s3 ⟨z,H3,I3,r3,k,e,q3⟩ => ?_) hm
 subst e
 cases r3
 exact wpAny_truthy_bool ⟨H3,I3,q3⟩
theorem oR:(sizeLine:Nat)<2^63:=by rw [sizeLine_eq];decide
theorem xv:OpR X (binaryOp .Add) (fun x y H Q=>∃ i j,x=.str i/\y=.str j/\i.length+j.length<=sizeLine/\Q (.str (i++j)) H):=by
 intro pins s σ H x y v u Q I rx ry h
 obtain ⟨i,j,rfl,rfl,hz,q⟩:=h
 obtain ⟨t,rfl⟩:=rx
 obtain ⟨t',rfl⟩:=ry
 exact add_str (fun t' tk=>⟨.str (i++j),H,I.tok _,⟨_,rfl⟩,q⟩) hz
theorem vals1 {x:V} {us:List Value} (r:Vals [x] us):∃ u,us=[u]/\RelV x u:=by
 cases r with
 | cons r1 r2=>cases r2;exact ⟨_,rfl,r1⟩
theorem vals2 {x y:V} {us:List Value} (r:Vals [x,y] us):∃ u w',us=[u,w']/\RelV x u/\RelV y w':=by
 cases r with
 | cons r1 r2 =>
  cases r2 with
  | cons r3 r4=>cases r4;exact ⟨_,_,rfl,r1,r3⟩
theorem DI:gB X (.builtin "abs") (fun xs H Q=>∃ i,xs=[.int i]/\Q (.int (if i<0 then -i else i)) H):=by
 intro pins s σ H xs us Q I r h
 obtain ⟨i,rfl,q⟩:=h
 obtain ⟨u,rfl,t,rfl⟩:=vals1 r
 exact call_abs_int fun u tk=>⟨.int (if i<0 then -i else i),H,I.tok _,⟨_,rfl⟩,q⟩
theorem AN (hc:X.calm=true):gB X (.builtin "max") (fun xs H Q=>∃ i j,xs=[.int i,.int j]/\Q (.int (if j>i then j else i)) H):=by
 intro pins s σ H xs us Q I r h
 obtain ⟨i,j,rfl,q⟩:=h
 obtain ⟨u,w',rfl,⟨t,rfl⟩,⟨t',rfl⟩⟩:=vals2 r
 refine max_two_ints (I.ok.hd hc) fun h' tk k=>⟨_,H,I.kept k,?_,q⟩
 by_cases hj:j>i
 ·rw [if_pos hj,if_pos hj];exact ⟨_,rfl⟩
 ·rw [if_neg hj,if_neg hj];exact ⟨_,rfl⟩
theorem sN:gB X (.type "int") (fun xs H Q=>(∃ i,xs=[.int i]/\Q (.int i) H)\/∃ k,xs=[.bl k]/\Q (.int (if k then 1 else 0)) H):=by
 intro pins s σ H xs us Q I r h
 rcases h with ⟨i,rfl,q⟩ | ⟨k,rfl,q⟩
 ·obtain ⟨u,rfl,t,rfl⟩:=vals1 r
  exact call_int_int ⟨.int i,H,I,⟨_,rfl⟩,q⟩
 ·obtain ⟨u,rfl,r1⟩:=vals1 r
  cases r1
  exact call_int_bool ⟨.int (if k then 1 else 0),H,I.tok _,⟨_,rfl⟩,q⟩
end
end L2
namespace L2
open PySem PySem.Spec PyProof.Rows
structure ObjM (h:Heap) (x dx C:Addr) (mA:Str->Option Value):Prop where
 obj:h.get? x=some (PySem.W.instObj C dx)
 ns:h.Ns1 dx mA
 ne:dx≠x
theorem zX {h:Heap} {dx:Addr} {mA:Str->Option Value} (n:h.Ns1 dx mA):∃ od,h.get? dx=some od/\∀ name,PySem.W.lookIn name od=some (mA name):=by
 obtain ⟨o,es,ep,ho,hd,hk,_,hm⟩:=n
 refine ⟨o,ho,fun name => ?_⟩
 have e:=hm name
 unfold nsFind findBy at e
 rw [<- Array.find?_toList] at e
 unfold PySem.W.lookIn
 rw [hd]
 dsimp only
 split
 ·rename_i y q
  rw [q] at e
  exact congrArg some e
 ·rename_i q
  rw [q] at e
  have a:es.toList.any (·.refKey)=false:=by
   rw [List.any_eq_false]
   intro y hy
   obtain ⟨z,t,hkey⟩:=hk y (Array.mem_toList_iff.mp hy)
   simp [DictEntry.refKey,hkey]
  have a':¬ es.toList.any (·.refKey)=true:=by rw [a];exact Bool.false_ne_true
  rw [if_neg a']
  exact congrArg some e
theorem ObjM.look {h:Heap} {x dx C:Addr} {mA:Str->Option Value} (I:ObjM h x dx C mA):∃ od,PySem.W.InstAt h x (PySem.W.instObj C dx) C (some od)/\∀ name,PySem.W.lookIn name od=some (mA name) :=
 let ⟨od,ho,hl⟩:=zX I.ns
 ⟨od,⟨I.obj,rfl,rfl,ho⟩,hl⟩
section
variable {prog:Program} {w:World} {A:Around} {E:Value->Shared->Prop} {s:Shared} {K:PySem.W.Frag} {x dx C f:Addr} {mA:Str->Option Value} {name:Str} {v:Value}
theorem get_map {expr:Bool} {Q:Value->Shared->Prop} (X:K.In s.heap) (I:ObjM s.heap x dx C mA) (hg:PySem.W.plainGet K C name=true) (hh:PySem.W.hasDictIn K C=true)
  (ha:PySem.W.findIn K (.ref C) name=some none) (hv:mA name=some v) (hv':PySem.W.handedIn v=true) (h:Q v { s with toks:=s.toks+1 }) :
  wpAny ↥16 A (getAttr (.ref x) name expr) Q E s:=by
 obtain ⟨od,J,hl⟩:=I.look
 exact PySem.W.get_value X J (PySem.W.plainGet_of hg).1 (PySem.W.findObj_own hh ha rfl (by rw [hl,hv])) hv' h
theorem Dw {pl:Sem Bool} {Q:Value×List Value->Shared->Prop} (X:K.In s.heap) (I:ObjM s.heap x dx C mA) (hg:PySem.W.plainGet K C name=true)
  (hf:PySem.W.findIn K (.ref C) name=some (some (.ref f))) (ht:PySem.W.isFn K (.ref f)=true) (hv:mA name=none) (h:Q (.ref f,[.ref x]) s) :
  wpAny ↥16 A (getMethod (.ref x) name pl) Q E s:=by
 obtain ⟨od,J,hl⟩:=I.look
 exact PySem.W.method_fn X J (PySem.W.plainGet_of hg).1 (PySem.W.plainGet_of hg).2 hf (beq_iff_eq.mp ht) (by show (PySem.W.lookIn name od).map (·.isSome)=some false;rw [hl,hv];rfl) h
theorem Gs {ns:List Str} {Q:Unit->Shared->Prop} (X:K.In s.heap) (I:ObjM s.heap x dx C mA)
  (hs:PySem.W.findIn K (.ref C) "__setattr__"=some (some (.builtin "object.__setattr__"))) (hp:PySem.W.plainOver K C=true) (ht:PySem.W.takerIn K C name=some none) (hh:PySem.W.hasDictIn K C=true)
  (hw:PySem.Within mA ns) (hsz:ns.length<=sizeLine)
  (h:∀ h',ObjM h' x dx C (fun y=>if y=name then some v else mA y)->Heap.SameBut dx s.heap h'->Q () { s with heap:=h',toks:=s.toks+2 }) :
  wpAny ↥16 A (setAttr (.ref x) name v) Q E s:=by
 obtain ⟨od,J,hl⟩:=I.look
 refine PySem.W.set_plain X J hs (PySem.W.osa_open (s:={ s with toks:=s.toks+1 }) (r:=none) X J hp ht fun b => ?_)
 obtain ⟨cd,hc,hd'⟩:=PySem.W.any_some hh
 have hx:s.heap.get? x=some ⟨.ref C,some dx,.plain,#[]⟩:=I.obj
 refine wpAny_bind (wpAny_pure (wpAny_bind (wpAny_bind (wpAny_loadPart hx (wpAny_bind (PySem.W.Looks.here (s:={ s with toks:=s.toks+1 }) (PySem.W.looks_clsIn X hc) ?_))))))
 rw [hd']
 refine wpAny_pure (a:=some dx) (wpAny_bind (wpAny_pure (wpAny_bind ?_)))
 refine wpAny_nsSet1 (s:={ s with toks:=s.toks+1 }) I.ns fun h' hn2 hs2 => ?_
 obtain ⟨oD,esD,epD,hoD,hdD,hcD⟩:=hn2.count (PySem.Within.cons name v hw)
 refine wpAny_bind (wpAny_lookBehind hoD (by rw [hdD];exact pastItsLine_dict (Nat.le_trans hcD (by rw [List.length_cons];omega))) ?_)
 exact wpAny_pure (h _ ⟨(hs2.2 _ (Ne.symm I.ne)).trans I.obj,hn2,I.ne⟩ hs2)
theorem Dg {R:Result->Shared->Prop} {vs:List Value} {kw:List (Str×Value)} (X:K.In s.heap) (hm:PySem.W.makesIn K C=true)
  (hi:PySem.W.findIn K (.ref C) "__init__"=some (some (.ref f))) (hf:PySem.W.typeIn K (.ref f)=some (.type "function"))
  (h:codeAny ↥16 (A.under (.builtin "type.__call__" ⟨.ref C::vs,kw⟩)) (.call (.ref f) ⟨.ref (s.heap.objs.size+1)::vs,kw⟩) (PySem.W.InitBack (s.heap.objs.size+1) R)
   { s with heap:=(s.heap.push PySem.W.emptyDict).push (PySem.W.instObj C s.heap.objs.size) }) :
  codeAny ↥16 A (.call (.ref C) ⟨vs,kw⟩) R s:=by
 obtain ⟨hh,g,d,t,os⟩:=s
 exact PySem.W.make_core (PySem.W.makes_of X hm) (PySem.W.looks_findIn X hi) (fun self=>PySem.W.bind_fn X self hf) (.inl rfl) h
end
def tU (f:Str) (v:V):List (Str×V)->List (Str×V)
 | []=>[(f,v)]
 | (g,x)::r=>if g=f then (g,v)::r else (g,x)::tU f v r
theorem mI (f g:Str) (v:V):∀ fs:List (Str×V),(tU f v fs).lookup g=if g=f then some v else fs.lookup g
 | []=>by
  show List.lookup g [(f,v)]=_
  by_cases h:g=f
  ·have hb:(g == f)=true:=beq_iff_eq.mpr h
   simp only [List.lookup,hb,if_pos h]
  ·have hb:(g == f)=false:=beq_eq_false_iff_ne.mpr h
   simp only [List.lookup,hb,if_neg h]
 | (k,x)::r=>by
  have ih:=mI f g v r
  rw [show tU f v ((k,x)::r)=(if k=f then (k,v)::r else (k,x)::tU f v r) from rfl]
  by_cases hk:k=f
  ·rw [if_pos hk]
   by_cases h:g=k
   ·have hb:(g == k)=true:=beq_iff_eq.mpr h
    simp only [List.lookup,hb,if_pos (h.trans hk)]
   ·have hb:(g == k)=false:=beq_eq_false_iff_ne.mpr h
    simp only [List.lookup,hb,if_neg (fun e:g=f=>h (e.trans hk.symm))]
  ·rw [if_neg hk]
   by_cases h:g=k
   ·have hb:(g == k)=true:=beq_iff_eq.mpr h
    simp only [List.lookup,hb,if_neg (fun e:g=f=>hk (h.symm.trans e))]
   ·have hb:(g == k)=false:=beq_eq_false_iff_ne.mpr h
    simp only [List.lookup,hb]
    exact ih
theorem mM (f:Str) (v:V):∀ fs:List (Str×V),f∈(tU f v fs).map (·.1)/\∀ g,g∈fs.map (·.1)->g∈(tU f v fs).map (·.1)
 | []=>⟨by simp [tU],fun g h=>by simp at h⟩
 | (k,x)::r=>by
  obtain ⟨i1,i2⟩:=mM f v r
  rw [show tU f v ((k,x)::r)=(if k=f then (k,v)::r else (k,x)::tU f v r) from rfl]
  by_cases hk:k=f
  ·rw [if_pos hk]
   subst hk
   exact ⟨by simp,fun g h=>by simpa using h⟩
  ·rw [if_neg hk]
   refine ⟨?_,fun g h => ?_⟩
   ·rw [List.map_cons]
    exact List.mem_cons_of_mem _ i1
   ·rw [List.map_cons] at h ⊢
    rcases List.mem_cons.mp h with e | e
    ·exact List.mem_cons.mpr (.inl e)
    ·exact List.mem_cons_of_mem _ (i2 g e)
theorem mJ (f:Str) (v:V):∀ fs:List (Str×V),(tU f v fs).length<=fs.length+1
 | []=>by simp [tU]
 | (k,x)::r=>by
  have ih:=mJ f v r
  rw [show tU f v ((k,x)::r)=(if k=f then (k,v)::r else (k,x)::tU f v r) from rfl]
  by_cases hk:k=f
  ·rw [if_pos hk,List.length_cons,List.length_cons];omega
  ·rw [if_neg hk,List.length_cons,List.length_cons];omega
theorem Bt.some_of {v:V} {o:Option Value} (r:Bt (some v) o):∃ u,o=some u/\RelV v u:=by
 cases o with
 | none=>exact (show False from r).elim
 | some u=>exact ⟨u,rfl,r⟩
theorem Bt.none_of {o:Option Value} (r:Bt none o):o=none:=by
 cases o with
 | none=>rfl
 | some u=>exact (show False from r).elim
theorem Al {v:V} {u:Value} (r:RelV v u):PySem.W.handedIn u=true:=by
 cases v with
 | non=>cases (show u=Value.none from r);rfl
 | bl b=>cases (show u=Value.bool b from r);rfl
 | int i=>obtain ⟨t,e⟩:=(show ∃ t,u=Value.int i t from r);cases e;rfl
 | str x=>obtain ⟨t,e⟩:=(show ∃ t,u=Value.str x t from r);cases e;rfl
 | byt b=>obtain ⟨t,e⟩:=(show ∃ t,u=Value.bytes b t from r);cases e;rfl
 | flt b=>obtain ⟨t,e⟩:=(show ∃ t,u=Value.float b t from r);cases e;rfl
 | ref a=>cases (show u=Value.ref a from r);rfl
 | ty n=>cases (show u=Value.type n from r);rfl
section
variable {P:Program} {w:World} {H H':Hp} {h h':Heap} {a C dx:Addr} {fs fs':List (Str×V)}
theorem uP (hok:HOk P w H h) (e:H a=some (.ins C dx fs)):∃ mA,ObjM h a dx C mA/\(∀ f,Bt (fs.lookup f) (mA f))/\PySem.Within mA (fs.map (·.1))/\fs.length<=1000/\H dx=some (.own a):=by
 obtain ⟨d,z,ne,ob,mA,n,r,q⟩:=(show iE P w H h a (.ins C dx fs) from hok a _ e)
 exact ⟨mA,⟨ob,n,ne⟩,r,q,z,d⟩
end
structure Cls (K:PySem.W.Frag) (C:Addr):Prop where
 pg:PySem.W.plainGet K C Str.empty=true
 hd:PySem.W.hasDictIn K C=true
 po:PySem.W.plainOver K C=true
 sa:PySem.W.findIn K (.ref C) "__setattr__"=some (some (.builtin "object.__setattr__"))
theorem Cls.get {K:PySem.W.Frag} {C:Addr} (c:Cls K C) (f:Str):PySem.W.plainGet K C f=true:=c.pg
def jP (K:PySem.W.Frag) (C:Addr) (f:Str):Prop:=PySem.W.findIn K (.ref C) f=some none
theorem jP.taker {K:PySem.W.Frag} {C:Addr} {f:Str} (n:jP K C f):PySem.W.takerIn K C f=some none:=by
 unfold PySem.W.takerIn
 rw [show PySem.W.findIn K (.ref C) f=some none from n]
 rfl
structure Con (K:PySem.W.Frag) (C:Addr) (f:Str) (v:V) (u:Value):Prop where
 at_:PySem.W.findIn K (.ref C) f=some (some u)
 rel:RelV v u
 get:PySem.W.specialIn K u "__get__"=some none
 cp:PySem.W.copiedNames.contains f=false
structure Meth (K:PySem.W.Frag) (C:Addr) (m:Str) (f:Addr):Prop where
 at_:PySem.W.findIn K (.ref C) m=some (some (.ref f))
 fn:PySem.W.isFn K (.ref f)=true
 kp:PySem.W.keepIn K (.ref f)=true
section
variable {X:Cx} {pins:List ↥11} {σ:St} {H:Hp} {s:Shared} {a C dx:Addr} {fs:List (Str×V)} {f:Str} {v:V} {A:Around} {E:Value->Shared->Prop}
theorem xM {b:Bool} {Q:Value->Shared->Prop} (I:Inv X pins σ H s) (e:H a=some (.ins C dx fs)) (c:Cls X.K C) (n:jP X.K C f) (l:fs.lookup f=some v)
  (h:∀ u s',Inv X pins σ H s'->RelV v u->Q u s'):wpAny ↥4 A (getAttr (.ref a) f b) Q E s:=by
 obtain ⟨mA,O,r,_,_,_⟩:=uP I.hok e
 obtain ⟨u,hu,ru⟩:=Bt.some_of (v:=v) (o:=mA f) (by rw [<- l];exact r f)
 exact get_map I.kIn O (c.get f) c.hd n hu (Al ru) (h u _ (I.tok _) ru)
theorem xK {m:Str} {g:Addr} {pl:Sem Bool} {Q:Value×List Value->Shared->Prop} (I:Inv X pins σ H s) (e:H a=some (.ins C dx fs)) (c:Cls X.K C) (k:Meth X.K C m g) (l:fs.lookup m=none)
  (h:Q (.ref g,[.ref a]) s):wpAny ↥4 A (getMethod (.ref a) m pl) Q E s:=by
 obtain ⟨mA,O,r,_,_,_⟩:=uP I.hok e
 have hn:mA m=none:=Bt.none_of (by rw [<- l];exact r m)
 exact Dw I.kIn O (c.get m) k.at_ k.fn hn h
theorem wX {y:V} {u:Value} {Q:Unit->Shared->Prop} (I:Inv X pins σ H s) (e:H a=some (.ins C dx fs)) (c:Cls X.K C) (n:jP X.K C f) (hl:fs.length<1000) (ry:RelV y u)
  (h:∀ s',Inv X pins σ (upd H a (.ins C dx (tU f y fs))) s'->Q () s'):wpAny ↥4 A (setAttr (.ref a) f u) Q E s:=by
 obtain ⟨mA,O,r,wi,_,ho⟩:=uP I.hok e
 have hz:(fs.map (·.1)).length<=sizeLine:=by rw [List.length_map,sizeLine_eq];omega
 refine Gs I.kIn O c.sa c.po n.taker c.hd wi hz fun h' O' sb=>h _ ?_
 have hd:∃ o,h'.get? dx=some o:=let ⟨o,_,_,e',_⟩:=O'.ns;⟨o,e'⟩
 refine I.write (x:=a) (e:=dx) (by rw [e];exact True.intro) (.inr ho) (fun b q hb z=>(sb.2 b hb).trans z) hd ?_
 refine ⟨by rw [aW O.ne];exact ho,?_,O.ne,O'.obj,_,O'.ns,fun g => ?_,fun g hg => ?_⟩
 ·have:=mJ f y fs;omega
 ·show Bt ((tU f y fs).lookup g) (if g=f then some u else mA g)
  rw [mI]
  by_cases q:g=f
  ·rw [if_pos q,if_pos q];exact ry
  ·rw [if_neg q,if_neg q];exact r g
 ·by_cases q:g=f
  ·rw [q];exact (mM f y fs).1
  ·refine (mM f y fs).2 g (wi g fun z=>hg ?_)
   show (if g=f then some u else mA g)=none
   rw [if_neg q];exact z
theorem Inv.made (I:Inv X pins σ H s):Inv X pins σ (upd (upd H s.heap.objs.size (.own (s.heap.objs.size+1))) (s.heap.objs.size+1) (.ins C s.heap.objs.size []))
  { s with heap:=(s.heap.push PySem.W.emptyDict).push (PySem.W.instObj C s.heap.objs.size) }:=by
 have e1:(s.heap.push PySem.W.emptyDict).get? s.heap.objs.size=some PySem.W.emptyDict:=Heap.get?_push_size s.heap rfl
 have e2:((s.heap.push PySem.W.emptyDict).push (PySem.W.instObj C s.heap.objs.size)).get? (s.heap.objs.size+1)=some (PySem.W.instObj C s.heap.objs.size):=by
  have:=Heap.get?_push_size (s.heap.push PySem.W.emptyDict) (o:=PySem.W.instObj C s.heap.objs.size) rfl
  rwa [Heap.size_push] at this
 have e3:(s.heap.push PySem.W.emptyDict).Ns s.heap.objs.size (fun _=>none):=⟨PySem.W.emptyDict,#[],_,e1,rfl,(fun e he=>absurd he (by simp)),fun _=>rfl⟩
 have I1:=I.laid (a:=s.heap.objs.size) (o:=.own (s.heap.objs.size+1)) (h':=s.heap.push PySem.W.emptyDict) (t':=s.toks) (fun b u q=>Heap.get?_push_of_some _ q) ↥28 ⟨_,e1⟩
 refine I1.laid (a:=s.heap.objs.size+1) (o:=.ins C s.heap.objs.size []) (t':=s.toks) (fun b u q=>Heap.get?_push_of_some _ q) (Nat.le_of_eq (Heap.size_push _ _)) ?_
 have ne:s.heap.objs.size≠s.heap.objs.size+1:=Nat.ne_of_lt (Nat.lt_succ_self _)
 refine ⟨by rw [aW ne,aQ],Nat.zero_le _,ne,e2,fun _=>none,(Heap.Ns1.of_empty e3).at fun o q=>Heap.get?_push_of_some _ q,fun _=>True.intro,fun y hy=>absurd rfl hy⟩
theorem Iu {prog:Program} {w:World} {env:Env} {e:Expr} {f:Str} {pos:Pos} {s:Shared} {Q:Value->Shared->Prop} (hb:attributeBase e f env (eval e env)=eval e env)
  (h:wpAny ↥16 A (eval e env) (fun o s₁=>wpAny ↥16 A (getAttr o f true) Q E s₁) E s):wpAny ↥16 A (eval (.Attribute e f pos) env) Q E s :=
 Attribute_any_ h (by rw [arm_eval_Attribute,hb])
end
def Tf (K:PySem.W.Frag) (ta:TE) (f:Str):TE:=fun σ H Q=>ta σ H fun x H1=>∃ a C dx fs v,x=.ref a/\H1 a=some (.ins C dx fs)/\Cls K C/\jP K C f/\fs.lookup f=some v/\Q v H1
def Tn (K:PySem.W.Frag) (ta tv:TE) (f:Str):TS:=fun D σ H=>tv σ H fun y H1=>ta σ H1 fun x H2=>∃ a C dx fs,x=.ref a/\H2 a=some (.ins C dx fs)/\Cls K C/\jP K C f/\fs.length<1000 /\
 D.nx σ (upd H2 a (.ins C dx (tU f y fs)))
section
variable {X:Cx} {o e value:Expr} {f:Str} {pos pos' tpos:Pos} {ta tv:TE}
theorem Kr (he:PE X e ta) (hb:attributeBase e f X.env (eval e X.env)=eval e X.env):PE X (.Attribute e f pos) (Tf X.K ta f):=by
 intro pins s σ H Q I h
 refine Iu hb (thn (he pins s σ H _ I h) fun u s1 ⟨x,H1,I1,rx,a,C,dx,fs,v,ex,ea,c,n,l,q⟩ => ?_)
 subst ex
 obtain rfl:u=Value.ref a:=rx
 exact xM I1 ea c n l fun u' s2 I2 ru=>⟨v,H1,I2,ru,q⟩
theorem Kg (ha:PE X o ta) (hv:PE X value tv) (hs:swapsWith value (some (.Attribute o f pos')) pos.line X.env=pure false):PS X (.Assign [.Attribute o f pos'] value pos) (Tn X.K ta tv f):=by
 intro pins s σ H D I h
 refine plainObj_wpAny_Assign_Attribute (thn (hv pins s σ H _ I h) fun u s1 ⟨y,H1,I1,ry,q⟩=>thn (ha pins s1 σ H1 _ I1 q) fun ov s2 ⟨x,H2,I2,rx,a,C,dx,fs,ex,ea,c,n,l,q2⟩ => ?_) hs
 subst ex
 obtain rfl:ov=Value.ref a:=rx
 exact wX I2 ea c n l ry fun s3 I3=>⟨σ,_,I3,q2⟩
end
section
variable {X:Cx} {pins:List ↥11} {σ:St} {H:Hp} {s:Shared} {A:Around} {E:Value->Shared->Prop} {Q:Value->Shared->Prop} {c:Value} {b:Bool}
inductive TyOf (K:PySem.W.Frag) (H:Hp):V->Value->Prop where
 | non:TyOf K H .non (.type "NoneType")
 | bl (x:Bool):TyOf K H (.bl x) (.type "bool")
 | int (i:Int):TyOf K H (.int i) (.type "int")
 | str (x:Str):TyOf K H (.str x) (.type "str")
 | flt (x:UInt64):TyOf K H (.flt x) (.type "float")
 | lst {a:Addr} {xs:List V} (e:H a=some (.lst xs)):TyOf K H (.ref a) (.type "list")
 | frz {a:Addr} {o:Obj} {xs:List V} (e:H a=some (.frz o (.lst xs))):TyOf K H (.ref a) (.type "list")
 | tup {a:Addr} {xs:List V} (e:H a=some (.tup xs)):TyOf K H (.ref a) ↥6
 | dK {a:Addr} {kvs:List (Key×V)} (e:H a=some (.dK kvs)):TyOf K H (.ref a) ↥24
 | dT {a:Addr} {kvs:List (List Key×V)} (e:H a=some (.dT kvs)):TyOf K H (.ref a) ↥24
 | ins {a C dx:Addr} {fs:List (Str×V)} (e:H a=some (.ins C dx fs)) (cl:Cls K C) (ha:PySem.W.findIn K (.ref C) "__class__"=some (some (.builtin "object.__class__")))
   (hn:PySem.W.specialIn K (.builtin "object.__class__") "__get__"=some (some (.builtin "getset_descriptor.__get__"))) (htk:PySem.W.takesIn K (.builtin "object.__class__")=some true)
   (hm:PySem.W.mroIn K C ↥35=some true):TyOf K H (.ref a) (.ref C)
end
end L2
namespace L2
open PySem PySem.Spec PyProof.Rows
structure Room (k:Nat) (A:Around):Prop where
 hd:A.handled=none
 dp:A.depth+3*k+5<recursionLimit
 un:A.units+16*k+200<cLine
theorem Room.mono {j k:Nat} {A:Around} (r:Room k A) (h:j<=k):Room j A:=⟨r.hd,by have:=r.dp;omega,by have:=r.un;omega⟩
theorem Room.deeper {k:Nat} {A:Around} (r:Room (k+1) A) (env:Env):Room k (A.deeper env) :=
 ⟨r.hd,by have:=r.dp;show A.depth+1+3*k+5<_;omega,by have:=r.un;show A.units+3+16*k+200<_;omega⟩
theorem xE {A:Around} {C:Addr} {us:List Value} {kw:List (Str×Value)}:(A.under (.builtin "type.__call__" ⟨.ref C::us,kw⟩)).depth=A.depth+1:=by
 first | rfl | simp [Around.under,Code.weight,Code.isCreation,Code.isGuard,Code.isCaller,Code.frames,Code.isFrame,guardIds]
theorem xC {A:Around} {C:Addr} {us:List Value} {kw:List (Str×Value)}:(A.under (.builtin "type.__call__" ⟨.ref C::us,kw⟩)).units=A.units+1:=by
 first | rfl | simp [Around.under,Code.cUnits,Code.frames,Code.isFrame]
theorem Room.make {k:Nat} {A:Around} (r:Room (k+1) A) (C:Addr) (us:List Value) (kw:List (Str×Value)):Room k (A.under (.builtin "type.__call__" ⟨.ref C::us,kw⟩)) :=
 ⟨r.hd,by have:=r.dp;rw [xE];omega,by have:=r.un;rw [xC];omega⟩
theorem Room.depth {k:Nat} {A:Around} (r:Room k A):A.depth<recursionLimit:=by have:=r.dp;omega
theorem Room.units {k:Nat} {A:Around} (r:Room k A):A.units+64<cLine:=by have:=r.un;omega
def Tb:TA:=fun _ H Q=>Q [] H
def MR (ta:TE) (tr:TA):TA:=fun σ H Q=>ta σ H fun x H1=>tr σ H1 fun xs H2=>Q (x::xs) H2
section
variable {X:Cx} {e:Expr} {es:List Expr} {te:TE} {t:TA} {pos:Pos}
theorem mr:PA X [] Tb:=fun _ _ _ _ H Q I h=>Calls.spliced_nil ⟨[],H,I,.nil,h⟩
theorem ko (ha:PE X e te) (hr:PA X es t) (hs:starEach (e::es) X.env=↥34::starEach es X.env:=by rfl):PA X (e::es) (MR te t):=by
 intro pos pins s σ H Q I h
 rw [hs]
 show wpAny _ _ (spliced (↥34::backTo pos (starEach es X.env))) _ _ s
 refine Calls.spliced_cons (thn (ha pins s σ H _ I h) fun u s1 ⟨x,H1,I1,r1,q1⟩ => ?_)
 exact thn (hr pos pins s1 σ H1 _ I1 q1) fun us s2 ⟨xs,H2,I2,r2,q2⟩=>⟨x::xs,H2,I2,.cons r1 r2,q2⟩
def S0 (t:TA):TE:=fun σ H Q=>t σ H fun xs H1=>xs.length<=sizeLine/\∀ p,H1 p=none->Q (.ref p) (upd H1 p (.tup xs))
def Tc (t:TA):TE:=fun σ H Q=>t σ H fun xs H1=>xs.length<=sizeLine/\∀ p,H1 p=none->Q (.ref p) (upd H1 p (.lst xs))
theorem Km {x1} (h:PA X es t):PE X (.Tuple es x1 pos) (S0 t):=by
 intro pins s σ H Q I hq
 refine wpAny_Tuple_spliced (thn (h pos pins s σ H _ I hq) fun us s1 ⟨xs,H1,I1,r,z,q⟩=>⟨by rw [<- r.length];exact z,?_⟩)
 have hf:H1 s1.heap.objs.size=none:=I1.hok.fresh ↥28
 refine ⟨.ref s1.heap.objs.size,upd H1 s1.heap.objs.size (.tup xs),I1.laid (t':=s1.toks) (fun b u e=>Heap.get?_push_of_some _ e) ↥28 ?_,rfl,q _ hf⟩
 exact ⟨z,us,r,⟨_,Heap.get?_push_size _ rfl,rfl,_,rfl⟩⟩
theorem ze (h:PA X es t):PE X (.List es pos) (Tc t):=by
 intro pins s σ H Q I hq
 refine wpAny_List_spliced (thn (h pos pins s σ H _ I hq) fun us s1 ⟨xs,H1,I1,r,z,q⟩=>⟨by rw [<- r.length];exact z,?_⟩)
 have hf:H1 s1.heap.objs.size=none:=I1.hok.fresh ↥28
 refine ⟨.ref s1.heap.objs.size,upd H1 s1.heap.objs.size (.lst xs),I1.laid (t':=s1.toks) (fun b u e=>Heap.get?_push_of_some _ e) ↥28 ?_,rfl,q _ hf⟩
 exact ⟨z,us,0,r,Heap.get?_push_size _ rfl⟩
end
abbrev Sp:=List V->Hp->VK->XK->Prop
abbrev CXT:=List Env->Hp->Shared->XK->Value->Shared->Prop
structure Env0 (P:Program) (w:World) (K:PySem.W.Frag) (mg:Str->Option Value) (base:Heap) (A:Around) (outer:List Env) (s:Shared) (H:Hp):Prop where
 frames:A.frames=some outer
 mod:Mod K mg base
 bs:∀ b o,base.get? b=some o->s.heap.get? b=some o/\H b=none
 bsz:base.objs.size<=s.heap.objs.size
 funs:s.heap.FunFrames base outer
 frf:∀ b∈frs outer,H b=none
 hok:HOk P w H s.heap
 bare:AllBare s.gens
def CE (outer:List Env) (P:Program) (w:World) (H:Hp) (s:Shared) (Q:VK) (u:Value) (s':Shared):Prop :=
 ∃ v H',s'.os=s.os/\AllBare s'.gens/\Un (frs outer) [] H H' s.heap s'.heap/\HOk P w H' s'.heap/\RelV v u/\Q v H'
def CR (CX:CXT) (outer:List Env) (P:Program) (w:World) (H:Hp) (s:Shared) (Q:VK) (E:XK) (r:Result) (s':Shared):Prop :=
 match r with
 | .ok (.ret u)=>CE outer P w H s Q u s'
 | .ok _=>False
 | .error e=>CX outer H s E e s'
structure FnOk (P:Program) (w:World) (K:PySem.W.Frag) (mg:Str->Option Value) (base:Heap) (CX:CXT) (k:Nat) (f:Addr) (fd:FuncData) (ps:List Str) (sp:Sp):Prop where
 len:∀ vs H Q E,sp vs H Q E->vs.length=ps.length
 run:∀ (A:Around) (outer:List Env) (s:Shared) (H:Hp) (args:Args) (us:List Value) (vs:List V) (Q:VK) (E:XK),Room k A->Env0 P w K mg base A outer s H->BindsTo s fd args (ps.zip us)->Vals vs us->sp vs H Q E ->
  codeAny (model P w) A (.call (.ref f) args) (CR CX outer P w H s Q E) s
theorem FnOk.mono {P:Program} {w:World} {K:PySem.W.Frag} {mg:Str->Option Value} {base:Heap} {CX:CXT} {j k:Nat} {f:Addr} {fd:FuncData} {ps:List Str} {sp:Sp} (F:FnOk P w K mg base CX j f fd ps sp) (h:j<=k) :
  FnOk P w K mg base CX k f fd ps sp:=⟨F.len,fun A outer s H args us vs Q E hr=>F.run A outer s H args us vs Q E (hr.mono h)⟩
theorem Env0.make {P:Program} {w:World} {K:PySem.W.Frag} {mg:Str->Option Value} {base:Heap} {A:Around} {outer:List Env} {s:Shared} {H:Hp} (e:Env0 P w K mg base A outer s H) (C:Addr) (us:List Value) (kw:List (Str×Value)) :
  Env0 P w K mg base (A.under (.builtin "type.__call__" ⟨.ref C::us,kw⟩)) outer s H:=⟨by first | exact e.frames | (simpa [Around.under,Code.envs,Code.isFrame,pushEnvs] using e.frames),e.mod,e.bs,e.bsz,e.funs,e.frf,e.hok,e.bare⟩
section
variable {X:Cx} {pins:List ↥11} {σ:St} {H:Hp} {s s':Shared}
theorem Inv.env0 (I:Inv X pins σ H s):Env0 X.prog X.w X.K X.mg X.base X.A X.stack s H :=
 ⟨I.ok.frames,I.ok.mod,I.bs,Nat.le_trans I.ok.bsz I.sz,I.stack,I.stkFree,I.hok,I.bare⟩
theorem Inv.after {Q:VK} {u:Value} (I:Inv X pins σ H s) (h:CE X.stack X.prog X.w H s Q u s'):EP X pins σ Q u s':=by
 obtain ⟨v,H',os,bare,un,hok,r,q⟩:=h
 obtain ⟨hh,g,d,t,os'⟩:=s'
 obtain rfl:os'=s.os:=os
 exact ⟨v,H',I.call (h':=hh) (g':=g) (d':=d) (t':=t) (ch:=[]) un hok bare (fun b z=>absurd z (by simp)),r,q⟩
end
def MP (C:Addr) (sp:Sp) (dvs:List V) (E:XK) (t:TA):TE:=fun σ H Q=>t σ H fun vs H1=>∀ x dx,H1 x=none->H1 dx=none->dx≠x ->
 sp (.ref x::(vs++dvs)) (upd (upd H1 dx (.own x)) x (.ins C dx [])) (fun v H2=>v=.non/\Q (.ref x) H2) E
def Binds (K:PySem.W.Frag) (fd:FuncData) (ps:List Str) (ds:List Value):Prop :=
 ∀ (s:Shared) (us:List Value),K.In s.heap->(us++ds).length=ps.length->BindsTo s fd ⟨us,[]⟩ (ps.zip (us++ds))
theorem Binds.all {K:PySem.W.Frag} {fd:FuncData} {ps:List Str} (h:∀ us:List Value,us.length=ps.length->bindArgs fd ⟨us,[]⟩=pure (ps.zip us)):Binds K fd ps []:=fun s us _ hl=>by
 rw [List.append_nil] at hl ⊢
 exact .of_eq (h us hl)
def Passes (CX:CXT) (X:Cx) (E:XK):Prop:=∀ (pins:List ↥11) (σ:St) (H:Hp) (s:Shared) (e:Value) (s':Shared),Inv X pins σ H s->CX X.stack H s E e s'->X.xe e s'
section
variable {X:Cx} {CX:CXT} {k:Nat} {f C:Addr} {fd:FuncData} {ps:List Str} {sp:Sp} {dvs:List V} {ds:List Value} {E:XK} {x m:Str} {p pos apos:Pos} {e o:Expr} {es:List Expr} {ta:TE} {t:TA}
structure Mk (K:PySem.W.Frag) (C f:Addr):Prop where
 makes:PySem.W.makesIn K C=true
 init:PySem.W.findIn K (.ref C) "__init__"=some (some (.ref f))
 fn:PySem.W.isFn K (.ref f)=true
 kp:PySem.W.keepIn K (.ref C)=true
theorem Cq {pins:List ↥11} {σ:St} {H:Hp} {s:Shared} {Q:VK} {us:List Value} {vs:List V} (M:Mk X.K C f) (F:FnOk X.prog X.w X.K X.mg X.base CX k f fd ps sp) (hr:Room (k+1) X.A) (hb:Binds X.K fd ps ds) (hd:Vals dvs ds)
  (hx:Passes CX X E) (I:Inv X pins σ H s) (r:Vals vs us)
  (h:∀ x dx,H x=none->H dx=none->dx≠x->sp (.ref x::(vs++dvs)) (upd (upd H dx (.own x)) x (.ins C dx [])) (fun v H2=>v=.non/\Q (.ref x) H2) E) :
  wpAny ↥4 X.A (call (.ref C) us) (EP X pins σ Q) X.xe s:=by
 have hq:=h (s.heap.objs.size+1) s.heap.objs.size (I.hok.fresh (Nat.le_succ _)) (I.hok.fresh ↥28) (Nat.ne_of_lt (Nat.lt_succ_self _))
 have I2:=Inv.made (C:=C) I
 have r2:Vals (V.ref (s.heap.objs.size+1)::(vs++dvs)) (Value.ref (s.heap.objs.size+1)::(us++ds)):=.cons rfl (r.append hd)
 have hl:(Value.ref (s.heap.objs.size+1)::us++ds).length=ps.length:=by
  have e:=r2.length
  rw [F.len _ _ _ _ hq] at e
  exact e.symm
 refine wpAny_call (Dg (f:=f) I.kIn M.makes M.init (beq_iff_eq.mp M.fn) (codeAny_mono (F.run _ X.stack _ _ ⟨Value.ref (s.heap.objs.size+1)::us,[]⟩ (Value.ref (s.heap.objs.size+1)::(us++ds)) _ _ E (hr.make C us [])
  (I2.env0.make C us []) (hb _ (Value.ref (s.heap.objs.size+1)::us) I2.kIn hl) r2 hq) fun r s' hq' => ?_))
 cases r with
 | error e=>exact hx pins σ _ _ e s' I2 hq'
 | ok fl =>
  cases fl with
  | ret u =>
   obtain ⟨v,H',I3,rv,ev,q3⟩:=I2.after hq'
   subst ev
   exact ⟨rv,⟨V.ref (s.heap.objs.size+1),H',I3,rfl,q3⟩⟩
  | next=>exact False.elim hq'
  | brk=>exact False.elim hq'
  | cont=>exact False.elim hq'
theorem GR (M:Mk X.K C f) (F:FnOk X.prog X.w X.K X.mg X.base CX k f fd ps sp) (hr:Room (k+1) X.A) (hg:Gl X x) (hm:X.mg x=some (.ref C)) (hb:Binds X.K fd ps ds) (hd:Vals dvs ds) (hx:Passes CX X E)
  (ha:PA X (e::es) t) (hdb:(x == ("__debug__":Str))=false:=by decide) (he:starEach (e::es) X.env=↥34::starEach es X.env:=by rfl) (hpl:(backTo pos (starEach es X.env)).any (·.1)=false:=by rfl) :
  PE X (.Call (.Name x p) (e::es) [] pos) (MP C sp dvs E t):=by
 intro pins s σ H Q I h
 refine wpAny_Call_Name_kw (mK I hg hm ?_ hdb)
 refine PySem.W.callWith_K (h₀:=X.base) I.ok.mod.kin M.kp (thn (ha pos pins s σ H _ I h) fun us s1 ⟨vs,H1,I1,r,q⟩=>⟨I1.kIn,?_⟩) he hpl
 exact Cq M F hr hb hd hx I1 r q
end
section
variable {X:Cx} {CX:CXT} {k:Nat} {f C:Addr} {fd:FuncData} {ps ks:List Str} {sp:Sp} {E:XK} {x m:Str} {p pos apos kpos:Pos} {e o:Expr} {es:List Expr} {kws:List Keyword} {te ta:TE} {t tk:TA} {nm:Option Str}
structure KBinds (K:PySem.W.Frag) (fd:FuncData) (ps ks:List Str) (g:List Value->List Value->List Value) (gV:List V->List V->List V):Prop where
 to:∀ (s:Shared) (us ws:List Value),K.In s.heap->(g us ws).length=ps.length->BindsTo s fd ⟨us,ks.zip ws⟩ (ps.zip (g us ws))
 rel:∀ {vs:List V} {us:List Value} {zs:List V} {ws:List Value},Vals vs us->Vals zs ws->Vals (gV vs zs) (g us ws)
variable {g:List Value->List Value->List Value} {gV:List V->List V->List V}
end
structure FnScope (N P:List Str) (sc:Scope):Prop where
 kind:sc.kind=.function
 co:sc.isCoroutine=false
 gen:sc.isGenerator=false
 nd:N.Nodup
 pre:N.take P.length=P
 par:∀ x∈P,sc.names.lookup x=some .local\/sc.names.lookup x=some .cell
 nofree:∀ y∈sc.names,y.2 ≠ .free
theorem sP {kindOf:Str->Option NameKind} {x:Str}:∀ {binds:List (Str×Value)} {m:Str->Option Value},(∀ v,(x,v)∉binds)->bindL kindOf binds m x=m x
 | [],_,_=>rfl
 | (n,v)::r,m,h=>by
  unfold bindL
  rw [sP fun w hw=>h w (List.mem_cons_of_mem _ hw)]
  split
  ·have:x≠n:=by rintro rfl;exact h v List.mem_cons_self
   simp [this]
  ·rfl
theorem sR {kindOf:Str->Option NameKind} {x:Str}:∀ {binds:List (Str×Value)} {m:Str->Option Value},(∀ v,(x,v)∉binds)->bindC kindOf binds m x=m x
 | [],_,_=>rfl
 | (n,v)::r,m,h=>by
  unfold bindC
  rw [sR fun w hw=>h w (List.mem_cons_of_mem _ hw)]
  split
  ·rfl
  ·have:x≠n:=by rintro rfl;exact h v List.mem_cons_self
   simp [this]
theorem sQ {kindOf:Str->Option NameKind} {x:Str} {v:Value}:∀ {P:List Str} {vs:List Value} {i:Nat} {m:Str->Option Value},P.Nodup->P[i]? = some x->vs[i]? = some v->kindOf x=some .local ->
  bindL kindOf (P.zip vs) m x=some v
 | [],_,_,_,_,h,_,_=>by simp at h
 | _::_,[],_,_,_,_,h,_=>by simp at h
 | p::P,w::vs,0,m,nd,h1,h2,hk=>by
  simp at h1 h2;subst h1;subst h2
  show bindL kindOf ((p,w)::P.zip vs) m p=_
  unfold bindL
  rw [sP fun v hv=>(List.nodup_cons.mp nd).1 (List.of_mem_zip hv).1,if_pos hk]
  simp
 | p::P,w::vs,i+1,m,nd,h1,h2,hk=>by
  show bindL kindOf ((p,w)::P.zip vs) m x=_
  unfold bindL
  exact sQ (i:=i) (List.nodup_cons.mp nd).2 (by simpa using h1) (by simpa using h2) hk
theorem sS {kindOf:Str->Option NameKind} {x:Str} {v:Value}:∀ {P:List Str} {vs:List Value} {i:Nat} {m:Str->Option Value},P.Nodup->P[i]? = some x->vs[i]? = some v->kindOf x≠some .local ->
  bindC kindOf (P.zip vs) m x=some v
 | [],_,_,_,_,h,_,_=>by simp at h
 | _::_,[],_,_,_,_,h,_=>by simp at h
 | p::P,w::vs,0,m,nd,h1,h2,hk=>by
  simp at h1 h2;subst h1;subst h2
  show bindC kindOf ((p,w)::P.zip vs) m p=_
  unfold bindC
  rw [sR fun v hv=>(List.nodup_cons.mp nd).1 (List.of_mem_zip hv).1,if_neg hk]
  simp
 | p::P,w::vs,i+1,m,nd,h1,h2,hk=>by
  show bindC kindOf ((p,w)::P.zip vs) m x=_
  unfold bindC
  exact sS (i:=i) (List.nodup_cons.mp nd).2 (by simpa using h1) (by simpa using h2) hk
def start (N:List Str) (vs:List V):St:=vs.map some++List.replicate (N.length - vs.length) none
def AI (CX:CXT) (P:Program) (w:World) (K:PySem.W.Frag) (mg:Str->Option Value) (base:Heap) (N:List Str) (qual:Str) (scope:Scope) (f:Addr) (cd:Value) (A:Around) (outer:List Env) (s:Shared) (H:Hp) (E:XK):Cx where
 prog:=P
 w:=w
 K:=K
 mg:=mg
 base:=base
 A:=A.deeper (envOfC qual scope s.heap.objs.size f cd)
 N:=N
 s₀:=s
 H₀:=H
 env:=envOfC qual scope s.heap.objs.size f cd
 outer:=outer
 stack:=envOfC qual scope s.heap.objs.size f cd::outer
 ex:=[]
 calm:=true
 fn:=fun _=>true
 pn:=[]
 xe:=fun e s'=>wpAny (model P w) (A.deeper (envOfC qual scope s.heap.objs.size f cd)) (leaving (envOfC qual scope s.heap.objs.size f cd) e) (fun _ s''=>CX outer H s E e s'') (fun e' s''=>CX outer H s E e' s'') s'
theorem wa {sc:Scope} {n:Nat} {x:Str} (h:sc.names.lookup x=some .cell):∃ c,(cellsFrom n sc.names []).lookup x=some c:=by
 have q:=PySem.W.cellsFrom_some sc.names n [] (.inl h)
 exact Option.isSome_iff_exists.mp q
theorem Ad {CX:CXT} {P:Program} {w:World} {K:PySem.W.Frag} {mg:Str->Option Value} {base:Heap} {N ps:List Str} {qual:Str} {scope:Scope} {f:Addr} {cd:Value} {A:Around} {outer:List Env} {s s1:Shared} {H:Hp} {E:XK} {us:List Value} {vs:List V}
  (S:FnScope N ps scope) (hd:A.handled=none) (e0:Env0 P w K mg base A outer s H) (hl:vs.length=ps.length) (r:Vals vs us)
  (x:InCallC s s.heap.objs.size (bindL (envOfC qual scope s.heap.objs.size f cd).kindOf (ps.zip us) fun _=>none) (cellsFrom (s.heap.objs.size+1) scope.names []) (bindC (envOfC qual scope s.heap.objs.size f cd).kindOf (ps.zip us) fun _=>none) s1) :
  Inv (AI CX P w K mg base N qual scope f cd A outer s H E) [] (start N vs) H s1:=by
 have hpl:ps.length<=N.length:=by have:=congrArg List.length S.pre;rw [List.length_take] at this;omega
 obtain ⟨h1,tk,rfl,hk⟩:=x.done
 have noA:∀ b:Addr,b∉(AI CX P w K mg base N qual scope f cd A outer s H E).ex:=fun b z=>absurd (show b∈([]:List Addr) from z) (by simp)
 refine ⟨⟨e0.mod,S.kind,rfl,rfl,Nat.le_refl _,fun y z c h1 h2 => ?_,fun y hy => ?_,fun y c _ h => ?_,fun _=>hd,Around.frames_deeper e0.frames,.inr ⟨rfl,rfl⟩,fun b z=>absurd z (noA b),e0.bs,e0.bsz,fun b _ _=>noA b,fun b z=>absurd z (noA b),e0.funs,e0.frf⟩,
  rfl,e0.bare,Un.kept hk,⟨_,x.toInCall.ns,fun i y v h1 h2 h3 => ?_⟩,fun y c h=>⟨_,x.cell y c h⟩,e0.hok.fresh ↥28,fun y c h => ?_,fun p hp=>absurd (show p∈([]:List ↥11) from hp) (by simp),e0.hok.kept hk,?_⟩
 ·exact name_of_addr x.apart (PySem.mem_of_lookup h1) (PySem.mem_of_lookup h2)
 ·have hy:scope.names.lookup y=some .cell\/scope.names.lookup y=some .free:=hy
  rcases hy with hy | hy
  ·exact wa hy
  ·exact absurd rfl (S.nofree _ (PySem.mem_of_lookup hy))
 ·exact Nat.le_of_lt (x.above y c (PySem.mem_of_lookup h))
 ·have hi:i<vs.length:=by
   unfold start at h2
   by_cases hi:i<vs.length
   ·exact hi
   ·rw [List.getElem?_append_right (by simpa using hi)] at h2
    rw [List.getElem?_replicate] at h2
    split at h2<;>cases h2
  have ha:vs[i]? = some v:=by
   unfold start at h2
   rw [List.getElem?_append_left (by simpa using hi),List.getElem?_map] at h2
   cases e:vs[i]? with
   | none=>rw [e] at h2;cases h2
   | some a=>rw [e] at h2;cases h2;rfl
  obtain ⟨u,hu,rv⟩:=r.get ha
  have hp:ps[i]? = some y:=by
   rw [<- S.pre,List.getElem?_take_of_lt ⋯];exact h1
  have ndP:ps.Nodup:=by rw [<- S.pre];exact S.nd.sublist (List.take_sublist _ _)
  refine ⟨u,rv,?_⟩
  rcases S.par y (List.mem_of_getElem? hp) with k | k
  ·exact .inl ⟨k,sQ ndP hp hu k⟩
  ·obtain ⟨c,e⟩:=wa (n:=s.heap.objs.size+1) k
   refine .inr ⟨.inl k,c,e,?_⟩
   have q:=x.cell y c e
   rw [sS ndP hp hu (by show scope.names.lookup y≠_;rw [k];decide)] at q
   exact q
 ·exact e0.hok.fresh (Nat.le_of_lt (x.above y c (PySem.mem_of_lookup h)))
 ·unfold start
  show _=N.length
  rw [List.length_append,List.length_map,List.length_replicate]
  omega
theorem Lu {CX:CXT} {P:Program} {w:World} {K:PySem.W.Frag} {mg:Str->Option Value} {base:Heap} {k:Nat} {f:Addr} {name qual:Str} {params:Arguments} {body:List Stmt} {scope:Scope} {dV kV doc pm cdv ct oc:Value} {an od:Option Addr}
  {osl:Array (Option Value)} {N ps:List Str} {sp:Sp} (lk:K.lookup f=some ⟨oc,od,.func (PySem.W.fnOf name qual params body scope dV kV doc pm an cdv ct),osl⟩) (hcd:PySem.W.codeIn K cdv qual=true) (S:FnScope N ps scope)
  (len:∀ vs H Q E,sp vs H Q E->vs.length=ps.length)
  (hbody:∀ (A:Around) (outer:List Env) (s:Shared) (H:Hp) (vs:List V) (Q:VK) (E:XK),Room k (A.deeper (envOfC qual scope s.heap.objs.size f cdv))->sp vs H Q E ->
   ∃ t,PSs (AI CX P w K mg base N qual scope f cdv A outer s H E) body t/\t { nx:=fun _ H'=>Q .non H',rt:=Q } (start N vs) H) :
  FnOk P w K mg base CX (k+1) f (PySem.W.fnOf name qual params body scope dV kV doc pm an cdv ct) ps sp:=by
 refine ⟨len,fun A outer s H args us vs Q E hr e0 hb r hsp => ?_⟩
 have hl:=len _ _ _ _ hsp
 have KX:K.In s.heap:=e0.mod.kin.keeps fun b o e=>(e0.bs b o e).1
 have lim:s.heap.NoLimit:=e0.mod.nolimit.keeps fun b o e=>(e0.bs b o e).1
 have hkind:∀ y∈ps.zip us,scope.names.lookup y.1=some .local\/(scope.names.lookup y.1=some .cell/\((cellsFrom (s.heap.objs.size+1) scope.names []).lookup y.1).isSome=true):=fun ⟨n,v⟩ hy=>by
  rcases S.par n (List.of_mem_zip hy).1 with q | q
  ·exact .inl q
  ·exact .inr ⟨q,PySem.W.cellsFrom_some _ _ _ (.inl q)⟩
 refine codeAny_call_function hr.depth (KX _ _ lk) rfl S.co S.gen rfl (PySem.W.codeRec_of KX hcd) (hb _ _ _ _ ?_)
 refine wpAny_newFunctionEnv_cells S.kind hkind fun env he s1 x => ?_
 subst he
 refine ⟨lim.keeps x.toInCall.keep,codeAny_func ?_⟩
 obtain ⟨t,ht,hq⟩:=hbody A outer s H vs Q E (hr.deeper _) hsp
 have I:Inv (AI CX P w K mg base N qual scope f cdv A outer s H E) [] (start N vs) H s1:=Ad S hr.hd e0 hl r x
 refine wpAny_mono (ht [] s1 (start N vs) H _ I hq) (fun fl s' hs => ?_) fun e s' hs=>hs
 have fin:∀ {σ':St} {H':Hp} {v:V} {u:Value},Inv (AI CX P w K mg base N qual scope f cdv A outer s H E) [] σ' H' s'->RelV v u->Q v H'->CE outer P w H s Q u s' :=
  fun {σ' H' v u} J rv q=>⟨v,H',J.os,J.bare,J.base,J.hok,rv,q⟩
 cases fl with
 | ret u =>
  obtain ⟨v,σ',H',J,rv,q⟩:=hs
  exact fin J rv q
 | next =>
  obtain ⟨σ',H',J,q⟩:=hs
  exact fin (v:=V.non) (u:=Value.none) J rfl q
 | brk =>
  obtain ⟨_,_,_,q⟩:=hs
  exact False.elim q
 | cont =>
  obtain ⟨_,_,_,q⟩:=hs
  exact False.elim q
end L2
namespace L2
open PySem PySem.Spec PyProof.Rows
section
variable {X:Cx} {x:Str} {p pos:Pos} {e:Expr} {es:List Expr} {t:TA} {id T:String} {r:List V->Hp->VK->Prop}
def tCB (r:List V->Hp->VK->Prop) (t:TA):TE:=fun σ H Q=>t σ H fun vs H1=>r vs H1 Q
theorem vL (hc:gB X (.builtin id) r) (hg:Gl X x) (hm:X.mg x=none) (hv:bootBuiltins x=some (.builtin id)) (ha:PA X (e::es) t) (hn:x≠"__name__":=by decide) (hdb:(x == ("__debug__":Str))=false:=by decide)
  (he:starEach (e::es) X.env=↥34::starEach es X.env:=by rfl) (hpl:(backTo pos (starEach es X.env)).any (·.1)=false:=by rfl):PE X (.Call (.Name x p) (e::es) [] pos) (tCB r t):=by
 intro pins s σ H Q I h
 refine wpAny_Call_Name_kw (mL I hg hm hv ?_ hn hdb)
 exact PyProof.Rows.callWith_builtin1 (thn (ha pos pins s σ H _ I h) fun us s1 ⟨vs,H1,I1,r1,q1⟩=>hc pins s1 σ H1 vs us Q I1 r1 q1) he hpl
theorem rR (hc:gB X (.type T) r) (hg:Gl X x) (hm:X.mg x=none) (hv:bootBuiltins x=some (.type T)) (ha:PA X (e::es) t) (hn:x≠"__name__":=by decide) (hdb:(x == ("__debug__":Str))=false:=by decide)
  (he:starEach (e::es) X.env=↥34::starEach es X.env:=by rfl) (hpl:(backTo pos (starEach es X.env)).any (·.1)=false:=by rfl):PE X (.Call (.Name x p) (e::es) [] pos) (tCB r t):=by
 intro pins s σ H Q I h
 refine wpAny_Call_Name_kw (mL I hg hm hv ?_ hn hdb)
 exact PyProof.Rows.callWith_type1 (thn (ha pos pins s σ H _ I h) fun us s1 ⟨vs,H1,I1,r1,q1⟩=>hc pins s1 σ H1 vs us Q I1 r1 q1) he hpl
end
end L2
namespace HT
open PySem PyProof.Rows
section
open PySem.SeqAt
open PySem.AutoSeq1 (wpAny_loadPart')
open PySem.MeetsSeq PySem.MeetsSeq2 PySem.MeetsSeq3
end
section
variable {prog:Program} {w:World} {A:Around} {E:Value->Shared->Prop} {s:Shared}
theorem Ia {t b:Addr} {vs ws:List Value} {Q:Value->Shared->Prop} (ht:IsTup s.heap t vs.toArray) (hb:IsTup s.heap b ws.toArray) (hv:vs≠[])
  (h1:ws=[]->Q (.ref t) s) (h2:ws≠[]->Q (.ref s.heap.objs.size) { s with heap:=s.heap.push { cls:=.type "tuple",data:=.seq (vs++ws).toArray } })
  (hsz:vs.length+ws.length<=sizeLine):wpAny ↥16 A (binaryOp .Add (.ref t) (.ref b)) Q E s:=by
 obtain ⟨⟨cls,dd,data,sl⟩,ho,hc,n,hd⟩:=id ht
 obtain ⟨⟨cls2,dd2,data2,sl2⟩,ho2,hc2,n2,hd2⟩:=id hb
 simp only at hc hd hc2 hd2
 subst hc hd hc2 hd2
 have e:vs.toArray++ws.toArray=(vs++ws).toArray:=by simp
 by_cases hw:ws=[]
 ·exact concat_meets ⟨_,ho,rfl⟩ ⟨_,ho2,rfl⟩ noFill_tuple_add seq_tuple_add PySem.F.slot_tuple_add PySem.F.entry_tuple_add (PySem.F.args_tuple_add_2 _ _)
   (tuple_addW1 t b vs.toArray ws.toArray n n2 dd dd2 sl sl2 (by simpa using hv) (by simp [hw])) ⟨ho,ho2,h1 hw⟩
 ·refine concat_meets ⟨_,ho,rfl⟩ ⟨_,ho2,rfl⟩ noFill_tuple_add seq_tuple_add PySem.F.slot_tuple_add PySem.F.entry_tuple_add (PySem.F.args_tuple_add_2 _ _)
   (tuple_addW2 t b vs.toArray ws.toArray n n2 dd dd2 sl sl2 (by simpa using hv) (by simpa using hw) (by rw [List.size_toArray,List.size_toArray];exact hsz)) ⟨ho,ho2,?_⟩
  rw [e]
  exact h2 hw
def sIx (n d:Nat):Option Int->Nat
 | none=>d
 | some v=>if v<0 then (v+(n:Int)).toNat else min v.toNat n
theorem JW (n d:Nat) (hd:d<=n) (o:Option Int):sIx n d o<=n:=by
 cases o with
 | none=>exact hd
 | some v =>
  show (if v<0 then (v+(n:Int)).toNat else min v.toNat n)<=n
  by_cases hv:v<0
  ·rw [if_pos hv];omega
  ·rw [if_neg hv];exact Nat.min_le_right _ _
theorem AK (v:Int) (n d:Nat):(if v<0 then max (v+(n:Int)) 0 else min v (n:Int))=((sIx n d (some v):Nat):Int):=by
 show (if v<0 then max (v+(n:Int)) 0 else min v (n:Int))=(((if v<0 then (v+(n:Int)).toNat else min v.toNat n):Nat):Int)
 by_cases hv:v<0
 ·simp only [if_pos hv];omega
 ·simp only [if_neg hv];omega
theorem yd (lo hi:Option Int) (n:Nat):Builtin.Slice.sliceAdjust lo hi 1 (n:Int)=(((sIx n 0 lo:Nat):Int),((sIx n n hi:Nat):Int)):=by
 have h1:¬ ((1:Int)<0):=⋯
 unfold Builtin.Slice.sliceAdjust
 simp only [h1,if_false]
 refine Prod.ext ?_ ?_
 ·cases lo with
  | none=>rfl
  | some v=>exact AK v n 0
 ·cases hi with
  | none=>rfl
  | some v=>exact AK v n n
theorem xo (i j:Nat):Builtin.Slice.slicePlaces (i:Int) (j:Int) 1=j - i:=by
 unfold Builtin.Slice.slicePlaces
 have h1:(1:Int)>0:=⋯
 simp only [h1,if_true,Int.ediv_one]
 split<;>omega
theorem oK {v:Value} {o:Option Int} {Q:Option Int->Shared->Prop} (p:IsPart v o) (h:Q o s):wpAny ↥16 A (Builtin.Slice.slicePartIndex v) Q E s:=by
 cases p with
 | none=>exact slicePart_none h
 | int i t=>exact slicePart_int h
theorem kY {sl:Addr} {vl vu:Value} {lo hi:Option Int} {n:Nat} {Q:Int×Int×Nat->Shared->Prop} (hs:s.heap.IsSliceOf sl vl vu .none) (pl:IsPart vl lo) (pu:IsPart vu hi)
  (h:Q (((sIx n 0 lo:Nat):Int),1,sIx n n hi - sIx n 0 lo) s):wpAny ↥16 A (Builtin.Slice.sliceApplied (.ref sl) (pure (n:Int))) Q E s:=by
 obtain ⟨os,hos,hcs,hds⟩:=id hs
 unfold Builtin.Slice.sliceApplied Builtin.Slice.sliceFields
 refine wpAny_bind (wpAny_bind (wpAny_field hos hds (x:=vl) rfl (wpAny_bind (wpAny_field hos hds (x:=vu) rfl (wpAny_bind (wpAny_field hos hds (x:=.none) rfl (wpAny_pure ?_)))))))
 refine wpAny_bind (slicePart_none ?_)
 show wpAny _ _ (if ((1:Int) == 0)=true then _ else _) _ _ s
 rw [if_neg ↥0]
 refine wpAny_bind (oK pl (wpAny_bind (oK pu (wpAny_bind (wpAny_pure ?_)))))
 show wpAny _ _ (match Builtin.Slice.sliceAdjust lo hi 1 (n:Int) with | (lo,hi)=>pure (lo,(1:Int),Builtin.Slice.slicePlaces lo hi 1)) _ _ s
 rw [yd lo hi n]
 show wpAny _ _ (pure (((sIx n 0 lo:Nat):Int),(1:Int),Builtin.Slice.slicePlaces ((sIx n 0 lo:Nat):Int) ((sIx n n hi:Nat):Int) 1)) _ _ s
 rw [xo]
 exact wpAny_pure h
theorem Cz (xs:Array Value) (i k:Nat):((List.range k).filterMap fun (m:Nat)=>xs[((i:Int)+(m:Int)*1).toNat]?).toArray=((xs.toList.drop i).take k).toArray:=by
 have e:(fun (m:Nat)=>xs[((i:Int)+(m:Int)*1).toNat]?)=fun m=>xs[i+m]? := by
  funext m
  have:((i:Int)+(m:Int)*1).toNat=i+m:=⋯
  rw [this]
 rw [e]
 have:=pick_run xs i k
 rw [List.filterMap_map] at this
 have e2:((fun x=>xs[x]?) ∘ fun x=>i+x)=fun m=>xs[i+m]? := rfl
 rw [e2] at this
 rw [this]
theorem kv {t sl:Addr} {items:Array Value} {vl vu:Value} {lo hi:Option Int} {Q:Value->Shared->Prop} (ht:IsTup s.heap t items) (hs:s.heap.IsSliceOf sl vl vu .none) (pl:IsPart vl lo) (pu:IsPart vu hi)
  (hw:¬ (sIx items.size 0 lo=0/\sIx items.size items.size hi=items.size))
  (h:Q (.ref s.heap.objs.size) { s with heap:=s.heap.push { cls:=.type "tuple",data:=.seq ((items.toList.drop (sIx items.size 0 lo)).take (sIx items.size items.size hi - sIx items.size 0 lo)).toArray } })
  (hsz:items.size<=sizeLine):wpAny ↥16 A (getItem (.ref t) (.ref sl)) Q E s:=by
 have htake:sizeOk (.seq ((items.toList.drop (sIx items.size 0 lo)).take (sIx items.size items.size hi - sIx items.size 0 lo)).toArray):=by
  show ((items.toList.drop (sIx items.size 0 lo)).take (sIx items.size items.size hi - sIx items.size 0 lo)).toArray.size<=sizeLine
  rw [List.size_toArray,List.length_take,List.length_drop,Array.length_toList]
  omega
 have hj:sIx items.size items.size hi<=items.size:=JW _ _ ↥28 hi
 obtain ⟨os,hos,hcs,hds⟩:=id hs
 have hTs:s.TypeIs (.ref sl) "slice":=⟨os,hos,hcs⟩
 unfold getItem
 try with_reducible refine wpAny_holding ?_
 first | refine wpAny_bind (wpAny_pure ?_) | skip
 refine wpAny_bind (wpAny_sequenceKey ht.typeIs ↥0 ?_)
 refine wpAny_bind (wpAny_callSpecial?_slot (name:=Str.ofString "__getitem__") ht.typeIs PyProof.Rows.slot_tuple_getitem
  (wpAny_call_entry PyProof.Rows.slot_tuple_getitem ht.typeIs entry_tuple_getitem ?_ (args_tuple_getitem _ _)))
 show wpAny _ _ (Builtin.Tuple.tupleItemsOf (.ref t) >>= _) _ _ s
 refine wpAny_bind (tupleItemsOf_ ht ?_)
 refine wpAny_bind (wpAny_typeOf hTs ?_)
 rw [if_pos ↥0]
 refine wpAny_bind (kY hs pl pu ?_)
 have hno:¬ ((((sIx items.size 0 lo:Nat):Int) == 0&&(1:Int) == 1&&(sIx items.size items.size hi - sIx items.size 0 lo) == items.size)=true):=by
  intro q
  rw [Bool.and_eq_true,Bool.and_eq_true] at q
  have q1:((sIx items.size 0 lo:Nat):Int)=0:=eq_of_beq q.1.1
  have q2:sIx items.size items.size hi - sIx items.size 0 lo=items.size:=eq_of_beq q.2
  exact hw ⟨⋯,⋯⟩
 show wpAny _ _ (if (((sIx items.size 0 lo:Nat):Int) == 0&&(1:Int) == 1&&(sIx items.size items.size hi - sIx items.size 0 lo) == items.size)=true then _ else _) _ _ s
 rw [if_neg hno,Cz]
 first
  | exact wpAny_bind (m:=Builtin.Tuple.tupleExact _) (wpAny_newObj_type (wpAny_pure ⟨_,rfl,wpAny_pure h⟩) htake)
  | exact wpAny_bind (m:=Builtin.Tuple.tupleExact _) (wpAny_newObj_type (wpAny_bind (wpAny_pure (wpAny_pure ⟨_,rfl,wpAny_pure h⟩))) htake)
  | exact wpAny_bind (wpAny_bind (m:=Builtin.Tuple.tupleExact _) (wpAny_newObj_type (wpAny_pure (wpAny_pure ⟨_,rfl,wpAny_pure h⟩)) htake))
  | exact wpAny_bind (wpAny_bind (m:=Builtin.Tuple.tupleExact _) (wpAny_newObj_type (wpAny_pure ⟨_,rfl,wpAny_pure h⟩) htake))
end
end HT
namespace L2
open PySem PySem.Spec PyProof.Rows
abbrev TO:=St->Hp->(Option Int->Hp->Prop)->Prop
def PO (X:Cx) (e:Option Expr) (t:TO):Prop :=
 ∀ (pins:List ↥11) (s:Shared) (σ:St) (H:Hp) (Q:Option Int->Hp->Prop),Inv X pins σ H s->t σ H Q ->
  wpAny ↥4 X.A (evalPart e X.env) (fun u s'=>∃ o H',Inv X pins σ H' s'/\IsPart u o/\Q o H') X.xe s
def Gd:TO:=fun _ H Q=>Q none H
def MN (t:TE):TO:=fun σ H Q=>t σ H fun x H1=>∃ i,x=.int i/\Q (some i) H1
section
variable {X:Cx} {e:Expr} {te:TE} {lo hi:Option Expr} {tl th:TO} {pos p2:Pos}
theorem GO:PO X none Gd:=by
 intro pins s σ H Q I h
 rw [evalPart_none]
 exact wpAny_pure ⟨none,H,I,.none,h⟩
theorem GN (h:PE X e te):PO X (some e) (MN te):=by
 intro pins s σ H Q I hw
 rw [evalPart_some]
 refine thn (h pins s σ H _ I hw) fun u s1 ⟨x,H1,I1,r1,q1⟩ => ?_
 obtain ⟨i,rfl,q⟩:=q1
 obtain ⟨t,rfl⟩:=r1
 exact ⟨some i,H1,I1,.int i t,q⟩
def SlR (X:Cx) (r:V->Option Int->Option Int->Hp->VK->Prop):Prop :=
 ∀ (pins:List ↥11) (s:Shared) (σ:St) (H:Hp) (x:V) (v vl vu:Value) (lo hi:Option Int) (sl:Addr) (Q:VK),Inv X pins σ H s->RelV x v->s.heap.IsSliceOf sl vl vu .none->IsPart vl lo->IsPart vu hi->r x lo hi H Q ->
  ∃ T id,typeLookup (.type T) "__getitem__"=pure (some (.builtin id))/\s.TypeIs v T/\wpAny ↥4 X.A (getItem v (.ref sl)) (EP X pins σ Q) X.xe s
def tSl (r:V->Option Int->Option Int->Hp->VK->Prop) (te:TE) (tl th:TO):TE:=fun σ H Q=>te σ H fun x H1=>tl σ H1 fun l H2=>th σ H2 fun u H3=>r x l u H3 Q
theorem CA {r:V->Option Int->Option Int->Hp->VK->Prop} (hr:SlR X r) (he:PE X e te) (hl:PO X lo tl) (hu:PO X hi th):PE X (.Subscript e (.Slice lo hi none p2) pos) (tSl r te tl th):=by
 intro pins s σ H Q I h
 refine Subscript_ (thn (he pins s σ H _ I h) fun v s1 ⟨x,H1,I1,r1,q1⟩ => ?_)
 refine wpAny_Slice (thn (hl pins s1 σ H1 _ I1 q1) fun vl s2 ⟨l,H2,I2,pl,q2⟩=>thn (hu pins s2 σ H2 _ I2 q2) fun vu s3 ⟨u,H3,I3,pu,q3⟩ => ?_)
 rw [evalPart_none]
 refine wpAny_pure ?_
 have I4:Inv X pins σ H3 { s3 with heap:=s3.heap.push { cls:=.type "slice",data:=.fields #[vl,vu,.none] } }:=I3.kept (t':=s3.toks) fun b ob q=>Heap.get?_push_of_some _ q
 obtain ⟨T,id,hT,ht,hg⟩:=hr pins { s3 with heap:=s3.heap.push { cls:=.type "slice",data:=.fields #[vl,vu,.none] } } σ H3 x v vl vu l u s3.heap.objs.size Q I4 r1 (Heap.IsSliceOf.new ..) pl pu q3
 show wpAny ↥4 X.A (subscriptTail e (.Slice lo hi none p2) v (.ref s3.heap.objs.size)) (EP X pins σ Q) X.xe { s3 with heap:=s3.heap.push { cls:=.type "slice",data:=.fields #[vl,vu,.none] } }
 exact tail_any (ops:=[.ref s3.heap.objs.size,v]) ht hT hg (by with_unfolding_all rfl)
def ER (xs:List V) (lo hi:Option Int):List V:=(xs.drop (HT.sIx xs.length 0 lo)).take (HT.sIx xs.length xs.length hi - HT.sIx xs.length 0 lo)
theorem m7 (xs:List V) (lo hi:Option Int):(ER xs lo hi).length<=xs.length:=by
 unfold ER
 rw [List.length_take,List.length_drop]
 omega
def Tp (K:PySem.W.Frag):V->Option Int->Option Int->Hp->VK->Prop:=fun x lo hi H Q=>∃ a xs,x=.ref a/\SqT K H a xs /\
 ¬ (HT.sIx xs.length 0 lo=0/\HT.sIx xs.length xs.length hi=xs.length)/\∀ p,H p=none->Q (.ref p) (upd H p (.tup (ER xs lo hi)))
theorem JO:SlR X (Tp X.K):=by
 intro pins s σ H x v vl vu lo hi sl Q I rx hs pl pu h
 obtain ⟨a,xs,rfl,hx,hw,q⟩:=h
 cases rx
 obtain ⟨its,r,ht,hz⟩:=I.tuple hx
 have hlen:its.toArray.size=xs.length:=by rw [List.size_toArray];exact r.length.symm
 refine ⟨"tuple",_,PyProof.Rows.slot_tuple_getitem.lookup,ht.typeIs,?_⟩
 refine HT.kv ht hs pl pu (by rw [hlen];exact hw) ?_ (by rw [hlen];exact hz)
 rw [hlen]
 refine ⟨.ref s.heap.objs.size,_,I.laid (t':=s.toks) (o:=.tup (ER xs lo hi)) (fun b ob q=>Heap.get?_push_of_some _ q) ↥28 ?_,rfl,q _ (I.hok.fresh ↥28)⟩
 exact ⟨Nat.le_trans (m7 xs lo hi) hz,_,(r.drop (HT.sIx xs.length 0 lo)).take (HT.sIx xs.length xs.length hi - HT.sIx xs.length 0 lo),IsTup.new _ _⟩
def M0 (K:PySem.W.Frag):R2:=fun x y H Q=>∃ a b xs ys,x=.ref a/\y=.ref b/\SqT K H a xs/\SqT K H b ys/\xs≠[]/\xs.length+ys.length<=sizeLine /\
 (ys=[]->Q (.ref a) H)/\(ys≠[]->∀ p,H p=none->Q (.ref p) (upd H p (.tup (xs++ys))))
theorem Vals.nil_iff {xs:List V} {us:List Value} (r:Vals xs us):us=[]↔xs=[]:=by
 cases r with
 | nil=>simp
 | cons _ _=>simp
theorem G2:OpR X (binaryOp .Add) (M0 X.K):=by
 intro pins s σ H x y v u Q I rx ry h
 obtain ⟨a,b,xs,ys,rfl,rfl,ha,hb,hx,hz,q1,q2⟩:=h
 cases rx
 cases ry
 obtain ⟨its,r1,p1,_⟩:=I.tuple ha
 obtain ⟨its2,r2,p2,_⟩:=I.tuple hb
 refine HT.Ia p1 p2 (fun z=>hx (r1.nil_iff.mp z)) (fun z=>⟨.ref a,H,I,rfl,q1 (r2.nil_iff.mp z)⟩) (fun z => ?_) (by rw [<- r1.length,<-r2.length];exact hz)
 refine ⟨.ref s.heap.objs.size,_,I.laid (t':=s.toks) (o:=.tup (xs++ys)) (fun b ob q=>Heap.get?_push_of_some _ q) ↥28 ?_,rfl,q2 (fun w=>z (r2.nil_iff.mpr w)) _ (I.hok.fresh ↥28)⟩
 exact ⟨by rw [List.length_append];exact hz,_,r1.append r2,IsTup.new _ _⟩
end
end L2
namespace L2
open PySem PySem.Spec PyProof.Rows
def ixN (n:Nat) (i:Int):Option Nat:=if 0<=i then (if i<n then some i.toNat else none) else if -(n:Int)<=i then some (i+n).toNat else none
def atI {α:Type} (xs:List α) (i:Int):Option α:=(ixN xs.length i).bind fun j=>xs[j]?
theorem Ab {n:Nat} {i:Int} {j:Nat} (h:ixN n i=some j):seqIndex? i n=some j/\j<n /\ -(n:Int)<=i/\i<n:=by
 unfold ixN at h
 by_cases h0:0<=i
 ·rw [if_pos h0] at h
  by_cases h1:i<n
  ·rw [if_pos h1] at h
   have e:i.toNat=j:=Option.some.inj h
   exact ⟨by rw [seqIndex_of h0 h1,e],⋯,⋯,h1⟩
  ·rw [if_neg h1] at h;cases h
 ·rw [if_neg h0] at h
  by_cases h1 : -(n:Int)<=i
  ·rw [if_pos h1] at h
   have e:(i+n).toNat=j:=Option.some.inj h
   exact ⟨by rw [seqIndex_neg ⋯ h1,e],⋯,h1,⋯⟩
  ·rw [if_neg h1] at h;cases h
theorem vj {α:Type} {xs:List α} {i:Int} {v:α} (h:atI xs i=some v):∃ j,seqIndex? i xs.length=some j/\xs[j]? = some v/\j<xs.length /\ -(xs.length:Int)<=i/\i<xs.length:=by
 unfold atI at h
 cases e:ixN xs.length i with
 | none=>rw [e] at h;cases h
 | some j =>
  rw [e] at h
  obtain ⟨h1,h2,h3,h4⟩:=Ab e
  exact ⟨j,h1,h,h2,h3,h4⟩
def Bf (b:Expr):Prop:=∀ o i,subscripted b false o i=operate [o,i] (getItem o i)
def IxR (X:Cx) (r:R2):Prop :=
 ∀ (value slice:Expr) (pins:List ↥11) (s:Shared) (σ:St) (H:Hp) (x y:V) (v u:Value) (Q:VK),Inv X pins σ H s->RelV x v->RelV y u->r x y H Q ->
  subscripted slice false v u=operate [v,u] (getItem v u)->wpAny ↥4 X.A (subscriptTail value slice v u) (EP X pins σ Q) X.xe s
def MtR (X:Cx) (id:String) (r:V->List V->Hp->VK->Prop):Prop :=
 ∀ (pins:List ↥11) (s:Shared) (σ:St) (H:Hp) (x:V) (xs:List V) (v:Value) (us:List Value) (Q:VK),Inv X pins σ H s->RelV x v->Vals xs us->r x xs H Q ->
  wpAny ↥4 X.A (call (.builtin id) (v::us)) (EP X pins σ Q) X.xe s
section
variable {X:Cx} {a b:Expr} {ta tb:TE} {pos:Pos}
theorem Na {r:R2} (hr:IxR X r) (ha:PE X a ta) (hb:PE X b tb) (hs:Bf b):PE X (.Subscript a b pos) (tOp r ta tb):=by
 intro pins s σ H Q I h
 exact Subscript_ (NY ha hb I h fun v u s2 x y H2 I2 rx ry q=>hr a b pins s2 σ H2 x y v u Q I2 rx ry q (hs _ _))
def Tt (K:PySem.W.Frag):R2:=fun x y H Q=>∃ p xs i v,x=.ref p/\y=.int i/\SqL K H p xs/\atI xs i=some v/\Q v H
def Tr (K:PySem.W.Frag):R2:=fun x y H Q=>∃ p xs i v,x=.ref p/\y=.int i/\SqT K H p xs/\atI xs i=some v/\Q v H
def Ts:R2:=fun x y H Q=>∃ z i c,x=.str z/\y=.int i/\z.length<=sizeLine/\atI z.cps.toList i=some c/\Q (.str ⟨#[c]⟩) H
theorem HB:IxR X (Tt X.K):=by
 intro value slice pins s σ H x y v u Q I rx ry h hs
 obtain ⟨p,xs,i,z,rfl,rfl,hq,he,q⟩:=h
 cases rx
 obtain ⟨t,rfl⟩:=ry
 obtain ⟨its,r,pl,hz⟩:=I.list hq
 obtain ⟨j,h1,h2,h3,h4,h5⟩:=vj he
 obtain ⟨w,ew,rw'⟩:=r.get h2
 have hl:=r.length
 have hn:=oR
 have fin:EP X pins σ Q w s:=⟨z,H,I,rw',q⟩
 by_cases h0:0<=i
 ·have hj:i.toNat=j:=by
   rw [seqIndex_of h0 h5] at h1
   exact Option.some.inj h1
  exact item_listR pl.isList h0 ⋯ (by rw [hj];simpa using ew) fin hs
 ·have hj:(i+(its.toArray.size:Int)).toNat=j:=by
   rw [seqIndex_neg ⋯ h4] at h1
   rw [List.size_toArray,<-hl]
   exact Option.some.inj h1
  exact subscriptTail_builtinR (x:=w) pl.isList.typeIs slot_list_getitem.lookup
   (wpAny_getItem_list_neg (Q:=fun r s'=>r=w/\EP X pins σ Q r s') pl.isList ⋯ (by rw [List.size_toArray]<;>omega) ⋯ (by rw [hj];simpa using ew) ⟨rfl,fin⟩) hs
theorem oS:IxR X (Tr X.K):=by
 intro value slice pins s σ H x y v u Q I rx ry h hs
 obtain ⟨p,xs,i,z,rfl,rfl,hq,he,q⟩:=h
 cases rx
 obtain ⟨t,rfl⟩:=ry
 obtain ⟨its,r,pl,hz⟩:=I.tuple hq
 obtain ⟨j,h1,h2,h3,h4,h5⟩:=vj he
 obtain ⟨w,ew,rw'⟩:=r.get h2
 have hl:=r.length
 have hn:=oR
 have fin:EP X pins σ Q w s:=⟨z,H,I,rw',q⟩
 exact subscriptTail_builtinR (x:=w) pl.typeIs slot_tuple_getitem.lookup
  (getItem_tuple (j:=j) (Q:=fun r s'=>r=w/\EP X pins σ Q r s') pl ⋯ ⋯ (by rw [List.size_toArray,<-hl];exact h1) (by simpa using ew) ⟨rfl,fin⟩) hs
theorem Ld:IxR X Ts:=by
 intro value slice pins s σ H x y v u Q I rx ry h hs
 obtain ⟨z,i,c,rfl,rfl,hz,he,q⟩:=h
 obtain ⟨t,rfl⟩:=rx
 obtain ⟨t',rfl⟩:=ry
 obtain ⟨j,h1,h2,h3,h4,h5⟩:=vj he
 have hl:z.cps.toList.length=z.length:=by simp [Str.length]
 rw [hl] at h1 h4 h5
 have hn:=oR
 exact tail_any (typeIs_str s z t) slot_str_getitem.lookup (getItem_str (c:=c) (by
  have e1:decide (i < -(2^63:Int))=false:=decide_eq_false ⋯
  have e2:decide (i>=2^63)=false:=decide_eq_false ⋯
  rw [e1,e2,Bool.or_false]) (by rw [h1];simpa using h2) ⟨.str ⟨#[c]⟩,H,I.tok _,⟨_,rfl⟩,q⟩) hs
theorem xB (its:List Value) (n j:Nat) (u:Value):Obj.mapSeq (·.setIfInBounds j u) { cls:=.type "list",data:=.seq its.toArray n }={ cls:=.type "list",data:=.seq (its.set j u).toArray n }:=by
 simp [Obj.mapSeq]
theorem Inv.lst {pins:List ↥11} {σ:St} {H:Hp} {s:Shared} {p:Addr} {xs:List V} (I:Inv X pins σ H s) (h:H p=some (.lst xs)) :
  ∃ (its:List Value) (n:Nat),Vals xs its/\s.heap.get? p=some { cls:=.type "list",data:=.seq its.toArray n }/\xs.length<=sizeLine:=by
 obtain ⟨z,its,n,r,e⟩:=I.hok p _ h
 exact ⟨its,n,r,e,z⟩
theorem Inv.lstUpd {pins:List ↥11} {σ:St} {H:Hp} {s:Shared} {p:Addr} {xs ys:List V} {its its':List Value} {n n':Nat} {f:Obj->Obj} (I:Inv X pins σ H s) (h:H p=some (.lst xs))
  (ho:s.heap.get? p=some { cls:=.type "list",data:=.seq its.toArray n }) (hf:f { cls:=.type "list",data:=.seq its.toArray n }={ cls:=.type "list",data:=.seq its'.toArray n' }) (r:Vals ys its') (hz:ys.length<=sizeLine) (t:Nat) :
  Inv X pins σ (upd H p (.lst ys)) { s with heap:=s.heap.update p f,toks:=t }:=by
 have e:(s.heap.update p f).get? p=some { cls:=.type "list",data:=.seq its'.toArray n' }:=by
  rw [Heap.get?_update_self f ho (by rw [hf]<;>rfl),hf]
 refine I.write (x:=p) (e:=p) (by rw [h];trivial) (.inl rfl) (fun b u hb q=>(Heap.get?_update_other _ _ (Ne.symm hb)).trans q) ⟨_,e⟩ ?_
 exact ⟨hz,its',n',r,e⟩
def MY:V->V->V->Hp->(Hp->Prop)->Prop:=fun o i v H Q=>∃ p xs k j,o=.ref p/\i=.int k/\H p=some (.lst xs)/\ixN xs.length k=some j/\Q (upd H p (.lst (xs.set j v)))
theorem set_list:SD X MY:=by
 intro pins s σ H o i v ov iv u Q I ro ri rv h
 obtain ⟨p,xs,k,j,rfl,rfl,hp,hj,q⟩:=h
 cases ro
 obtain ⟨t,rfl⟩:=ri
 obtain ⟨its,n,r,ho,hz⟩:=I.lst hp
 obtain ⟨h1,h2,h3,h4⟩:=Ab hj
 have hl:=r.length
 have hn:=oR
 have I':Inv X pins σ (upd H p (.lst (xs.set j v))) { s with heap:=s.heap.update p (Obj.mapSeq (·.setIfInBounds j u)) } :=
  I.lstUpd hp ho (xB its n j u) (r.set rv j) (by rw [List.length_set];exact hz) s.toks
 by_cases h0:0<=k
 ·have hk:k.toNat=j:=by
   rw [seqIndex_of h0 h4] at h1
   exact Option.some.inj h1
  exact PySem.W.ki_setAt ho h0 ⋯ (by rw [List.size_toArray,<-hl];exact h4) (by rw [hk];exact ⟨_,I',q⟩)
 ·have hk:(k+(its.toArray.size:Int)).toNat=j:=by
   rw [seqIndex_neg ⋯ h3] at h1
   rw [List.size_toArray,<-hl]
   exact Option.some.inj h1
  exact PySem.W.ki_setBack ho ⋯ (by rw [List.size_toArray,<-hl];exact h3) ⋯ (by rw [hk];exact ⟨_,I',q⟩)
theorem rn (lo hi:Option Int) (n:Nat):(sliceBounds lo hi none n).1=((HT.sIx n 0 lo:Nat):Int)/\(sliceBounds lo hi none n).2.1=((HT.sIx n n hi:Nat):Int)/\(sliceBounds lo hi none n).2.2=1:=by
 refine ⟨?_,?_,rfl⟩
 ·cases lo with
  | none=>simp [sliceBounds,HT.sIx]
  | some i =>
   simp only [sliceBounds,HT.sIx,Option.getD_none,show (1:Int)>0 by decide,if_true]
   by_cases h:i<0
   ·simp only [h,if_true]<;>omega
   ·simp only [h,if_false]<;>omega
 ·cases hi with
  | none=>simp [sliceBounds,HT.sIx]
  | some i =>
   simp only [sliceBounds,HT.sIx,Option.getD_none,show (1:Int)>0 by decide,if_true]
   by_cases h:i<0
   ·simp only [h,if_true]<;>omega
   ·simp only [h,if_false]<;>omega
theorem pW (its:List Value) (lo hi:Option Int):slicePick its.toArray lo hi none=((its.drop (HT.sIx its.length 0 lo)).take (HT.sIx its.length its.length hi - HT.sIx its.length 0 lo)).toArray:=by
 obtain ⟨h1,h2,h3⟩:=rn lo hi its.toArray.size
 unfold slicePick
 rw [h1,h2,h3]
 simp only [sliceRange_one,pick_run,List.size_toArray]<;>rfl
def Tq (K:PySem.W.Frag):V->Option Int->Option Int->Hp->VK->Prop:=fun x lo hi H Q=>∃ a xs,x=.ref a/\SqL K H a xs/\∀ p,H p=none->Q (.ref p) (upd H p (.lst (ER xs lo hi)))
theorem Gq:SlR X (Tq X.K):=by
 intro pins s σ H x v vl vu lo hi sl Q I rx hs pl pu h
 obtain ⟨a,xs,rfl,hx,q⟩:=h
 cases rx
 obtain ⟨its,r,ht,hz⟩:=I.list hx
 have hlen:=r.length
 refine ⟨"list",_,slot_list_getitem.lookup,ht.isList.typeIs,?_⟩
 refine wpAny_getItem_list_slice ht.isList hs pl pu .none (by simp) ?_ (by rw [List.size_toArray]<;>omega)
 rw [pW,<-hlen]
 refine ⟨.ref s.heap.objs.size,_,I.laid (t':=s.toks) (o:=.lst (ER xs lo hi)) (fun b ob q=>Heap.get?_push_of_some _ q) ↥28 ?_,rfl,q _ (I.hok.fresh ↥28)⟩
 exact ⟨Nat.le_trans (m7 xs lo hi) hz,_,0,(r.drop (HT.sIx xs.length 0 lo)).take (HT.sIx xs.length xs.length hi - HT.sIx xs.length 0 lo),Heap.get?_push_size _ rfl⟩
def oz:V->Bool
 | .non=>true
 | .bl _=>true
 | .int _=>true
 | .str _=>true
 | _=>false
def eqV:V->V->Bool
 | .non,.non=>true
 | .bl a,.bl b=>a == b
 | .bl a,.int b=>(if a then 1 else 0) == b
 | .int a,.bl b=>a == (if b then 1 else 0)
 | .int a,.int b=>a == b
 | .str a,.str b=>a == b
 | _,_=>false
theorem Lz {A:Around} {s:Shared} {y x:V} {u v:Value} (ry:RelV y u) (rx:RelV x v) (fy:oz y=true) (fx:oz x=true):SeqAt.EqAt A s u v (eqV y x):=by
 cases y with
 | non =>
  cases ry
  cases x with
  | non=>cases rx;exact SeqAt.EqAt.same _
  | bl b=>cases rx;exact SeqAt.EqAt.none_bool b
  | int b=>obtain ⟨t,rfl⟩:=rx;exact SeqAt.EqAt.none_int b t
  | str b=>obtain ⟨t,rfl⟩:=rx;exact SeqAt.EqAt.none_str b t
  | _=>exact absurd (show false=true from fx) Bool.false_ne_true
 | bl a =>
  cases ry
  cases x with
  | non=>cases rx;exact SeqAt.EqAt.bool_none a
  | bl b=>cases rx;exact SeqAt.EqAt.bool_bool a b
  | int b=>obtain ⟨t,rfl⟩:=rx;exact SeqAt.EqAt.bool_int a b t
  | str b=>obtain ⟨t,rfl⟩:=rx;exact SeqAt.EqAt.bool_str a b t
  | _=>exact absurd (show false=true from fx) Bool.false_ne_true
 | int a =>
  obtain ⟨t',rfl⟩:=ry
  cases x with
  | non=>cases rx;exact SeqAt.EqAt.int_none a t'
  | bl b=>cases rx;exact SeqAt.EqAt.int_bool a t' b
  | int b=>obtain ⟨t,rfl⟩:=rx;exact SeqAt.EqAt.int_int a t' b t
  | str b=>obtain ⟨t,rfl⟩:=rx;exact SeqAt.EqAt.int_str a t' b t
  | _=>exact absurd (show false=true from fx) Bool.false_ne_true
 | str a =>
  obtain ⟨t',rfl⟩:=ry
  cases x with
  | non=>cases rx;exact SeqAt.EqAt.str_none a t'
  | bl b=>cases rx;exact SeqAt.EqAt.str_bool a t' b
  | int b=>obtain ⟨t,rfl⟩:=rx;exact SeqAt.EqAt.str_int a t' b t
  | str b=>obtain ⟨t,rfl⟩:=rx;exact SeqAt.EqAt.str_str a t' b t
  | _=>exact absurd (show false=true from fx) Bool.false_ne_true
 | _=>exact absurd (show false=true from fy) Bool.false_ne_true
def eqU (x:V) (u:Value):Bool:=match u with
 | .none=>eqV .non x
 | .bool b=>eqV (.bl b) x
 | .int i _=>eqV (.int i) x
 | .str z _=>eqV (.str z) x
 | _=>false
theorem EM {x y:V} {u:Value} (r:RelV y u) (f:oz y=true):eqU x u=eqV y x:=by
 cases y with
 | non=>cases r;rfl
 | bl b=>cases r;rfl
 | int i=>obtain ⟨t,rfl⟩:=r;rfl
 | str z=>obtain ⟨t,rfl⟩:=r;rfl
 | _=>exact absurd (show false=true from f) Bool.false_ne_true
theorem nE {x:V}:∀ {xs:List V} {us:List Value},Vals xs us->xs.all oz=true->us.any (eqU x)=xs.any fun y=>eqV y x
 | _,_,.nil,_=>rfl
 | y::xs,u::us,.cons r t,f=>by
  rw [List.all_cons,Bool.and_eq_true] at f
  rw [List.any_cons,List.any_cons,EM r f.1,nE t f.2]
theorem jv {A:Around} {s:Shared} {x:V} {v:Value} (rx:RelV x v) (fx:oz x=true):∀ {xs:List V} {us:List Value},Vals xs us->xs.all oz=true->∀ u∈us,SeqAt.EqAt A s u v (eqU x u)
 | _,_,.nil,_=>fun u hu=>by cases hu
 | y::xs,u::us,.cons r t,f=>fun u' hu=>by
  rw [List.all_cons,Bool.and_eq_true] at f
  rcases List.mem_cons.mp hu with rfl | hu
  ·rw [EM r f.1];exact Lz r rx f.1 fx
  ·exact jv rx fx t f.2 u' hu
def inV (x:V) (xs:List V):Bool:=xs.any fun y=>eqV y x
def rIn (K:PySem.W.Frag) (neg:Bool):R2:=fun x y H Q=>∃ p xs,y=.ref p/\(SqL K H p xs\/SqT K H p xs)/\oz x=true/\xs.all oz=true/\Q (.bl (if neg then !inV x xs else inV x xs)) H
theorem zm:OpR X (compareOp .In) (rIn X.K false):=by
 intro pins s σ H x y v u Q I rx ry h
 obtain ⟨p,xs,rfl,hq,fx,fs,q⟩:=h
 cases ry
 rcases hq with hq | hq
 ·obtain ⟨its,r,pl,hz⟩:=I.list hq
  refine SeqAt.in_listAt (eqU x) pl.isList (fun w hw=>jv rx fx r fs w (by simpa using hw)) ⟨.bl _,H,I,rfl,?_⟩
  rw [show its.toArray.any (eqU x)=its.any (eqU x) by simp,nE r fs]
  exact q
 ·obtain ⟨its,r,pl,hz⟩:=I.tuple hq
  refine SeqAt.in_tupleAt (eqU x) pl (fun w hw=>jv rx fx r fs w (by simpa using hw)) ⟨.bl _,H,I,rfl,?_⟩
  rw [show its.toArray.any (eqU x)=its.any (eqU x) by simp,nE r fs]
  exact q
theorem rY:OpR X (compareOp .NotIn) (rIn X.K true):=by
 intro pins s σ H x y v u Q I rx ry h
 obtain ⟨p,xs,rfl,hq,fx,fs,q⟩:=h
 cases ry
 rcases hq with hq | hq
 ·obtain ⟨its,r,pl,hz⟩:=I.list hq
  refine SeqAt.notIn_listAt (eqU x) pl.isList (fun w hw=>jv rx fx r fs w (by simpa using hw)) ⟨.bl _,H,I,rfl,?_⟩
  rw [show its.toArray.any (eqU x)=its.any (eqU x) by simp,nE r fs]
  exact q
 ·obtain ⟨its,r,pl,hz⟩:=I.tuple hq
  refine SeqAt.notIn_tupleAt (eqU x) pl (fun w hw=>jv rx fx r fs w (by simpa using hw)) ⟨.bl _,H,I,rfl,?_⟩
  rw [show its.toArray.any (eqU x)=its.any (eqU x) by simp,nE r fs]
  exact q
theorem rX:OpR X (compareOp .NotIn) (fun x y H Q=>∃ i j,x=.str i/\y=.str j/\Q (.bl (!(!(Builtin.Str.occurrences j i 0 j.length 1).isEmpty))) H):=by
 intro pins s σ H x y v u Q I rx ry h
 obtain ⟨i,j,rfl,rfl,q⟩:=h
 obtain ⟨t,rfl⟩:=rx
 obtain ⟨t',rfl⟩:=ry
 exact notIn_str ⟨.bl _,H,I,rfl,q⟩
theorem kH:gB X (.builtin "len") (fun xs H Q=>∃ p ys,xs=[.ref p]/\(SqL X.K H p ys\/SqT X.K H p ys)/\Q (.int ys.length) H):=by
 intro pins s σ H xs us Q I r h
 obtain ⟨p,ys,rfl,hq,q⟩:=h
 obtain ⟨u,rfl,rx⟩:=vals1 r
 cases rx
 have hn:=oR
 rcases hq with hq | hq
 ·obtain ⟨its,r',pl,hz⟩:=I.list hq
  have hlen:=r'.length
  exact Calls.call_len_list pl.isList (by simp only [List.size_toArray]<;>omega) ⟨.int ys.length,H,I.tok _,⟨s.toks+1,by rw [List.size_toArray,hlen]⟩,q⟩
 ·obtain ⟨its,r',pl,hz⟩:=I.tuple hq
  have hlen:=r'.length
  exact len_tuple pl (by simp only [List.size_toArray]<;>omega) ⟨.int ys.length,H,I.tok _,⟨s.toks+1,by rw [List.size_toArray,hlen]⟩,q⟩
theorem sM:gB X (.builtin "len") (fun xs H Q=>∃ z,xs=[.str z]/\z.length<=sizeLine/\Q (.int z.length) H):=by
 intro pins s σ H xs us Q I r h
 obtain ⟨z,rfl,hz,q⟩:=h
 obtain ⟨u,rfl,t,rfl⟩:=vals1 r
 have hn:=oR
 exact len_str ⋯ ⟨.int z.length,H,I.tok _,⟨_,rfl⟩,q⟩
theorem gU:gB X (.type "list") (fun xs H Q=>∃ p ys,xs=[.ref p]/\(SqL X.K H p ys\/SqT X.K H p ys)/\∀ l,H l=none->Q (.ref l) (upd H l (.lst ys))):=by
 intro pins s σ H xs us Q I r h
 obtain ⟨p,ys,rfl,hq,q⟩:=h
 obtain ⟨u,rfl,rx⟩:=vals1 r
 cases rx
 have fin:∀ (its:List Value),Vals ys its->ys.length<=sizeLine->∀ (h':Heap) (c':Nat),(∀ b o',s.heap.get? b=some o'->h'.get? b=some o') ->
   h'.get? s.heap.objs.size=some { cls:=.type "list",dict:=none,data:=.seq its.toArray c',slots := #[] }->EP X pins σ Q (.ref s.heap.objs.size) { s with heap:=h' }:=fun its r' hz h' c' kp e =>
  ⟨.ref s.heap.objs.size,_,I.laid (t':=s.toks) kp ↥28 (show iE X.prog X.w _ h' _ (.lst ys) from ⟨hz,its,c',r',e⟩),rfl,q _ (I.hok.fresh ↥28)⟩
 rcases hq with hq | hq
 ·obtain ⟨its,r',pl,hz⟩:=I.list hq
  have hlen:=r'.length
  obtain ⟨o,ho,hc,n,hd⟩:=pl.isList
  exact call_list_seq p (.inl rfl) ho hc hd (fun h' c' kp e=>fin its r' hz h' c' kp e) (by simp only [List.size_toArray]<;>omega)
 ·obtain ⟨its,r',pl,hz⟩:=I.tuple hq
  have hlen:=r'.length
  obtain ⟨o,ho,hc,n,hd⟩:=pl
  exact call_list_seq p (.inr rfl) ho hc hd (fun h' c' kp e=>fin its r' hz h' c' kp e) (by simp only [List.size_toArray]<;>omega)
def tyV (K:PySem.W.Frag) (T:String) (x:V) (H:Hp):Prop:=match x with
 | .str _=>T="str"
 | .int _=>T="int"
 | .ref p=>(T="list"/\∃ xs,SqL K H p xs)\/(T="tuple"/\∃ o,K.lookup p=some o/\o.cls=.type "tuple"/\o.dict=none) \/
   (T="dict"/\((∃ kvs,H p=some (.dK kvs))\/∃ kvs,H p=some (.dT kvs)))\/(T="set"/\∃ S n,H p=some (.set S n))
 | _=>False
theorem Ee {pins:List ↥11} {σ:St} {H:Hp} {s:Shared} {T:String} {x:V} {v:Value} (I:Inv X pins σ H s) (r:RelV x v) (ty:tyV X.K T x H) :
  s.TypeIs v T/\∀ a,v=.ref a->∃ ob,s.heap.get? a=some ob/\ob.dict=none:=by
 cases x with
 | str z =>
  obtain ⟨t,rfl⟩:=r
  cases (show T="str" from ty)
  exact ⟨typeIs_str s z t,fun _ e=>nomatch e⟩
 | int i =>
  obtain ⟨t,rfl⟩:=r
  cases (show T="int" from ty)
  exact ⟨typeIs_int s i t,fun _ e=>nomatch e⟩
 | ref p =>
  cases r
  rcases ty with ⟨rfl,xs,hq⟩ | ⟨rfl,o,hk,hc,hd⟩ | ⟨rfl,hk⟩ | ⟨rfl,S,n,hk⟩
  ·obtain ⟨its,_,pl,_⟩:=I.list hq
   refine ⟨pl.isList.typeIs,fun a e => ?_⟩
   cases e
   obtain ⟨o,n,e,c,hd,_⟩:=pl
   exact ⟨o,e,hd⟩
  ·refine ⟨⟨o,I.kIn p o hk,hc⟩,fun a e => ?_⟩
   cases e
   exact ⟨o,I.kIn _ o hk,hd⟩
  ·have z:∃ o,s.heap.get? p=some o/\o.ExactDict:=by
    rcases hk with ⟨kvs,hk⟩ | ⟨kvs,hk⟩
    ·obtain ⟨_,_,_,_,o,_,_,e,ex,_⟩:=I.hok p _ hk
     exact ⟨o,e,ex⟩
    ·obtain ⟨_,_,_,_,o,_,_,e,ex,_⟩:=I.hok p _ hk
     exact ⟨o,e,ex⟩
   obtain ⟨o,e,ex⟩:=z
   refine ⟨⟨o,e,ex.1⟩,fun a e2 => ?_⟩
   cases e2
   exact ⟨o,e,ex.2.1⟩
  ·obtain ⟨o,_,_,_,e,ex,_⟩:=I.hok p _ hk
   refine ⟨⟨o,e,ex.1⟩,fun a e2 => ?_⟩
   cases e2
   exact ⟨o,e,ex.2.1⟩
 | _=>exact False.elim ty
def Tg (K:PySem.W.Frag) (T:String) (r:V->List V->Hp->VK->Prop) (to:TE):TE:=fun σ H Q=>to σ H fun x H1=>tyV K T x H1/\r x [] H1 Q
def tBM (K:PySem.W.Frag) (T:String) (r:V->List V->Hp->VK->Prop) (to:TE) (t:TA):TE:=fun σ H Q=>to σ H fun x H1=>tyV K T x H1/\t σ H1 fun xs H2=>r x xs H2 Q
variable {o e:Expr} {es:List Expr} {to:TE} {t:TA} {name:Str} {apos cpos:Pos} {T id:String} {r:V->List V->Hp->VK->Prop}
theorem Ks (pa:PlainAttrs T) (slot:Slot T name id) (hty:typeOf (.builtin id)=pure (.type "method_descriptor")) (hm:MtR X id r) (ho:PE X o to)
  (hbase:attributeBase o name X.env (eval o X.env)=eval o X.env:=by rfl) (hline:(apos.endLine == cpos.line)=true:=by rfl):PE X (.Call (.Attribute o name apos) [] [] cpos) (Tg X.K T r to):=by
 intro pins s σ H Q I h
 refine wpAny_Call_method0_late hbase hline (thn (ho pins s σ H _ I h) fun v s1 ⟨x,H1,I1,r1,ty,q1⟩ => ?_)
 obtain ⟨h1,h2⟩:=Ee I1 r1 ty
 exact ⟨T,id,pa,slot,hty,h1,h2,Calls.callWith_builtin rfl (PySem.evalArgs_none (hm pins s1 σ H1 x [] v [] Q I1 r1 .nil q1))⟩
theorem Kt (pa:PlainAttrs T) (slot:Slot T name id) (hty:typeOf (.builtin id)=pure (.type "method_descriptor")) (hm:MtR X id r) (ho:PE X o to) (ha:PA X (e::es) t)
  (hbase:attributeBase o name X.env (eval o X.env)=eval o X.env:=by rfl)
  (hfew:((backTo cpos (starEach (e::es) X.env)).all (fun x => !x.1)&&(backToKw cpos (keywordEach [] X.env)).all (fun x=>x.1.isSome)
   && decide ((e::es).length+([]:List Keyword).length+(if ([]:List Keyword).isEmpty then 0 else 1)<30))=true:=by rfl)
  (hline:(apos.endLine == cpos.line)=true:=by rfl) (hs:starEach (e::es) X.env=↥34::starEach es X.env:=by rfl) (hplain:(backTo cpos (starEach es X.env)).any (·.1)=false:=by rfl) :
  PE X (.Call (.Attribute o name apos) (e::es) [] cpos) (tBM X.K T r to t):=by
 intro pins s σ H Q I h
 refine wpAny_Call_method_late hbase hfew hline rfl (thn (ho pins s σ H _ I h) fun v s1 ⟨x,H1,I1,r1,ty,q1⟩ => ?_)
 obtain ⟨h1,h2⟩:=Ee I1 r1 ty
 refine ⟨T,id,pa,slot,hty,h1,h2,?_⟩
 have hA:=ha cpos pins s1 σ H1 _ I1 q1
 rw [hs] at hA ⊢
 refine Calls.callWith_builtin (by show (false||(backTo cpos (starEach es X.env)).any (·.1))=false;rw [hplain]<;>rfl) (Calls.evalArgs_plain ?_)
 exact thn hA fun us s2 ⟨vs,H2,I2,r2,q2⟩=>hm pins s2 σ H2 x vs v us Q I2 r1 r2 q2
/- xs.append(e),list.index on a module's tuple .. are MtR facts of 06m -/
end
end L2
namespace L2
open PySem PySem.Spec PyProof.Rows
def MtM (X:Cx) (id:String) (r:V->List V->Hp->VK->Prop):Prop :=
 ∀ (pins:List ↥11) (s:Shared) (σ:St) (H:Hp) (x:V) (xs:List V) (v:Value) (us:List Value) (Q:VK),Inv X pins σ H s->RelV x v->Vals xs us->r x xs H Q ->
  wpAny ↥4 X.A (call (.builtin id) (v::us)) (EP X pins σ Q) X.xe s
theorem Vals.one:∀ {x:V} {us:List Value},Vals [x] us->∃ u,us=[u]/\RelV x u
 | _,_,.cons r .nil=>⟨_,rfl,r⟩
section
variable {X:Cx} {pins:List ↥11} {σ:St} {H:Hp} {s:Shared} {l b:Addr} {xs ys zs:List V}
theorem Inv.lset {its its':List Value} {n:Nat} {f:Array Value->Array Value} {t':Nat} (I:Inv X pins σ H s) (hH:H l=some (.lst xs))
  (e:s.heap.get? l=some { cls:=.type "list",data:=.seq its.toArray n }) (hf:f its.toArray=its'.toArray) (hv:Vals ys its') (hz:ys.length<=sizeLine) :
  Inv X pins σ (upd H l (.lst ys)) { s with heap:=s.heap.update l (Obj.mapSeq f),toks:=t' }:=by
 have q:=PySem.IsL.update e f
 rw [hf] at q
 refine I.write (x:=l) (e:=l) (by rw [hH];exact trivial) (.inl rfl) (fun b' u hb hu=>(Heap.get?_update_other s.heap (Obj.mapSeq f) (Ne.symm hb)).trans hu) ⟨_,q⟩ ?_
 exact ⟨hz,its',_,hv,q⟩
theorem Inv.lnew {its:List Value} {t':Nat} (I:Inv X pins σ H s) (hv:Vals ys its) (hz:ys.length<=sizeLine) :
  Inv X pins σ (upd H s.heap.objs.size (.lst ys)) { s with heap:=s.heap.push { cls:=.type "list",data:=.seq its.toArray },toks:=t' } :=
 I.laid (fun _ _ q=>Heap.get?_push_of_some _ q) ↥28 ⟨hz,its,0,hv,Heap.get?_push_size _ rfl⟩
theorem Inv.fresh (I:Inv X pins σ H s):H s.heap.objs.size=none:=I.hok.fresh ↥28
theorem Inv.lstM (I:Inv X pins σ H s) (hH:H l=some (.lst xs)):xs.length<=sizeLine/\∃ (its:List Value) (n:Nat),Vals xs its/\xs.length=its.length/\s.heap.get? l=some { cls:=.type "list",data:=.seq its.toArray n }:=by
 obtain ⟨z,its,n,r,e⟩:=I.hok l _ hH
 exact ⟨z,its,n,r,r.length,e⟩
theorem C8 {n:Nat} (h:n<=sizeLine):Builtin.List.listTooLong n=false:=by
 unfold Builtin.List.listTooLong
 exact decide_eq_false ⋯
end
section
variable {X:Cx}
def GI:V->List V->Hp->VK->Prop:=fun x vs H Q=>∃ l xs y,x=.ref l/\vs=[y]/\H l=some (.lst xs)/\xs.length<sizeLine/\Q .non (upd H l (.lst (xs++[y])))
theorem sj:MtM X "list.append" GI:=by
 intro pins s σ H x vs v us Q I rx rv h
 obtain ⟨l,xs,y,rfl,rfl,hH,hz,q⟩:=h
 cases rx
 obtain ⟨u,rfl,ru⟩:=rv.one
 obtain ⟨z,its,n,r,hl,e⟩:=I.lstM hH
 refine call_meets F.slot_list_append ⟨_,e,rfl⟩ F.entry_list_append (F.args_list_append_2 _ _) (PySem.list_append l its.toArray n u (by rw [List.size_toArray];omega)) ⟨e,?_⟩
 refine ⟨.non,_,I.lset (its':=its++[u]) hH e (by simp) (r.append (.cons ru .nil)) ?_,rfl,q⟩
 rw [List.length_append,List.length_singleton]
 omega
end
section
variable {prog:Program} {w:World} {A:Around} {E:Value->Shared->Prop} {s:Shared}
end
section
variable {X:Cx}
end
end L2
namespace Att
open PySem PySem.W PySem.Calls PyProof.Rows
theorem mR {P:Params} {h:Heap}:∀ (ns:List Int) (vs:List Value),WellAll P h vs (ns.map WData.int)->IntsAre vs ns:=by
 intro ns
 induction ns with
 | nil =>
  intro vs w
  rw [List.map_nil] at w
  cases w
  exact .nil
 | cons n ns ih =>
  intro vs w
  rw [List.map_cons] at w
  cases w with
  | cons a b =>
   cases a
   exact .cons _ _ (ih _ b)
theorem yL {l:OpenLaw} {n:Nat} (hn:l.most=some n) {P:Params} {h:Heap} {args:List WData} {vals:List Value}
  (hpre:l.row.toRowW.claim.pre args=true) (hwl:WellAll P h vals args) :
  ∃ a vs ns,vals=[Value.ref a]/\args=[WData.list (ns.map WData.int)]/\h.get? a=some { cls:=.type "list",data:=.seq vs.toArray }/\IntsAre vs ns/\ns.length<=n:=by
 have hsh:WShape.hasAll [] args [.list .int]=true:=(pre_splitW hpre).1
 have hc:l.pre.holds [] { args:=args }=true:=(pre_splitW hpre).2
 obtain ⟨d,r,rfl,h1,h2⟩:=hasAllW_cons hsh
 obtain rfl:=hasAllW_nil h2
 obtain ⟨xs,rfl,h3⟩:=hasW_list h1
 obtain ⟨ns,rfl⟩:=items_int h3
 have hlen:ns.length<=n:=by
  unfold OpenLaw.pre at hc
  have h4:(WTm.not (.lt (.lit (.int (n:Int))) (.len (.arg 0)))).holds [] { args:=[.list (ns.map .int)] }=true:=by
   have h4:=(holds_andW hc).1
   rw [hn] at h4
   exact h4
  have h5:=condW_of h4 (w_not (w_lt w_lit (w_len_list (w_arg rfl))))
  rw [List.length_map] at h5
  refine Nat.le_of_not_lt fun q => ?_
  have q':(n:Int)<((ns.length:Nat):Int):=⋯
  first
   | (rw [decide_eq_true q'] at h5;exact absurd h5 ↥0)
   | (simp at h5;omega)
 cases hwl with
 | cons w1 w2 =>
  cases w2
  cases w1 with
  | list ho hall=>exact ⟨_,_,ns,rfl,rfl,ho,mR ns _ hall,hlen⟩
theorem zb (l:OpenLaw) (args:List WData):l.row.toRowW.claim.post args (.bool true) args=true :=
 postW_of (r:=l.row.toRowW) (X:=(true == true))
  (show WShape.has [] (.bool true) .bool=true by first | rfl | decide | simp [WShape.has,WShape.arms,WShape.armsAll])
  (show (WTm.eq .res (.lit (.bool true))).value [] { args:=args,res:=some (.bool true),after:=args }=some (.bool (true == true)) from w_eq_bool (w_res rfl) w_lit) rfl
section
variable {prog:Program} {w:World} {A:Around} {E:Value->Shared->Prop} {s:Shared} {K:Frag}
def ledger (h:Heap) (L d:Addr):List ↥11:=(List.range h.objs.size).filterMap fun a=>if a=L\/a=d then none else (h.get? a).map fun o=>(a,o)
end
end Att
namespace L2
open PySem PySem.Spec PyProof.Rows
theorem rh:∀ {vs:List Value} {ns:List Int},IntsAre vs ns->Vals (ns.map V.int) vs
 | _,_,.nil=>.nil
 | _,_,.cons n t h=>.cons ⟨t,rfl⟩ (rh h)
def SF (H:Hp):Prop:=∀ b,H b=none\/∃ o xs,H b=some (.frz o (.lst xs))
theorem Dj {P:Program} {w:World} {K:PySem.W.Frag} {mg mb:Str->Option Value} {CX:CXT} {k:Nat} {fa a:Addr} {fd:FuncData} {x:Str} {sp:Sp} {s₁:Shared} {vs:List Value} {ns:List Int}
  (KX:K.In s₁.heap) (hns:s₁.heap.Ns mainGlobals mg) (hb:s₁.heap.Ns builtinsNs mb) (hbb:∀ x:Str,x≠"__name__"->mb x=bootBuiltins x) (hlim:s₁.heap.NoLimit) (hg:s₁.gens = #[])
  (ha:s₁.heap.get? a=some { cls:=.type "list",data:=.seq vs.toArray }) (hi:IntsAre vs ns) (hl:ns.length<=sizeLine) (hr:Room k callerA)
  (F:∀ base:Heap,K.In base->base.Ns mainGlobals mg->FnOk P w K mg base CX k fa fd [x] sp) (hbind:∀ (s:Shared) (u:Value),BindsTo s fd ⟨[u],[]⟩ [(x,u)])
  (hsp:∀ H:Hp,SF H->SqL K H a (ns.map V.int)->sp [.ref a] H (fun v _=>v=.bl true) fun _ _ _=>False)
  (hCX:∀ H e s',CX [] H s₁ (fun _ _ _=>False) e s'->False) :
  codeAny (model P w) callerA (.call (.ref fa) ⟨[.ref a],[]⟩) (fun r s'=>r=.ok (.ret (.bool true))/\OldK s₁.heap s'.heap/\s'.os=s₁.os/\AllBare s'.gens) s₁:=by
 have rv:=rh hi
 have lenV:=hi.length
 have core:∀ H:Hp,SF H->SqL K H a (ns.map V.int)->HOk P w H s₁.heap->(∀ b,H b≠none->b=a)->(H a≠none->K.lookup a=none) ->
   codeAny (model P w) callerA (.call (.ref fa) ⟨[.ref a],[]⟩) (fun r s'=>r=.ok (.ret (.bool true))/\OldK s₁.heap s'.heap/\s'.os=s₁.os/\AllBare s'.gens) s₁:=by
  intro H hO hS hok hA hK
  have base_of:∀ {b:Addr} {o:Obj},s₁.heap.get? b=some o->H b=none->(Dv s₁.heap H).get? b=some o:=fun e n=>Du e n
  have noA:∀ {b:Addr} {o:Obj} {es:Array DictEntry} {ep:Nat},s₁.heap.get? b=some o->o.data=.dict es ep->H b=none:=fun {b o es ep} e d=>by
   cases q:H b with
   | none=>rfl
   | some u =>
    have e':b=a:=hA b (by rw [q];simp)
    subst e'
    rw [ha] at e;cases e
    have d':Data.seq vs.toArray _=Data.dict es ep:=d
    cases d'
  have nsK:∀ {b:Addr} {m:Str->Option Value},s₁.heap.Ns b m->(Dv s₁.heap H).Ns b m:=fun {b m} ⟨o,es,ep,e,d,r⟩=>⟨o,es,ep,base_of e (noA e d),d,r⟩
  have hKb:K.In (Dv s₁.heap H):=fun b o e=>base_of (KX b o e) (by
   cases q:H b with
   | none=>rfl
   | some u =>
    have e':b=a:=hA b (by rw [q];simp)
    subst e'
    rw [hK (by rw [q];simp)] at e;cases e)
  have hM:Mod K mg (Dv s₁.heap H):=⟨hKb,nsK hns,⟨mb,nsK hb,hbb⟩,let ⟨mc,h1,h2⟩:=hlim;⟨mc,nsK h1,h2⟩⟩
  have e0:Env0 P w K mg (Dv s₁.heap H) callerA [] s₁ H:=⟨rfl,hM,fun b o e=>G9 e,Nat.le_of_eq (Aj _ _),trivial,fun b hb=>absurd (show b∈([]:List Addr) from hb) (by simp),hok,.of_eq hg⟩
  refine codeAny_mono ((F _ hKb (nsK hns)).run callerA [] s₁ H ⟨[.ref a],[]⟩ [.ref a] [.ref a] _ _ hr e0 (hbind s₁ (.ref a)) (.cons rfl .nil) (hsp H hO hS)) fun r s' h => ?_
  cases r with
  | error e=>exact (hCX H e s' h).elim
  | ok fl =>
   cases fl with
   | next=>exact False.elim h
   | brk=>exact False.elim h
   | cont=>exact False.elim h
   | ret u =>
    obtain ⟨v,H',os,bare,un,hok',r',q⟩:=h
    have q':v=.bl true:=q
    subst q'
    obtain rfl:u=Value.bool true:=r'
    refine ⟨rfl,OldK.of_keep fun b o e => ?_,os,bare⟩
    cases q:H b with
    | none=>exact un.keep b o e q (by intro z;exact absurd (show b∈([]:List Addr) from z) (by simp)) (by simp)
    | some u =>
     rcases hO b with z | ⟨ob,xs,z⟩
     ·rw [q] at z;cases z
     ·have z2:=un.frzs b ob _ z
      obtain ⟨e1,_⟩:=hok b _ z
      obtain ⟨e2,_⟩:=hok' b _ z2
      rw [e] at e1;cases e1
      exact e2
 cases hk:K.lookup a with
 | some o =>
  have e:=KX a o hk
  rw [ha] at e
  cases e
  refine core (fun _=>none) (fun _=>.inl rfl) (.inr ⟨_,vs.toArray,_,hk,rfl,rfl,rfl,by rw [List.size_toArray,lenV];exact hl,by simpa using rv⟩) (fun b u z=>by have z':(none:Option HO)=some u:=z;cases z') (fun b z=>absurd rfl z) fun z=>absurd rfl z
 | none =>
  refine core (fun b=>if b=a then some (.frz { cls:=.type "list",data:=.seq vs.toArray } (.lst (ns.map V.int))) else none) (fun b => ?_) (.inl (.inr ⟨{ cls:=.type "list",data:=.seq vs.toArray },if_pos rfl⟩)) (fun b u z => ?_) (fun b z => ?_) fun _=>hk
  ·by_cases hb:b=a
   ·exact .inr ⟨_,_,if_pos hb⟩
   ·exact .inl (if_neg hb)
  ·by_cases hb:b=a
   ·have z':=(if_pos hb).symm.trans z
    cases z'
    subst hb
    exact ⟨ha,by rw [List.length_map];exact hl,vs,_,rv,ha⟩
   ·have z':=(if_neg hb).symm.trans z
    cases z'
  ·by_cases hb:b=a
   ·exact hb
   ·exact absurd (if_neg hb) z
end L2
namespace L2
open PySem PySem.Spec PyProof.Rows
abbrev KOf {K:PySem.W.Frag} {h:Heap} (_:K.In h):PySem.W.Frag:=K
end L2
/- THE LAST THEOREM (shape;LID,My.* are yours):
   My.Adr: a structure of the addresses that your layer names (classes,functions);My.Txt K t: a structure (Prop) of the equations over K;
   My.txt_mk:{K} {implicit addresses ..} (e1:nsIn K mainGlobals "law"=some (some (.ref f))) (e2:K.lookup f=some ⟨oc,od,.func (fnOf "law" "law" params body scope dV kV doc pm an cdv ct),sl⟩) (e3:codeIn K cdv "law"=true) .. : ∃ t,My.Txt K t
set_option maxHeartbeats 0 in
theorem PySem.Challenge.cw_LID_holds : PySem.Challenge.rw_LID.Holds := by
 w_on;o_law;k_head;(case hw=>w_witness2)
 k_fill
 refine L2.walk_of (l:=PySem.Challenge.rw_LID) (n:=63) (k:=40) (x:="script") (CX:=fun w=>..) (sp:=fun _=>My.sp_law) rfl ↥0 rfl ⟨rfl,by decide,by decide⟩ (fun w h Y=>PySem.W.kIn_of Y) ?F ?S ?C
 case F =>
  intro w mg fa h KX G hmg
  have T:∃ t,My.Txt (L2.KOf KX) t:=by
   dsimp only [L2.KOf]                          -- K must MU as «<heap const> w.params» for k_is
   refine' My.txt_mk ?e1 ?e2 ?e3 ..
   (case e1=>PySem.W.k_is)                    -- in the order: a name->its address->its object->its parts
   (case e2=>PySem.W.k_is)
   ..
  obtain ⟨t,T⟩:=T
  have e0:=hmg.symm.trans (PySem.W.mg_of KX G T.law)
  cases e0                                       -- fa is the law's own address
  exact ⟨_,fun s u=>.of_eq rfl,fun base kb nb=>My.law_fn T kb nb⟩     -- if «.of_eq rfl» comes too early: refine' ⟨_,?b,fun base kb nb=>My.law_fn T kb nb⟩;exact fun s u=>.of_eq rfl
 case S=>exact fun w H a ns hl hO hS=>..
 case C=>exact ..
(the tactic k_is has no namespace: write k_is) -/
namespace L2
open PySem PySem.Spec PyProof.Rows
def eA (s:Stmt):Arguments:=match s with
 | .FunctionDef _ a _ _ _ _ _ _ _ _=>a
 | _=>{ posonlyargs:=[],args:=[],vararg:=none,kwonlyargs:=[],kw_defaults:=[],kwarg:=none,defaults:=[] }
def ah (s:Stmt):List Stmt:=match s with
 | .FunctionDef _ _ b _ _ _ _ _ _ _=>b
 | _=>[]
def aa (s:Stmt):Scope:=match s with
 | .FunctionDef _ _ _ _ _ _ sc _ _ _=>sc
 | _=>{ kind:=.function,names:=[],isGenerator:=false,isCoroutine:=false }
abbrev CX0:CXT:=fun _ _ _ _ _ _=>False
abbrev E0:XK:=fun _ _ _=>False
theorem Nc {X:Cx}:Passes CX0 X E0:=fun _ _ _ _ _ _ _ h=>h.elim
structure Fun (K:PySem.W.Frag) (x qual:Str) (st:Stmt) (f:Addr) (fd:FuncData):Prop where
 ex:∃ (oc:Value) (od:Option Addr) (kV doc pm:Value) (an:Option Addr) (cdv ct:Value) (osl:Array (Option Value)),
  fd=PySem.W.fnOf x qual (eA st) (ah st) (aa st) .none kV doc pm an cdv ct/\K.lookup f=some ⟨oc,od,.func fd,osl⟩/\PySem.W.codeIn K cdv qual=true
 kp:PySem.W.keepIn K (.ref f)=true
section
variable {P:Program} {w:World} {K:PySem.W.Frag} {mg:Str->Option Value} {base:Heap}
theorem Fun.ok {x qual:Str} {st:Stmt} {f:Addr} {fd:FuncData} {N ps:List Str} {k:Nat} {sp:Sp} (F:Fun K x qual st f fd) (S:FnScope N ps (aa st)) (len:∀ vs H Q E,sp vs H Q E->vs.length=ps.length)
  (hbody:∀ (cdv:Value) (A:Around) (outer:List Env) (s:Shared) (H:Hp) (vs:List V) (Q:VK) (E:XK),Room k (A.deeper (envOfC qual (aa st) s.heap.objs.size f cdv))->sp vs H Q E ->
   ∃ t,PSs (AI CX0 P w K mg base N qual (aa st) f cdv A outer s H E).nox (ah st) t/\t { nx:=fun _ H'=>Q .non H',rt:=Q } (start N vs) H):FnOk P w K mg base CX0 (k+1) f fd ps sp:=by
 obtain ⟨oc,od,kV,doc,pm,an,cdv,ct,osl,rfl,lk,hcd⟩:=F.ex
 refine Lu lk hcd S len fun A outer s H vs Q E hr hsp => ?_
 obtain ⟨t,h,q⟩:=hbody cdv A outer s H vs Q E hr hsp
 exact ⟨t,h.nox,q⟩
theorem Fun.binds {x qual:Str} {st:Stmt} {f:Addr} {fd:FuncData} {ps:List Str} (F:Fun K x qual st f fd)
  (h:∀ (kV doc pm:Value) (an:Option Addr) (cdv ct:Value) (us:List Value),us.length=ps.length->bindArgs ↥2 ⟨us,[]⟩=pure (ps.zip us)):Binds K fd ps []:=by
 obtain ⟨oc,od,kV,doc,pm,an,cdv,ct,osl,rfl,lk,hcd⟩:=F.ex
 exact .all (h kV doc pm an cdv ct)
theorem mV {x qual:Str} {st:Stmt} {f:Addr} {oc:Value} {od an:Option Addr} {osl:Array (Option Value)} {kV doc pm cdv ct:Value} (l:K.lookup f=some ⟨oc,od,.func ↥2,osl⟩)
  (c:PySem.W.codeIn K cdv qual=true) (k:PySem.W.keepIn K (.ref f)=true):Fun K x qual st f ↥2:=⟨⟨oc,od,kV,doc,pm,an,cdv,ct,osl,rfl,l,c⟩,k⟩
end
theorem jc {n:Nat} (h:n<=1000):n<sizeLine:=Nat.lt_of_le_of_lt h ↥0
section
variable {X:Cx}
theorem pv (i:Nat) {x:Str} {pos:Pos} (hN:X.N[i]? = some x:=by rfl) (hv:Vis X.env.scope x:=by first | exact Or.inl rfl | exact Or.inr (Or.inl rfl) | exact Or.inr (Or.inr rfl)) (hd:(x == ("__debug__":Str))=false:=by decide)
  (hcd:(x == ("__classdict__":Str))=false:=by decide):PE X (.Name x pos) (Oa i):=mi hN hv hd hcd
end
theorem HD {A B:Prop} (h:B):if false=true then A else B:=by
 rw [if_neg Bool.false_ne_true]
 exact h
theorem HC {A B:Prop} (h:A):if true=true then A else B:=by
 rw [if_pos rfl]
 exact h
def aB (H H':Hp):Prop:=∀ b o,H b=some o->H' b=some o
theorem aB.refl (H:Hp):aB H H:=fun _ _ h=>h
theorem aB.trans {H H1 H2:Hp} (a:aB H H1) (b:aB H1 H2):aB H H2:=fun c o h=>b c o (a c o h)
theorem aB.seq {K:PySem.W.Frag} {H H':Hp} {a:Addr} {xs:List V} (e:aB H H') (h:SqL K H a xs):SqL K H' a xs:=by
 rcases h with (h | ⟨o,h⟩) | h
 ·exact .inl (.inl (e _ _ h))
 ·exact .inl (.inr ⟨o,e _ _ h⟩)
 ·exact .inr h
end L2
namespace EV
open PySem (Str)
inductive D where
 | non | bl (b:Bool) | int (i:Int) | str (x:Str) | tup (ds:List D) | lst (ds:List D) | own (ds:List D)
 | ty (n:String) | cls (n:String) | exc (n:String) | ins (n:String) (fs:List (String×D))
noncomputable instance:Inhabited D:=⟨.non⟩
inductive R (α:Type) where
 | ok (a:α) | ex (C:String) | bad
namespace R
def bind {α β:Type}:R α->(α->R β)->R β
 | .ok a,f=>f a
 | .ex C,_=>.ex C
 | .bad,_=>.bad
end R
abbrev Dt:=List (Option D)
abbrev E:=Dt->R D
inductive O where
 | nx (δ:Dt) | rt (d:D) | bk (δ:Dt) | ct (δ:Dt) | ex (C:String) (δ:Dt) | mk (C:String) (δ:Dt) | hx (C:String) (δ:Dt) | bad
abbrev S:=Dt->O
def pw (k:Int):Int:=2^k.toNat
def nb (i:Int):Nat:=if i=0 then 0 else i.natAbs.log2+1
def MulOk (i j:Int):Prop:=nb i+nb j<=134217728
def iF (i j:Int):Prop:=0<j/\(nb j<=9000\/nb i<=nb j+4000)
noncomputable instance {i j:Int}:Decidable (MulOk i j):=inferInstanceAs (Decidable (_<=_))
noncomputable instance {i j:Int}:Decidable (iF i j):=inferInstanceAs (Decidable (_/\_))
def bY:D->D->R D
 | .int i,.int j=>.ok (.int (i+j))
 | .str x,.str y=>if x.cps.size+y.cps.size<=1000000 then .ok (.str ⟨x.cps++y.cps⟩) else .bad
 | .lst xs,.lst ys=>if xs.length+ys.length<=100000 then .ok (.lst (xs++ys)) else .bad
 | .tup xs,.tup ys=>if xs≠[]/\xs.length+ys.length<=100000 then .ok (.tup (xs++ys)) else .bad
 | _,_=>.bad
def fV:D->D->R D
 | .int i,.int j=>.ok (.int (i - j))
 | _,_=>.bad
def kq:D->D->R D
 | .int i,.int j=>if MulOk i j then .ok (.int (i*j)) else .bad
 | _,_=>.bad
def oDiv:D->D->R D
 | .int i,.int j=>if iF i j then .ok (.int (i / j)) else .bad
 | _,_=>.bad
def oMod:D->D->R D
 | .int i,.int j=>if 0<j then .ok (.int (i%j)) else .bad
 | _,_=>.bad
def eF:D->D->R D
 | .int i,.int j=>if 0<=j/\(nb i:Int)+j<=134217728 then .ok (.int (i*pw j)) else .bad
 | _,_=>.bad
def Oe:D->D->R D
 | .int i,.int j=>if 0<=j then .ok (.int (i / pw j)) else .bad
 | _,_=>.bad
def CN:D->D->R D
 | .int i,.int j=>if 0<=j/\(nb i:Int)*j<=134217728 then .ok (.int (i^j.toNat)) else .bad
 | _,_=>.bad
def mD:D->D->R D
 | .int i,.int j=>if 0<=i/\0<=j then .ok (.int ((i.toNat &&& j.toNat:Nat):Int)) else .bad
 | _,_=>.bad
def yf:D->D->R D
 | .int i,.int j=>if 0<=i/\0<=j then .ok (.int ((i.toNat ||| j.toNat:Nat):Int)) else .bad
 | _,_=>.bad
def qm:D->D->R D
 | .int i,.int j=>if 0<=i/\0<=j then .ok (.int ((i.toNat ^^^ j.toNat:Nat):Int)) else .bad
 | _,_=>.bad
def CQ:D->R D
 | .int i=>.ok (.int (-i))
 | _=>.bad
def oLt:D->D->R D
 | .int i,.int j=>.ok (.bl (decide (i<j)))
 | _,_=>.bad
def oLe:D->D->R D
 | .int i,.int j=>.ok (.bl (decide (i<=j)))
 | _,_=>.bad
def oGt:D->D->R D
 | .int i,.int j=>.ok (.bl (decide (j<i)))
 | _,_=>.bad
def oGe:D->D->R D
 | .int i,.int j=>.ok (.bl (decide (j<=i)))
 | _,_=>.bad
mutual
def D.beq:D->D->Bool
 | .non,.non=>true
 | .bl a,.bl b=>a == b
 | .bl a,.int b=>(if a then 1 else 0) == b
 | .int a,.bl b=>a == (if b then 1 else 0)
 | .int a,.int b=>a == b
 | .str a,.str b=>a == b
 | .tup a,.tup b=>D.beqs a b
 | .lst a,.lst b=>D.beqs a b
 | _,_=>false
def D.beqs:List D->List D->Bool
 | [],[]=>true
 | a::as,b::bs=>D.beq a b&&D.beqs as bs
 | _,_=>false
end
def D.sc:D->Bool
 | .non=>true | .bl _=>true | .int _=>true | .str _=>true
 | _=>false
def D.pl:Nat->D->Bool
 | _,.non=>true
 | _,.bl _=>true
 | _,.int _=>true
 | _,.str x=>x.cps.all (· < 0x110000)
 | n+1,.tup ds=>ds.all (D.pl n)
 | n+1,.lst ds=>ds.all (D.pl n)
 | _,_=>false
def D.cmp (a b:D):Bool:=(a.sc&&b.sc)||(D.pl 8 a&&D.pl 8 b)
def oEq (a b:D):R D:=if D.cmp a b then .ok (.bl (D.beq a b)) else .bad
def oNe (a b:D):R D:=if D.cmp a b then .ok (.bl (!D.beq a b)) else .bad
def tV:D->R D
 | .non=>.ok (.bl true)
 | _=>.ok (.bl false)
def uA:D->R D
 | .non=>.ok (.bl false)
 | _=>.ok (.bl true)
def isIn (x:D) (ys:List D):Option Bool:=if x.sc&&ys.all D.sc then some (ys.any fun y=>D.beq y x) else none
def oIn (a b:D):R D:=match a,b with
 | .str x,.str y=>match x.cps.toList with | [c]=>.ok (.bl (decide (c∈y.cps.toList))) | _=>.bad
 | a,.tup ds=>match isIn a ds with | some k=>.ok (.bl k) | none=>.bad
 | a,.lst ds=>match isIn a ds with | some k=>.ok (.bl k) | none=>.bad
 | _,_=>.bad
def dE (a b:D):R D:=(oIn a b).bind fun d=>match d with | .bl k=>.ok (.bl (!k)) | _=>.bad
def ixN (n:Nat) (i:Int):Option Nat:=if 0<=i then (if i<n then some i.toNat else none) else if -(n:Int)<=i then some (i+n).toNat else none
def oIx:D->D->R D
 | .tup ds,.int i=>match (ixN ds.length i).bind fun j=>ds[j]? with | some d=>.ok d | none=>.bad
 | .lst ds,.int i=>match (ixN ds.length i).bind fun j=>ds[j]? with | some d=>.ok d | none=>.bad
 | .str x,.int i=>if x.cps.size<=1000000 then (match (ixN x.cps.toList.length i).bind fun j=>x.cps.toList[j]? with | some c=>.ok (.str ⟨#[c]⟩) | none=>.bad) else .bad
 | _,_=>.bad
def sIx (n d:Nat):Option Int->Nat
 | none=>d
 | some i=>if i<0 then (i+n).toNat else min i.toNat n
def cut {α:Type} (xs:List α) (lo hi:Option Int):List α:=(xs.drop (sIx xs.length 0 lo)).take (sIx xs.length xs.length hi - sIx xs.length 0 lo)
def oSl:D->Option Int->Option Int->R D
 | .tup ds,lo,hi=>if sIx ds.length 0 lo=0/\sIx ds.length ds.length hi=ds.length then .bad else .ok (.tup (cut ds lo hi))
 | .lst ds,lo,hi=>.ok (.lst (cut ds lo hi))
 | _,_,_=>.bad
def var (i:Nat):E:=fun δ=>match δ[i]? with
 | some (some (.own _))=>.bad
 | some (some d)=>.ok d
 | _=>.bad
def con (d:D):E:=fun _=>.ok d
def un (f:D->R D) (a:E):E:=fun δ=>(a δ).bind f
def bin (f:D->D->R D) (a b:E):E:=fun δ=>(a δ).bind fun x=>(b δ).bind fun y=>f x y
def truth {β:Type} (d:D) (t f:R β):R β:=match d with
 | .bl true=>t
 | .bl false=>f
 | _=>.bad
def jO (a b:E):E:=fun δ=>(a δ).bind fun d=>truth d (b δ) (.ok (.bl false))
def or_ (a b:E):E:=fun δ=>(a δ).bind fun d=>truth d (.ok (.bl true)) (b δ)
def KZ (a:E):E:=fun δ=>(a δ).bind fun d=>truth d (.ok (.bl false)) (.ok (.bl true))
def ife (c a b:E):E:=fun δ=>(c δ).bind fun d=>truth d (a δ) (b δ)
def chain (f g:D->D->R D) (a b c:E):E:=fun δ=>(a δ).bind fun x=>(b δ).bind fun y=>(f x y).bind fun d=>truth d ((c δ).bind fun z=>g y z) (.ok (.bl false))
def evs:List E->Dt->R (List D)
 | [],_=>.ok []
 | e::es,δ=>(e δ).bind fun d=>(evs es δ).bind fun ds=>.ok (d::ds)
def df (es:List E):E:=fun δ=>(evs es δ).bind fun ds=>.ok (.tup ds)
def iX (es:List E):E:=fun δ=>(evs es δ).bind fun ds=>.ok (.lst ds)
def call (f:List D->R D) (es:List E):E:=fun δ=>(evs es δ).bind f
def part:Option E->Dt->R (Option Int)
 | none,_=>.ok none
 | some e,δ=>(e δ).bind fun d=>match d with | .int i=>.ok (some i) | _=>.bad
def slc (a:E) (lo hi:Option E):E:=fun δ=>(a δ).bind fun d=>(part lo δ).bind fun l=>(part hi δ).bind fun h=>oSl d l h
/- data without a list -/
mutual
def D.flat:D->Bool
 | .lst _=>false
 | .own _=>false
 | .tup ds=>D.flats ds
 | .ins _ fs=>D.flatf fs
 | _=>true
def D.flats:List D->Bool
 | []=>true
 | d::r=>D.flat d&&D.flats r
def D.flatf:List (String×D)->Bool
 | []=>true
 | (_,d)::r=>D.flat d&&D.flatf r
end
abbrev IT:=Dt->R (List D)
def xn (lo hi:Int):List D:=(List.range (hi - lo).toNat).map fun (k:Nat)=>D.int (lo+k)
def asL:D->R (List D)
 | .lst ds=>.ok ds
 | _=>.bad
def asT:D->R (List D)
 | .tup ds=>.ok ds
 | _=>.bad
def asA:D->R (List D)
 | .lst ds=>.ok ds
 | .tup ds=>.ok ds
 | _=>.bad
def LW:D->R (List D)
 | .int hi=>if -(2^62)<=hi/\hi<2^62 then .ok (xn 0 hi) else .bad
 | _=>.bad
def Mn:List D->R (List D)
 | [.int lo,.int hi]=>if -(2^62)<=lo/\lo<2^62 /\ -(2^62)<=hi/\hi<2^62 then .ok (xn lo hi) else .bad
 | _=>.bad
def Oc (lo hi c:Int):List D:=(List.range (if lo<hi then (hi - lo - 1) / c+1 else 0).toNat).map fun (k:Nat)=>D.int (lo+k*c)
def Mm:List D->R (List D)
 | [.int lo,.int hi,.int c]=>if (-(2^40)<=lo/\lo<2^40 /\ -(2^40)<=hi/\hi<2^40)/\0<c/\c<2^20 then .ok (Oc lo hi c) else .bad
 | _=>.bad
def itL (g:E):IT:=fun δ=>(g δ).bind asL
def itT (g:E):IT:=fun δ=>(g δ).bind asT
def itA (g:E):IT:=fun δ=>(g δ).bind asA
def ND (g:E):IT:=fun δ=>(g δ).bind LW
def VI (a b:E):IT:=fun δ=>(evs [a,b] δ).bind Mn
def VH (a b c:E):IT:=fun δ=>(evs [a,b,c] δ).bind Mm
def qr {α:Type} (r:R α):R α:=match r with
 | .ex _=>.bad
 | r=>r
def inC (ks:List Nat) (δ:Dt) (x:D):Dt:=some x::ks.map fun k=>δ.getD k none
def eG (rs:List D):R D:=if D.flats rs then .ok (.lst rs) else .bad
def runC (st:D->R (Option D)):List D->R (List D)
 | []=>.ok []
 | d::ds=>(st d).bind fun o=>(runC st ds).bind fun rs=>.ok (match o with | some r=>r::rs | none=>rs)
def stC (c elt:E) (ks:List Nat) (δ:Dt) (x:D):R (Option D):=(qr (c (inC ks δ x))).bind fun d=>truth d ((qr (elt (inC ks δ x))).bind fun r=>.ok (some r)) (.ok none)
def gR (it:IT) (ks:List Nat) (c elt:E):E:=fun δ=>(it δ).bind fun ds=>if ds.length<=100000 then (runC (stC c elt ks δ) ds).bind eG else .bad
def comp (it:IT) (ks:List Nat) (elt:E):E:=gR it ks (con (.bl true)) elt
def ye (cn f:String):D->R D
 | .ins n fs=>if n == cn then (match fs.lookup f with | some d=>.ok d | none=>.bad) else .bad
 | _=>.bad
def fq (cn m:String):D->Bool
 | .ins n fs=>n == cn&&(fs.lookup m).isNone
 | _=>false
def IK (cn m:String) (F:List D->R D) (o:E) (es:List E):E:=fun δ=>(o δ).bind fun d=>if fq cn m d then (evs es δ).bind fun ds=>F (d::ds) else .bad
def mk1 (cn f:String):List D->R D
 | [d]=>.ok (.ins cn [(f,d)])
 | _=>.bad
def l5:List D->R D
 | [.lst ds]=>.ok (.int ds.length)
 | [.tup ds]=>.ok (.int ds.length)
 | [.str x]=>if x.cps.size<=1000000 then .ok (.int x.cps.size) else .bad
 | _=>.bad
def IM:List D->R D
 | [.int i]=>.ok (.int (if i<0 then -i else i))
 | _=>.bad
def EU:List D->R D
 | [.int i,.int j]=>.ok (.int (if j>i then j else i))
 | _=>.bad
def Sy:List D->R D
 | [.int i,.int j]=>.ok (.int (if j<i then j else i))
 | _=>.bad
def Iq:List D->R D
 | [.int i]=>.ok (.int i)
 | [.bl k]=>.ok (.int (if k then 1 else 0))
 | _=>.bad
def td:List D->R D
 | [.lst ds]=>.ok (.lst ds)
 | [.tup ds]=>.ok (.lst ds)
 | _=>.bad
def intsOf:List D->Option (List Int)
 | []=>some []
 | .int i::r=>(intsOf r).map (i::·)
 | _=>none
def LS:List D->R D
 | [.lst ds]=>match intsOf ds with | some ns=>.ok (.int (ns.foldl (· + ·) 0)) | none=>.bad
 | _=>.bad
def i7:List D->R D
 | [.int i]=>.ok (.int (nb i))
 | _=>.bad
def ao:List String:=["MillError","NoSize","NoBits","NoParts","NoRank","NotFinite","NoWay","NoFlags","NoFraction","Unlike","Empty","NoLeft","NoText","NoRow","NoName","Stopped"]
def qD (C B:String):Bool:=ao.contains C&&(C == B||B == "MillError")
def tyR (n:String) (b:Bool):R D:=if ["int","bool","str","tuple","list","ValueError"].contains n then .ok (.bl b) else .bad
def VL (B:String):D->R D
 | .exc C=>if ao.contains C&&ao.contains B then .ok (.bl (C == B||B == "MillError")) else .bad
 | .non=>if ao.contains B then .ok (.bl false) else .bad
 | _=>.bad
def VJ (n:String):D->R D
 | .exc C=>if ao.contains C&&n == "ValueError" then .ok (.bl true) else .bad
 | .non=>tyR n false
 | .bl _=>tyR n (n == "int"||n == "bool")
 | .int _=>tyR n (n == "int")
 | .str _=>tyR n (n == "str")
 | .tup _=>tyR n (n == "tuple")
 | .lst _=>tyR n (n == "list")
 | _=>.bad
def fF:List D->R D
 | [d,.cls B]=>VL B d
 | [d,.ty n]=>VJ n d
 | _=>.bad
theorem mO (h:(if c=true then R.ok (D.bl x) else .bad)=.ok (.bl k)):c=true/\x=k:=by
 cases c with
 | true=>cases h;exact ⟨rfl,rfl⟩
 | false=>cases h
theorem Lj (e:r=if b=true then R.ok (D.bl x) else .bad):(∃ d' c' k,[d,c]=[d',c']/\r=.ok (.bl k))\/r=.bad:=by
 subst e
 cases b with
 | true=>exact .inl ⟨_,_,_,rfl,rfl⟩
 | false=>exact .inr rfl
def oV (d:D):List D->R D
 | []=>.ok (.bl false)
 | c::r=>(fF [d,c]).bind fun x=>truth x (.ok (.bl true)) (oV d r)
def N4:List D->R D
 | [d,.tup cs]=>oV d cs
 | _=>.bad
def noOwn (δ:Dt):Dt:=δ.map fun c=>match c with | some (.own _)=>none | c=>c
def view (δ:Dt):Dt:=δ.map fun c=>match c with | some (.own ds)=>some (.lst ds) | c=>c
def av:S:=.nx
def asg (i:Nat) (δ:Dt) (r:R D):O:=match r with
 | .ok d=>.nx (δ.set i (some d))
 | .ex C=>.ex C (noOwn δ)
 | .bad=>.bad
def xpr (δ:Dt) (r:R D):O:=match r with
 | .ok _=>.nx δ
 | .ex C=>.ex C (noOwn δ)
 | .bad=>.bad
def rtn (δ:Dt) (r:R D):O:=match r with
 | .ok d=>.rt d
 | .ex C=>.ex C (noOwn δ)
 | .bad=>.bad
def ifO (δ:Dt) (r:R D) (a b:O):O:=match r with
 | .ok (.bl true)=>a
 | .ok (.bl false)=>b
 | .ex C=>.ex C (noOwn δ)
 | _=>.bad
def assign (i:Nat) (g:E):S:=fun δ=>asg i δ (g δ)
def expr (g:E):S:=fun δ=>xpr δ (g δ)
def ret (g:E):S:=fun δ=>rtn δ (g δ)
def To:S:=fun _=>.rt .non
def Mc (g:E):S:=fun δ=>rtn δ (g (view δ))
def vN (i:Nat):S:=fun δ=>.nx (δ.set i (some (.own [])))
def jt (i:Nat) (δ:Dt) (f:List D->O):O:=match δ[i]? with
 | some (some (.own ds))=>f ds
 | _=>.bad
def IE (i:Nat) (δ:Dt) (ds:List D) (r:R D):O:=match r with
 | .ok d=>if D.flat d=true/\ds.length<100000 then .nx (δ.set i (some (.own (ds++[d])))) else .bad
 | .ex C=>.ex C (noOwn δ)
 | .bad=>.bad
def mw (i:Nat) (g:E):S:=fun δ=>jt i δ fun ds=>IE i δ ds (g (view δ))
def Kv (i:Nat):S:=fun δ=>jt i δ fun ds=>.nx (δ.set i (some (.own ds.reverse)))
def IP (i:Nat) (δ:Dt) (r:R D):O:=match r with
 | .ok d=>if D.flat d=true then .nx (δ.set i (some d)) else .bad
 | .ex C=>.ex C (noOwn δ)
 | .bad=>.bad
def kz (i:Nat) (g:E):S:=fun δ=>IP i δ (g (view δ))
def IL (c:E) (a b:S):S:=fun δ=>ifO δ (c (view δ)) (a δ) (b δ)
def F9 (i:Nat) (δ:Dt) (r:R D):O:=match r with
 | .ok (.lst rs)=>.nx (δ.set i (some (.own rs)))
 | .ex C=>.ex C (noOwn δ)
 | _=>.bad
def iU (i:Nat) (g:E):S:=fun δ=>F9 i δ (g (view δ))
def mv (i:Nat) (g:E):S:=fun δ=>F9 i δ (g δ)
def JQ (i:Nat) (δ:Dt) (ds:List D) (v k:R D):O:=match v,k with
 | .ok d,.ok (.int k)=>if D.flat d=true/\0<=k/\k<ds.length then .nx (δ.set i (some (.own (ds.set k.toNat d)))) else .bad
 | _,_=>.bad
def vM (i:Nat) (gk gv:E):S:=fun δ=>jt i δ fun ds=>JQ i δ ds (gv (view δ)) (gk (view δ))
def pub (i:Nat) (δ:Dt):Dt:=match δ[i]? with
 | some (some (.own ds))=>δ.set i (some (.lst ds))
 | _=>δ
def Cv (i:Nat) (s:S):S:=fun δ=>s (pub i δ)
def ifs (c:E) (a b:S):S:=fun δ=>ifO δ (c δ) (a δ) (b δ)
def O.then (o:O) (s:S):O:=match o with
 | .nx δ=>s δ
 | o=>o
def seq (a b:S):S:=fun δ=>(a δ).then b
def brk:S:=.bk
def cont:S:=.ct
def raise (C:String):S:=.mk C
def trn (o:O) (k:S):O:=match o with
 | .nx δ1=>k δ1
 | .ct δ1=>k δ1
 | .bk δ1=>.nx δ1
 | o=>o
def forL (i:Nat) (body:S):List D->S
 | [],δ=>.nx δ
 | d::ds,δ=>trn (body (δ.set i (some d))) (forL i body ds)
def ovL (δ:Dt) (r:R D) (k:List D->O):O:=match r with
 | .ok (.lst ds)=>k ds
 | .ex C=>.ex C (noOwn δ)
 | _=>.bad
def ovT (δ:Dt) (r:R D) (k:List D->O):O:=match r with
 | .ok (.tup ds)=>k ds
 | .ex C=>.ex C (noOwn δ)
 | _=>.bad
def NK (i:Nat) (g:E) (body:S):S:=fun δ=>ovL δ (g δ) fun ds=>forL i body ds δ
def NJ (i:Nat) (g:E) (body:S):S:=fun δ=>ovT δ (g δ) fun ds=>forL i body ds δ
def ovI (δ:Dt) (r:R (List D)) (k:List D->O):O:=match r with
 | .ok ds=>k ds
 | .ex C=>.ex C (noOwn δ)
 | .bad=>.bad
def sE (i:Nat) (it:IT) (body:S):S:=fun δ=>ovI δ (it δ) fun ds=>forL i body ds δ
def ovR (δ:Dt) (r:R D) (k:List D->O):O:=match r with
 | .ok (.int hi)=>if -(2^62)<=hi/\hi<2^62 then k (xn 0 hi) else .bad
 | .ex C=>.ex C (noOwn δ)
 | _=>.bad
def NL (i:Nat) (b:E) (body:S):S:=fun δ=>ovR δ (b δ) fun ds=>forL i body ds δ
def forget (i:Nat) (o:O):O:=match o with
 | .nx δ=>.nx (δ.set i none)
 | _=>.bad
def Ef (o:O) (B:String) (i:Nat) (suite:S):O:=match o with
 | .nx δ1=>.nx δ1
 | .ex C δ1=>if qD C B then forget i (suite ((noOwn δ1).set i (some (.exc C)))) else .bad
 | _=>.bad
def JD (body:S) (B:String) (i:Nat) (suite:S):S:=fun δ=>Ef (body δ) B i suite
def bN (c:E) (body:S):Nat->S
 | 0,_=>.bad
 | n+1,δ=>match c δ with
  | .ok (.bl true)=>trn (body δ) (bN c body n)
  | .ok (.bl false)=>.nx δ
  | _=>.bad
open Classical in
def kD (c:E) (body:S):S:=fun δ=>if h:∃ n,bN c body n δ ≠ .bad then bN c body h.choose δ else .bad
def O.res:O->R D
 | .rt d=>.ok d
 | .nx _=>.ok .non
 | .ex C _=>.ex C
 | .mk C _=>.ex C
 | .hx C _=>.ex C
 | _=>.bad
def start (n m:Nat) (ds:List D):Dt:=ds.map some++List.replicate (m - n) none
def Good (f:List D->R D):Prop:=∀ ns:List Int,ns.length<=63->(∀ m∈ns,nb m<=2^20)->f [.lst (ns.map .int)]=.ok (.bl true)
def fn (n m:Nat) (body:S):List D->R D:=fun ds=>if ds.length=n then (body (start n m ds)).res else .bad
end EV
namespace ES
open PySem PySem.Spec PyProof.Rows L2 EV
def HS (a C:Addr):HO:=.ext fun h=>∃ o vs,h.get? a=some o/\o.cls=.ref C/\o.data=.fields vs
mutual
inductive Rep (K:PySem.W.Frag) (mg:Str->Option Value) (H:Hp):V->D->Prop
 | non:Rep K mg H .non .non
 | bl (b:Bool):Rep K mg H (.bl b) (.bl b)
 | int (i:Int):Rep K mg H (.int i) (.int i)
 | str (x:Str):Rep K mg H (.str x) (.str x)
 | tup {a:Addr} {xs:List V} {ds:List D}:SqT K H a xs->Reps K mg H xs ds->Rep K mg H (.ref a) (.tup ds)
 | lst {a:Addr} {xs:List V} {ds:List D}:SqL K H a xs->Reps K mg H xs ds->Rep K mg H (.ref a) (.lst ds)
 | ty (n:String):Rep K mg H (.ty n) (.ty n)
 | cls {a:Addr} {n:String}:mg n=some (.ref a)->Rep K mg H (.ref a) (.cls n)
 | exc {a C:Addr} {n:String}:mg n=some (.ref C)->H a=some (HS a C)->Rep K mg H (.ref a) (.exc n)
 | ins {a C dx:Addr} {n:String} {fs:List (Str×V)} {ds:List (String×D)}:mg n=some (.ref C)->H a=some (.ins C dx fs)->Repf K mg H fs ds->Rep K mg H (.ref a) (.ins n ds)
inductive Reps (K:PySem.W.Frag) (mg:Str->Option Value) (H:Hp):List V->List D->Prop
 | nil:Reps K mg H [] []
 | cons {v:V} {d:D} {vs:List V} {ds:List D}:Rep K mg H v d->Reps K mg H vs ds->Reps K mg H (v::vs) (d::ds)
inductive Repf (K:PySem.W.Frag) (mg:Str->Option Value) (H:Hp):List (Str×V)->List (String×D)->Prop
 | nil:Repf K mg H [] []
 | cons {x:String} {v:V} {d:D} {vs:List (Str×V)} {ds:List (String×D)}:Rep K mg H v d->Repf K mg H vs ds->Repf K mg H (((x:Str),v)::vs) ((x,d)::ds)
end
theorem gC {K:PySem.W.Frag} {H H':Hp} {a:Addr} {xs:List V} (e:aB H H') (h:SqT K H a xs):SqT K H' a xs:=by
 rcases h with (h | ⟨o,h⟩) | h
 ·exact .inl (.inl (e _ _ h))
 ·exact .inl (.inr ⟨o,e _ _ h⟩)
 ·exact .inr h
section
variable {K:PySem.W.Frag} {mg:Str->Option Value} {H H':Hp}
mutual
theorem Rep.mono (s:aB H H'):∀ {v:V} {d:D},Rep K mg H v d->Rep K mg H' v d
 | _,_,.non=>.non
 | _,_,.bl b=>.bl b
 | _,_,.int i=>.int i
 | _,_,.str x=>.str x
 | _,_,.tup h r=>.tup (gC s h) (Reps.mono s r)
 | _,_,.lst h r=>.lst (s.seq h) (Reps.mono s r)
 | _,_,.ty n=>.ty n
 | _,_,.cls h=>.cls h
 | _,_,.exc h e=>.exc h (s _ _ e)
 | _,_,.ins h e r=>.ins h (s _ _ e) (Repf.mono s r)
theorem Reps.mono (s:aB H H'):∀ {vs:List V} {ds:List D},Reps K mg H vs ds->Reps K mg H' vs ds
 | _,_,.nil=>.nil
 | _,_,.cons r t=>.cons (Rep.mono s r) (Reps.mono s t)
theorem Repf.mono (s:aB H H'):∀ {vs:List (Str×V)} {ds:List (String×D)},Repf K mg H vs ds->Repf K mg H' vs ds
 | _,_,.nil=>.nil
 | _,_,.cons r t=>.cons (Rep.mono s r) (Repf.mono s t)
end
theorem Reps.length:∀ {vs:List V} {ds:List D},Reps K mg H vs ds->vs.length=ds.length
 | _,_,.nil=>rfl
 | _,_,.cons _ t=>congrArg (· + 1) (Reps.length t)
theorem Reps.get:∀ {vs:List V} {ds:List D} {i:Nat} {d:D},Reps K mg H vs ds->ds[i]? = some d->∃ v,vs[i]? = some v/\Rep K mg H v d
 | _,_,_,_,.nil,e=>by simp at e
 | _,_,0,_,.cons r _,e=>by simp at e;subst e;exact ⟨_,rfl,r⟩
 | _,_,i+1,d,.cons _ t,e=>by
  obtain ⟨v,h1,h2⟩:=Reps.get (i:=i) (d:=d) t (by simpa using e)
  exact ⟨v,by simpa using h1,h2⟩
theorem Reps.append:∀ {vs ws:List V} {ds es:List D},Reps K mg H vs ds->Reps K mg H ws es->Reps K mg H (vs++ws) (ds++es)
 | _,_,_,_,.nil,s=>s
 | _,_,_,_,.cons r t,s=>.cons r (Reps.append t s)
theorem Reps.take:∀ {vs:List V} {ds:List D} (n:Nat),Reps K mg H vs ds->Reps K mg H (vs.take n) (ds.take n)
 | _,_,0,_=>.nil
 | _,_,_+1,.nil=>.nil
 | _,_,n+1,.cons r t=>.cons r (Reps.take n t)
theorem Reps.drop:∀ {vs:List V} {ds:List D} (n:Nat),Reps K mg H vs ds->Reps K mg H (vs.drop n) (ds.drop n)
 | _,_,0,r=>r
 | _,_,_+1,.nil=>.nil
 | _,_,n+1,.cons _ t=>Reps.drop n t
theorem Reps.ints (ns:List Int):Reps K mg H (ns.map V.int) (ns.map D.int):=by
 induction ns with
 | nil=>exact .nil
 | cons n r ih=>exact .cons (.int n) ih
theorem my {x y:String} (h:(Str.ofString x)=Str.ofString y):x=y:=by
 rw [Str.ofString_eq_toList,Str.ofString_eq_toList] at h
 have h1:(x.toList.map Char.toNat).toArray=(y.toList.map Char.toNat).toArray:=congrArg Str.cps h
 have h2:x.toList.map Char.toNat=y.toList.map Char.toNat:=by simpa using h1
 have h3:∀ (l m:List Char),l.map Char.toNat=m.map Char.toNat->l=m:=by
  intro l
  induction l with
  | nil=>intro m e;cases m with | nil=>rfl | cons _ _=>cases e
  | cons c r ih =>
   intro m e
   cases m with
   | nil=>cases e
   | cons c' r' =>
    rw [List.map_cons,List.map_cons,List.cons.injEq] at e
    rw [Char.ext (UInt32.toNat_inj.mp e.1),ih r' e.2]
 exact String.toList_inj.mp (h3 _ _ h2)
theorem r9 (x y:String):((Str.ofString x) == Str.ofString y)=(x == y):=by
 rw [Bool.eq_iff_iff,beq_iff_eq,beq_iff_eq]
 exact ⟨my,fun e=>by rw [e]⟩
theorem Repf.lookup:∀ {fs:List (Str×V)} {ds:List (String×D)} {x:String} {d:D},Repf K mg H fs ds->ds.lookup x=some d->∃ v,fs.lookup (x:Str)=some v/\Rep K mg H v d
 | _,_,_,_,.nil,e=>by cases e
 | (_,v)::fs,(y,d')::ds,x,d,.cons r t,e=>by
  rw [List.lookup_cons] at e ⊢
  rw [r9]
  cases q:(x == y) with
  | true =>
   rw [q] at e
   have e':d'=d:=by simpa using e
   subst e'
   exact ⟨v,rfl,r⟩
  | false=>rw [q] at e;exact Repf.lookup t e
theorem Repf.lookupN:∀ {fs:List (Str×V)} {ds:List (String×D)} {x:String},Repf K mg H fs ds->ds.lookup x=none->fs.lookup (x:Str)=none
 | _,_,_,.nil,e=>rfl
 | (_,v)::fs,(y,d')::ds,x,.cons r t,e=>by
  rw [List.lookup_cons] at e ⊢
  rw [r9]
  cases q:(x == y) with
  | true=>rw [q] at e;cases e
  | false=>rw [q] at e;exact Repf.lookupN t e
end
def Stt (K:PySem.W.Frag) (mg:Str->Option Value) (H:Hp) (σ:L2.St) (δ:Dt):Prop :=
 σ.length=δ.length/\∀ (i:Nat) (d:D),δ[i]? = some (some d)->(∀ ds,d ≠ .own ds)->∃ v,σ[i]? = some (some v)/\Rep K mg H v d
theorem Stt.mono {K:PySem.W.Frag} {mg:Str->Option Value} {H H':Hp} {σ:L2.St} {δ:Dt} (h:Stt K mg H σ δ) (s:aB H H'):Stt K mg H' σ δ :=
 ⟨h.1,fun i d e n=>let ⟨v,a,b⟩:=h.2 i d e n;⟨v,a,b.mono s⟩⟩
theorem Stt.set {K:PySem.W.Frag} {mg:Str->Option Value} {H:Hp} {σ:L2.St} {δ:Dt} {i:Nat} {v:V} {d:D} (h:Stt K mg H σ δ) (r:Rep K mg H v d):Stt K mg H (σ.set i (some v)) (δ.set i (some d)):=by
 refine ⟨by rw [List.length_set,List.length_set];exact h.1,fun j d' e n => ?_⟩
 by_cases hj:j=i
 ·subst hj
  by_cases hl:j<δ.length
  ·rw [List.getElem?_set_self hl] at e
   cases e
   exact ⟨v,by rw [List.getElem?_set_self (by rw [h.1];exact hl)],r⟩
  ·rw [List.getElem?_eq_none (by simp;omega)] at e
   cases e
 ·rw [List.getElem?_set_ne (Ne.symm hj)] at e
  obtain ⟨u,a,b⟩:=h.2 j d' e n
  exact ⟨u,by rw [List.getElem?_set_ne (Ne.symm hj)];exact a,b⟩
structure FlyX (P:Program) (w:World) (outer:List Env) (H:Hp) (s:Shared) (C:Addr) (H':Hp) (ea:Addr) (s':Shared):Prop where
 os:s'.os=s.os
 bare:AllBare s'.gens
 un:Un (frs outer) [] H H' s.heap s'.heap
 hok:HOk P w H' s'.heap
 same:aB H H'
 new:s.heap.get? ea=none
 fly:∃ a0 B,Heap.FlyingW B outer ea (.ref C) a0 s'.heap/\(∀ b o,s.heap.get? b=some o->H b=none->b∉frs outer->B.get? b=some o)/\(∀ b u o,H' b=some u->s'.heap.get? b=some o->B.get? b=some o)
def ew (X:Cx) (C:Addr) (σ:L2.St) (H':Hp):Prop:=∀ pins H s ea s',Inv X pins σ H s->FlyX X.prog X.w X.stack H s C H' ea s'->X.xe (.ref ea) s'
def em (X:Cx) (C:Addr) (σ:L2.St) (H':Hp):Prop:=∀ pins s h' ea vs,Inv X pins σ H' s->Heap.MadeExcOf s.heap h' ea (.ref C) vs->X.xe (.ref ea) { s with heap:=h' }
structure HeldX (X:Cx) (pins:List ↥11) (σ:L2.St) (C:Addr) (H':Hp) (ea:Addr) (s':Shared):Prop where
 inv:Inv X pins σ H' s'
 new:X.s₀.heap.get? ea=none
 fly:∃ a0 B,Heap.HeldW B X.stack ea (.ref C) a0 X.env.locals s'.heap/\(∀ b o,X.s₀.heap.get? b=some o->X.H₀ b=none->b∉X.fs->B.get? b=some o)/\(∀ b u o,H' b=some u->s'.heap.get? b=some o->B.get? b=some o)
def ehx (X:Cx) (C:Addr) (σ:L2.St) (H':Hp):Prop:=∀ pins ea s',HeldX X pins σ C H' ea s'->X.xe (.ref ea) s'
def RQ (X:Cx) (σ:L2.St) (H:Hp) (r:R D) (Q:VK):Prop:=match r with
 | .ok d=>∀ v H',aB H H'->Rep X.K X.mg H' v d->Q v H'
 | .ex C=>∀ Ca,X.mg C=some (.ref Ca)->∀ H',aB H H'->ew X Ca σ H'
 | .bad=>False
def tE (X:Cx) (g:E):TE:=fun σ H Q=>∃ δ,Stt X.K X.mg H σ δ/\RQ X σ H (g δ) Q
@[irreducible] def SE (X:Cx) (e:Expr) (g:E):Prop:=PE X e (tE X g)
def RT (X:Cx) (σ:L2.St) (H:Hp) (r:R D) (Q:Bool->Hp->Prop):Prop:=match r with
 | .ok (.bl b)=>∀ H',aB H H'->Q b H'
 | .ex C=>∀ Ca,X.mg C=some (.ref Ca)->∀ H',aB H H'->ew X Ca σ H'
 | _=>False
def tT (X:Cx) (g:E):TT:=fun σ H Q=>∃ δ,Stt X.K X.mg H σ δ/\RT X σ H (g δ) Q
@[irreducible] def ST (X:Cx) (e:Expr) (g:E):Prop:=PT X e (tT X g)
@[irreducible] def SW (X:Cx) (e:Expr) (g:E):Prop:=PW X e (tT X g)
def RA (X:Cx) (σ:L2.St) (H:Hp) (r:R (List D)) (Q:List V->Hp->Prop):Prop:=match r with
 | .ok ds=>∀ vs H',aB H H'->Reps X.K X.mg H' vs ds->Q vs H'
 | .ex C=>∀ Ca,X.mg C=some (.ref Ca)->∀ H',aB H H'->ew X Ca σ H'
 | .bad=>False
def tAs (X:Cx) (gs:List E):TA:=fun σ H Q=>∃ δ,Stt X.K X.mg H σ δ/\RA X σ H (evs gs δ) Q
@[irreducible] def SA (X:Cx) (es:List Expr) (gs:List E):Prop:=PA X es (tAs X gs)
unseal SE ST SW SA
section
variable {X:Cx} {σ:L2.St} {H H1:Hp}
theorem PE.weak (h:PE X e t) (w:∀ σ H Q,t' σ H Q->t σ H Q):PE X e t':=fun pins s σ H Q I q=>h pins s σ H Q I (w σ H Q q)
theorem PT.weak (h:PT X e t) (w:∀ σ H Q,t' σ H Q->t σ H Q):PT X e t':=fun pins s σ H Q I q=>h pins s σ H Q I (w σ H Q q)
theorem PW.weak (h:PW X e t) (w:∀ σ H Q,t' σ H Q->t σ H Q):PW X e t':=fun wh pins s σ H Q I q=>h wh pins s σ H Q I (w σ H Q q)
theorem PA.weak (h:PA X es t) (w:∀ σ H Q,t' σ H Q->t σ H Q):PA X es t':=fun pos pins s σ H Q I q=>h pos pins s σ H Q I (w σ H Q q)
theorem PS.weak {st:Stmt} {t t':TS} (h:PS X st t) (w:∀ D σ H,t' D σ H->t D σ H):PS X st t':=fun pins s σ H D I q=>h pins s σ H D I (w D σ H q)
theorem PSs.weak {st:List Stmt} {t t':TS} (h:PSs X st t) (w:∀ D σ H,t' D σ H->t D σ H):PSs X st t':=fun pins s σ H D I q=>h pins s σ H D I (w D σ H q)
theorem RQ.to (h:RQ X σ H r Q) (g:∀ v H',aB H H'->Q v H'->Q' v H'):RQ X σ H r Q':=by
 cases r with
 | ok d=>exact fun v H' s r=>g v H' s (h v H' s r)
 | ex C=>exact h
 | bad=>exact h
theorem RQ.mono (s:aB H H1) (h:RQ X σ H r Q):RQ X σ H1 r Q:=by
 cases r with
 | ok d=>exact fun v H' s' r=>h v H' (s.trans s') r
 | ex C=>exact fun Ca hc H' s'=>h Ca hc H' (s.trans s')
 | bad=>exact h
theorem RT.mono (s:aB H H1) (h:RT X σ H r Q):RT X σ H1 r Q:=by
 cases r with
 | ok d =>
  cases d with
  | bl b=>exact fun H' s'=>h H' (s.trans s')
  | _=>exact False.elim h
 | ex C=>exact fun Ca hc H' s'=>h Ca hc H' (s.trans s')
 | bad=>exact h
theorem RQ.bind (h:RQ X σ H (r.bind f) Q):RQ X σ H r (fun v H'=>aB H H'/\∃ d,Rep X.K X.mg H' v d/\RQ X σ H' (f d) Q):=by
 cases r with
 | ok d=>exact fun v H' s r=>⟨s,d,r,h.mono s⟩
 | ex C=>exact h
 | bad=>exact h
theorem RA.bind (h:RQ X σ H (r.bind f) Q):RA X σ H r (fun vs H'=>aB H H'/\∃ ds,Reps X.K X.mg H' vs ds/\RQ X σ H' (f ds) Q):=by
 cases r with
 | ok d=>exact fun v H' s r=>⟨s,d,r,h.mono s⟩
 | ex C=>exact h
 | bad=>exact h
theorem RT.bind (h:RT X σ H (r.bind f) Q):RQ X σ H r (fun v H'=>aB H H'/\∃ d,Rep X.K X.mg H' v d/\RT X σ H' (f d) Q):=by
 cases r with
 | ok d=>exact fun v H' s r=>⟨s,d,r,h.mono s⟩
 | ex C=>exact h
 | bad=>exact False.elim h
end
structure Sc (X:Cx) (N:List Str):Prop where
 n:X.N=N
 nd:N.Nodup
 vis:∀ x∈N,Vis X.env.scope x
 dbg:∀ x∈N,(x == ("__debug__":Str))=false/\(x == ("__classdict__":Str))=false
def Sto (X:Cx) (x:Str):Prop:=Loc X.env.scope x/\(X.fn x=true\/X.env.scope.names.lookup x=some .local)
structure Gb (X:Cx) (x:Str):Prop where
 g:X.env.scope.names.lookup x=some .globalImplicit
 d:(x == ("__debug__":Str))=false
 n:x≠"__name__"
section
variable {X:Cx} {N:List Str} {pos:Pos} {a b c e:Expr} {ga gb gc g:E}
theorem dD (S:Sc X N) (i:Nat) (hN:N[i]? = some x):SE X (.Name x pos) (var i):=by
 have hm:x∈N:=List.mem_of_getElem? hN
 refine PE.weak (mi (i:=i) (by rw [S.n];exact hN) (S.vis x hm) (S.dbg x hm).1 (S.dbg x hm).2) fun σ H Q ⟨δ,hσ,h⟩ => ?_
 unfold var at h
 split at h
 ·exact False.elim h
 ·rename_i d _ hd
  obtain ⟨v,e,r⟩:=hσ.2 i d hd (by intro ds z;subst z;rename_i q;exact q ds rfl)
  exact ⟨v,e,h v H (aB.refl H) r⟩
 ·exact False.elim h
theorem sG (h:PE X e (tC v)) (r:∀ H,Rep X.K X.mg H v d):SE X e (con d):=PE.weak h fun σ H Q ⟨δ,hσ,q⟩=>q _ H (aB.refl H) (r H)
theorem af {i j}:SE X (.Constant (.int i) j pos) (con (.int i)):=sG Kq fun _=>.int i
theorem Me {b j}:SE X (.Constant (.bool b) j pos) (con (.bl b)):=sG Nb fun _=>.bl b
theorem DD {j}:SE X (.Constant .none j pos) (con .non):=sG Ko fun _=>.non
theorem aO {x j}:SE X (.Constant (.str x) j pos) (con (.str x)):=sG Ew fun _=>.str x
theorem fE (G:Gb X x) (h:∃ t,X.mg x=some (.int i t)):SE X (.Name x pos) (con (.int i)):=by
 obtain ⟨t,h⟩:=h
 exact sG (ux (v:=.int i) G.g h ⟨t,rfl⟩ G.d) fun _=>.int i
theorem fh {x:String} {C:Addr} (G:Gb X x) (h:X.mg x=some (.ref C)):SE X (.Name x pos) (con (.cls x)):=sG (ux (v:=.ref C) G.g h rfl G.d) fun _=>.cls h
theorem VZ (G:Gb X x) (h:X.mg x=none) (hv:bootBuiltins x=some (.type n)):SE X (.Name x pos) (con (.ty n)) :=
 sG (GU (v:=.ty n) G.g h hv rfl G.n G.d) fun _=>.ty n
def rD (X:Cx) (f:D->D->R D):R2:=fun x y H Q=>∃ dx dy d,Rep X.K X.mg H x dx/\Rep X.K X.mg H y dy/\f dx dy=.ok d/\∀ v H',aB H H'->Rep X.K X.mg H' v d->Q v H'
def nG (f:D->D->R D):Prop:=∀ x y C,f x y ≠ .ex C
theorem RQ.op (nx:nG f) (r1:Rep X.K X.mg H x dx) (r2:Rep X.K X.mg H y dy) (h:RQ X σ H (f dx dy) Q):rD X f x y H Q:=by
 cases e:f dx dy with
 | ok d=>rw [e] at h;exact ⟨dx,dy,d,r1,r2,e,h⟩
 | ex C=>exact absurd e (nx dx dy C)
 | bad=>rw [e] at h;exact False.elim h
theorem AR (h:tE X (EV.bin f ga gb) σ H Q):tE X ga σ H fun x H1=>tE X gb σ H1 fun y H2=>∃ dx dy,Rep X.K X.mg H2 x dx/\Rep X.K X.mg H2 y dy/\RQ X σ H2 (f dx dy) Q:=by
 obtain ⟨δ,hσ,h⟩:=h
 refine ⟨δ,hσ,(RQ.bind h).to fun x H1 s1 ⟨_,dx,r1,h1⟩ => ?_⟩
 refine ⟨δ,hσ.mono s1,(RQ.bind h1).to fun y H2 s2 ⟨_,dy,r2,h2⟩ => ?_⟩
 exact ⟨dx,dy,r1.mono s2,r2,h2⟩
theorem oE (nx:nG f) (ho:OpR X (binaryOp op) (rD X f)) (ha:SE X a ga) (hb:SE X b gb):SE X (.BinOp a op b pos) (EV.bin f ga gb) :=
 PE.weak (M9 ho ha hb) fun σ H Q h=>by
  obtain ⟨δ,hσ,q⟩:=AR h
  refine ⟨δ,hσ,q.to fun x H1 s1 ⟨δ1,hσ1,q1⟩=>⟨δ1,hσ1,q1.to fun y H2 s2 ⟨dx,dy,r1,r2,q2⟩=>RQ.op nx r1 r2 q2⟩⟩
theorem DF (nx:nG f) (ho:OpR X (compareOp op) (rD X f)) (ha:SE X a ga) (hb:SE X b gb) (hm:behindInMarks op b=false):SE X (.Compare a [op] [b] pos) (EV.bin f ga gb) :=
 PE.weak (GS ho ha hb hm) fun σ H Q h=>by
  obtain ⟨δ,hσ,q⟩:=AR h
  refine ⟨δ,hσ,q.to fun x H1 s1 ⟨δ1,hσ1,q1⟩=>⟨δ1,hσ1,q1.to fun y H2 s2 ⟨dx,dy,r1,r2,q2⟩=>RQ.op nx r1 r2 q2⟩⟩
theorem Ig (h:tT X (EV.bin f ga gb) σ H Q):tE X ga σ H fun x H1=>tE X gb σ H1 fun y H2=>∃ dx dy,Rep X.K X.mg H2 x dx/\Rep X.K X.mg H2 y dy/\RT X σ H2 (f dx dy) Q:=by
 obtain ⟨δ,hσ,h⟩:=h
 refine ⟨δ,hσ,(RT.bind h).to fun x H1 s1 ⟨_,dx,r1,h1⟩ => ?_⟩
 refine ⟨δ,hσ.mono s1,(RT.bind h1).to fun y H2 s2 ⟨_,dy,r2,h2⟩ => ?_⟩
 exact ⟨dx,dy,r1.mono s2,r2,h2⟩
theorem RT.op (nx:nG f) (r1:Rep X.K X.mg H x dx) (r2:Rep X.K X.mg H y dy) (h:RT X σ H (f dx dy) Q):rD X f x y H fun v H'=>∃ k,v=.bl k/\Q k H':=by
 cases e:f dx dy with
 | ok d =>
  rw [e] at h
  cases d with
  | bl k=>exact ⟨dx,dy,_,r1,r2,e,fun v H' s r=>by cases r;exact ⟨k,rfl,h H' s⟩⟩
  | _=>exact False.elim h
 | ex C=>exact absurd e (nx dx dy C)
 | bad=>rw [e] at h;exact False.elim h
theorem t6 (nx:nG f) (ho:OpR X (compareOp op) (rD X f)) (ha:SE X a ga) (hb:SE X b gb) (hm:behindInMarks op b=false):ST X (.Compare a [op] [b] pos) (EV.bin f ga gb) :=
 PT.weak (yY ho ha hb hm) fun σ H Q h=>by
  obtain ⟨δ,hσ,q⟩:=Ig h
  refine ⟨δ,hσ,q.to fun x H1 s1 ⟨δ1,hσ1,q1⟩=>⟨δ1,hσ1,q1.to fun y H2 s2 ⟨dx,dy,r1,r2,q2⟩=>RT.op nx r1 r2 q2⟩⟩
theorem rW {F:Value->Value->Sem Value} {f:D->D->R D} {C:Int->Int->Prop} {g:Int->Int->Int} (ho:OpR X F (rI C fun i j=>.int (g i j)))
  (hf:∀ dx dy d,f dx dy=.ok d->∃ i j,dx=.int i/\dy=.int j/\C i j/\d=.int (g i j)):OpR X F (rD X f):=by
 intro pins s σ H x y v u Q I rx ry ⟨dx,dy,d,r1,r2,e,q⟩
 obtain ⟨i,j,rfl,rfl,hc,rfl⟩:=hf dx dy d e
 cases r1
 cases r2
 exact ho pins s σ H _ _ v u Q I rx ry ⟨i,j,rfl,rfl,hc,q _ _ ↥31 (.int _)⟩
theorem ql {F:Value->Value->Sem Value} {f:D->D->R D} {g:Int->Int->Int} (ho:OpR X F (rI0 fun i j=>.int (g i j)))
  (hf:∀ dx dy d,f dx dy=.ok d->∃ i j,dx=.int i/\dy=.int j/\d=.int (g i j)):OpR X F (rD X f):=by
 intro pins s σ H x y v u Q I rx ry ⟨dx,dy,d,r1,r2,e,q⟩
 obtain ⟨i,j,rfl,rfl,rfl⟩:=hf dx dy d e
 cases r1
 cases r2
 exact ho pins s σ H _ _ v u Q I rx ry ⟨i,j,rfl,rfl,q _ _ ↥31 (.int _)⟩
theorem zi {F:Value->Value->Sem Value} {f:D->D->R D} {g:Int->Int->Bool} (ho:OpR X F (rI0 fun i j=>.bl (g i j)))
  (hf:∀ dx dy d,f dx dy=.ok d->∃ i j,dx=.int i/\dy=.int j/\d=.bl (g i j)):OpR X F (rD X f):=by
 intro pins s σ H x y v u Q I rx ry ⟨dx,dy,d,r1,r2,e,q⟩
 obtain ⟨i,j,rfl,rfl,rfl⟩:=hf dx dy d e
 cases r1
 cases r2
 exact ho pins s σ H _ _ v u Q I rx ry ⟨i,j,rfl,rfl,q _ _ ↥31 (.bl _)⟩
end
theorem xx (i:Int):nb i=Builtin.Int.intBits i:=by
 unfold nb Builtin.Int.intBits
 by_cases h:i=0
 ·rw [if_pos h,if_pos (by rw [h];rfl)]
 ·rw [if_neg h,if_neg (by simpa using h)]
theorem De {i j:Int} (h:MulOk i j):IntMulOk i j:=IntMulOk.of_le (m:=nb i) (n:=nb j) (Nat.le_of_eq (xx i).symm) (Nat.le_of_eq (xx j).symm) h
def M1 (K:PySem.W.Frag):R2:=fun x y H Q=>∃ a b xs ys,x=.ref a/\y=.ref b/\SqL K H a xs/\SqL K H b ys/\xs.length+ys.length<=sizeLine/\∀ p,H p=none->Q (.ref p) (upd H p (.lst (xs++ys)))
section
variable {X:Cx}
theorem aH (h:H p=none) (o:HO):aB H (upd H p o):=fun b u q=>by rw [aW (cY q h)];exact q
theorem zY (l b:Addr) (xs ys:Array Value) (n m:Nat) (d1 d2:Option Addr) (s1 s2:Array (Option Value)) (hz:xs.size+ys.size<=sizeLine) :
  Meets (Builtin.«list.__add__» ⟨[.ref l,.ref b],[]⟩) (fun _ R s=>s.heap.get? l=some { cls:=.type "list",dict:=d1,data:=.seq xs n,slots:=s1 }/\s.heap.get? b=some { cls:=.type "list",dict:=d2,data:=.seq ys m,slots:=s2 } /\
   R (.ok (.ret (Value.ref s.heap.objs.size))) { s with heap:=s.heap.push { cls:=.type "list",data:=.seq (xs++ys) } }) :=
 .of_wp fun prog w A R s h=>by
  obtain ⟨hp,g,dd,tk,os⟩:=s
  obtain ⟨ha,hb,h⟩:=h
  have f3:=AutoSeq1.sub_list_list
  wp_walk using AutoSeq1.wpAny_loadPart' ha,AutoSeq1.wpAny_loadPart' hb
  exact ⟨_,rfl,h⟩
theorem G3:OpR X (binaryOp .Add) (M1 X.K):=by
 intro pins s σ H x y v u Q I rx ry h
 obtain ⟨l,b,xs,zs,rfl,rfl,hH,hB,hz,q⟩:=h
 cases rx
 cases ry
 obtain ⟨its,r,⟨⟨c1,d1,t1,s1⟩,n,e,g1,g2,g3⟩,_⟩:=I.list hH
 obtain ⟨its2,r2,⟨⟨c2,d2,t2,s2⟩,n2,e2,k1,k2,k3⟩,_⟩:=I.list hB
 simp only at g1 g2 g3 k1 k2 k3
 subst g1 g2 g3 k1 k2 k3
 have hl:=r.length
 have hl2:=r2.length
 refine concat_meets ⟨_,e,rfl⟩ ⟨_,e2,rfl⟩ noFill_list_add seq_list_add F.slot_list_add F.entry_list_add (F.args_list_add_2 _ _) (zY l b its.toArray its2.toArray n n2 _ _ _ _ (by rw [List.size_toArray,List.size_toArray];omega)) ⟨e,e2,?_⟩
 have ea:its.toArray++its2.toArray=(its++its2).toArray:=by simp
 rw [ea]
 exact ⟨.ref _,_,I.lnew (t':=s.toks) (r.append r2) (by rw [List.length_append];omega),rfl,q _ I.fresh⟩
theorem gi [Decidable c]:(if c then R.ok d else R.bad)≠R.ex C:=by split<;>exact fun z=>nomatch z
theorem Nx:nG bY:=fun x y C z=>by unfold bY at z;split at z<;>first | cases z | exact gi z
theorem G6:OpR X (binaryOp .Add) (rD X bY):=by
 intro pins s σ H x y v u Q I rx ry ⟨dx,dy,d,r1,r2,e,q⟩
 unfold bY at e
 split at e
 ·cases e;cases r1;cases r2
  exact KL pins s σ H _ _ v u Q I rx ry ⟨_,_,rfl,rfl,q _ _ ↥31 (.int _)⟩
 ·split at e
  ·rename_i hz
   cases e;cases r1;cases r2
   exact xv pins s σ H _ _ v u Q I rx ry ⟨_,_,rfl,rfl,Nat.le_trans hz (by rw [sizeLine_eq];decide),q _ _ ↥31 (.str _)⟩
  ·cases e
 ·split at e
  ·rename_i hz
   cases e;cases r1;cases r2
   rename_i a xs h1 r1 b ys h2 r2
   exact G3 pins s σ H _ _ v u Q I rx ry ⟨a,b,xs,ys,rfl,rfl,h1,h2,by rw [r1.length,r2.length];exact Nat.le_trans hz (by rw [sizeLine_eq];decide),fun p hp=>q _ _ (aH hp _) (.lst (SqL.of aQ) ((r1.append r2).mono (aH hp _)))⟩
  ·cases e
 ·split at e
  ·rename_i hz
   cases e;cases r1;cases r2
   rename_i a xs h1 r1 b ys h2 r2
   refine G2 pins s σ H _ _ v u Q I rx ry ⟨a,b,xs,ys,rfl,rfl,h1,h2,fun z=>hz.1 ?_,by rw [r1.length,r2.length];exact Nat.le_trans hz.2 (by rw [sizeLine_eq];decide),fun z=>q _ _ ↥31 ?_,fun _ p hp=>q _ _ (aH hp _) (.tup (SqT.of aQ) ((r1.append r2).mono (aH hp _)))⟩
   ·subst z
    cases r1;rfl
   ·subst z
    cases r2
    rw [List.append_nil]
    exact .tup h1 r1
  ·cases e
 ·cases e
theorem Nm:nG fV:=fun x y C z=>by unfold fV at z;split at z<;>cases z
theorem GW:OpR X (binaryOp .Sub) (rD X fV):=ql KC fun dx dy d e=>by
 unfold fV at e;split at e
 ·cases e;exact ⟨_,_,rfl,rfl,rfl⟩
 ·cases e
theorem Nq:nG kq:=fun x y C z=>by unfold kq at z;split at z<;>first | cases z | exact gi z
theorem GZ:OpR X (binaryOp .Mult) (rD X kq):=rW (C:=IntMulOk) (opI fun _ _ _ _ _ _ _ hc q=>mul_int q hc) fun dx dy d e=>by
 unfold kq at e;split at e
 ·split at e
  ·rename_i h;cases e;exact ⟨_,_,rfl,rfl,De h,rfl⟩
  ·cases e
 ·cases e
theorem Nu:nG oDiv:=fun x y C z=>by unfold oDiv at z;split at z<;>first | cases z | exact gi z
theorem Vr (h:iF i j):Builtin.divisionGoesByPylong i j=false:=by
 obtain ⟨h0,h⟩:=h
 show (decide ((if j == 0 then 0 else j.natAbs.log2 / 30+1)>300)&&decide ((if i == 0 then 0 else i.natAbs.log2 / 30+1)>(if j == 0 then 0 else j.natAbs.log2 / 30+1)+150))=false
 have ej:(j == 0)=false:=by simp;omega
 unfold nb at h
 rw [if_neg (by omega:¬ j=0)] at h
 rw [ej]
 simp only [Bool.false_eq_true,if_false]
 rw [Bool.and_eq_false_iff,decide_eq_false_iff_not,decide_eq_false_iff_not]
 by_cases hi:i=0
 ·rw [if_pos (by simp [hi])];omega
 ·rw [if_neg (by simp [hi])]
  rw [if_neg hi] at h
  omega
theorem G1:OpR X (binaryOp .FloorDiv) (rD X oDiv):=rW (C:=iF) (g:=fun i j=>i / j) (opI fun i j _ _ _ _ _ hc q=>by
  have h1:(0:Int)<j:=hc.1
  exact floordiv_int ⋯ (by rw [Int.fdiv_eq_ediv_of_nonneg i ⋯];exact q) (.inl (Vr hc))) fun dx dy d e=>by
 unfold oDiv at e;split at e
 ·split at e
  ·rename_i h;cases e;exact ⟨_,_,rfl,rfl,h,rfl⟩
  ·cases e
 ·cases e
theorem Nr:nG oMod:=fun x y C z=>by unfold oMod at z;split at z<;>first | cases z | exact gi z
theorem G0:OpR X (binaryOp .Mod) (rD X oMod):=rW (C:=fun _ j=>0<j) (g:=fun i j=>i%j) KG fun dx dy d e=>by
 unfold oMod at e;split at e
 ·split at e
  ·rename_i h;cases e;exact ⟨_,_,rfl,rfl,h,rfl⟩
  ·cases e
 ·cases e
theorem Nn:nG eF:=fun x y C z=>by unfold eF at z;split at z<;>first | cases z | exact gi z
theorem GX:OpR X (binaryOp .LShift) (rD X eF):=rW (C:=fun i j=>0<=j/\(nb i:Int)+j<=134217728) (g:=fun i j=>i*pw j) (opI fun _ _ _ _ _ _ _ hc q=>lshift_int hc.1 (by rw [<- xx];exact hc.2) q) fun dx dy d e=>by
 unfold eF at e;split at e
 ·split at e
  ·rename_i h;cases e;exact ⟨_,_,rfl,rfl,h,rfl⟩
  ·cases e
 ·cases e
theorem Np:nG CN:=fun x y C z=>by unfold CN at z;split at z<;>first | cases z | exact gi z
theorem GY:OpR X (binaryOp .Pow) (rD X CN):=rW (C:=fun i j=>0<=j/\(nb i:Int)*j<=134217728) (g:=fun i j=>i^j.toNat) (opI fun _ _ _ _ _ _ _ hc q=>pow_int hc.1 (by rw [<- xx];exact hc.2) q) fun dx dy d e=>by
 unfold CN at e;split at e
 ·split at e
  ·rename_i h;cases e;exact ⟨_,_,rfl,rfl,h,rfl⟩
  ·cases e
 ·cases e
theorem KY:nG mD:=fun x y C z=>by unfold mD at z;split at z<;>first | cases z | exact gi z
theorem Nv:nG yf:=fun x y C z=>by unfold yf at z;split at z<;>first | cases z | exact gi z
theorem KW:nG qm:=fun x y C z=>by unfold qm at z;split at z<;>first | cases z | exact gi z
theorem AU (hi:0<=i) (hj:0<=j):Builtin.bitAnd i j=((i.toNat &&& j.toNat:Nat):Int):=by
 unfold Builtin.bitAnd
 rw [decide_eq_true hi,decide_eq_true hj]
theorem pe {i j:Int} (hi:0<=i) (hj:0<=j):Builtin.bitOr i j=((i.toNat ||| j.toNat:Nat):Int):=by
 unfold Builtin.bitOr Builtin.bitAnd Builtin.bitNot
 have h1:decide (0 <= -i - 1)=false:=decide_eq_false ⋯
 have h2:decide (0 <= -j - 1)=false:=decide_eq_false ⋯
 rw [h1,h2]
 dsimp only
 rw [show -(-i - 1) - 1=i by omega,show -(-j - 1) - 1=j by omega]
 omega
theorem xu (x:Nat):∀ y:Nat,x ||| y=(x ^^^ y)+(x &&& y):=by
 induction x using Nat.strongRecOn with
 | ind x ih =>
  intro y
  by_cases h0:x=0
  ·subst h0;simp
  ·have z:=ih (x / 2) ⋯ (y / 2)
   rw [<- Nat.or_div_two,<-Nat.xor_div_two,<-Nat.and_div_two] at z
   have m1 := @Nat.or_mod_two_eq_one x y
   have m2 := @Nat.xor_mod_two_eq_one x y
   have m3 := @Nat.and_mod_two_eq_one x y
   omega
theorem Ib (hi:0<=i) (hj:0<=j):Builtin.bitXor i j=((i.toNat ^^^ j.toNat:Nat):Int):=by
 unfold Builtin.bitXor
 rw [pe hi hj,AU hi hj]
 have h:i.toNat ||| j.toNat=(i.toNat ^^^ j.toNat)+(i.toNat &&& j.toNat):=xu _ _
 omega
theorem CJ:OpR X (binaryOp .BitAnd) (rD X mD):=ql KJ fun dx dy d e=>by
 unfold mD at e;split at e
 ·split at e
  ·rename_i h;cases e;exact ⟨_,_,rfl,rfl,by rw [AU h.1 h.2]⟩
  ·cases e
 ·cases e
theorem G5:OpR X (binaryOp .BitOr) (rD X yf):=ql Nd fun dx dy d e=>by
 unfold yf at e;split at e
 ·split at e
  ·rename_i h;cases e;exact ⟨_,_,rfl,rfl,by rw [pe h.1 h.2]⟩
  ·cases e
 ·cases e
theorem CI:OpR X (binaryOp .BitXor) (rD X qm):=ql KA fun dx dy d e=>by
 unfold qm at e;split at e
 ·split at e
  ·rename_i h;cases e;exact ⟨_,_,rfl,rfl,by rw [Ib h.1 h.2]⟩
  ·cases e
 ·cases e
theorem Sm:nG oLt:=fun x y C z=>by unfold oLt at z;split at z<;>cases z
theorem Vq:nG oGt:=fun x y C z=>by unfold oGt at z;split at z<;>cases z
theorem So:nG oGe:=fun x y C z=>by unfold oGe at z;split at z<;>cases z
theorem Ey:OpR X (compareOp .Lt) (rD X oLt):=zi Ng fun dx dy d e=>by
 unfold oLt at e;split at e
 ·cases e;exact ⟨_,_,rfl,rfl,rfl⟩
 ·cases e
theorem KI:OpR X (compareOp .Gt) (rD X oGt):=zi Nh fun dx dy d e=>by
 unfold oGt at e;split at e
 ·cases e;exact ⟨_,_,rfl,rfl,rfl⟩
 ·cases e
theorem EA:OpR X (compareOp .GtE) (rD X oGe):=zi Ni fun dx dy d e=>by
 unfold oGe at e;split at e
 ·cases e;exact ⟨_,_,rfl,rfl,rfl⟩
 ·cases e
end
section
variable {X:Cx} {pos:Pos} {a b c e:Expr} {ga gb gc g:E}
theorem ba (ha:SE X a ga) (hb:SE X b gb):SE X (.BinOp a .Add b pos) (EV.bin bY ga gb):=oE Nx G6 ha hb
theorem cF (ha:SE X a ga) (hb:SE X b gb):SE X (.BinOp a .Sub b pos) (EV.bin fV ga gb):=oE Nm GW ha hb
theorem gA (ha:SE X a ga) (hb:SE X b gb):SE X (.BinOp a .Mult b pos) (EV.bin kq ga gb):=oE Nq GZ ha hb
theorem eu (ha:SE X a ga) (hb:SE X b gb):SE X (.BinOp a .FloorDiv b pos) (EV.bin oDiv ga gb):=oE Nu G1 ha hb
theorem cW (ha:SE X a ga) (hb:SE X b gb):SE X (.BinOp a .Mod b pos) (EV.bin oMod ga gb):=oE Nr G0 ha hb
theorem cA (ha:SE X a ga) (hb:SE X b gb):SE X (.BinOp a .LShift b pos) (EV.bin eF ga gb):=oE Nn GX ha hb
theorem NQ (ha:SE X a ga) (hb:SE X b gb):SE X (.BinOp a .Pow b pos) (EV.bin CN ga gb):=oE Np GY ha hb
theorem EO (ha:SE X a ga) (hb:SE X b gb):SE X (.BinOp a .BitAnd b pos) (EV.bin mD ga gb):=oE KY CJ ha hb
theorem HZ (ha:SE X a ga) (hb:SE X b gb):SE X (.BinOp a .BitOr b pos) (EV.bin yf ga gb):=oE Nv G5 ha hb
theorem AF (ha:SE X a ga) (hb:SE X b gb):SE X (.BinOp a .BitXor b pos) (EV.bin qm ga gb):=oE KW CI ha hb
theorem V0 (ha:SE X a ga) (hb:SE X b gb):SE X (.Compare a [.Lt] [b] pos) (EV.bin oLt ga gb):=DF Sm Ey ha hb (ju _)
theorem Ss (ha:SE X a ga) (hb:SE X b gb):SE X (.Compare a [.GtE] [b] pos) (EV.bin oGe ga gb):=DF So EA ha hb (ju _)
theorem wV (ha:SE X a ga) (hb:SE X b gb):ST X (.Compare a [.Lt] [b] pos) (EV.bin oLt ga gb):=t6 Sm Ey ha hb (ju _)
theorem MK (ha:SE X a ga) (hb:SE X b gb):ST X (.Compare a [.Gt] [b] pos) (EV.bin oGt ga gb):=t6 Vq KI ha hb (ju _)
theorem Ek (ha:SE X a ga) (hb:SE X b gb):ST X (.Compare a [.GtE] [b] pos) (EV.bin oGe ga gb):=t6 So EA ha hb (ju _)
theorem xP (ha:SE X a ga):SE X (.UnaryOp .USub a pos) (un CQ ga) :=
 PE.weak (M7 Jn ha) fun σ H Q ⟨δ,hσ,h⟩=>⟨δ,hσ,(RQ.bind h).to fun v H1 s1 ⟨_,d,r,q⟩=>by
  unfold CQ at q
  split at q
  ·cases r;exact ⟨_,rfl,q _ _ ↥31 (.int _)⟩
  ·exact False.elim q⟩
end
end ES
namespace ES
open PySem PySem.Spec PyProof.Rows L2 EV
unseal SE ST SW SA
mutual
def py:D->PyData
 | .non=>.none
 | .bl b=>.bool b
 | .int i=>.int i
 | .str x=>.str x
 | .tup ds=>.tuple (pys ds)
 | .lst ds=>.list (pys ds)
 | _=>.dict []
def pys:List D->List PyData
 | []=>[]
 | d::r=>py d::pys r
end
section
variable {X:Cx} {pins:List ↥11} {σ:L2.St} {H:Hp} {s:Shared}
mutual
theorem qi (I:Inv X pins σ H s):∀ {v:V} {d:D} {u:Value},(py d).canLay0=true->Rep X.K X.mg H v d->RelV v u->∃ as,Reads s.heap u (py d) as
 | _,_,u,_,.non,r=>by cases r;exact ⟨_,.none⟩
 | _,_,u,_,.bl b,r=>by cases r;exact ⟨_,.bool b⟩
 | _,_,u,_,.int i,r=>by obtain ⟨t,rfl⟩:=r;exact ⟨_,.int i t⟩
 | _,_,u,_,.str x,r=>by obtain ⟨t,rfl⟩:=r;exact ⟨_,.str x t⟩
 | _,.tup ds,u,hc,.tup hq rs,r=>by
  cases r
  obtain ⟨its,rv,⟨o,h1,h2,n,h3⟩,_⟩:=I.tuple hq
  obtain ⟨as,ra⟩:=iS I (by simpa [py,PyData.canLay0] using hc) rs rv
  exact ⟨_,.tuple h1 h2 h3 (by simpa using ra)⟩
 | _,.lst ds,u,hc,.lst hq rs,r=>by
  cases r
  obtain ⟨its,rv,⟨o,n,h1,h2,_,h3⟩,_⟩:=I.list hq
  obtain ⟨as,ra⟩:=iS I (by simpa [py,PyData.canLay0] using hc) rs rv
  exact ⟨_,.list h1 h2 h3 (by simpa using ra)⟩
 | _,.ty n,u,hc,_,_=>by simp [py,PyData.canLay0] at hc
 | _,.cls a,u,hc,_,_=>by simp [py,PyData.canLay0] at hc
 | _,.exc a,u,hc,_,_=>by simp [py,PyData.canLay0] at hc
 | _,.ins a b,u,hc,_,_=>by simp [py,PyData.canLay0] at hc
theorem iS (I:Inv X pins σ H s):∀ {vs:List V} {ds:List D} {us:List Value},PyData.canLayAll0 (pys ds)=true->Reps X.K X.mg H vs ds->Vals vs us->∃ as,ReadsAll s.heap us (pys ds) as
 | _,_,_,_,.nil,r=>by cases r;exact ⟨_,.nil⟩
 | _,dd::dr,_,hc,.cons r t,q=>by
  cases q with
  | cons q1 q2 =>
   have hc':PyData.canLay0 (py dd)=true/\PyData.canLayAll0 (pys dr)=true:=by simpa [pys,PyData.canLayAll0] using hc
   obtain ⟨a1,r1⟩:=qi I hc'.1 r q1
   obtain ⟨a2,r2⟩:=iS I hc'.2 t q2
   exact ⟨_,.cons r1 r2⟩
end
end
mutual
theorem zc:∀ (n:Nat) (d:D),D.pl n d=true->(py d).canLay0=true/\(py d).depth<=n
 | _,.non,_=>⟨rfl,Nat.zero_le _⟩
 | _,.bl _,_=>⟨rfl,Nat.zero_le _⟩
 | _,.int _,_=>⟨rfl,Nat.zero_le _⟩
 | _,.str x,h=>⟨by simpa [py,PyData.canLay0,PyData.strOk,D.pl] using h,Nat.zero_le _⟩
 | 0,.tup _,h=>by simp [D.pl] at h
 | 0,.lst _,h=>by simp [D.pl] at h
 | n+1,.tup ds,h=>by
  have z:=uv n ds (by simpa [D.pl] using h)
  exact ⟨by simpa [py,PyData.canLay0] using z.1,by simp only [py,PyData.depth];omega⟩
 | n+1,.lst ds,h=>by
  have z:=uv n ds (by simpa [D.pl] using h)
  exact ⟨by simpa [py,PyData.canLay0] using z.1,by simp only [py,PyData.depth];omega⟩
 | n,.own _,h=>by cases n<;>simp [D.pl] at h
 | n,.ty _,h=>by cases n<;>simp [D.pl] at h
 | n,.cls _,h=>by cases n<;>simp [D.pl] at h
 | n,.exc _,h=>by cases n<;>simp [D.pl] at h
 | n,.ins _ _,h=>by cases n<;>simp [D.pl] at h
theorem uv:∀ (n:Nat) (ds:List D),(∀ d∈ds,D.pl n d=true)->PyData.canLayAll0 (pys ds)=true/\PyData.depthAll (pys ds)<=n
 | _,[],_=>⟨rfl,Nat.zero_le _⟩
 | n,d::r,h=>by
  have z1:=zc n d (h d (.head _))
  have z2:=uv n r (fun x hx=>h x (.tail _ hx))
  exact ⟨by simp [pys,PyData.canLayAll0,z1.1,z2.1],by simp only [pys,PyData.depthAll];omega⟩
end
mutual
theorem AS:∀ (n:Nat) (a b:D),D.pl n a=true->D.pl n b=true->D.beq a b=PyData.eqv (py a) (py b)
 | n,a,b,ha,hb=>by
  cases a<;>cases b<;>first
   | rfl
   | (cases n<;>simp [D.pl] at ha;done)
   | (cases n<;>simp [D.pl] at hb;done)
   | skip
  all_goals cases n with
   | zero=>simp [D.pl] at ha
   | succ n =>
    simp only [D.beq,py,PyData.eqv]
    exact wc n _ _ (by simpa [D.pl] using ha) (by simpa [D.pl] using hb)
theorem wc:∀ (n:Nat) (as bs:List D),(∀ d∈as,D.pl n d=true)->(∀ d∈bs,D.pl n d=true)->D.beqs as bs=PyData.eqvAll (pys as) (pys bs)
 | _,[],[],_,_=>rfl
 | _,[],_::_,_,_=>rfl
 | _,_::_,[],_,_=>rfl
 | n,a::as,b::bs,ha,hb=>by
  simp only [D.beqs,pys,PyData.eqvAll]
  rw [AS n a b (ha a (.head _)) (hb b (.head _)),wc n as bs (fun x hx=>ha x (.tail _ hx)) (fun x hx=>hb x (.tail _ hx))]
end
section
variable {X:Cx}
theorem Sq:nG oEq:=fun x y C z=>by unfold oEq at z;exact gi z
theorem Vo:nG oNe:=fun x y C z=>by unfold oNe at z;exact gi z
theorem NZ (r1:Rep X.K X.mg H x dx) (r2:Rep X.K X.mg H y dy) (sx:dx.sc=true) (sy:dy.sc=true) (n:Mb x y=true):decide (x=y)=D.beq dx dy:=by
 cases r1<;>cases sx<;>cases r2<;>cases sy<;>first
  | exact absurd (show false=true from n) Bool.false_ne_true
  | exact uY
  | exact AH
  | exact uX
  | (simp [D.beq];done)
theorem AA (n:Bool) (hu:X.A.units+64<cLine) (I:Inv X pins σ H s) (rx:RelV x v) (ry:RelV y u) (r1:Rep X.K X.mg H x dx) (r2:Rep X.K X.mg H y dy)
  (hc:D.cmp dx dy=true) (q:Q (.bl (xor n (D.beq dx dy))) H):wpAny ↥4 X.A (compareOp (if n then .NotEq else .Eq) v u) (EP X pins σ Q) X.xe s:=by
 unfold D.cmp at hc
 by_cases hp:(D.pl 8 dx&&D.pl 8 dy)=true
 ·rw [Bool.and_eq_true] at hp
  obtain ⟨l1,d1⟩:=zc 8 dx hp.1
  obtain ⟨l2,d2⟩:=zc 8 dy hp.2
  obtain ⟨as,ra⟩:=qi I l1 r1 rx
  obtain ⟨bs,rb⟩:=qi I l2 r2 ry
  have e:=AS 8 dx dy hp.1 hp.2
  cases n with
  | false =>
   refine (SeqAt.rcAt_reads ra rb l1 l2 ⋯ X.prog X.w X.xe _ ?_:wpAny ↥4 X.A (compareOp .Eq v u) _ _ _)
   exact fD I q (by rw [Bool.false_xor,e])
  | true =>
   refine (SeqAt.rcNeAt_reads ra rb l1 l2 ⋯ X.prog X.w X.xe _ ?_:wpAny ↥4 X.A (compareOp .NotEq v u) _ _ _)
   exact fD I q (by rw [Bool.true_xor,e])
 ·have hs:(dx.sc&&dy.sc)=true:=by
   rw [Bool.or_eq_true] at hc
   exact hc.resolve_right hp
  rw [Bool.and_eq_true] at hs
  have hsc:Mb x y=true:=by
   cases r1<;>cases (hs.1)<;>cases r2<;>cases (hs.2)<;>first | rfl | exact absurd rfl hp
  have e:=NZ r1 r2 hs.1 hs.2 hsc
  cases n with
  | false=>exact Nj pins s σ H x y v u Q I rx ry ⟨hsc,by rw [e];rw [Bool.false_xor] at q;exact q⟩
  | true=>exact Nf pins s σ H x y v u Q I rx ry ⟨hsc,by rw [e];rw [Bool.true_xor] at q;exact q⟩
theorem EB (hu:X.A.units+64<cLine):OpR X (compareOp .Eq) (rD X oEq):=by
 intro pins s σ H x y v u Q I rx ry ⟨dx,dy,d,r1,r2,e,q⟩
 unfold oEq at e
 split at e
 ·rename_i hc
  cases e
  exact AA false hu I rx ry r1 r2 hc (by rw [Bool.false_xor];exact q _ _ ↥31 (.bl _))
 ·cases e
theorem KD (hu:X.A.units+64<cLine):OpR X (compareOp .NotEq) (rD X oNe):=by
 intro pins s σ H x y v u Q I rx ry ⟨dx,dy,d,r1,r2,e,q⟩
 unfold oNe at e
 split at e
 ·rename_i hc
  cases e
  exact AA true hu I rx ry r1 r2 hc (by rw [Bool.true_xor];exact q _ _ ↥31 (.bl _))
 ·cases e
theorem p6 (r:Rep X.K X.mg H x d) (h:d.sc=true):oz x=true:=by cases r<;>first | rfl | cases h
theorem l7:∀ {xs:List V} {ds:List D},Reps X.K X.mg H xs ds->ds.all D.sc=true->xs.all oz=true
 | _,_,.nil,_=>rfl
 | _,_,.cons r t,h=>by
  rw [List.all_cons,Bool.and_eq_true] at h
  rw [List.all_cons,p6 r h.1,l7 t h.2];rfl
theorem HV (r1:Rep X.K X.mg H x dx) (r2:Rep X.K X.mg H y dy) (sx:dx.sc=true) (sy:dy.sc=true):eqV x y=D.beq dx dy:=by
 cases r1<;>cases sx<;>cases r2<;>cases sy<;>rfl
theorem Ag (r:Rep X.K X.mg H x dx) (sx:dx.sc=true):∀ {xs:List V} {ds:List D},Reps X.K X.mg H xs ds->ds.all D.sc=true->inV x xs=ds.any fun y=>D.beq y dx
 | _,_,.nil,_=>rfl
 | _,_,.cons r' t,h=>by
  rw [List.all_cons,Bool.and_eq_true] at h
  unfold inV
  rw [List.any_cons,List.any_cons,HV r' r h.1 sx]
  exact congrArg _ (Ag r sx t h.2)
theorem Af (neg:Bool) (I:Inv X pins σ H s) (rx:RelV x v) (ry:RelV y u) (r1:Rep X.K X.mg H x dx) (r2:Rep X.K X.mg H y dy)
  (hc:oIn dx dy=.ok (.bl k)) (q:Q (.bl (xor neg k)) H):wpAny ↥4 X.A (compareOp (if neg then .NotIn else .In) v u) (EP X pins σ Q) X.xe s:=by
 have seq:∀ {p:Addr} {xs:List V} {ds:List D},y=.ref p->(SqL X.K H p xs\/SqT X.K H p xs)->Reps X.K X.mg H xs ds->isIn dx ds=some k->wpAny ↥4 X.A (compareOp (if neg then .NotIn else .In) v u) (EP X pins σ Q) X.xe s:=fun {p xs ds} ey hq rs hi=>by
  subst ey
  unfold isIn at hi
  split at hi
  ·rename_i hs
   rw [Bool.and_eq_true] at hs
   cases hi
   have e:=Ag r1 hs.1 rs hs.2
   cases neg with
   | false=>exact zm pins s σ H _ _ v u Q I rx ry ⟨p,xs,rfl,hq,p6 r1 hs.1,l7 rs hs.2,by rw [if_neg ↥0,e];rw [Bool.false_xor] at q;exact q⟩
   | true=>exact rY pins s σ H _ _ v u Q I rx ry ⟨p,xs,rfl,hq,p6 r1 hs.1,l7 rs hs.2,by rw [if_pos rfl,e];rw [Bool.true_xor] at q;exact q⟩
  ·cases hi
 have hseq:∀ {ds:List D},(match isIn dx ds with | some k=>R.ok (D.bl k) | none=>R.bad)=.ok (.bl k)->isIn dx ds=some k:=fun {ds} h=>by
  cases e:isIn dx ds with
  | none=>rw [e] at h;cases h
  | some k'=>rw [e] at h;cases h;rfl
 cases r2 with
 | tup hq rs=>exact seq rfl (.inr hq) rs (hseq (by cases dx<;>exact hc))
 | lst hq rs=>exact seq rfl (.inl hq) rs (hseq (by cases dx<;>exact hc))
 | str b =>
  cases r1 with
  | str a =>
   obtain ⟨⟨l⟩⟩:=a
   cases l with
   | nil=>cases hc
   | cons c t =>
    cases t with
    | cons _ _=>cases hc
    | nil =>
     cases hc
     have e:=empty_one b c
     cases neg with
     | false=>exact zk pins s σ H _ _ v u Q I rx ry ⟨_,_,rfl,rfl,by rw [e,Bool.not_not];rw [Bool.false_xor] at q;exact q⟩
     | true=>exact rX pins s σ H _ _ v u Q I rx ry ⟨_,_,rfl,rfl,by rw [e,Bool.not_not];rw [Bool.true_xor] at q;exact q⟩
  | _=>cases hc
 | _=>cases dx<;>cases hc
theorem vO:(∃ k,oIn a b=.ok (.bl k))\/oIn a b=.bad:=by
 unfold oIn
 split<;>first
  | exact .inr rfl
  | (split<;>first | exact .inl ⟨_,rfl⟩ | exact .inr rfl)
theorem Sn:nG oIn:=fun x y C z=>by rcases vO (a:=x) (b:=y) with ⟨k,e⟩ | e<;>rw [e] at z<;>cases z
theorem Ho:nG dE:=fun x y C z=>by unfold dE at z;rcases vO (a:=x) (b:=y) with ⟨k,e⟩ | e<;>rw [e] at z<;>cases z
theorem Ez:OpR X (compareOp .In) (rD X oIn):=by
 intro pins s σ H x y v u Q I rx ry ⟨dx,dy,d,r1,r2,e,q⟩
 rcases vO (a:=dx) (b:=dy) with ⟨k,e'⟩ | e'<;>rw [e'] at e<;>cases e
 exact Af false I rx ry r1 r2 e' (by rw [Bool.false_xor];exact q _ _ ↥31 (.bl _))
theorem zj:OpR X (compareOp .NotIn) (rD X dE):=by
 intro pins s σ H x y v u Q I rx ry ⟨dx,dy,d,r1,r2,e,q⟩
 unfold dE at e
 rcases vO (a:=dx) (b:=dy) with ⟨k,e'⟩ | e'<;>rw [e'] at e<;>cases e
 exact Af true I rx ry r1 r2 e' (by rw [Bool.true_xor];exact q _ _ ↥31 (.bl _))
end
section
variable {X:Cx} {pos:Pos} {a b c e:Expr} {ga gb gc g:E} {k:Nat}
theorem Br (hu:Room k X.A) (ha:SE X a ga) (hb:SE X b gb):SE X (.Compare a [.Eq] [b] pos) (EV.bin oEq ga gb):=DF Sq (EB hu.units) ha hb (ju _)
theorem dm (hu:Room k X.A) (ha:SE X a ga) (hb:SE X b gb):ST X (.Compare a [.Eq] [b] pos) (EV.bin oEq ga gb):=t6 Sq (EB hu.units) ha hb (ju _)
theorem II (hu:Room k X.A) (ha:SE X a ga) (hb:SE X b gb):ST X (.Compare a [.NotEq] [b] pos) (EV.bin oNe ga gb):=t6 Vo (KD hu.units) ha hb (ju _)
theorem NR (ha:SE X a ga) (hb:SE X b gb) (hm:behindInMarks .In b=false:=by rfl):SE X (.Compare a [.In] [b] pos) (EV.bin oIn ga gb):=DF Sn Ez ha hb hm
theorem Cc (ha:SE X a ga) (hb:SE X b gb) (hm:behindInMarks .In b=false:=by rfl):ST X (.Compare a [.In] [b] pos) (EV.bin oIn ga gb):=t6 Sn Ez ha hb hm
theorem yF (ha:SE X a ga) (hb:SE X b gb) (hm:behindInMarks .NotIn b=false:=by rfl):ST X (.Compare a [.NotIn] [b] pos) (EV.bin dE ga gb):=t6 Ho zj ha hb hm
theorem Ll (r:Rep X.K X.mg H v d):tV d=.ok (.bl (decide (v=.non)))/\uA d=.ok (.bl (!decide (v=.non))):=by
 cases r<;>exact ⟨rfl,rfl⟩
theorem Lk (h:tE X (un tV ga) σ H Q):tE X ga σ H fun x H1=>tE X (con .non) σ H1 fun y H2=>y=.non/\Q (.bl (decide (x=.non))) H2:=by
 obtain ⟨δ,hσ,h⟩:=h
 refine ⟨δ,hσ,(RQ.bind h).to fun x H1 s1 ⟨_,d,r,q⟩=>⟨δ,hσ.mono s1,fun v H2 s2 r2 => ?_⟩⟩
 cases r2
 rw [(Ll r).1] at q
 exact ⟨rfl,q _ _ s2 (.bl _)⟩
theorem vA (h:tT X g σ H Q):tE X g σ H fun v H'=>∃ k,v=.bl k/\Q k H':=by
 obtain ⟨δ,hσ,h⟩:=h
 refine ⟨δ,hσ,?_⟩
 cases q:g δ with
 | ok d =>
  rw [q] at h
  cases d with
  | bl k=>exact fun v H' s r=>by cases r;exact ⟨k,rfl,h H' s⟩
  | _=>exact False.elim h
 | ex C=>rw [q] at h;exact h
 | bad=>rw [q] at h;exact False.elim h
theorem Cb (ha:SE X a ga):ST X (.Compare a [.Is] [.Constant .none j p2] pos) (un tV ga):=PT.weak (yY KH ha DD (ju _)) fun σ H Q h=>Lk (vA h)
theorem iQ (h:SE X e g) (he:∀ whole,isTrue e X.env whole=(do let v<-whole;standAt e.pos;holding [v] (truthy v)):=by intro _;rfl):ST X e g:=PT.weak (Kc h he) fun σ H Q q=>vA q
theorem RT.truth (h:RT X σ H (r.bind fun d=>truth d t f) Q):RT X σ H r fun k H'=>aB H H'/\if k=true then RT X σ H' t Q else RT X σ H' f Q:=by
 cases r with
 | ok d =>
  cases d with
  | bl k =>
   cases k with
   | true=>exact fun H' s=>⟨s,HC (RT.mono s h)⟩
   | false=>exact fun H' s=>⟨s,HD (RT.mono s h)⟩
  | _=>exact False.elim h
 | ex C=>exact h
 | bad=>exact False.elim h
theorem RT.to (h:RT X σ H r Q) (g:∀ k H',aB H H'->Q k H'->Q' k H'):RT X σ H r Q':=by
 cases r with
 | ok d =>
  cases d with
  | bl k=>exact fun H' s=>g k H' s (h H' s)
  | _=>exact False.elim h
 | ex C=>exact h
 | bad=>exact False.elim h
theorem RQ.truthT (h:RQ X σ H (r.bind fun d=>truth d t f) Q):RT X σ H r fun k H'=>aB H H'/\if k=true then RQ X σ H' t Q else RQ X σ H' f Q:=by
 cases r with
 | ok d =>
  cases d with
  | bl k =>
   cases k with
   | true=>exact fun H' s=>⟨s,HC (RQ.mono s h)⟩
   | false=>exact fun H' s=>⟨s,HD (RQ.mono s h)⟩
  | _=>exact False.elim h
 | ex C=>exact h
 | bad=>exact False.elim h
theorem RQ.truth (h:RQ X σ H (r.bind fun d=>truth d t f) Q):RQ X σ H r fun v H'=>∃ k,v=.bl k/\if k=true then RQ X σ H' t Q else RQ X σ H' f Q:=by
 cases r with
 | ok d =>
  cases d with
  | bl k =>
   cases k with
   | true=>exact fun v H' s r=>by cases r;exact ⟨true,rfl,HC (RQ.mono s h)⟩
   | false=>exact fun v H' s r=>by cases r;exact ⟨false,rfl,HD (RQ.mono s h)⟩
  | _=>exact False.elim h
 | ex C=>exact h
 | bad=>exact False.elim h
theorem sk {k:Bool} {A B A' B':Prop} (h:if k=true then A else B) (f:A->A') (g:B->B'):if k=true then A' else B':=by
 cases k with
 | true=>exact HC (f (by simpa using h))
 | false=>exact HD (g (by simpa using h))
theorem JK (h:ST X a ga):ST X (.UnaryOp .Not a pos) (KZ ga):=PT.weak (Kd h) fun σ H Q ⟨δ,hσ,q⟩=>⟨δ,hσ,(RT.truth q).to fun k H' s ⟨_,z⟩=>by
 cases k with
 | true=>exact (show RT X σ H' (.ok (.bl false)) Q by simpa using z) H' ↥31
 | false=>exact (show RT X σ H' (.ok (.bl true)) Q by simpa using z) H' ↥31⟩
theorem t_w (h:SW X e g):ST X e g:=PW.pt h
theorem i8 (h:ST X a ga):SW X (.BoolOp .And [a] pos) ga:=GK h
theorem rg (h:ST X a ga):SW X (.BoolOp .Or [a] pos) ga:=J9 h
theorem w_and {rest:List Expr} (h:ST X a ga) (hb:SW X (.BoolOp .And (b::rest) pos) gb):SW X (.BoolOp .And (a::b::rest) pos) (jO ga gb) :=
 PW.weak (Ka h hb) fun σ H Q ⟨δ,hσ,q⟩=>⟨δ,hσ,(RT.truth q).to fun k H' s ⟨_,z⟩=>sk z (fun z=>⟨δ,hσ.mono s,z⟩) (fun z=>z H' ↥31)⟩
theorem w_or {rest:List Expr} (h:ST X a ga) (hb:SW X (.BoolOp .Or (b::rest) pos) gb):SW X (.BoolOp .Or (a::b::rest) pos) (or_ ga gb) :=
 PW.weak (M3 h hb) fun σ H Q ⟨δ,hσ,q⟩=>⟨δ,hσ,(RT.truth q).to fun k H' s ⟨_,z⟩=>sk z (fun z=>z H' ↥31) (fun z=>⟨δ,hσ.mono s,z⟩)⟩
theorem uW {op} (h:SE X a g):SE X (.BoolOp op [a] pos) g:=Kn h
theorem xQ {rest:List Expr} (h:SE X a ga) (hb:SE X (.BoolOp .And (b::rest) pos) gb):SE X (.BoolOp .And (a::b::rest) pos) (jO ga gb) :=
 PE.weak (Ku h hb) fun σ H Q ⟨δ,hσ,q⟩=>⟨δ,hσ,(RQ.truth q).to fun v H' s ⟨k,e,z⟩=>⟨k,e,sk z (fun z=>⟨δ,hσ.mono s,z⟩) (fun z=>z _ H' ↥31 (.bl _))⟩⟩
theorem Sr {rest:List Expr} (h:SE X a ga) (hb:SE X (.BoolOp .Or (b::rest) pos) gb):SE X (.BoolOp .Or (a::b::rest) pos) (or_ ga gb) :=
 PE.weak (M8 h hb) fun σ H Q ⟨δ,hσ,q⟩=>⟨δ,hσ,(RQ.truth q).to fun v H' s ⟨k,e,z⟩=>⟨k,e,sk z (fun z=>z _ H' ↥31 (.bl _)) (fun z=>⟨δ,hσ.mono s,z⟩)⟩⟩
theorem AD (h:ST X c gc) (ha:SE X a ga) (hb:SE X b gb):SE X (.IfExp c a b pos) (ife gc ga gb) :=
 PE.weak (CC h ha hb) fun σ H Q ⟨δ,hσ,q⟩=>⟨δ,hσ,(RQ.truthT q).to fun k H' s ⟨_,z⟩=>sk z (fun z=>⟨δ,hσ.mono s,z⟩) (fun z=>⟨δ,hσ.mono s,z⟩)⟩
theorem bR:SA X [] []:=PA.weak mr fun σ H Q ⟨δ,hσ,h⟩=>h [] H (aB.refl H) .nil
theorem RA.cons (h:RA X σ H (evs (g::gs) δ) Q):RQ X σ H (g δ) fun v H1=>RA X σ H1 (evs gs δ) fun vs H2=>aB H1 H2->∀ d,Rep X.K X.mg H1 v d->Q (v::vs) H2:=by
 unfold evs at h
 cases q:g δ with
 | ok d =>
  rw [q] at h
  refine fun v H1 s1 r1 => ?_
  simp only [R.bind] at h
  cases q2:evs gs δ with
  | ok ds =>
   rw [q2] at h
   exact fun vs H2 s2 rs s2' d' r'=>h (v::vs) H2 (s1.trans s2) (.cons (r1.mono s2) rs)
  | ex C=>rw [q2] at h;exact fun Ca hc H' s'=>h Ca hc H' (s1.trans s')
  | bad=>rw [q2] at h;exact h
 | ex C=>rw [q] at h;exact h
 | bad=>rw [q] at h;exact h
theorem RA.to (h:RA X σ H r Q) (g:∀ v H',aB H H'->Q v H'->Q' v H'):RA X σ H r Q':=by
 cases r with
 | ok d=>exact fun v H' s r=>g v H' s (h v H' s r)
 | ex C=>exact h
 | bad=>exact h
theorem ag (ha:SE X e g) (hr:SA X es gs) (hs:starEach (e::es) X.env=↥34::starEach es X.env:=by rfl):SA X (e::es) (g::gs) :=
 PA.weak (ko ha hr hs) fun σ H Q ⟨δ,hσ,h⟩=>by
  refine ⟨δ,hσ,?_⟩
  cases q:g δ with
  | ok d =>
   have h':=RA.cons h
   rw [q] at h'
   exact fun v H1 s1 r1=>⟨δ,hσ.mono s1,(h' v H1 s1 r1).to fun vs H2 s2 z=>z s2 d r1⟩
  | ex C =>
   have h':=RA.cons h
   rw [q] at h'
   exact h'
  | bad =>
   have h':=RA.cons h
   rw [q] at h'
   exact h'
theorem aV {x1} (h:SA X es gs) (hl:es.length<=1000) (hg:gs.length=es.length:=by rfl):SE X (.Tuple es x1 pos) (df gs) :=
 PE.weak (Km h) fun σ H Q ⟨δ,hσ,q⟩=>⟨δ,hσ,by
  have q':=RA.bind q
  cases e:evs gs δ with
  | ok ds =>
   have hd:ds.length=gs.length:=evs_len e
   rw [e] at q'
   refine fun vs H1 s1 rs => ?_
   obtain ⟨_,ds',rs',q2⟩:=q' vs H1 s1 rs
   refine ⟨by rw [rs.length,hd,hg];exact Nat.le_of_lt (jc hl),fun p hp=>q2 _ _ (aH hp _) (.tup (SqT.of aQ) (rs'.mono (aH hp _)))⟩
  | ex C=>rw [e] at q';exact q'
  | bad=>rw [e] at q';exact q'⟩
where
 evs_len {δ:Dt}:∀ {gs:List E} {ds:List D},evs gs δ=.ok ds->ds.length=gs.length
  | [],ds,e=>by cases e;rfl
  | g::gs,ds,e=>by
   unfold evs at e
   cases q:g δ with
   | ok d =>
    rw [q] at e
    simp only [R.bind] at e
    cases q2:evs gs δ with
    | ok ds'=>rw [q2] at e;cases e;simp [evs_len q2]
    | ex C=>rw [q2] at e;cases e
    | bad=>rw [q2] at e;cases e
   | ex C=>rw [q] at e;cases e
   | bad=>rw [q] at e;cases e
theorem cT (h:SA X es gs) (hl:es.length<=1000) (hg:gs.length=es.length:=by rfl):SE X (.List es pos) (iX gs) :=
 PE.weak (ze h) fun σ H Q ⟨δ,hσ,q⟩=>⟨δ,hσ,by
  have q':=RA.bind q
  cases e:evs gs δ with
  | ok ds =>
   have hd:ds.length=gs.length:=aV.evs_len e
   rw [e] at q'
   refine fun vs H1 s1 rs => ?_
   obtain ⟨_,ds',rs',q2⟩:=q' vs H1 s1 rs
   refine ⟨by rw [rs.length,hd,hg];exact Nat.le_of_lt (jc hl),fun p hp=>q2 _ _ (aH hp _) (.lst (SqL.of aQ) (rs'.mono (aH hp _)))⟩
  | ex C=>rw [e] at q';exact q'
  | bad=>rw [e] at q';exact q'⟩
theorem Vp:nG oIx:=fun x y C z=>by
 unfold oIx at z
 split at z
 ·split at z<;>cases z
 ·split at z<;>cases z
 ·split at z
  ·split at z<;>cases z
  ·cases z
 ·cases z
theorem wd (rs:Reps X.K X.mg H xs ds) (h:((EV.ixN ds.length i).bind fun j=>ds[j]?)=some d):∃ v,atI xs i=some v/\Rep X.K X.mg H v d:=by
 have el:=rs.length
 cases q:EV.ixN ds.length i with
 | none=>rw [q] at h;cases h
 | some j =>
  rw [q] at h
  obtain ⟨v,h1,h2⟩:=rs.get h
  refine ⟨v,?_,h2⟩
  unfold atI
  rw [el,show L2.ixN ds.length i=some j from q]
  exact h1
theorem VG:IxR X (rD X oIx):=by
 intro value slice pins s σ H x y v u Q I rx ry ⟨dx,dy,d,r1,r2,e,q⟩ hs
 unfold oIx at e
 split at e
 ·split at e
  ·rename_i h
   cases e;cases r1;cases r2
   rename_i a xs hq rs
   obtain ⟨w,h1,h2⟩:=wd rs h
   exact oS value slice pins s σ H _ _ v u Q I rx ry ⟨a,xs,_,w,rfl,rfl,hq,h1,q _ _ ↥31 h2⟩ hs
  ·cases e
 ·split at e
  ·rename_i h
   cases e;cases r1;cases r2
   rename_i a xs hq rs
   obtain ⟨w,h1,h2⟩:=wd rs h
   exact HB value slice pins s σ H _ _ v u Q I rx ry ⟨a,xs,_,w,rfl,rfl,hq,h1,q _ _ ↥31 h2⟩ hs
  ·cases e
 ·split at e
  ·rename_i hz
   split at e
   ·rename_i c h
    cases e;cases r1;cases r2
    refine Ld value slice pins s σ H _ _ v u Q I rx ry ⟨_,_,c,rfl,rfl,Nat.le_trans hz (by rw [sizeLine_eq];decide),?_,q _ _ ↥31 (.str _)⟩ hs
    exact h
   ·cases e
  ·cases e
 ·cases e
theorem oB (ha:SE X a ga) (hb:SE X b gb) (hs:Bf b:=by intro _ _;rfl):SE X (.Subscript a b pos) (EV.bin oIx ga gb) :=
 PE.weak (Na VG ha hb hs) fun σ H Q h=>by
  obtain ⟨δ,hσ,q⟩:=AR h
  refine ⟨δ,hσ,q.to fun x H1 s1 ⟨δ1,hσ1,q1⟩=>⟨δ1,hσ1,q1.to fun y H2 s2 ⟨dx,dy,r1,r2,q2⟩=>RQ.op Vp r1 r2 q2⟩⟩
end
end ES
namespace ES
open PySem PySem.Spec PyProof.Rows L2 EV
unseal SE ST SW SA
abbrev Os:=List (Nat×Addr)
def kC (os:Os):List Addr:=os.map (·.2)
def hide (H:Hp) (os:Os):Hp:=fun a=>if a∈kC os then none else H a
theorem qv (H:Hp):hide H []=H:=by
 funext a
 unfold hide kC
 simp
theorem mT {H:Hp} {os:Os} {a:Addr} (h:a∈kC os):hide H os a=none:=if_pos h
theorem bU {H:Hp} {os:Os} {a:Addr} (h:a∉kC os):hide H os a=H a:=if_neg h
theorem aF (H:Hp) (os:Os):aB ↥29 H:=fun b o e=>by
 unfold hide at e
 split at e
 ·cases e
 ·exact e
theorem gP (os:Os) (s:aB H H'):aB ↥29 (hide H' os):=fun b o e=>by
 unfold hide at e ⊢
 split at e
 ·cases e
 ·rename_i h
  rw [if_neg h]
  exact s b o e
structure StO (X:Cx) (H:Hp) (σ:L2.St) (δ:Dt) (os:Os):Prop where
 st:Stt X.K X.mg ↥29 σ δ
 lst:∀ p∈os,∃ xs ds,H p.2=some (.lst xs)/\σ[p.1]? = some (some (.ref p.2))/\δ[p.1]? = some (some (.own ds))/\Reps X.K X.mg ↥29 xs ds
 own:∀ i ds,δ[i]? = some (some (.own ds))->∃ a,(i,a)∈os
 inj:∀ i j a,(i,a)∈os->(j,a)∈os->i=j
theorem iw {os:Os} {a:Addr} (h:a∈kC os):∃ p∈os,p.2=a:=by
 obtain ⟨p,hp,e⟩:=List.mem_map.mp h
 exact ⟨p,hp,e⟩
theorem fc {os:Os} {p:Nat×Addr} (h:p∈os):p.2∈kC os:=List.mem_map.mpr ⟨p,h,rfl⟩
def Eu (h:Heap) (os:Os):List ↥11:=oO (kC os) h
section
variable {X:Cx} {pins:List ↥11} {σ:L2.St} {H H':Hp} {s s':Shared} {os:Os}
def L7 (H:Hp) (os:Os):Prop:=∀ a∈kC os,∃ xs,H a=some (.lst xs)
theorem lU (I:Inv X pins σ H s) (hl:L7 H os):Inv X (pins++Eu s.heap os) σ ↥29 s:=by
 have ne:∀ {b:Addr} {o:HO},H b=some o->(∀ xs,o ≠ .lst xs)->hide H os b=some o:=fun {b o} e n=>by
  rw [bU fun z => ?_];exact e
  obtain ⟨xs,q⟩:=hl b z
  rw [e] at q
  exact n xs (Option.some.inj q)
 refine ⟨I.ok,I.os,I.bare,⟨I.base.keep,I.base.slot,fun b o e n hx => ?_,I.base.there,fun b xs e => ?_,fun b o u e => ?_,fun b ps e => ?_⟩,I.loc,I.cell,?_,fun x c e => ?_,fun p hp => ?_,fun a o e => ?_,I.len⟩
 ·unfold hide;split
  ·rfl
  ·exact I.base.free b o e n hx
 ·exact ne (I.base.tups b xs e) fun _ z=>nomatch z
 ·exact ne (I.base.frzs b o u e) fun _ z=>nomatch z
 ·obtain ⟨more,q⟩:=I.base.tbls b ps e
  exact ⟨more,ne q fun _ z=>nomatch z⟩
 ·unfold hide;split
  ·rfl
  ·exact I.free
 ·unfold hide;split
  ·rfl
  ·exact I.freeC x c e
 ·rw [<- List.append_assoc] at hp
  rcases List.mem_append.mp hp with z | z
  ·obtain ⟨e,n,r⟩:=I.pin p z
   refine ⟨e,?_,r⟩
   unfold hide;split
   ·rfl
   ·exact n
  ·obtain ⟨hb,e⟩:=rZ z
   obtain ⟨xs,q⟩:=hl p.1 hb
   obtain ⟨_,its,n,_,e'⟩:=I.hok p.1 _ q
   rw [e] at e'
   have e2:p.2={ cls:=.type "list",data:=.seq its.toArray n }:=Option.some.inj e'
   refine ⟨e,mT hb,fun z => ?_,fun z => ?_,fun v z => ?_⟩
   ·rw [z,I.free] at q;cases q
   ·have hx:p.1∉X.ex:=fun w=>I.ok.exfs p.1 w z
    obtain ⟨_,o0,ho0,_⟩:=I.ok.funs.mem z
    rw [I.base.free p.1 o0 ho0 (I.ok.frf p.1 z) hx] at q;cases q
   ·rw [e2] at z;cases z
 ·have hna:a∉kC os:=fun z=>by rw [mT z] at e;cases e
  rw [bU hna] at e
  exact (I.hok a o e).stay (fun _ _ _ q=>q) (fun b q=>ne q fun _ z=>nomatch z) fun b xs q=>ne q fun _ z=>nomatch z
def fH (H H':Hp) (os:Os):Hp:=fun a=>if a∈kC os then H a else H' a
theorem jB (h:∀ a∈kC os,H' a=none):hide (fH H H' os) os=H':=by
 funext a
 unfold hide fH
 by_cases z:a∈kC os
 ·rw [if_pos z,h a z]
 ·rw [if_neg z,if_neg z]
theorem lT (hx:X.ex=[]) (I0:Inv X pins σ H s) (hl:L7 H os) (I:Inv X (pins++Eu s.heap os) σ H' s'):Inv X pins σ (fH H H' os) s'/\∀ a∈kC os,H' a=none:=by
 have pin:∀ a∈kC os,∃ o,s.heap.get? a=some o/\s'.heap.get? a=some o/\H' a=none/\a≠X.env.locals/\a∉X.fs:=fun a ha=>by
  obtain ⟨xs,q⟩:=hl a ha
  obtain ⟨o,e⟩:∃ o,s.heap.get? a=some o:=by
   obtain ⟨_,its,n,_,e⟩:=I0.hok a _ q
   exact ⟨_,e⟩
  obtain ⟨e1,e2,e3,e4,_⟩:=I.pin (a,o) (List.mem_append_right _ (List.mem_append_right _ (dW ha e)))
  exact ⟨o,e,e1,e2,e3,e4⟩
 have hn:∀ a∈kC os,H' a=none:=fun a ha=>(pin a ha).choose_spec.2.2.1
 have vis:∀ {b:Addr} {o:HO},H' b=some o->fH H H' os b=some o:=fun {b o} e=>by
  unfold fH;rw [if_neg fun z => ?_];exact e
  rw [hn b z] at e;cases e
 refine ⟨⟨I.ok,I.os,I.bare,⟨I.base.keep,I.base.slot,fun b o e n hx' => ?_,I.base.there,fun b xs e=>vis (I.base.tups b xs e),fun b o u e=>vis (I.base.frzs b o u e),fun b ps e => ?_⟩,I.loc,I.cell,?_,fun x c e => ?_,fun p hp => ?_,fun a o e => ?_,I.len⟩,hn⟩
 ·unfold fH;split
  ·exact I0.base.free b o e n hx'
  ·exact I.base.free b o e n hx'
 ·obtain ⟨more,q⟩:=I.base.tbls b ps e
  exact ⟨more,vis q⟩
 ·unfold fH;split
  ·exact I0.free
  ·exact I.free
 ·unfold fH;split
  ·exact I0.freeC x c e
  ·exact I.freeC x c e
 ·obtain ⟨e,n,r⟩:=I.pin p (by rw [<- List.append_assoc];exact List.mem_append_left _ hp)
  refine ⟨e,?_,r⟩
  unfold fH;split
  ·exact (I0.pin p hp).2.1
  ·exact n
 ·by_cases z:a∈kC os
  ·obtain ⟨ob,e0,e1,_⟩:=pin a z
   unfold fH at e
   rw [if_pos z] at e
   obtain ⟨xs,q⟩:=hl a z
   rw [e] at q
   have q':o=.lst xs:=Option.some.inj q
   subst q'
   obtain ⟨hz,its,n,r,e2⟩:=I0.hok a _ e
   rw [e0] at e2
   have e3:ob=_:=Option.some.inj e2
   subst e3
   exact ⟨hz,its,n,r,e1⟩
  ·unfold fH at e
   rw [if_neg z] at e
   exact (I.hok a o e).stay (fun _ _ _ q=>q) (fun b q=>vis q) fun b xs q=>vis q
end
section
variable {K:PySem.W.Frag} {mg:Str->Option Value} {H H':Hp}
def NoL (H H':Hp):Prop:=∀ b o,H b=some o->(∀ xs,o ≠ .lst xs)->(∀ ob xs,o ≠ .frz ob (.lst xs))->H' b=some o
theorem Ce (k:NoL H H') (h:SqT K H a xs):SqT K H' a xs:=by
 rcases h with (h | ⟨o,h⟩) | h
 ·exact .inl (.inl (k _ _ h (fun _ z=>nomatch z) fun _ _ z=>nomatch z))
 ·exact .inl (.inr ⟨o,k _ _ h (fun _ z=>nomatch z) fun _ _ z=>by cases z⟩)
 ·exact .inr h
mutual
theorem qh (k:NoL H H'):∀ {v:V} {d:D},d.flat=true->Rep K mg H v d->Rep K mg H' v d
 | _,_,_,.non=>.non
 | _,_,_,.bl b=>.bl b
 | _,_,_,.int i=>.int i
 | _,_,_,.str x=>.str x
 | _,.tup ds,f,.tup h r=>.tup (Ce k h) (lM k (by simpa [D.flat] using f) r)
 | _,.lst ds,f,_=>by simp [D.flat] at f
 | _,_,_,.ty n=>.ty n
 | _,_,_,.cls h=>.cls h
 | _,_,_,.exc h e=>.exc h (k _ _ e (fun _ z=>nomatch z) fun _ _ z=>nomatch z)
 | _,.ins n ds,f,.ins h e r=>.ins h (k _ _ e (fun _ z=>nomatch z) fun _ _ z=>nomatch z) (vJ k (by simpa [D.flat] using f) r)
theorem lM (k:NoL H H'):∀ {vs:List V} {ds:List D},D.flats ds=true->Reps K mg H vs ds->Reps K mg H' vs ds
 | _,_,_,.nil=>.nil
 | _,d::r,f,.cons h t=>by
  have f':d.flat=true/\D.flats r=true:=by simpa [D.flats] using f
  exact .cons (qh k f'.1 h) (lM k f'.2 t)
theorem vJ (k:NoL H H'):∀ {vs:List (Str×V)} {ds:List (String×D)},D.flatf ds=true->Repf K mg H vs ds->Repf K mg H' vs ds
 | _,_,_,.nil=>.nil
 | _,(_,d)::r,f,.cons h t=>by
  have f':d.flat=true/\D.flatf r=true:=by simpa [D.flatf] using f
  exact .cons (qh k f'.1 h) (vJ k f'.2 t)
end
theorem vP {os:Os} (hl:L7 H os):NoL H ↥29:=fun b o e n _=>by
 rw [bU fun z => ?_];exact e
 obtain ⟨xs,q⟩:=hl b z
 rw [e] at q
 exact n xs (Option.some.inj q)
end
section
variable {X:Cx} {σ:L2.St} {δ:Dt} {H H':Hp} {os:Os}
theorem StO.lsts (S:StO X H σ δ os):L7 H os:=fun a ha=>by
 obtain ⟨p,hp,rfl⟩:=iw ha
 obtain ⟨xs,_,h,_⟩:=S.lst p hp
 exact ⟨xs,h⟩
theorem StO.nil (h:Stt X.K X.mg H σ δ) (hn:∀ (i:Nat) (ds:List D),δ[i]? ≠ some (some (.own ds))):StO X H σ δ []:=⟨by rw [qv];exact h,fun p hp=>(nomatch hp),fun i ds e=>absurd e (hn i ds),fun _ _ _ z=>(nomatch z)⟩
theorem StO.mono (S:StO X H σ δ os) (s:aB H H'):StO X H' σ δ os :=
 ⟨S.st.mono (gP os s),fun p hp=>let ⟨xs,ds,a,b,c,d⟩:=S.lst p hp;⟨xs,ds,s _ _ a,b,c,d.mono (gP os s)⟩,S.own,S.inj⟩
theorem StO.shown (S:StO X H σ δ os) (s:aB ↥29 H') (hn:∀ a∈kC os,H' a=none):StO X (fH H H' os) σ δ os:=by
 have e:=jB (H:=H) hn
 refine ⟨by rw [e];exact S.st.mono s,fun p hp => ?_,S.own,S.inj⟩
 obtain ⟨xs,ds,a,b,c,d⟩:=S.lst p hp
 exact ⟨xs,ds,by unfold fH;rw [if_pos (fc hp)];exact a,b,c,by rw [e];exact d.mono s⟩
theorem StO.view (S:StO X H σ δ os):Stt X.K X.mg H σ (view δ):=by
 refine ⟨by unfold EV.view;rw [List.length_map];exact S.st.1,fun i d e n => ?_⟩
 unfold EV.view at e
 rw [List.getElem?_map] at e
 cases q:δ[i]? with
 | none=>rw [q] at e;cases e
 | some c =>
  rw [q] at e
  cases c with
  | none=>cases e
  | some d0 =>
   by_cases ho:∃ ds,d0=.own ds
   ·obtain ⟨ds,rfl⟩:=ho
    have e':D.lst ds=d:=Option.some.inj (Option.some.inj e)
    subst e'
    obtain ⟨a,ha⟩:=S.own i ds q
    obtain ⟨xs,ds',h1,h2,h3,h4⟩:=S.lst _ ha
    rw [q] at h3
    cases h3
    exact ⟨.ref a,h2,.lst (SqL.of h1) (h4.mono (aF H os))⟩
   ·have e':d0=d:=by
     cases d0<;>first | exact absurd ⟨_,rfl⟩ ho | exact Option.some.inj (Option.some.inj e)
    subst e'
    obtain ⟨v,h1,h2⟩:=S.st.2 i d0 q n
    exact ⟨v,h1,h2.mono (aF H os)⟩
theorem StO.noOwn (S:StO X H σ δ os) (s:aB ↥29 H'):Stt X.K X.mg H' σ (noOwn δ):=by
 refine ⟨by unfold EV.noOwn;rw [List.length_map];exact S.st.1,fun i d e n => ?_⟩
 unfold EV.noOwn at e
 rw [List.getElem?_map] at e
 cases q:δ[i]? with
 | none=>rw [q] at e;cases e
 | some c =>
  rw [q] at e
  cases c with
  | none=>cases e
  | some d0 =>
   by_cases ho:∃ ds,d0=.own ds
   ·obtain ⟨ds,rfl⟩:=ho
    cases e
   ·have e':d0=d:=by
     cases d0<;>first | exact absurd ⟨_,rfl⟩ ho | exact Option.some.inj (Option.some.inj e)
    subst e'
    obtain ⟨v,h1,h2⟩:=S.st.2 i d0 q n
    exact ⟨v,h1,h2.mono s⟩
end
def FQ (X:Cx) (σ:L2.St) (H:Hp) (os:Os) (δ:Dt) (r:R D) (Q:VK):Prop:=match r with
 | .ok d=>∀ v H',StO X H' σ δ os->aB ↥29 (hide H' os)->Rep X.K X.mg (hide H' os) v d->Q v H'
 | .ex C=>∀ Ca,X.mg C=some (.ref Ca)->∀ H',aB ↥29 H'->Stt X.K X.mg H' σ (noOwn δ)->ew X Ca σ H'
 | .bad=>False
def tF (X:Cx) (g:E):TE:=fun σ H Q=>∃ δ os,StO X H σ δ os/\FQ X σ H os δ (g δ) Q
def FT (X:Cx) (σ:L2.St) (H:Hp) (os:Os) (δ:Dt) (r:R D) (Q:Bool->Hp->Prop):Prop:=match r with
 | .ok (.bl b)=>∀ H',StO X H' σ δ os->aB ↥29 (hide H' os)->Q b H'
 | .ex C=>∀ Ca,X.mg C=some (.ref Ca)->∀ H',aB ↥29 H'->Stt X.K X.mg H' σ (noOwn δ)->ew X Ca σ H'
 | _=>False
def tFT (X:Cx) (g:E):TT:=fun σ H Q=>∃ δ os,StO X H σ δ os/\FT X σ H os δ (g δ) Q
section
variable {X:Cx} {e:Expr} {g:E}
theorem Ap (hx:X.ex=[]) (h:SE X e g):PE X e (tF X g):=by
 intro pins s σ H Q I ⟨δ,os,S,q⟩
 have hl:=S.lsts
 have hw:RQ X σ ↥29 (g δ) (fun v H1=>aB ↥29 H1/\∃ d,g δ=.ok d/\Rep X.K X.mg H1 v d):=by
  cases r:g δ with
  | ok d=>exact fun v H' s r=>⟨s,d,rfl,r⟩
  | ex C =>
   rw [r] at q
   exact fun Ca hc H' s'=>q Ca hc H' s' (S.noOwn s')
  | bad=>rw [r] at q;exact q
 refine thn (h _ s σ _ _ (lU I hl) ⟨δ,S.st,hw⟩) fun u s' ⟨v,H1,I1,rv,sm,d,e,rd⟩ => ?_
 obtain ⟨I2,hn⟩:=lT hx I hl I1
 rw [e] at q
 have eh:=jB (H:=H) hn
 exact ⟨v,_,I2,rv,q v _ (S.shown sm hn) (by rw [eh];exact sm) (by rw [eh];exact rd)⟩
theorem EI (hx:X.ex=[]) (h:ST X e g):PT X e (tFT X g):=by
 intro pins s σ H Q I ⟨δ,os,S,q⟩
 have hl:=S.lsts
 have hw:RT X σ ↥29 (g δ) (fun b H1=>aB ↥29 H1/\g δ=.ok (.bl b)):=by
  cases r:g δ with
  | ok d =>
   rw [r] at q
   cases d with
   | bl b=>exact fun H' s=>⟨s,rfl⟩
   | _=>exact False.elim q
  | ex C =>
   rw [r] at q
   exact fun Ca hc H' s'=>q Ca hc H' s' (S.noOwn s')
  | bad=>rw [r] at q;exact False.elim q
 refine thn (h _ s σ _ _ (lU I hl) ⟨δ,S.st,hw⟩) fun b s' ⟨H1,I1,sm,e⟩ => ?_
 obtain ⟨I2,hn⟩:=lT hx I hl I1
 rw [e] at q
 have eh:=jB (H:=H) hn
 exact ⟨_,I2,q _ (S.shown sm hn) (by rw [eh];exact sm)⟩
def tB (X:Cx) (g:E):TE:=fun σ H Q=>∃ δ os,StO X H σ δ os/\(∀ d,g (view δ)=.ok d->d.flat=true)/\FQ X σ H os δ (g (view δ)) Q
def tBT (X:Cx) (g:E):TT:=fun σ H Q=>∃ δ os,StO X H σ δ os/\FT X σ H os δ (g (view δ)) Q
theorem ng (h:SE X e g):PE X e (tB X g):=by
 intro pins s σ H Q I ⟨δ,os,S,hf,q⟩
 refine h pins s σ H Q I ⟨_,S.view,?_⟩
 cases r:g (view δ) with
 | ok d =>
  rw [r] at q
  refine fun v H' s r'=>q v H' (S.mono s) (gP os s) (qh (vP ((S.mono s).lsts)) (hf d r) r')
 | ex C =>
  rw [r] at q
  exact fun Ca hc H' s'=>q Ca hc H' ((aF H os).trans s') (S.noOwn ((aF H os).trans s'))
 | bad=>rw [r] at q;exact q
theorem Ie (h:ST X e g):PT X e (tBT X g):=by
 intro pins s σ H Q I ⟨δ,os,S,q⟩
 refine h pins s σ H Q I ⟨_,S.view,?_⟩
 cases r:g (view δ) with
 | ok d =>
  rw [r] at q
  cases d with
  | bl b=>exact fun H' s=>q H' (S.mono s) (gP os s)
  | _=>exact False.elim q
 | ex C =>
  rw [r] at q
  exact fun Ca hc H' s'=>q Ca hc H' ((aF H os).trans s') (S.noOwn ((aF H os).trans s'))
 | bad=>rw [r] at q;exact False.elim q
end
def OQ (X:Cx) (D:Ends) (F:Hp):O->Prop
 | .nx δ=>∀ σ H os,StO X H σ δ os->aB F ↥29->D.nx σ H
 | .bk δ=>∀ σ H os,StO X H σ δ os->aB F ↥29->D.bk σ H
 | .ct δ=>∀ σ H os,StO X H σ δ os->aB F ↥29->D.ct σ H
 | .rt d=>∀ v H,aB F H->Rep X.K X.mg H v d->D.rt v H
 | .ex C δ=>∀ σ H,aB F H->Stt X.K X.mg H σ δ->∀ Ca,X.mg C=some (.ref Ca)->ew X Ca σ H
 | .mk C δ=>∀ σ H,aB F H->∀ Ca,X.mg C=some (.ref Ca)->em X Ca σ H
 | .hx C δ=>∀ σ H,aB F H->Stt X.K X.mg H σ δ->∀ Ca,X.mg C=some (.ref Ca)->ehx X Ca σ H
 | .bad=>False
def tS (X:Cx) (g:S):TS:=fun D σ H=>∃ δ os,StO X H σ δ os/\OQ X D ↥29 (g δ)
@[irreducible] def SS (X:Cx) (st:Stmt) (g:S):Prop:=PS X st (tS X g)
@[irreducible] def SSs (X:Cx) (st:List Stmt) (g:S):Prop:=PSs X st (tS X g)
unseal SS SSs
theorem OQ.mono {X:Cx} {D:Ends} {F F':Hp} {o:O} (s:aB F F') (h:OQ X D F o):OQ X D F' o:=by
 cases o with
 | nx δ=>exact fun σ H os S s'=>h σ H os S (s.trans s')
 | bk δ=>exact fun σ H os S s'=>h σ H os S (s.trans s')
 | ct δ=>exact fun σ H os S s'=>h σ H os S (s.trans s')
 | rt d=>exact fun v H s' r=>h v H (s.trans s') r
 | ex C δ=>exact fun σ H s' S=>h σ H (s.trans s') S
 | mk C δ=>exact fun σ H s'=>h σ H (s.trans s')
 | hx C δ=>exact fun σ H s' S=>h σ H (s.trans s') S
 | bad=>exact h
theorem OQ.lv {X:Cx} {D:Ends} {F:Hp} {o:O} {n:L2.St->Hp->Prop} (hn:∀ δ,o ≠ .nx δ) (h:OQ X D F o):OQ X { D with nx:=n } F o:=by
 cases o with
 | nx δ=>exact absurd rfl (hn δ)
 | _=>exact h
section
variable {X:Cx} {N:List Str} {H:Hp} {σ:L2.St} {δ:Dt} {os:Os}
theorem aU (os:Os) (i:Nat):∀ p∈os.filter (fun p=>p.1 != i),p∈os/\p.1≠i:=fun p hp=>by
 have:=List.mem_filter.mp hp
 exact ⟨this.1,by simpa using this.2⟩
theorem mS (h:∀ p∈os',p∈os):aB ↥29 (hide H os'):=fun b o e=>by
 have hb:b∉kC os:=fun z=>by rw [mT z] at e;cases e
 rw [bU hb] at e
 rw [bU fun z => ?_];exact e
 obtain ⟨p,hp,rfl⟩:=iw z
 exact hb (fc (h p hp))
theorem StO.set (S:StO X H σ δ os) (r:Rep X.K X.mg ↥29 v d):StO X H (σ.set i (some v)) (δ.set i (some d)) (os.filter fun p=>p.1 != i)/\aB ↥29 (hide H (os.filter fun p=>p.1 != i)):=by
 have sm:aB ↥29 (hide H (os.filter fun p=>p.1 != i)):=mS fun p hp=>(aU os i p hp).1
 refine ⟨⟨(S.st.mono sm).set (r.mono sm),fun p hp => ?_,fun j ds e => ?_,fun a b c h1 h2=>S.inj a b c (aU os i _ h1).1 (aU os i _ h2).1⟩,sm⟩
 ·obtain ⟨hp',ne⟩:=aU os i p hp
  obtain ⟨xs,ds,h1,h2,h3,h4⟩:=S.lst p hp'
  exact ⟨xs,ds,h1,by rw [List.getElem?_set_ne (Ne.symm ne)];exact h2,by rw [List.getElem?_set_ne (Ne.symm ne)];exact h3,h4.mono sm⟩
 ·by_cases hj:j=i
  ·subst hj
   by_cases hl:j<δ.length
   ·rw [List.getElem?_set_self hl] at e
    have e':d=.own ds:=Option.some.inj (Option.some.inj e)
    subst e'
    cases r
   ·rw [List.getElem?_eq_none (by simp;omega)] at e
    cases e
  ·rw [List.getElem?_set_ne (Ne.symm hj)] at e
   obtain ⟨a,ha⟩:=S.own j ds e
   exact ⟨a,List.mem_filter.mpr ⟨ha,by simpa using hj⟩⟩
structure Sx (X:Cx) (N:List Str):Prop where
 sc:Sc X N
 ex:X.ex=[]
variable {e c:Expr} {g gc:E} {pos:Pos} {st:Stmt} {rest body els:List Stmt} {gs gr gb ge:S}
theorem FQ.then {r:R EV.D} {Q:VK} {D:Ends} {f:EV.D->O} (h:OQ X D ↥29 (match r with | .ok d=>f d | .ex C=>.ex C (noOwn δ) | .bad=>.bad))
  (hq:∀ d v H',r=.ok d->StO X H' σ δ os->aB ↥29 (hide H' os)->Rep X.K X.mg (hide H' os) v d->OQ X D (hide H' os) (f d)->Q v H'):FQ X σ H os δ r Q:=by
 cases r with
 | ok d=>exact fun v H' S s r=>hq d v H' rfl S s r (OQ.mono s h)
 | ex C=>exact fun Ca hc H' s' st=>h σ H' s' st Ca hc
 | bad=>exact h
theorem ax:SSs X [] av:=PSs.weak GL fun D σ H ⟨δ,os,S,h⟩=>h σ H os S ↥31
theorem ai (h:SS X st gs):SSs X [st] gs:=yZ h
theorem ae (h:SS X st gs) (hr:SSs X rest gr):SSs X (st::rest) (seq gs gr):=PSs.weak (Cw h hr) fun D σ H ⟨δ,os,S,h⟩=>⟨δ,os,S,by
 unfold seq at h
 cases q:gs δ with
 | nx δ' =>
  rw [q] at h
  exact fun σ' H' os' S' s'=>⟨δ',os',S',OQ.mono s' h⟩
 | _=>rw [q] at h;exact OQ.lv (fun _ z=>nomatch z) h⟩
theorem JU (C:Sx X N) (i:Nat) (hN:N[i]? = some x) (hx:Sto X x) (h:SE X e g) (hsw:swapsWith e (some (.Name x pos')) pos.line X.env=pure false:=by rfl):SS X (.Assign [.Name x pos'] e pos) (assign i g) :=
 PS.weak (za (i:=i) (by rw [C.sc.n];exact C.sc.nd) (by rw [C.sc.n];exact hN) hx.1 (Ap C.ex h) hsw hx.2) fun D σ H ⟨δ,os,S,q⟩=>⟨δ,os,S,FQ.then q fun d v H' e S' s r q'=>by
  obtain ⟨S2,s2⟩:=S'.set (i:=i) r
  exact q' _ _ _ S2 s2⟩
theorem Er (C:Sx X N) (h:SE X e g) (hs:swapsWith e none pos.line X.env=pure false:=by rfl):SS X (.Expr e pos) (expr g) :=
 PS.weak (uq (Ap C.ex h) hs) fun D σ H ⟨δ,os,S,q⟩=>⟨δ,os,S,FQ.then q fun d v H' e S' s r q'=>q' _ _ _ S' ↥31⟩
theorem MW (C:Sx X N) (h:SE X e g):SS X (.Return (some e) pos) (ret g) :=
 PS.weak (Et (Ap C.ex h)) fun D σ H ⟨δ,os,S,q⟩=>⟨δ,os,S,FQ.then q fun d v H' e S' s r q'=>q' v H' (aF _ _) (r.mono (aF _ _))⟩
theorem JV (h:SE X e g):SS X (.Return (some e) pos) (Mc g) :=
 PS.weak (Et h) fun D σ H ⟨δ,os,S,q⟩=>⟨view δ,S.view,by
  unfold Mc rtn at q
  cases r:g (view δ) with
  | ok d=>rw [r] at q;exact fun v H' s rr=>q v H' ((aF H os).trans s) rr
  | ex C=>rw [r] at q;exact fun Ca hc H' s'=>q σ H' ((aF H os).trans s') (S.noOwn ((aF H os).trans s')) Ca hc
  | bad=>rw [r] at q;exact q⟩
theorem FT.then {r:R EV.D} {Q:Bool->Hp->Prop} {D:Ends} {ta fa:O} (h:OQ X D ↥29 (match r with | .ok (.bl true)=>ta | .ok (.bl false)=>fa | .ex C=>.ex C (noOwn δ) | _=>.bad))
  (hq:∀ b H',StO X H' σ δ os->aB ↥29 (hide H' os)->OQ X D (hide H' os) (if b=true then ta else fa)->Q b H'):FT X σ H os δ r Q:=by
 cases r with
 | ok d =>
  cases d with
  | bl b =>
   cases b with
   | true=>exact fun H' S s=>hq true H' S s (by rw [if_pos rfl];exact OQ.mono s h)
   | false=>exact fun H' S s=>hq false H' S s (by rw [if_neg ↥0];exact OQ.mono s h)
  | _=>exact h
 | ex C=>exact fun Ca hc H' s' st=>h σ H' s' st Ca hc
 | bad=>exact h
theorem Tj (C:Sx X N) (hc:ST X c gc) (ha:SSs X body gb) (hb:SSs X els ge):SS X (.If c body els pos) (ifs gc gb ge) :=
 PS.weak (Ke (EI C.ex hc) ha hb) fun D σ H ⟨δ,os,S,q⟩=>⟨δ,os,S,FT.then q fun b H' S' s q'=>by
  cases b with
  | true=>exact HC ⟨δ,os,S',by simpa using q'⟩
  | false=>exact HD ⟨δ,os,S',by simpa using q'⟩⟩
theorem kG {α:Type} {xs:List α} {n:Nat} {x:α} (h:xs[n]? = some x):xs.drop n=x::xs.drop (n+1):=by
 obtain ⟨h1,h2⟩:=List.getElem?_eq_some_iff.mp h
 rw [List.drop_eq_getElem_cons h1,h2]
def Pv (X:Cx) (D:Ends) (F F1:Hp) (i:Nat) (gb:S) (ds:List EV.D) (n:Nat) (σ:L2.St) (H:Hp):Prop:=∃ δ os,StO X H σ δ os/\aB F1 ↥29/\aB F F1/\OQ X D F (forL i gb (ds.drop n) δ)
theorem vy {D:Ends} {F F1:Hp} {i n:Nat} {ds:List EV.D} {d:EV.D} {v:V} {δ:Dt} {os:Os} (hd:ds[n]? = some d) (S:StO X H σ δ os) (s1:aB F1 ↥29) (s0:aB F F1) (q:OQ X D F (forL i gb (ds.drop n) δ)) (r:Rep X.K X.mg ↥29 v d) :
  uS i v σ H fun σ2 H2=>tS X gb { D with nx:=Pv X D F F1 i gb ds (n+1),ct:=Pv X D F F1 i gb ds (n+1),bk:=D.nx } σ2 H2:=by
 rw [kG hd] at q
 obtain ⟨S2,s2⟩:=S.set (i:=i) r
 refine ⟨_,_,S2,?_⟩
 unfold forL trn at q
 have s3:=(s0.trans s1).trans s2
 cases e:gb (δ.set i (some d)) with
 | nx δ1=>rw [e] at q;exact fun σ' H' os' S' s'=>⟨δ1,os',S',(s1.trans s2).trans s',s0,q⟩
 | ct δ1=>rw [e] at q;exact fun σ' H' os' S' s'=>⟨δ1,os',S',(s1.trans s2).trans s',s0,q⟩
 | bk δ1=>rw [e] at q;exact fun σ' H' os' S' s'=>q σ' H' os' S' (s3.trans s')
 | rt d'=>rw [e] at q;exact fun v' H' s' r'=>q v' H' (s3.trans s') r'
 | ex C δ1=>rw [e] at q;exact fun σ' H' s' r'=>q σ' H' (s3.trans s') r'
 | mk C δ1=>rw [e] at q;exact fun σ' H' s'=>q σ' H' (s3.trans s')
 | hx C δ1=>rw [e] at q;exact fun σ' H' s' r'=>q σ' H' (s3.trans s') r'
 | bad=>rw [e] at q;exact q
theorem yC {D:Ends} {F F1:Hp} {i n:Nat} {ds:List EV.D} {d:EV.D} {v:V} (hd:ds[n]? = some d) (r:∀ H',aB F1 H'->Rep X.K X.mg H' v d) (p:Pv X D F F1 i gb ds n σ H) :
  uS i v σ H fun σ2 H2=>tS X gb { D with nx:=Pv X D F F1 i gb ds (n+1),ct:=Pv X D F F1 i gb ds (n+1),bk:=D.nx } σ2 H2:=by
 obtain ⟨δ,os,S,s1,s0,q⟩:=p
 exact vy hd S s1 s0 q (r _ s1)
theorem LA {D:Ends} {F F1:Hp} {i n:Nat} {ds:List EV.D} (hn:ds.length<=n) (p:Pv X D F F1 i gb ds n σ H):D.nx σ H:=by
 obtain ⟨δ,os,S,s1,s0,q⟩:=p
 rw [List.drop_eq_nil_of_le hn] at q
 exact q σ H os S (s0.trans s1)
structure Lp (X:Cx):Prop where
 own:PassesOwn ↥4 X.A X.env X.xe
 calm:X.calm=true
theorem GB {lo hi:Int} {k:Nat} (h:k<(hi - lo).toNat):(xn lo hi)[k]? = some (.int (lo+k)):=by
 unfold xn
 rw [List.getElem?_map,List.getElem?_range h]
 rfl
theorem vG (lo hi:Int):(xn lo hi).length=(hi - lo).toNat:=by simp [xn]
theorem bz {c:E} {b:S}:∀ {n:Nat} {δ:Dt},bN c b n δ ≠ .bad->∀ k,bN c b (n+k) δ=bN c b n δ
 | 0,δ,h,_=>absurd rfl h
 | n+1,δ,h,k=>by
  rw [show n+1+k=(n+k)+1 by omega]
  unfold bN at h ⊢
  split
  ·rename_i q
   rw [q] at h
   simp only at h
   unfold trn at h ⊢
   split
   ·rename_i q2;rw [q2] at h;exact bz h k
   ·rename_i q2;rw [q2] at h;exact bz h k
   ·rfl
   ·rfl
  ·rfl
  ·rfl
theorem vv {c:E} {b:S} {n:Nat} {δ:Dt} {o:O} (h:bN c b n δ=o) (ho:o ≠ .bad):kD c b δ=o:=by
 have hx:∃ n,bN c b n δ ≠ .bad:=⟨n,by rw [h];exact ho⟩
 unfold kD
 rw [dif_pos hx]
 have h1:=bz hx.choose_spec n
 have h2:=bz (show bN c b n δ ≠ .bad by rw [h];exact ho) hx.choose
 rw [Nat.add_comm] at h1
 rw [<- h1,h2,h]
theorem Gw (C:Sx X N) (L:PassesOwn ↥4 X.A X.env X.xe) (hc:ST X c gc) (hb:SSs X body gb):SS X (.While c body [] pos) (kD gc gb):=by
 refine PS.weak (Cy L (EI C.ex hc) hb) fun D σ H ⟨δ,os,S,q⟩ => ?_
 unfold kD at q
 split at q
 ·rename_i hx
  refine ⟨fun m σ H'=>∃ δ os',StO X H' σ δ os'/\aB ↥29 (hide H' os')/\OQ X D ↥29 (bN gc gb m δ),⟨_,δ,os,S,aB.refl _,q⟩,?_⟩
  rintro m σ1 H1 ⟨δ1,os1,S1,s1,q1⟩
  refine ⟨δ1,os1,S1,?_⟩
  cases m with
  | zero=>exact False.elim q1
  | succ m =>
   unfold bN at q1
   cases r:gc δ1 with
   | ok d =>
    rw [r] at q1
    cases d with
    | bl b =>
     cases b with
     | true =>
      intro H2 S2 s2
      refine HC ⟨fun σ' H'=>∃ δ os',StO X H' σ' δ os'/\aB ↥29 (hide H' os')/\OQ X D ↥29 (bN gc gb m δ),fun σ' H' w=>⟨m,Nat.lt_succ_self _,w⟩,δ1,os1,S2,?_⟩
      simp only [trn] at q1
      have s12:=s1.trans s2
      cases e:gb δ1 with
      | nx δ2=>rw [e] at q1;exact fun σ' H' os' S' s'=>⟨δ2,os',S',s12.trans s',q1⟩
      | ct δ2=>rw [e] at q1;exact fun σ' H' os' S' s'=>⟨δ2,os',S',s12.trans s',q1⟩
      | bk δ2=>rw [e] at q1;exact fun σ' H' os' S' s'=>q1 σ' H' os' S' (s12.trans s')
      | rt d'=>rw [e] at q1;exact fun v' H' s' r'=>q1 v' H' (s12.trans s') r'
      | ex C δ1=>rw [e] at q1;exact fun σ' H' s' r'=>q1 σ' H' (s12.trans s') r'
      | mk C δ1=>rw [e] at q1;exact fun σ' H' s'=>q1 σ' H' (s12.trans s')
      | hx C δ1=>rw [e] at q1;exact fun σ' H' s' r'=>q1 σ' H' (s12.trans s') r'
      | bad=>rw [e] at q1;exact q1
     | false=>exact fun H2 S2 s2=>HD (q1 σ1 H2 os1 S2 (s1.trans s2))
    | _=>exact False.elim q1
   | ex C=>rw [r] at q1;exact False.elim q1
   | bad=>rw [r] at q1;exact False.elim q1
 ·exact False.elim q
end
end ES
namespace ES
open PySem PySem.Spec PyProof.Rows L2 EV
unseal SE ST SW SA SS SSs
theorem mB {P:Program} {w:World} {H:Hp} {h:Heap} {a:Addr} {o:HO} (x:iE P w H h a o):∃ ob,h.get? a=some ob:=by
 cases o with
 | lst xs=>obtain ⟨_,_,_,_,e⟩:=x;exact ⟨_,e⟩
 | tup xs=>obtain ⟨_,_,_,ob,e,_⟩:=x;exact ⟨_,e⟩
 | dK kvs=>obtain ⟨_,_,_,_,ob,_,_,e,_⟩:=x;exact ⟨_,e⟩
 | dT kvs=>obtain ⟨_,_,_,_,ob,_,_,e,_⟩:=x;exact ⟨_,e⟩
 | set S n=>obtain ⟨ob,_,_,_,e,_⟩:=x;exact ⟨_,e⟩
 | ins C dx fs=>obtain ⟨_,_,_,e,_⟩:=x;exact ⟨_,e⟩
 | own y=>exact x
 | xd fs=>obtain ⟨_,⟨_,_,_,e,_⟩,_⟩:=x;exact ⟨_,e⟩
 | rng lo hi=>obtain ⟨_,_,_,e⟩:=x;exact ⟨_,e⟩
 | frz ob u=>obtain ⟨e,_⟩:=x;exact ⟨_,e⟩
 | tbl ps=>exact ⟨_,(show h.get? a=some _ from x)⟩
 | met f y=>exact ⟨_,(show h.get? a=some _ from x)⟩
 | ext φ=>obtain ⟨_,e,_⟩:=x;exact e
theorem rj {fs:List Addr} {H H':Hp} {h h1 h2 B:Heap} (u:Un fs [] H H' h h1) (same:aB H H') (i1:∀ b o,h.get? b=some o->H b=none->b∉fs->B.get? b=some o)
  (i2:∀ b u o,H' b=some u->h1.get? b=some o->B.get? b=some o) (st:B.StaysIn h2) (up:h1.UpToSlots h2) (ff:∀ b∈fs,∀ o,h1.get? b=some o->∀ vs,o.data ≠ .fields vs):Un fs [] H H' h h2:=by
 have slot:∀ b o,h.get? b=some o->H b=none->b∈fs->b∉([]:List Addr)->∃ sl,h2.get? b=some { o with slots:=sl }:=fun b o e n hb hx=>by
  obtain ⟨sl,e1⟩:=u.slot b o e n hb hx
  obtain ⟨sl2,e2⟩:=up b _ e1 (ff b hb _ e1)
  exact ⟨sl2,e2⟩
 refine ⟨fun b o e n hb _=>st b o (i1 b o e n hb),slot,u.free,fun b o e hx => ?_,u.tups,u.frzs,u.tbls⟩
 cases n:H b with
 | none =>
  by_cases hb:b∈fs
  ·obtain ⟨sl,e2⟩:=slot b o e n hb hx
   exact ⟨_,e2⟩
  ·exact ⟨o,st b o (i1 b o e n hb)⟩
 | some x =>
  obtain ⟨o',e1⟩:=u.there b o e hx
  exact ⟨o',st b o' (i2 b x o' (same b x n) e1)⟩
theorem ku {P:Program} {w:World} {H':Hp} {h1 h2 B:Heap} (hok:HOk P w H' h1) (i2:∀ b u o,H' b=some u->h1.get? b=some o->B.get? b=some o) (st:B.StaysIn h2):HOk P w H' h2:=fun a o e =>
 (hok a o e).stay (fun b u hb q=>by
  rcases hb with rfl | hb
  ·exact st b u (i2 b o u e q)
  ·exact st b u (i2 b _ u hb q)) (fun _ q=>q) fun _ _ q=>q
theorem vR {P:Program} {w:World} {H':Hp} {h1 h2 B:Heap} (hok:HOk P w H' h1) (i2:∀ b u o,H' b=some u->h1.get? b=some o->B.get? b=some o) (st:B.StaysIn h2):∀ b u o,H' b=some u->h2.get? b=some o->B.get? b=some o:=fun b u o e q=>by
 obtain ⟨ob,e1⟩:=mB (hok b u e)
 have e2:=i2 b u ob e e1
 have e3:=st b ob e2
 rw [q] at e3
 cases e3
 exact e2
theorem uV {base h:Heap} {l:List Env} (x:h.FunFrames base l):∀ b∈frs l,∀ o,h.get? b=some o->∀ vs,o.data ≠ .fields vs:=fun b hb o e=>by
 obtain ⟨_,o',e',d⟩:=x.mem hb
 rw [e] at e'
 cases e'
 exact d
section
variable {X:Cx} {pins:List ↥11} {σ:L2.St} {H H':Hp} {s s':Shared} {C ea:Addr}
structure Own (X:Cx):Prop where
 stk:X.stack=X.env::X.outer
 frm:X.env.frame=some X.env.locals
 ex:X.ex=[]
theorem Own.frs (h:Own X):L2.frs X.stack=X.env.locals::X.fs:=by
 rw [h.stk]
 unfold L2.frs
 rw [List.filterMap_cons,h.frm]
 rfl
theorem jL (I:Inv X pins σ H s) (O:Own X) {B:Heap} (i1:∀ b o,s.heap.get? b=some o->H b=none->b∉L2.frs X.stack->B.get? b=some o):∀ b o,X.s₀.heap.get? b=some o->X.H₀ b=none->b∉X.fs->B.get? b=some o:=fun b o e n hb=>by
 have hx:b∉X.ex:=by rw [O.ex];simp
 refine i1 b o (I.base.keep b o e n hb hx) (I.base.free b o e n hx) fun z => ?_
 rw [O.frs] at z
 rcases List.mem_cons.mp z with q | q
 ·exact absurd (Nat.lt_of_lt_of_le (Heap.lt_size e) I.ok.above) (by rw [q];exact Nat.lt_irrefl _)
 ·exact hb q
theorem zL (I:Inv X pins σ H s) (O:Own X) (h:s.heap.get? ea=none):X.s₀.heap.get? ea=none:=by
 cases q:X.s₀.heap.get? ea with
 | none=>rfl
 | some o =>
  obtain ⟨o',e⟩:=I.base.there ea o q (by rw [O.ex];simp)
  rw [h] at e
  cases e
theorem qJ (I:Inv X pins σ H s) (O:Own X):Un X.fs [] X.H₀ H X.s₀.heap s.heap:=by
 have z:=I.base
 rw [O.ex] at z
 exact z
theorem Av (I:Inv X pins σ H s) (F:FlyX X.prog X.w X.stack H s C H' ea s'):Inv X pins σ H' s':=I.call' (ch:=[]) F.os F.un F.hok F.bare fun b z=>absurd z (by simp)
theorem zZ {M:Model} {E:Value->Shared->Prop} {Q:Unit->Shared->Prop} (I:Inv X pins σ H s) (O:Own X) (F:FlyX X.prog X.w X.stack H s C H' ea s') (same:aB X.H₀ H')
  (hQ:∀ s'',FlyX X.prog X.w X.outer X.H₀ X.s₀ C H' ea s''->Q () s''):wpAny M X.A (leaving X.env (.ref ea)) Q E s':=by
 obtain ⟨a0,B,hfl,i1,i2⟩:=F.fly
 have I':=Av I F
 have ff:=uV hfl.2.2.1
 rw [O.stk] at hfl
 refine wpAny_leaves_onW (by rw [I.ok.frames,O.stk]) O.frm hfl fun h' f1 up=>hQ _ ⟨F.os.trans I.os,F.bare,?_,ku F.hok i2 f1.1,same,zL I O F.new,a0,B,f1,jL I O i1,vR F.hok i2 f1.1⟩
 exact rj (qJ I' O) same (jL I O i1) i2 f1.1 up fun b hb=>ff b (by rw [O.frs];exact List.mem_cons_of_mem _ hb)
theorem uH {M:Model} {E:Value->Shared->Prop} {Q:Unit->Shared->Prop} (O:Own X) (F:HeldX X pins σ C H' ea s') (same:aB X.H₀ H')
  (hQ:∀ s'',FlyX X.prog X.w X.outer X.H₀ X.s₀ C H' ea s''->Q () s''):wpAny M X.A (leaving X.env (.ref ea)) Q E s':=by
 obtain ⟨a0,B,hh,i1,i2⟩:=F.fly
 have I:=F.inv
 have ff:=uV hh.2.2.1
 rw [O.stk] at hh
 unfold leaving
 refine wpAny_bind (wpAny_noteFrame_againW O.frm hh.2.2.2 ?_)
 refine wpAny_landsW hh fun h' f1 up => ?_
 obtain ⟨k1,k2,⟨_,_,k3⟩,k4⟩:=f1
 refine hQ _ ⟨I.os,I.bare,?_,ku I.hok i2 k1,same,F.new,a0,B,⟨k1,k2,k3,k4⟩,i1,vR I.hok i2 k1⟩
 exact rj (qJ I O) same i1 i2 k1 up fun b hb=>ff b (by rw [O.frs];exact List.mem_cons_of_mem _ hb)
theorem uG {M:Model} {E:Value->Shared->Prop} {Q:Unit->Shared->Prop} {h1:Heap} {vs:List Value} (I:Inv X pins σ H s) (O:Own X) (made:Heap.MadeExcOf s.heap h1 ea (.ref C) vs) (same:aB X.H₀ H)
  (hQ:∀ s'',FlyX X.prog X.w X.outer X.H₀ X.s₀ C H ea s''->Q () s''):wpAny M X.A (leaving X.env (.ref ea)) Q E { s with heap:=h1 }:=by
 have hst:=I.stack
 have ff:=uV hst
 have i1:∀ b o,s.heap.get? b=some o->H b=none->b∉L2.frs X.stack->(PySem.W.hideAll s.heap (L2.frs X.stack)).get? b=some o:=fun b o e _ hb=>PySem.W.hideAll_get _ e hb
 have i2:∀ b u o,H b=some u->s.heap.get? b=some o->(PySem.W.hideAll s.heap (L2.frs X.stack)).get? b=some o:=fun b u o e q=>PySem.W.hideAll_get _ q fun z=>by
  rw [I.stkFree b z] at e
  cases e
 have hl:=PySem.W.funFrames_hide (as:=L2.frs X.stack) hst fun env he b hb=>List.mem_filterMap.mpr ⟨env,he,hb⟩
 rw [O.stk] at hl
 refine wpAny_leaves_madeW (s:={ s with heap:=h1 }) (base:=PySem.W.hideAll s.heap (L2.frs X.stack)) (by rw [I.ok.frames,O.stk]) O.frm (fun b o e=>PySem.W.of_hideAll _ e) (by rw [O.stk] at *;exact hl) made fun h' t f1 _ _ up=>hQ _ ⟨I.os,I.bare,?_,ku I.hok i2 f1.1,same,zL I O made.new,_,_,f1,jL I O i1,vR I.hok i2 f1.1⟩
 exact rj (qJ I O) same (jL I O i1) i2 f1.1 ((Heap.UpToSlots.of_keeps made.keeps).trans up) fun b hb=>ff b (by rw [O.frs];exact List.mem_cons_of_mem _ hb)
end
def CXF (P:Program) (w:World):CXT:=fun outer H s E e s'=>∃ C H' ea,e=.ref ea/\FlyX P w outer H s C H' ea s'/\E (.ref C) none H'
def spP (K:PySem.W.Frag) (mg:Str->Option Value) (f:List D->R D):Sp:=fun vs H Q E=>∃ ds,Reps K mg H vs ds/\match f ds with
 | .ok d=>∀ v H',aB H H'->Rep K mg H' v d->Q v H'
 | .ex C=>∀ Ca,mg C=some (.ref Ca)->∀ H',aB H H'->E (.ref Ca) none H'
 | .bad=>False
theorem qk {CX:CXT} {P:Program} {w:World} {K:PySem.W.Frag} {mg:Str->Option Value} {base:Heap} {N:List Str} {qual:Str} {sc:Scope} {f:Addr} {cdv:Value} {A:Around} {outer:List Env} {s:Shared} {H:Hp} {E:XK} :
  Own (AI CX P w K mg base N qual sc f cdv A outer s H E):=⟨rfl,rfl,rfl⟩
section
variable {P:Program} {w:World} {K:PySem.W.Frag} {mg:Str->Option Value} {base:Heap} {N:List Str} {qual:Str} {sc:Scope} {f:Addr} {cdv:Value} {A:Around} {outer:List Env} {s:Shared} {H H':Hp} {E:XK} {C:Addr} {σ:L2.St}
theorem Lx (same:aB H H') (hE:E (.ref C) none H'):ew (AI (CXF P w) P w K mg base N qual sc f cdv A outer s H E) C σ H' :=
 fun pins H1 s1 ea s' I F=>zZ I qk F same fun s'' F'=>⟨C,H',ea,rfl,F',hE⟩
theorem HW (same:aB H H') (hE:E (.ref C) none H'):ehx (AI (CXF P w) P w K mg base N qual sc f cdv A outer s H E) C σ H' :=
 fun pins ea s' F=>uH qk F same fun s'' F'=>⟨C,H',ea,rfl,F',hE⟩
theorem LC (same:aB H H') (hE:E (.ref C) none H'):em (AI (CXF P w) P w K mg base N qual sc f cdv A outer s H E) C σ H' :=
 fun pins s1 h' ea vs I made=>uG I qk made same fun s'' F'=>⟨C,H',ea,rfl,F',hE⟩
end
structure ScF (N G ps:List Str) (sc:Scope):Prop where
 fs:FnScope N ps sc
 loc:∀ x∈N,Loc sc x
 glb:∀ x∈G,sc.names.lookup x=some .globalImplicit
 dbg:∀ x∈N,(x == ("__debug__":Str))=false/\(x == ("__classdict__":Str))=false
 dbgG:∀ x∈G,(x == ("__debug__":Str))=false/\x≠"__name__"
structure Pl (X:Cx) (N G:List Str):Prop extends Sx X N where
 sto:∀ x∈N,Sto X x
 gb:∀ x∈G,Gb X x
noncomputable instance locDec {sc:Scope} {x:Str}:Decidable (Loc sc x):=inferInstanceAs (Decidable (_\/_))
theorem K7 {sc:Scope} {x:Str} (h:Loc sc x):Vis sc x:=h.elim .inl fun z=>.inr (.inl z)
theorem yH {K:PySem.W.Frag} {mg:Str->Option Value} {H:Hp} {N:List Str} {n m:Nat}:∀ {vs:List V} {ds:List D},Reps K mg H vs ds->ds.length=n->N.length=m->Stt K mg H (L2.start N vs) (EV.start n m ds):=by
 intro vs ds r hn hm
 have hl:=r.length
 refine ⟨by simp [L2.start,EV.start,hl,hn,hm],fun i d e _ => ?_⟩
 unfold EV.start at e
 by_cases hi:i<ds.length
 ·rw [List.getElem?_append_left (by simpa using hi),List.getElem?_map] at e
  cases q:ds[i]? with
  | none=>rw [q] at e;cases e
  | some d' =>
   rw [q] at e
   have e':d'=d:=Option.some.inj (Option.some.inj e)
   subst e'
   obtain ⟨v,h1,h2⟩:=r.get q
   exact ⟨v,by unfold L2.start;rw [List.getElem?_append_left (by simp;omega),List.getElem?_map,h1];rfl,h2⟩
 ·rw [List.getElem?_append_right (by simpa using hi),List.getElem?_replicate] at e
  split at e<;>cases e
theorem t8 {K:PySem.W.Frag} {mg:Str->Option Value} {H:Hp} {n m:Nat} {vs:List V} {ds:List D} (r:Reps K mg H vs ds) (i:Nat) (es:List D):(EV.start n m ds)[i]? ≠ some (some (.own es)):=fun e=>by
 unfold EV.start at e
 by_cases hi:i<ds.length
 ·rw [List.getElem?_append_left (by simpa using hi),List.getElem?_map] at e
  cases q:ds[i]? with
  | none=>rw [q] at e;cases e
  | some d' =>
   rw [q] at e
   have e':d'=.own es:=Option.some.inj (Option.some.inj e)
   subst e'
   obtain ⟨v,h1,h2⟩:=r.get q
   cases h2
 ·rw [List.getElem?_append_right (by simpa using hi),List.getElem?_replicate] at e
  split at e<;>cases e
theorem NM {P:Program} {w:World} {K:PySem.W.Frag} {mg:Str->Option Value} {base:Heap} {x qual:Str} {st:Stmt} {f:Addr} {fd:FuncData} {N G ps:List Str} {k n m:Nat} {g:S}
  (F:Fun K x qual st f fd) (S:ScF N G ps (aa st)) (hn:ps.length=n) (hm:N.length=m)
  (hbody:∀ X:Cx,X.prog=P->X.w=w->X.K=K->X.mg=mg->X.base=base->Room k X.A->Lp X->Own X->Pl X N G->X.env.scope=aa st->SSs X (ah st) g) :
  FnOk P w K mg base (CXF P w) (k+1) f fd ps (spP K mg (fn n m g)):=by
 obtain ⟨oc,od,kV,doc,pm,an,cdv,ct,osl,rfl,lk,hcd⟩:=F.ex
 have len:∀ {ds:List D},fn n m g ds ≠ .bad->ds.length=n:=fun {ds} h=>by
  unfold fn at h
  split at h
  ·assumption
  ·exact absurd rfl h
 refine Lu lk hcd S.fs (fun vs H Q E h => ?_) fun A outer s H vs Q E hr h => ?_
 ·obtain ⟨ds,rs,h⟩:=h
  rw [rs.length,hn]
  refine len fun z => ?_
  rw [z] at h
  exact h
 ·obtain ⟨ds,rs,h⟩:=h
  have hl:ds.length=n:=len fun z=>by rw [z] at h;exact h
  refine ⟨_,hbody (AI (CXF P w) P w K mg base N qual (aa st) f cdv A outer s H E) rfl rfl rfl rfl rfl hr ⟨PassesOwn.leaving,rfl⟩ qk ⟨⟨⟨rfl,S.fs.nd,fun y hy=>K7 (S.loc y hy),S.dbg⟩,rfl⟩,fun y hy=>⟨S.loc y hy,.inl rfl⟩,fun y hy=>⟨S.glb y hy,(S.dbgG y hy).1,(S.dbgG y hy).2⟩⟩ rfl,_,[],StO.nil (yH rs hl hm) (t8 rs),?_⟩
  rw [qv]
  unfold fn at h
  rw [if_pos hl] at h
  cases e:g (EV.start n m ds) with
  | nx δ=>rw [e] at h;exact fun σ H' os _ s'=>h .non H' (s'.trans (aF _ _)) .non
  | rt d=>rw [e] at h;exact fun v H' s' r=>h v H' s' r
  | ex C δ=>rw [e] at h;exact fun σ H' s' _ Ca hc=>Lx s' (h Ca hc H' s')
  | mk C δ=>rw [e] at h;exact fun σ H' s' Ca hc=>LC s' (h Ca hc H' s')
  | hx C δ=>rw [e] at h;exact fun σ H' s' _ Ca hc=>HW s' (h Ca hc H' s')
  | bk δ=>rw [e] at h;exact False.elim h
  | ct δ=>rw [e] at h;exact False.elim h
  | bad=>rw [e] at h;exact False.elim h
abbrev at5 (X:Cx) (P:Program) (w:World) (K:PySem.W.Frag) (mg:Str->Option Value) (base:Heap):Cx:={ X with prog:=P,w:=w,K:=K,mg:=mg,base:=base }
theorem oW {P:Program} {w:World} {K:PySem.W.Frag} {mg:Str->Option Value} {base:Heap} {x qual:Str} {st:Stmt} {f:Addr} {fd:FuncData} {N G ps:List Str} {k n m:Nat} {g:S}
  (F:Fun K x qual st f fd) (S:ScF N G ps (aa st)) (hn:ps.length=n) (hm:N.length=m)
  (hbody:∀ X:Cx,Room k (at5 X P w K mg base).A->Lp (at5 X P w K mg base)->Own (at5 X P w K mg base)->Pl (at5 X P w K mg base) N G->(at5 X P w K mg base).env.scope=aa st->SSs (at5 X P w K mg base) (ah st) g) :
  FnOk P w K mg base (CXF P w) (k+1) f fd ps (spP K mg (fn n m g)):=NM F S hn hm fun X hP hw hK hM hB hr L O Pl hS=>by
 subst hP hw hK hM hB
 exact hbody X hr L O Pl hS
theorem us1 {C:List Value->Prop} (h:∀ a,C [a]) (us:List Value) (hl:us.length=1):C us:=by
 match us,hl with
 | [_],_=>exact h _
theorem us2 {C:List Value->Prop} (h:∀ a b,C [a,b]) (us:List Value) (hl:us.length=2):C us:=by
 match us,hl with
 | a::us,hl=>exact us1 (C:=fun us=>C (a::us)) (h a) us (Nat.succ.inj hl)
theorem us3 {C:List Value->Prop} (h:∀ a b c,C [a,b,c]) (us:List Value) (hl:us.length=3):C us:=by
 match us,hl with
 | a::us,hl=>exact us2 (C:=fun us=>C (a::us)) (h a) us (Nat.succ.inj hl)
theorem us4 {C:List Value->Prop} (h:∀ a b c d,C [a,b,c,d]) (us:List Value) (hl:us.length=4):C us:=by
 match us,hl with
 | a::us,hl=>exact us3 (C:=fun us=>C (a::us)) (h a) us (Nat.succ.inj hl)
theorem us5 {C:List Value->Prop} (h:∀ a b c d e,C [a,b,c,d,e]) (us:List Value) (hl:us.length=5):C us:=by
 match us,hl with
 | a::us,hl=>exact us4 (C:=fun us=>C (a::us)) (h a) us (Nat.succ.inj hl)
theorem us6 {C:List Value->Prop} (h:∀ a b c d e f,C [a,b,c,d,e,f]) (us:List Value) (hl:us.length=6):C us:=by
 match us,hl with
 | a::us,hl=>exact us5 (C:=fun us=>C (a::us)) (h a) us (Nat.succ.inj hl)
theorem eE {K:PySem.W.Frag} {x qual:Str} {st:Stmt} {f:Addr} {fd:FuncData} {ps:List Str} (F:Fun K x qual st f fd) (hp:ps.length=1)
  (h:∀ (kV doc pm:Value) (an:Option Addr) (cdv ct:Value) (a:Value),bindArgs ↥2 ⟨[a],[]⟩=pure (ps.zip [a])):Binds K fd ps [] :=
 F.binds fun kV doc pm an cdv ct us hl=>us1 (C:=fun us=>bindArgs ↥2 ⟨us,[]⟩=pure (ps.zip us)) (h kV doc pm an cdv ct) us (hl.trans hp)
theorem b8 {K:PySem.W.Frag} {x qual:Str} {st:Stmt} {f:Addr} {fd:FuncData} {ps:List Str} (F:Fun K x qual st f fd) (hp:ps.length=2)
  (h:∀ (kV doc pm:Value) (an:Option Addr) (cdv ct:Value) (a b:Value),bindArgs ↥2 ⟨[a,b],[]⟩=pure (ps.zip [a,b])):Binds K fd ps [] :=
 F.binds fun kV doc pm an cdv ct us hl=>us2 (C:=fun us=>bindArgs ↥2 ⟨us,[]⟩=pure (ps.zip us)) (h kV doc pm an cdv ct) us (hl.trans hp)
theorem cV {K:PySem.W.Frag} {x qual:Str} {st:Stmt} {f:Addr} {fd:FuncData} {ps:List Str} (F:Fun K x qual st f fd) (hp:ps.length=3)
  (h:∀ (kV doc pm:Value) (an:Option Addr) (cdv ct:Value) (a b c:Value),bindArgs ↥2 ⟨[a,b,c],[]⟩=pure (ps.zip [a,b,c])):Binds K fd ps [] :=
 F.binds fun kV doc pm an cdv ct us hl=>us3 (C:=fun us=>bindArgs ↥2 ⟨us,[]⟩=pure (ps.zip us)) (h kV doc pm an cdv ct) us (hl.trans hp)
theorem jM {K:PySem.W.Frag} {x qual:Str} {st:Stmt} {f:Addr} {fd:FuncData} {ps:List Str} (F:Fun K x qual st f fd) (hp:ps.length=4)
  (h:∀ (kV doc pm:Value) (an:Option Addr) (cdv ct:Value) (a b c d:Value),bindArgs ↥2 ⟨[a,b,c,d],[]⟩=pure (ps.zip [a,b,c,d])):Binds K fd ps [] :=
 F.binds fun kV doc pm an cdv ct us hl=>us4 (C:=fun us=>bindArgs ↥2 ⟨us,[]⟩=pure (ps.zip us)) (h kV doc pm an cdv ct) us (hl.trans hp)
theorem AO {K:PySem.W.Frag} {x qual:Str} {st:Stmt} {f:Addr} {fd:FuncData} {ps:List Str} (F:Fun K x qual st f fd) (hp:ps.length=5)
  (h:∀ (kV doc pm:Value) (an:Option Addr) (cdv ct:Value) (a b c d e:Value),bindArgs ↥2 ⟨[a,b,c,d,e],[]⟩=pure (ps.zip [a,b,c,d,e])):Binds K fd ps [] :=
 F.binds fun kV doc pm an cdv ct us hl=>us5 (C:=fun us=>bindArgs ↥2 ⟨us,[]⟩=pure (ps.zip us)) (h kV doc pm an cdv ct) us (hl.trans hp)
theorem LO {K:PySem.W.Frag} {x qual:Str} {st:Stmt} {f:Addr} {fd:FuncData} {ps:List Str} (F:Fun K x qual st f fd) (hp:ps.length=6)
  (h:∀ (kV doc pm:Value) (an:Option Addr) (cdv ct:Value) (a b c d e f:Value),bindArgs ↥2 ⟨[a,b,c,d,e,f],[]⟩=pure (ps.zip [a,b,c,d,e,f])):Binds K fd ps [] :=
 F.binds fun kV doc pm an cdv ct us hl=>us6 (C:=fun us=>bindArgs ↥2 ⟨us,[]⟩=pure (ps.zip us)) (h kV doc pm an cdv ct) us (hl.trans hp)
structure FnP (P:Program) (w:World) (K:PySem.W.Frag) (mg:Str->Option Value) (base:Heap) (x:Str) (k:Nat) (f:List D->R D):Prop where
 ex:∃ fa fd ps,FnOk P w K mg base (CXF P w) k fa fd ps (spP K mg f)/\mg x=some (.ref fa)/\PySem.W.keepIn K (.ref fa)=true/\Binds K fd ps []
theorem Au {P:Program} {w:World} {K:PySem.W.Frag} {mg:Str->Option Value} {base:Heap} {x:Str} {fa:Addr} {fd:FuncData} {ps:List Str} {k:Nat} {f:List D->R D}
  (F:FnOk P w K mg base (CXF P w) k fa fd ps (spP K mg f)) (kp:PySem.W.keepIn K (.ref fa)=true) (hm:mg x=some (.ref fa)) (hb:Binds K fd ps []):FnP P w K mg base x k f:=⟨fa,fd,ps,F,hm,kp,hb⟩
structure Callee (X:Cx) (x:Str) (f:List D->R D):Prop where
 ex:∃ k fa fd ps,FnOk X.prog X.w X.K X.mg X.base (CXF X.prog X.w) k fa fd ps (spP X.K X.mg f)/\Room k X.A/\X.mg x=some (.ref fa)/\PySem.W.keepIn X.K (.ref fa)=true/\Binds X.K fd ps []
theorem FnP.callee {X:Cx} {x:Str} {k j:Nat} {f:List D->R D} (F:FnP X.prog X.w X.K X.mg X.base x k f) (hr:Room j X.A) (h:k<=j):Callee X x f:=by
 obtain ⟨fa,fd,ps,a,b,c,d⟩:=F.ex
 exact ⟨k,fa,fd,ps,a,hr.mono h,b,c,d⟩
section
variable {X:Cx} {x:Str} {f:List D->R D} {e:Expr} {es:List Expr} {gs:List E} {p pos:Pos}
theorem JX {k:Nat} {fa:Addr} {fd:FuncData} {ps:List Str} {pins:List ↥11} {σ:L2.St} {H:Hp} {s:Shared} {Q:VK} {us:List Value} {vs:List V} {ds:List D}
  (F:FnOk X.prog X.w X.K X.mg X.base (CXF X.prog X.w) k fa fd ps (spP X.K X.mg f)) (hr:Room k X.A) (hb:Binds X.K fd ps []) (I:Inv X pins σ H s) (r:Vals vs us) (rs:Reps X.K X.mg H vs ds) (q:RQ X σ H (f ds) Q) :
  wpAny ↥4 X.A (PySem.call (.ref fa) us) (EP X pins σ Q) X.xe s:=by
 have hsp:spP X.K X.mg f vs H Q (fun c _ H'=>∃ C Ca,f ds=.ex C/\X.mg C=some (.ref Ca)/\c=.ref Ca/\aB H H'):=⟨ds,rs,by
  cases e:f ds with
  | ok d=>rw [e] at q;exact q
  | ex C=>exact fun Ca hc H' s'=>⟨C,Ca,rfl,hc,rfl,s'⟩
  | bad=>rw [e] at q;exact q⟩
 have hl:us.length=ps.length:=by rw [<- r.length];exact F.len _ _ _ _ hsp
 have hb':=hb s us I.kIn (by rw [List.append_nil];exact hl)
 rw [List.append_nil] at hb'
 refine wpAny_call (codeAny_mono (F.run X.A X.stack s H ⟨us,[]⟩ us vs _ _ hr I.env0 hb' r hsp) fun r s' hq => ?_)
 cases r with
 | error er =>
  obtain ⟨C',H',ea,rfl,FX,C,Ca,e1,hc,e2,s2⟩:=hq
  cases e2
  rw [e1] at q
  exact q C' hc H' s2 pins H s ea s' I FX
 | ok fl =>
  cases fl with
  | ret u=>exact I.after hq
  | next=>exact False.elim hq
  | brk=>exact False.elim hq
  | cont=>exact False.elim hq
theorem mX (c:Callee X x f) (G:Gb X x) (ha:SA X (e::es) gs) (he:starEach (e::es) X.env=↥34::starEach es X.env:=by rfl) (hpl:(backTo pos (starEach es X.env)).any (·.1)=false:=by rfl) :
  SE X (.Call (.Name x p) (e::es) [] pos) (EV.call f gs):=by
 obtain ⟨k,fa,fd,ps,F,hr,hm,hk,hb⟩:=c.ex
 intro pins s σ H Q I ⟨δ,hσ,h⟩
 refine wpAny_Call_Name_kw (mK I G.g hm ?_ G.d)
 refine PySem.W.callWith_K (h₀:=X.base) I.ok.mod.kin hk (thn (ha pos pins s σ H _ I ⟨δ,hσ,RA.bind h⟩) fun us s1 ⟨vs,H1,I1,r,sm,ds,rs,q⟩=>⟨I1.kIn,JX F hr hb I1 r rs q⟩) he hpl
end
theorem GV {K:PySem.W.Frag} {h:Heap} {C:Addr} {bmB:List Value} {newId:String} (KX:K.In h) (q:PySem.W.excIn K C bmB newId=true) :
  ∃ bm M nm qn bs hd sn sub ab col dd k0 k1 k2 k3 k5 mN,h.get? C=some (excClassObj nm qn C M bs bm hd sn sub ab col dd k0 k1 k2 k3 k5 newId)/\h.Ns M mN/\mN "__init__"=none/\OwnTail h bmB bm:=by
 unfold PySem.W.excIn at q
 split at q
 ·rename_i d1 cd sl hlk
  split at q
  ·rename_i C' bm k0 k1 k2 k3 n k5 e1 e2
   simp only [Bool.and_eq_true,beq_iff_eq,Bool.not_eq_true'] at q
   obtain ⟨⟨⟨⟨⟨r1,r2⟩,r3⟩,r4⟩,r5⟩,r6⟩:=q
   subst r1 r2
   obtain ⟨nm,bs,mro,ns,qn,hd,sn,sub,ab,col,del⟩:=cd
   dsimp only at e1 r3 r5 r6
   subst e1 r3
   have e3:sl = #[k0,k1,k2,k3,some (.builtin n),k5]:=by
    obtain ⟨l⟩:=sl
    simp only at e2
    rw [e2]
   subst e3
   exact ⟨bm,ns,nm,qn,bs,hd,sn,sub,ab,col,d1,k0,k1,k2,k3,k5,_,KX _ _ hlk,.of_isNs (PySem.W.isNs_of_in KX r5),PySem.W.nsMap_none_of_in KX r5 r6,PySem.W.tail_of_in KX r4⟩
  ·cases q
 ·cases q
def bmV:List Value:=[.type "ValueError",.type "Exception",.type "BaseException",.type "object"]
section
variable {X:Cx} {pos:Pos} {x:String} {C:Addr}
theorem dY (hc:X.calm=true) {np cp p3:Pos} {m:Str} {j:Nat} (G:Gb X x) (hm:X.mg x=some (.ref C)) (hq:PySem.W.excIn X.K C bmV "ValueError.__new__"=true) :
  SS X (.Raise (some (.Call (.Name x np) [.Constant (.str m) j p3] [] cp)) none pos) (raise x):=by
 intro pins s σ H D I ⟨δ,os,S,h⟩
 obtain ⟨bm,M,nm,qn,bs,hd,sn,sub,ab,col,dd,k0,k1,k2,k3,k5,mN,hC,hN,hni,T⟩:=GV I.mod.kin hq
 have FB:ExcBaseFacts "ValueError" "ValueError.__new__" "ValueError.__init__" bmV:=PySem.F.excBase_ValueError
 refine wpAny_Raise_call_subT (C:=C) (nm:=nm) (q:=qn) (N:=M) (bs:=bs) (bm:=bm) (hdct:=hd) (sn:=sn) (sub:=sub) (ab:=ab) (col:=col) (dd:=dd) (k0:=k0) (k1:=k1) (k2:=k2) (k3:=k3) (k5:=k5)
  FB (mN:=mN) (T.hasType FB.hasBase) (I.ok.hd hc) rfl hni (mK I G.g hm ⟨rfl,?_⟩ G.d)
 have hsp:=(ko (X:=X) (Ew (x:=m) (j:=j) (pos:=p3)) mr) cp pins s σ H (fun vs H1=>vs.length=1/\H1=H) I (show (1=1/\H=H) from ⟨rfl,rfl⟩)
 refine Calls.evalArgs_plain (thn hsp fun us s2 ⟨vs,H1,I1,r,q1,q2⟩ => ?_)
 subst q2
 have hl:us.length=1:=by rw [<- r.length];exact q1
 exact ⟨rfl,by show us.length<=_;rw [hl,sizeLine_eq];decide,I1.bk _ _ hC,hN.keeps I1.bk,T.keeps I1.bk,fun h' e1 made=>h σ H1 (aF _ _) C hm pins s2 h' e1 us I1 made⟩
end
section
variable {K:PySem.W.Frag} {M:Model} {h:Heap} {C C' e:Addr}
open PySem.W in
theorem wN {A:Around} {E:Value->Shared->Prop} {s:Shared} {Q:Bool->Shared->Prop} (KX:K.In s.heap) (he:∃ o,s.heap.get? e=some o/\o.cls=.ref C) (c1:(clsIn K C').isSome=true) (c2:typeIn K (.ref C')=some (.type "type"))
  (c3:subIn K (.type "type") ↥6=some false) (c4:mroIn K C' ↥20=some true) (c5:mroIn K C (.ref C')=some true) (h:Q true s):wpAny M A (excMatches (.ref e) (.ref C')) Q E s:=by
 obtain ⟨o,ho,hcl⟩:=he
 have L1:Looks M s.heap (isInstance (.ref C') ↥6) false:=(looks_typeIn KX c2).andThen (looks_subIn KX c3)
 have L2:Looks M s.heap (isType (.ref C')) true:=by
  obtain ⟨cd,c1⟩:=Option.isSome_iff_exists.mp c1
  unfold clsIn at c1
  split at c1
  ·rename_i hlk
   intro A' Q' E' s' k q
   unfold isType loadHead
   exact wpAny_bind (wpAny_loadPart (k _ _ (KX _ _ hlk)) (wpAny_pure q))
  ·cases c1
 have L3:Looks M s.heap (isExcClass (.ref C')) true:=L2.andThen (looks_mroIn KX c4)
 have L4:Looks M s.heap (typeOf (.ref e)) (.ref C):=hcl▸(Looks.ld ho).andThen .now
 have L5:Looks M s.heap (isSubtype (.ref C) (.ref C')) true:=looks_mroIn KX c5
 unfold excMatches
 refine wpAny_bind (L1.here ?_)
 simp only [Bool.false_eq_true,if_false]
 refine wpAny_bind (wpAny_pure ?_)
 simp only [List.forIn_cons,List.forIn_nil]
 refine wpAny_bind (wpAny_bind (wpAny_bind (L3.here ?_)))
 simp only [Bool.not_true,Bool.false_eq_true,if_false]
 refine wpAny_pure ?_
 refine wpAny_pure ?_
 refine wpAny_bind (L4.here ?_)
 refine wpAny_bind (wpAny_bind (wpAny_bind (L5.here ?_)))
 simp only [if_true]
 exact wpAny_pure (wpAny_pure (wpAny_pure h))
end
abbrev t5 (X:Cx) (pins:List ↥11) (W:Value->Shared->Prop):Cx:={ X with xe:=W,pn:=X.pn++pins }
abbrev Bq (X:Cx) (ea:Addr):Cx:={ X with A:=X.A.mark (some (.ref ea)),calm:=false,xe:=fun _ _=>False }
section
variable {X:Cx} {pins:List ↥11} {σ:L2.St} {H H':Hp} {s s':Shared} {C ea:Addr} {W:Value->Shared->Prop}
theorem KO (o:X.Ok):(t5 X pins W).Ok:=⟨o.mod,o.kind,o.glob,o.blt,o.above,o.inj,o.has,o.cab,o.hd,o.frames,o.stk,o.exf,o.bs,o.bsz,o.noex,o.exfs,o.funs,o.frf⟩
theorem Ac (I:Inv X pins σ H s):Inv (t5 X pins W) [] σ H s :=
 ⟨KO I.ok,I.os,I.bare,I.base,I.loc,I.cell,I.free,I.freeC,fun p hp=>I.pin p (by rw [List.append_nil] at hp;exact hp),I.hok,I.len⟩
theorem su {p2:List ↥11} (ok:X.Ok) (I:Inv (t5 X pins W) p2 σ H s):Inv X pins σ H s :=
 ⟨ok,I.os,I.bare,I.base,I.loc,I.cell,I.free,I.freeC,fun p hp=>I.pin p (List.mem_append_left _ hp),I.hok,I.len⟩
theorem EG (I:Inv X pins σ H s) (ea:Addr):Inv (Bq X ea) pins σ H s :=
 let o:=I.ok
 ⟨⟨o.mod,o.kind,o.glob,o.blt,o.above,o.inj,o.has,o.cab,(fun z=>absurd z Bool.false_ne_true),o.frames,o.stk,o.exf,o.bs,o.bsz,o.noex,o.exfs,o.funs,o.frf⟩,I.os,I.bare,I.base,I.loc,I.cell,I.free,I.freeC,I.pin,I.hok,I.len⟩
theorem HE (ok:X.Ok) (I:Inv (Bq X ea) pins σ H s):Inv X pins σ H s:=⟨ok,I.os,I.bare,I.base,I.loc,I.cell,I.free,I.freeC,I.pin,I.hok,I.len⟩
theorem Dq (I:Inv X pins σ H s) {i:Nat} {n:Str} {m:Str->Option Value} {v:Option Value} {h':Heap} {tk:Nat} (hN:X.N.Nodup) (hi:X.N[i]? = some n)
  (hl:∀ (i:Nat) (x:Str) (v:V),X.N[i]? = some x->σ[i]? = some (some v)->Vis X.env.scope x->∃ u,RelV v u/\Look X.env s.heap m x u)
  (hn':h'.Ns X.env.locals (fun x=>if x=n then v else m x)) (hs:Heap.SameBut X.env.locals s.heap h'):Inv X pins (σ.set i none) H { s with heap:=h',toks:=tk }:=by
 have cne:=I.cne
 obtain ⟨m0,hn0,_⟩:=id I.loc
 have iσ:i<σ.length:=by rw [I.len];exact (List.getElem?_eq_some_iff.mp hi).1
 have ne0:∀ {b:Addr} {o:Obj},X.s₀.heap.get? b=some o->b≠X.env.locals:=fun {b o} e=>Nat.ne_of_lt (Nat.lt_of_lt_of_le (Heap.lt_size e) I.ok.above)
 refine ⟨I.ok,I.os,I.bare,⟨fun b o e k hb hx => ?_,fun b o e k hb hx => ?_,I.base.free,fun b o e hx => ?_,I.base.tups,I.base.frzs,I.base.tbls⟩,⟨_,hn',fun j y v' e1 e2 e3 => ?_⟩,fun y c e => ?_,I.free,I.freeC,fun p hp => ?_,fun b ob e => ?_,by rw [List.length_set];exact I.len⟩
 ·exact (hs.2 b (ne0 e)).trans (I.base.keep b o e k hb hx)
 ·obtain ⟨sl,q⟩:=I.base.slot b o e k hb hx
  exact ⟨sl,(hs.2 b (ne0 e)).trans q⟩
 ·obtain ⟨o',q⟩:=I.base.there b o e hx
  exact ⟨o',(hs.2 b (ne0 e)).trans q⟩
 ·by_cases hj:j=i
  ·subst hj
   rw [List.getElem?_set_self iσ] at e2
   cases e2
  ·rw [List.getElem?_set_ne (Ne.symm hj)] at e2
   obtain ⟨u,r,q⟩:=hl j y v' e1 e2 e3
   refine ⟨u,r,?_⟩
   rcases q with ⟨k,e⟩ | ⟨k,c,e,z⟩
   ·refine .inl ⟨k,?_⟩
    have:y≠n:=fun q=>hj (qq hN e1 (q▸hi))
    simp [this,e]
   ·exact .inr ⟨k,c,e,z.sameBut hs (cne y c e)⟩
 ·obtain ⟨w',z⟩:=I.cell y c e
  exact ⟨w',z.sameBut hs (cne y c e)⟩
 ·obtain ⟨e,k,ne,nf,d⟩:=I.pin p hp
  exact ⟨(hs.2 p.1 ne).trans e,k,ne,nf,d⟩
 ·refine (I.hok b ob e).stay (fun c w' hc q=>(hs.2 c ?_).trans q) (fun _ q=>q) fun _ _ q=>q
  rintro rfl
  rcases hc with rfl | hc
  ·rw [I.free] at e;cases e
  ·rw [I.free] at hc;cases hc
theorem BQ {fs:List Addr} {h h2:Heap} {o:HO} (u:Un fs [] H H' h h2) (k1:h.get? ea=none) (k2:H' ea=none):Un fs [] H (upd H' ea o) h h2:=by
 have ne1:∀ {b:Addr} {ob:Obj},h.get? b=some ob->b≠ea:=fun {b ob} e z=>by rw [z,k1] at e;cases e
 have ne2:∀ {b:Addr} {x:HO},H' b=some x->b≠ea:=fun {b x} e z=>by rw [z,k2] at e;cases e
 refine ⟨u.keep,u.slot,fun b ob e n hx=>by rw [aW (ne1 e)];exact u.free b ob e n hx,u.there,fun b xs e => ?_,fun b ob x e => ?_,fun b ps e => ?_⟩
 ·have q:=u.tups b xs e
  rw [aW (ne2 q)];exact q
 ·have q:=u.frzs b ob x e
  rw [aW (ne2 q)];exact q
 ·obtain ⟨more,q⟩:=u.tbls b ps e
  exact ⟨more,by rw [aW (ne2 q)];exact q⟩
theorem Ah {P:Program} {w:World} {h2:Heap} (hok:HOk P w H' h2) (k2:H' ea=none) (he:∃ o vs,h2.get? ea=some o/\o.cls=.ref C/\o.data=.fields vs):HOk P w (upd H' ea (HS ea C)) h2:=fun b u e=>by
 by_cases hb:b=ea
 ·subst hb
  rw [aQ] at e
  cases e
  obtain ⟨o,vs,h1,h2',h3⟩:=he
  exact ⟨⟨o,vs,h1,h2',h3⟩,⟨o,h1⟩,fun g1 g2 ⟨o1,vs1,q1,q2⟩ k=>⟨o1,vs1,k o1 q1,q2⟩⟩
 ·rw [aW hb] at e
  refine (hok b u e).stay (fun _ _ _ q=>q) (fun c q => ?_) fun c xs q => ?_
  ·rw [aW (fun z=>by rw [z,k2] at q;cases q)];exact q
  ·rw [aW (fun z=>by rw [z,k2] at q;cases q)];exact q
end
structure Catch (K:PySem.W.Frag) (C C':Addr):Prop where
 c1:(PySem.W.clsIn K C').isSome=true
 c2:PySem.W.typeIn K (.ref C')=some (.type "type")
 c3:PySem.W.subIn K (.type "type") ↥6=some false
 c4:PySem.W.mroIn K C' ↥20=some true
 c5:PySem.W.mroIn K C (.ref C')=some true
section
variable {X:Cx} {N G:List Str} {pos np hpos:Pos} {n:Str} {cls:String} {C':Addr} {body suite:List Stmt} {b₀:Stmt} {gb gs:S}
def vo (X:Cx) (cls:String) (C':Addr):Prop:=∀ (C:String) (Ca:Addr),qD C cls=true->X.mg C=some (.ref Ca)->Catch X.K Ca C'
theorem zz {K:PySem.W.Frag} {mg:Str->Option Value} {H:Hp} {σ:L2.St} {δ:Dt} (h:Stt K mg H σ δ):Stt K mg H σ (noOwn δ):=by
 refine ⟨by unfold noOwn;rw [List.length_map];exact h.1,fun i d e n => ?_⟩
 unfold noOwn at e
 rw [List.getElem?_map] at e
 cases q:δ[i]? with
 | none=>rw [q] at e;cases e
 | some c =>
  rw [q] at e
  cases c with
  | none=>cases e
  | some d0 =>
   by_cases ho:∃ ds,d0=.own ds
   ·obtain ⟨ds,rfl⟩:=ho
    cases e
   ·have e':d0=d:=by
     cases d0<;>first | exact absurd ⟨_,rfl⟩ ho | exact Option.some.inj (Option.some.inj e)
    subst e'
    exact h.2 i d0 q n
theorem C9 {δ:Dt} {i:Nat} {d:D} (hd:∀ ds,d ≠ .own ds) (j:Nat) (ds:List D):((noOwn δ).set i (some d))[j]? ≠ some (some (.own ds)):=fun e=>by
 by_cases hj:j=i
 ·subst hj
  by_cases hl:j<(noOwn δ).length
  ·rw [List.getElem?_set_self hl] at e
   exact hd ds (Option.some.inj (Option.some.inj e))
  ·rw [List.getElem?_eq_none (by rw [List.length_set];omega)] at e
   cases e
 ·rw [List.getElem?_set_ne (Ne.symm hj)] at e
  unfold noOwn at e
  rw [List.getElem?_map] at e
  cases q:δ[j]? with
  | none=>rw [q] at e;cases e
  | some c =>
   rw [q] at e
   cases c with
   | none=>cases e
   | some d0=>cases d0<;>cases e
theorem LK (P:Pl X N G) (O:Own X) (i:Nat) (hn:N[i]? = some n) (hloc:X.env.scope.names.lookup n=some .local) (GC:Gb X cls) (hm:X.mg cls=some (.ref C')) {C:String} {Ca:Addr} (hC:X.mg C=some (.ref Ca)) (hk:Catch X.K Ca C')
  (hs:∀ ea,SSs (Bq X ea) (b₀::suite) gs) {δe δ2:Dt} (eg:gs (δe.set i (some (.exc C)))=.nx δ2)
  (ne':∀ (j:Nat) (ds:List D),(δe.set i (some (.exc C)))[j]? ≠ some (some (.own ds)))
  {pins:List ↥11} {σ:L2.St} {H1 H':Hp} {s1 s':Shared} {ea:Addr} {D:Ends} {hrest:List ExceptHandler}
  (I1:Inv X pins σ H1 s1) (F:FlyX X.prog X.w X.stack H1 s1 Ca H' ea s') (hσ:Stt X.K X.mg H' σ δe) (hD:∀ σ2 H2 os,aB H' (hide H2 os)->StO X H2 σ2 (δ2.set i none) os->D.nx σ2 H2) :
  wpAny ↥4 X.A (noteFrame (.ref ea) X.env) (fun _ s2=>wpAny ↥4 X.A (setFlight (.ref ea) none) (fun _ s3 =>
   wpAny ↥4 X.A (handleBy (.ref ea) X.env (.ExceptHandler (some (.Name cls np)) (some n) (b₀::suite) hpos::hrest)) (SP X pins D) X.xe s3) X.xe s2) X.xe s':=by
 have hmn:n∈N:=List.mem_of_getElem? hn
 obtain ⟨a0,B,hfl,i1,i2⟩:=F.fly
 have ff:=uV hfl.2.2.1
 have noea:H' ea=none:=by
  cases q:H' ea with
  | none=>rfl
  | some u =>
   obtain ⟨ob,e⟩:=mB (F.hok ea u q)
   have z:=i2 ea u ob q e
   rw [hfl.2.1] at z
   cases z
 rw [O.stk] at hfl
 refine wpAny_looks_onW (by rw [I1.ok.frames,O.stk]) O.frm hfl fun h4 held4 up4 => ?_
 refine wpAny_landsW held4 fun h5 fl5 up5 => ?_
 have up45:=up4.trans up5
 have at_:∀ {h6:Heap} {g:Nat},B.StaysIn h6->s'.heap.UpToSlots h6->Inv X pins σ H' { s' with heap:=h6,toks:=g }:=fun {h6 g} st up =>
  I1.call' (s':={ s' with heap:=h6,toks:=g }) (ch:=[]) F.os (rj F.un F.same i1 i2 st up ff) (ku F.hok i2 st) F.bare fun b z=>absurd z (by simp)
 have I5:=at_ (g:=s'.toks) fl5.1 up45
 refine wpAny_handleBy_cons (codeAny_handlers_test ?_) (by intro q;cases q)
 refine mK (X:=Bq X ea) (EG I5 ea) GC.g hm ?_ GC.d
 refine wN (K:=X.K) I5.kIn fl5.there hk.c1 hk.c2 hk.c3 hk.c4 hk.c5 ?_
 refine codeAny_handlers_suite_as ?_
 refine lands_againW fl5 fun h6 fl6 up6 => ?_
 have up456:=up45.trans up6
 have u6:=rj F.un F.same i1 i2 fl6.1 up456 ff
 have fl6':∃ o vs,h6.get? ea=some o/\o.cls=.ref Ca/\o.data=.fields vs:=by
  obtain ⟨_,_,_,oe,vs,_,_,_,he,hc,hd,_⟩:=fl6
  exact ⟨oe,vs,he,hc.1,hd⟩
 have I6:Inv X pins σ (upd H' ea (HS ea Ca)) { s' with heap:=h6 } :=
  I1.call' (s':={ s' with heap:=h6 }) (ch:=[]) F.os (BQ u6 F.new noea) (Ah (ku F.hok i2 fl6.1) noea fl6') F.bare fun b z=>absurd z (by simp)
 have same2:aB H' (upd H' ea (HS ea Ca)):=aH noea _
 have J6:=EG I6 ea
 refine lD (X:=Bq X ea) (v:=.ref ea) (i:=i) J6 (by rw [show (Bq X ea).N=X.N from rfl,P.sc.n];exact P.sc.nd) (by rw [show (Bq X ea).N=X.N from rfl,P.sc.n];exact hn) (.inl hloc) rfl (fun s7 J7 => ?_) (.inr hloc)
 have hσ7:Stt X.K X.mg (upd H' ea (HS ea Ca)) (σ.set i (some (.ref ea))) (δe.set i (some (.exc C))):=(hσ.mono same2).set (.exc hC aQ)
 have S7:StO (Bq X ea) (upd H' ea (HS ea Ca)) (σ.set i (some (.ref ea))) (δe.set i (some (.exc C))) []:=StO.nil hσ7 ne'
 refine wpAny_mono (hs ea pins s7 _ _ { nx:=fun σ2 H2=>∃ os,aB (upd H' ea (HS ea Ca)) (hide H2 os)/\StO X H2 σ2 δ2 os,rt:=fun _ _=>False } J7 ⟨_,[],S7,by rw [eg];exact fun σ2 H2 os S sm=>⟨os,by rw [qv] at sm;exact sm,⟨S.st,S.lst,S.own,S.inj⟩⟩⟩) (fun f s8 q8 => ?_) fun _ _ z=>False.elim z
 cases f with
 | ret v=>obtain ⟨_,_,_,_,_,z⟩:=q8;exact z.elim
 | brk=>obtain ⟨_,_,_,z⟩:=q8;exact z.elim
 | cont=>obtain ⟨_,_,_,z⟩:=q8;exact z.elim
 | next =>
  obtain ⟨σ8,H8,J8,os,sm,S8⟩:=q8
  have I8:=HE I1.ok J8
  obtain ⟨m,hns,hl⟩:=id I8.loc
  refine wpAny_nameGoes_keeps hloc hns (by rw [I8.ok.kind];rfl) fun h9 v hn9 hs9 => ?_
  have hless:aB (hide H8 os) (hide H8 (os.filter fun p=>p.1 != i)):=mS fun p hp=>(aU os i p hp).1
  refine ⟨σ8.set i none,H8,Dq I8 (by rw [P.sc.n];exact P.sc.nd) (by rw [P.sc.n];exact hn) hl hn9 hs9,hD _ _ (os.filter fun p=>p.1 != i) ((same2.trans sm).trans hless) ?_⟩
  have setn:∀ {α:Type} {l:List (Option α)} {j:Nat} {d:α},(l.set i none)[j]? = some (some d)->l[j]? = some (some d)/\j≠i:=fun {α l j d} e=>by
   by_cases hj:j=i
   ·subst hj
    by_cases hjl:j<l.length
    ·rw [List.getElem?_set_self hjl] at e;cases e
    ·rw [List.getElem?_eq_none (by rw [List.length_set];omega)] at e;cases e
   ·rw [List.getElem?_set_ne (Ne.symm hj)] at e
    exact ⟨e,hj⟩
  refine ⟨⟨by rw [List.length_set,List.length_set];exact S8.st.1,fun j d e nd => ?_⟩,fun p hp => ?_,fun j ds e => ?_,fun a b c h1 h2=>S8.inj a b c (aU os i _ h1).1 (aU os i _ h2).1⟩
  ·obtain ⟨e,hj⟩:=setn e
   obtain ⟨v1,q1,q2⟩:=S8.st.2 j d e nd
   exact ⟨v1,by rw [List.getElem?_set_ne (Ne.symm hj)];exact q1,q2.mono hless⟩
  ·obtain ⟨hp',hne⟩:=aU os i p hp
   obtain ⟨xs,ds,h1,h2,h3,h4⟩:=S8.lst p hp'
   exact ⟨xs,ds,h1,by rw [List.getElem?_set_ne (Ne.symm hne)];exact h2,by rw [List.getElem?_set_ne (Ne.symm hne)];exact h3,h4.mono hless⟩
  ·obtain ⟨e,hj⟩:=setn e
   obtain ⟨a,ha⟩:=S8.own j ds e
   exact ⟨a,List.mem_filter.mpr ⟨ha,by simpa using hj⟩⟩
theorem MV (P:Pl X N G) (O:Own X) (i:Nat) (hn:N[i]? = some n) (hloc:X.env.scope.names.lookup n=some .local) (GC:Gb X cls) (hm:X.mg cls=some (.ref C')) (hk:vo X cls C')
  (hb:∀ pins W,SSs (t5 X pins W) body gb) (hs:∀ ea,SSs (Bq X ea) (b₀::suite) gs) :
  SS X (.Try body [.ExceptHandler (some (.Name cls np)) (some n) (b₀::suite) hpos] [] [] pos) (JD gb cls i gs):=by
 intro pins s σ H D I ⟨δ,os,S,h⟩
 refine wpAny_Try_except ?_
 have S':∀ W,StO (t5 X pins W) H σ δ os:=fun W=>⟨S.st,S.lst,S.own,S.inj⟩
 unfold JD Ef at h
 cases e:gb δ with
 | nx δ1 =>
  rw [e] at h
  refine wpAny_mono (hb pins _ [] s σ H { nx:=D.nx,rt:=fun _ _=>False } (Ac I) ⟨δ,os,S' _,by rw [e];exact fun σ1 H1 os1 S1 s1=>h σ1 H1 os1 ⟨S1.st,S1.lst,S1.own,S1.inj⟩ s1⟩) (fun f s1 q => ?_) fun _ _ z=>z
  cases f with
  | next =>
   obtain ⟨σ1,H1,I1,q⟩:=q
   exact wpAny_execs_nil ⟨σ1,H1,su I.ok I1,q⟩
  | ret v=>obtain ⟨_,_,_,_,_,z⟩:=q;exact z.elim
  | brk=>obtain ⟨_,_,_,z⟩:=q;exact z.elim
  | cont=>obtain ⟨_,_,_,z⟩:=q;exact z.elim
 | ex C δe =>
  rw [e] at h
  simp only [forget] at h
  split at h
  ·rename_i hcl
   cases eg:gs ((noOwn δe).set i (some (.exc C))) with
   | nx δ2 =>
    rw [eg] at h
    have ho:∀ W,(∀ ea s',(∃ p2 Hc sc σ1 H1 Ca,Inv X pins σ1 Hc sc/\aB ↥29 H1/\Stt X.K X.mg H1 σ1 δe/\X.mg C=some (.ref Ca)/\FlyX X.prog X.w X.stack Hc sc Ca H1 ea s'/\p2=pins)->W (.ref ea) s')->OQ (t5 X pins W) { nx:=fun _ _=>False,rt:=fun _ _=>False } ↥29 (gb δ):=fun W hW=>by
     rw [e]
     exact fun σ1 H1 s1 hσ1 Ca hCa p2 Hc sc ea s' Ic F=>hW ea s' ⟨pins,Hc,sc,σ1,H1,Ca,su I.ok Ic,s1,hσ1,hCa,F,rfl⟩
    refine wpAny_mono (hb pins _ [] s σ H _ (Ac I) ⟨δ,os,S' _,ho _ ?_⟩) (fun f s1 q => ?_) fun _ _ z=>z
    ·rintro ea s' ⟨p2,Hc,sc,σ1,H1,Ca,Ic,s1,hσ1,hCa,F,_⟩
     exact LK P O i hn hloc GC hm hCa (hk C Ca hcl hCa) hs eg (C9 (fun _ z=>nomatch z)) Ic F (zz hσ1) fun σ2 H2 os2 sm S2=>h σ2 H2 os2 S2 (s1.trans sm)
    ·cases f with
     | next=>obtain ⟨_,_,_,z⟩:=q;exact z.elim
     | ret v=>obtain ⟨_,_,_,_,_,z⟩:=q;exact z.elim
     | brk=>obtain ⟨_,_,_,z⟩:=q;exact z.elim
     | cont=>obtain ⟨_,_,_,z⟩:=q;exact z.elim
   | _=>rw [eg] at h;exact False.elim h
  ·exact False.elim h
 | _=>rw [e] at h;exact False.elim h
theorem Pl.try (P:Pl X N G) (p:List ↥11) (W:Value->Shared->Prop):Pl (t5 X p W) N G:=⟨⟨⟨P.sc.n,P.sc.nd,P.sc.vis,P.sc.dbg⟩,P.ex⟩,P.sto,fun x hx=>⟨(P.gb x hx).g,(P.gb x hx).d,(P.gb x hx).n⟩⟩
theorem Pl.inn (P:Pl X N G) (ea:Addr):Pl (Bq X ea) N G:=⟨⟨⟨P.sc.n,P.sc.nd,P.sc.vis,P.sc.dbg⟩,P.ex⟩,P.sto,fun x hx=>⟨(P.gb x hx).g,(P.gb x hx).d,(P.gb x hx).n⟩⟩
end
end ES
namespace ES
open PySem PySem.Spec PyProof.Rows L2 EV
unseal SE ST SW SA SS SSs
def rC (X:Cx) (f:List D->R D):List V->Hp->VK->Prop:=fun vs H Q=>∃ ds d,Reps X.K X.mg H vs ds/\f ds=.ok d/\∀ v H',aB H H'->Rep X.K X.mg H' v d->Q v H'
def NoX (f:List D->R D):Prop:=∀ ds C,f ds ≠ .ex C
theorem RQ.cl (nx:NoX f) (r:Reps X.K X.mg H vs ds) (h:RQ X σ H (f ds) Q):rC X f vs H Q:=by
 cases e:f ds with
 | ok d=>rw [e] at h;exact ⟨ds,d,r,e,h⟩
 | ex C=>exact absurd e (nx ds C)
 | bad=>rw [e] at h;exact False.elim h
section
variable {X:Cx} {x:Str} {id T:String} {f:List D->R D} {e o:Expr} {es:List Expr} {gs:List E} {g:E} {p pos apos:Pos}
theorem cE (hc:gB X (.builtin id) (rC X f)) (nx:NoX f) (G:Gb X x) (hm:X.mg x=none) (hv:bootBuiltins x=some (.builtin id)) (ha:SA X (e::es) gs)
  (he:starEach (e::es) X.env=↥34::starEach es X.env:=by rfl) (hpl:(backTo pos (starEach es X.env)).any (·.1)=false:=by rfl):SE X (.Call (.Name x p) (e::es) [] pos) (EV.call f gs) :=
 PE.weak (vL hc G.g hm hv ha G.n G.d he hpl) fun σ H Q ⟨δ,hσ,h⟩=>⟨δ,hσ,(RA.bind h).to fun vs H' s ⟨_,ds,rs,q⟩=>RQ.cl nx rs q⟩
theorem EN (hc:gB X (.type T) (rC X f)) (nx:NoX f) (G:Gb X x) (hm:X.mg x=none) (hv:bootBuiltins x=some (.type T)) (ha:SA X (e::es) gs)
  (he:starEach (e::es) X.env=↥34::starEach es X.env:=by rfl) (hpl:(backTo pos (starEach es X.env)).any (·.1)=false:=by rfl):SE X (.Call (.Name x p) (e::es) [] pos) (EV.call f gs) :=
 PE.weak (rR hc G.g hm hv ha G.n G.d he hpl) fun σ H Q ⟨δ,hσ,h⟩=>⟨δ,hσ,(RA.bind h).to fun vs H' s ⟨_,ds,rs,q⟩=>RQ.cl nx rs q⟩
theorem lj (r:Reps X.K X.mg H vs [d]):∃ v,vs=[v]/\Rep X.K X.mg H v d:=by
 cases r with
 | cons r rr=>cases rr;exact ⟨_,rfl,r⟩
theorem GH (r:Reps X.K X.mg H vs [d,d']):∃ v v',vs=[v,v']/\Rep X.K X.mg H v d/\Rep X.K X.mg H v' d':=by
 cases r with
 | cons r rr =>
  cases rr with
  | cons r' rr=>cases rr;exact ⟨_,_,rfl,r,r'⟩
theorem iW:NoX l5:=fun ds C z=>by unfold l5 at z;split at z<;>first | cases z | exact gi z
theorem i6:gB X (.builtin "len") (rC X l5):=by
 intro pins s σ H xs us Q I rs ⟨ds,d,r,e,q⟩
 unfold l5 at e
 split at e
 ·cases e
  obtain ⟨v,rfl,r1⟩:=lj r
  cases r1 with
  | @lst a ys _ hq rr=>exact kH pins s σ H _ us Q I rs ⟨a,ys,rfl,.inl hq,by rw [rr.length];exact q _ _ ↥31 (.int _)⟩
 ·cases e
  obtain ⟨v,rfl,r1⟩:=lj r
  cases r1 with
  | @tup a ys _ hq rr=>exact kH pins s σ H _ us Q I rs ⟨a,ys,rfl,.inr hq,by rw [rr.length];exact q _ _ ↥31 (.int _)⟩
 ·split at e
  ·rename_i hz
   cases e
   obtain ⟨v,rfl,r1⟩:=lj r
   cases r1
   exact sM pins s σ H _ us Q I rs ⟨_,rfl,Nat.le_trans hz (by rw [sizeLine_eq];decide),q _ _ ↥31 (.int _)⟩
  ·cases e
 ·cases e
theorem Ny:NoX IM:=fun ds C z=>by unfold IM at z;split at z<;>cases z
theorem NX:gB X (.builtin "abs") (rC X IM):=by
 intro pins s σ H xs us Q I rs ⟨ds,d,r,e,q⟩
 unfold IM at e
 split at e
 ·cases e
  obtain ⟨v,rfl,r1⟩:=lj r
  cases r1
  exact DI pins s σ H _ us Q I rs ⟨_,rfl,q _ _ ↥31 (.int _)⟩
 ·cases e
theorem KS:NoX EU:=fun ds C z=>by unfold EU at z;split at z<;>cases z
theorem LM (hc:X.calm=true):gB X (.builtin "max") (rC X EU):=by
 intro pins s σ H xs us Q I rs ⟨ds,d,r,e,q⟩
 unfold EU at e
 split at e
 ·cases e
  obtain ⟨v,v',rfl,r,r'⟩:=GH r
  cases r;cases r'
  exact AN hc pins s σ H _ us Q I rs ⟨_,_,rfl,q _ _ ↥31 (.int _)⟩
 ·cases e
theorem Nt:NoX Iq:=fun ds C z=>by unfold Iq at z;split at z<;>cases z
theorem NV:gB X (.type "int") (rC X Iq):=by
 intro pins s σ H xs us Q I rs ⟨ds,d,r,e,q⟩
 unfold Iq at e
 split at e
 ·cases e
  obtain ⟨v,rfl,r1⟩:=lj r
  cases r1
  exact sN pins s σ H _ us Q I rs (.inl ⟨_,rfl,q _ _ ↥31 (.int _)⟩)
 ·cases e
  obtain ⟨v,rfl,r1⟩:=lj r
  cases r1
  exact sN pins s σ H _ us Q I rs (.inr ⟨_,rfl,q _ _ ↥31 (.int _)⟩)
 ·cases e
theorem KU:NoX td:=fun ds C z=>by unfold td at z;split at z<;>cases z
theorem LN:gB X (.type "list") (rC X td):=by
 intro pins s σ H xs us Q I rs ⟨ds,d,r,e,q⟩
 unfold td at e
 split at e
 ·cases e
  obtain ⟨v,rfl,r1⟩:=lj r
  cases r1 with
  | @lst a ys _ hq rr=>exact gU pins s σ H _ us Q I rs ⟨a,ys,rfl,.inl hq,fun l hl=>q _ _ (aH hl _) (.lst (SqL.of aQ) (rr.mono (aH hl _)))⟩
 ·cases e
  obtain ⟨v,rfl,r1⟩:=lj r
  cases r1 with
  | @tup a ys _ hq rr=>exact gU pins s σ H _ us Q I rs ⟨a,ys,rfl,.inr hq,fun l hl=>q _ _ (aH hl _) (.lst (SqL.of aQ) (rr.mono (aH hl _)))⟩
 ·cases e
theorem Nl:NoX LS:=fun ds C z=>by
 unfold LS at z
 split at z
 ·split at z<;>cases z
 ·cases z
theorem mQ:∀ {xs:List V} {ds:List D} {ns:List Int} {us:List Value},intsOf ds=some ns->Reps X.K X.mg H xs ds->Vals xs us->∃ ts:List (Int×Tok),us=ts.map (fun p=>Value.int p.1 p.2)/\ts.map (·.1)=ns
 | _,[],_,_,e,.nil,.nil=>by cases e;exact ⟨[],rfl,rfl⟩
 | _,.int i::r,ns,_,e,.cons h t,.cons h' t'=>by
  cases h
  unfold intsOf at e
  cases q:intsOf r with
  | none=>rw [q] at e;cases e
  | some ms =>
   rw [q] at e
   have e':i::ms=ns:=Option.some.inj e
   subst e'
   obtain ⟨tk,rfl⟩:=h'
   obtain ⟨ts,e1,e2⟩:=mQ q t t'
   exact ⟨(i,tk)::ts,by rw [e1];rfl,by rw [List.map_cons,e2]⟩
 | _,.non::_,_,_,e,_,_=>by cases e
 | _,.bl _::_,_,_,e,_,_=>by cases e
 | _,.str _::_,_,_,e,_,_=>by cases e
 | _,.tup _::_,_,_,e,_,_=>by cases e
 | _,.lst _::_,_,_,e,_,_=>by cases e
 | _,.own _::_,_,_,e,_,_=>by cases e
 | _,.ty _::_,_,_,e,_,_=>by cases e
 | _,.cls _::_,_,_,e,_,_=>by cases e
 | _,.exc _::_,_,_,e,_,_=>by cases e
 | _,.ins _ _::_,_,_,e,_,_=>by cases e
theorem As (ns:List Int):ns.foldl (· + ·) 0=ns.sum:=by
 have h:∀ (l:List Int) (a:Int),l.foldl (· + ·) a=a+l.sum:=by
  intro l
  induction l with
  | nil=>intro a;simp
  | cons b r ih=>intro a;rw [List.foldl_cons,ih,List.sum_cons];omega
 rw [h];omega
theorem NT (hc:X.calm=true):gB X (.builtin "sum") (rC X LS):=by
 intro pins s σ H xs us Q I rs ⟨ds,d,r,e,q⟩
 unfold LS at e
 split at e
 ·rename_i ds'
  split at e
  ·rename_i ns hns
   cases e
   obtain ⟨v,rfl,r1⟩:=lj r
   cases r1 with
   | @lst a ys _ hq rr =>
    obtain ⟨its,rv,pl,_⟩:=I.list hq
    obtain ⟨ts,e1,e2⟩:=mQ hns rr rv
    cases rs with
    | cons h1 h2 =>
     cases h2
     cases h1
     have hl:s.heap.IsList a (intItems ts.toArray):=by
      have:=pl.isList
      rw [e1] at this
      have e3:(ts.map fun p=>Value.int p.1 p.2).toArray=intItems ts.toArray:=by simp [intItems]
      rw [<- e3]
      exact this
     refine sum_intListG (I.ok.hd hc) hl fun h' tk t' hk => ?_
     have hs:preSum (numAt ts.toArray) ts.toArray.size=ns.foldl (· + ·) 0:=by
      rw [preSum_eq,List.take_of_length_le (by simp),As,<-e2]
     rw [hs]
     exact ⟨.int _,H,I.kept (t':=tk) hk,⟨_,rfl⟩,q _ _ ↥31 (.int _)⟩
  ·cases e
 ·cases e
theorem zP:MtR X "int.bit_length" (fun x xs H Q=>∃ i,x=.int i/\xs=[]/\Q (.int (nb i)) H):=by
 intro pins s σ H x xs v us Q I rx rs ⟨i,ex,exs,q⟩
 subst ex exs
 obtain ⟨t,rfl⟩:=rx
 cases rs
 refine call_int_bit_length ⟨.int (nb i),H,I.tok _,⟨_,by rw [xx]⟩,q⟩
theorem qE (ho:SE X o g) (hbase:attributeBase o "bit_length" X.env (eval o X.env)=eval o X.env:=by rfl) (hline:(apos.endLine == pos.line)=true:=by rfl):SE X (.Call (.Attribute o "bit_length" apos) [] [] pos) (EV.call i7 [g]) :=
 PE.weak (Ks PySem.F.plainAttrs_int PySem.F.slot_int_bit_length PySem.F.type_int_bit_length zP ho hbase hline) fun σ H Q ⟨δ,hσ,h⟩=>⟨δ,hσ,by
  have h':RQ X σ H ((g δ).bind fun d=>i7 [d]) Q:=by
   unfold EV.call evs at h
   cases r:g δ with
   | ok d=>rw [r] at h;exact h
   | ex C=>rw [r] at h;exact h
   | bad=>rw [r] at h;exact h
  refine (RQ.bind h').to fun v H' s ⟨_,d,r,q⟩ => ?_
  unfold i7 at q
  split at q
  ·rename_i e
   cases e
   cases r
   exact ⟨rfl,_,rfl,rfl,q _ _ ↥31 (.int _)⟩
  ·exact False.elim q⟩
def tyV (mg:Str->Option Value):D->Option Value
 | .non=>some (.type "NoneType")
 | .bl _=>some (.type "bool")
 | .int _=>some (.type "int")
 | .str _=>some (.type "str")
 | .tup _=>some ↥6
 | .lst _=>some (.type "list")
 | .exc n=>mg n
 | _=>none
def Sw (mg:Str->Option Value):D->Option Value
 | .ty n=>some (.type n)
 | .cls n=>mg n
 | _=>none
def Isi (X:Cx) (c:D):Prop:=∀ d k t u,fF [d,c]=.ok (.bl k)->tyV X.mg d=some t->Sw X.mg c=some u->PySem.W.kitOne X.K t u=some k
def tR (X:Cx):Prop:=∀ (e C:Addr) (n:String),ao.contains n=true->X.mg n=some (.ref C)->PySem.W.KitX X.K (.ref e) (.ref C) (fun h=>∃ o vs,h.get? e=some o/\o.cls=.ref C/\o.data=.fields vs)
theorem A9:(∃ d c k,ds=[d,c]/\fF ds=.ok (.bl k))\/fF ds=.bad:=by
 rcases ds with _ | ⟨d,_ | ⟨c,_ | ⟨x,y⟩⟩⟩
 ·exact .inr rfl
 ·exact .inr rfl
 ·cases c<;>first
   | exact .inr rfl
   | (cases d<;>first
     | exact .inr rfl
     | exact Lj rfl)
 ·first
   | exact .inr rfl
   | (cases c<;>exact .inr rfl)
theorem Az (h:fF [.exc n,c]=.ok (.bl k)):ao.contains n=true:=by
 cases c with
 | cls B =>
  have z:=(mO h).1
  rw [Bool.and_eq_true] at z
  exact z.1
 | ty B =>
  have z:=(mO h).1
  rw [Bool.and_eq_true] at z
  exact z.1
 | _=>cases h
theorem NU (hI:Isi X c) (hE:tR X):gB X (.builtin "isinstance") (fun vs H Q=>∃ dx d,Reps X.K X.mg H vs [dx,c]/\fF [dx,c]=.ok d/\∀ v H',aB H H'->Rep X.K X.mg H' v d->Q v H'):=by
 intro pins s σ H xs us Q I rs ⟨dx0,d,r,e,q⟩
 rcases A9 (ds:=[dx0,c]) with ⟨dx,dc,k,ez,e'⟩ | e'<;>rw [e'] at e<;>cases e
 cases ez
 obtain ⟨v,v',rfl,r1,r2⟩:=GH r
 cases rs with
 | cons h1 h2 =>
  cases h2 with
  | cons h2 h3 =>
   cases h3
   rename_i u w
   have fin:∀ tk,EP X pins σ Q (.bool k) { s with toks:=tk }:=fun tk=>⟨.bl k,H,I.tok tk,rfl,q _ _ ↥31 (.bl k)⟩
   have hw:Sw X.mg c=some w:=by
    cases r2 with
    | ty n=>cases h2;rfl
    | cls hc=>cases h2;exact hc
    | _=>cases dx0<;>cases e'
   cases r1 with
   | non=>cases (show u=Value.none from h1);exact PySem.W.kia_one PySem.W.kitx_none I.kIn True.intro (hI _ k _ _ e' rfl hw) (fun z=>nomatch z) fin
   | bl y=>cases (show u=Value.bool y from h1);exact PySem.W.kia_one PySem.W.kitx_bool I.kIn True.intro (hI _ k _ _ e' rfl hw) (fun z=>nomatch z) fin
   | int i=>obtain ⟨t,z⟩:=(show ∃ t,u=Value.int i t from h1);cases z;exact PySem.W.kia_one PySem.W.kitx_int I.kIn True.intro (hI _ k _ _ e' rfl hw) (fun z=>nomatch z) fin
   | str y=>obtain ⟨t,z⟩:=(show ∃ t,u=Value.str y t from h1);cases z;exact PySem.W.kia_one PySem.W.kitx_str I.kIn True.intro (hI _ k _ _ e' rfl hw) (fun z=>nomatch z) fin
   | @tup a ys ds hq rr =>
    cases (show u=Value.ref a from h1)
    obtain ⟨its,_,⟨o,g1,g2,_⟩,_⟩:=I.tuple hq
    exact PySem.W.kia_one PySem.W.kitx_tuple I.kIn ⟨o,g1,g2⟩ (hI _ k _ _ e' rfl hw) (fun z=>nomatch z) fin
   | @lst a ys ds hq rr =>
    cases (show u=Value.ref a from h1)
    obtain ⟨its,_,⟨o,n,g1,g2,_⟩,_⟩:=I.list hq
    exact PySem.W.kia_one PySem.W.kitx_list I.kIn ⟨o,g1,g2⟩ (hI _ k _ _ e' rfl hw) (fun z=>nomatch z) fin
   | @exc a C n hn hq =>
    cases (show u=Value.ref a from h1)
    exact PySem.W.kia_one (hE a C n (Az e') hn) I.kIn (I.hok a _ hq).1 (hI _ k _ _ e' hn hw) (fun z=>nomatch z) fin
   | ty n=>cases c<;>cases e'
   | cls _=>cases c<;>cases e'
   | ins _ _ _=>cases c<;>cases e'
theorem eH (hI:Isi X c) (hE:tR X) (G:Gb X "isinstance") (hm:X.mg "isinstance"=none) (ha:SE X e g) (hb:SE X e2 (con c))
  (hs:starEach [e,e2] X.env=↥34::starEach [e2] X.env:=by rfl) (hs2:starEach [e2] X.env=[(false,eval e2 X.env)]:=by rfl) (hpl:(backTo pos (starEach [e2] X.env)).any (·.1)=false:=by rfl) :
  SE X (.Call (.Name "isinstance" p) [e,e2] [] pos) (EV.call fF [g,con c]) :=
 PE.weak (vL (NU hI hE) G.g hm PyProof.Rows.boot_isinstance (ag ha (ag hb bR hs2) hs) G.n G.d hs hpl) fun σ H Q ⟨δ,hσ,h⟩=>⟨δ,hσ,by
  cases r:g δ with
  | ok d =>
   have e1:evs [g,con c] δ=.ok [d,c]:=by simp [evs,r,con,R.bind]
   unfold EV.call at h
   rw [e1] at h ⊢
   refine fun vs H' s rs => ?_
   have h':RQ X σ H' (fF [d,c]) Q:=RQ.mono s h
   rcases A9 (ds:=[d,c]) with ⟨_,_,k,_,e'⟩ | e'
   ·rw [e'] at h';exact ⟨d,_,rs,e',h'⟩
   ·rw [e'] at h';exact False.elim h'
  | ex C =>
   have e1:evs [g,con c] δ=.ex C:=by simp [evs,r,R.bind]
   unfold EV.call at h
   rw [e1] at h ⊢
   exact h
  | bad =>
   have e1:evs [g,con c] δ=.bad:=by simp [evs,r,R.bind]
   unfold EV.call at h
   rw [e1] at h
   exact False.elim h⟩
end
end ES
namespace ES
open PySem PySem.Spec PyProof.Rows L2 EV
unseal SE ST SW SA SS SSs
section
variable {prog:Program} {w:World} {A:Around} {s:Shared} {K:PySem.W.Frag} {e C:Addr}
open PySem.W PySem.Builtin PySem.Builtin.Getset_descriptor in
theorem Jh {R:Result->Shared->Prop} {tp:Value} (L1:Looks ↥16 s.heap (isSubtype (.ref C) ↥35) true) (L0:Looks ↥16 s.heap (typeOf (.ref e)) (.ref C)) (done:R (.ok (.ret (.ref C))) s) :
  codeAny ↥16 A (.call (.builtin "getset_descriptor.__get__") ⟨[.builtin "object.__class__",.ref e,tp],[]⟩) R s:=by
 obtain ⟨hh,g,dr,t,os⟩:=s
 refine codeAny_call_builtin KF.slot_gs.plain KF.entry_gs (KF.slot_gs.check _ _ _ _ _ _ _ _ KF.type_class (KF.args_gs _ _ tp) ?_)
 unfold Builtin.«getset_descriptor.__get__»;unfold descrGet;rw [dga_obj]
 refine wpAny_bind (wpAny_pure ?_)
 simp only [descrGetter,descrCheckInstance,descrNameAndClass,isInstance,KF.owner_class]
 repeat lk
 refine ⟨Code.quiet_builtin _ (by decide +kernel),?_⟩
 refine codeAny_builtin KF.entry_class ?_
 unfold Builtin.«object.__class__»;unfold shownTypeOf
 repeat lk
 exact done
open PySem.W PySem.Builtin PySem.Builtin.Getset_descriptor in
theorem Bz {E:Value->Shared->Prop} {Q:Fin->Shared->Prop} {tk:Tok} (L1:Looks ↥16 s.heap (isSubtype (.ref C) ↥35) true) (L0:Looks ↥16 s.heap (typeOf (.ref e)) (.ref C))
  (L2:Looks ↥16 s.heap (typeLookup (.ref C) "__class__") (some (.builtin "object.__class__"))) (done:Q (.done (.ret (.ref C))) s) :
  wpAny ↥16 A (Builtin.«object.__getattribute__» ⟨[.ref e,.str "__class__" tk],[]⟩) Q E s:=by
 obtain ⟨hh,g,dr,t,os⟩:=s
 have f5:=F.typeOf_object_class
 have f6:=F.slot_gs_get.lookup
 have f7:=F.slot_gs_set.lookup
 have hT5:(⟨hh,g,dr,t,os⟩:Shared).TypeIs (.builtin "object.__class__") "getset_descriptor":=F.typeOf_object_class
 repeat (any_goals (first | assumption | with_reducible refine L0.at ?_ | with_reducible refine L2.at ?_ | wp_step))
 refine Jh L1 L0 ?_
 repeat (any_goals (first | assumption | wp_step))
open PySem.W PySem.Builtin PySem.Builtin.Getset_descriptor in
theorem BA {M:Model} {E:Value->Shared->Prop} {nameV:Value} {Q:Unit->Shared->Prop} (L3:Looks M s.heap (isSubtype (.ref C) ↥20) true) (L0:Looks M s.heap (typeOf (.ref e)) (.ref C)) (done:Q () s) :
  wpAny M A (checkBuiltinCall "BaseException.__getattribute__" ⟨[.ref e,nameV],[]⟩) Q E s:=by
 obtain ⟨hh,g,dr,t,os⟩:=s
 have k1:builtinKind "BaseException.__getattribute__"=some .slot:=by decide +kernel
 have k2:splitId "BaseException.__getattribute__"=some ("BaseException","__getattribute__"):=by decide +kernel
 have ha:=F.args_bexc_ga (.ref e) nameV
 simp only [checkBuiltinCall,k1,k2]
 refine wpAny_bind ?_
 unfold isInstance
 repeat (first | with_reducible refine L0.at ?_ | with_reducible refine L3.at ?_ | wp_step)
 exact done
structure XCls (K:PySem.W.Frag) (C:Addr):Prop where
 c0:PySem.W.mroIn K C ↥35=some true
 c1:PySem.W.mroIn K C ↥20=some true
 c2:PySem.W.findIn K (.ref C) "__class__"=some (some (.builtin "object.__class__"))
 c3:PySem.W.findIn K (.ref C) "__getattribute__"=some (some (.builtin "BaseException.__getattribute__"))
 c4:PySem.W.findIn K (.ref C) "__getattr__"=some none
 c5:∃ cd,PySem.W.clsIn K C=some cd
open PySem.W PySem.Builtin PySem.Builtin.Getset_descriptor in
theorem Mp {E:Value->Shared->Prop} {Q:Value->Shared->Prop} {tk:Tok} (FB:ExcAttrFacts "ValueError") (L0:Looks ↥16 s.heap (typeOf (.ref e)) (.ref C)) (c:XCls K C) (KX:K.In s.heap) (done:Q (.ref C) s) :
  wpAny ↥16 A (getAttrBy (.ref e) (.str "__class__" tk) false) Q E s:=by
 have L1:Looks ↥16 s.heap (isSubtype (.ref C) ↥35) true:=looks_mroIn KX c.c0
 have L3:Looks ↥16 s.heap (isSubtype (.ref C) ↥20) true:=looks_mroIn KX c.c1
 have L2:Looks ↥16 s.heap (typeLookup (.ref C) "__class__") (some (.builtin "object.__class__")):=looks_findIn KX c.c2
 have L4:Looks ↥16 s.heap (typeLookup (.ref C) "__getattribute__") (some (.builtin "BaseException.__getattribute__")):=looks_findIn KX c.c3
 have L5:Looks ↥16 s.heap (typeLookup (.ref C) "__getattr__") none:=looks_findIn KX c.c4
 obtain ⟨hh,g,dr,t,os⟩:=s
 have f3:=FB.ga.bind (.ref e)
 have q2:(Value.builtin "BaseException.__getattribute__" == Value.builtin "object.__getattribute__")=false:=by decide +kernel
 have q0:(false&&onTheHeap (Value.builtin "BaseException.__getattribute__"))=false:=rfl
 have q1:(onTheHeap (Value.ref C)&&Value.builtin "BaseException.__getattribute__" == Value.builtin "object.__getattribute__")=false:=by rw [q2];rfl
 repeat (any_goals (first | assumption | with_reducible refine L0.at ?_ | with_reducible refine L4.at ?_ | with_reducible refine L5.at ?_ | wp_step))
 refine codeAny_call_builtin FB.ga.plain F.entry_bexc_ga (BA L3 L0 (Bz L1 L0 L2 ?_))
 repeat (any_goals (first | assumption | wp_step))
open PySem.W in
theorem HR (c:XCls K C):KitX K (.ref e) (.ref C) (fun h=>∃ o vs,h.get? e=some o/\o.cls=.ref C/\o.data=.fields vs) where
 ty:=fun M h KX ⟨o,vs,h1,h2,h3⟩=>h2▸(Looks.ld h1).andThen .now
 it:=fun M h KX _=>by
  obtain ⟨cd,hc⟩:=c.c5
  unfold clsIn at hc
  split at hc
  ·rename_i hlk
   intro A' Q' E' s' k q
   unfold isType loadHead
   exact wpAny_bind (wpAny_loadPart (k _ _ (KX _ _ hlk)) (wpAny_pure q))
  ·cases hc
 ne:=fun h tp dd its n sl KX htp=>by
  obtain ⟨cd,hc⟩:=c.c5
  unfold clsIn at hc
  split at hc
  ·rename_i hlk
   have h1:=KX _ _ hlk
   by_cases z:C=tp
   ·subst z
    rw [htp] at h1
    cases h1
   ·simpa using z
  ·cases hc
 ca:=fun {prog w A E Q s} KX ⟨o,vs,h1,h2,h3⟩ q=>by
  obtain ⟨hh,g,dr,t,os⟩:=s
  have L0:Looks ↥16 hh (typeOf (.ref e)) (.ref C):=h2▸(Looks.ld h1).andThen .now
  have by_:∀ {tk:Tok} {t':Nat} {E':Value->Shared->Prop} {Q':Value->Shared->Prop},Q' (.ref C) ⟨hh,g,dr,t',os⟩->wpAny ↥16 A (getAttrBy (.ref e) (.str "__class__" tk) false) Q' E' ⟨hh,g,dr,t',os⟩:=fun {tk t' E' Q'} done=>Mp (s:=⟨hh,g,dr,t',os⟩) PySem.F.excAttr_ValueError L0 c KX done
  clear h1
  unfold getAttr? getAttrBy?
  repeat (any_goals (first | assumption | with_reducible apply by_ | wp_step))
end
theorem sF (h:∀ (n:String) (C:Addr),ao.contains n=true->X.mg n=some (.ref C)->XCls X.K C):tR X:=fun e C n hx hn=>HR (h n C hx hn)
end ES
namespace ES
open PySem PySem.Spec PyProof.Rows L2 EV
unseal SE ST SW SA SS SSs
theorem nh:bootBuiltins "ValueError"=some ↥13:=by decide +kernel
theorem mG {G:List Str} (i:Nat) {x:Str} (h:G[i]? = some x:=by rfl):x∈G:=List.mem_of_getElem? h
structure XF (K:PySem.W.Frag) (mg:Str->Option Value) (n:String):Prop where
 ex:mg n=none\/∃ C,mg n=some (.ref C)/\XCls K C
theorem yv {K:PySem.W.Frag} {mg:Str->Option Value} (h:∀ n∈ao,XF K mg n) (n:String) (C:Addr) (hn:ao.contains n=true) (hm:mg n=some (.ref C)):XCls K C:=by
 rcases (h n (by simpa using hn)).ex with z | ⟨C',z,x⟩
 ·rw [hm] at z;cases z
 ·rw [hm] at z;cases z;exact x
structure CF (K:PySem.W.Frag) (mg:Str->Option Value) (B:Addr) (n:String):Prop where
 ex:mg n=none\/∃ C,mg n=some (.ref C)/\PySem.W.mroIn K C (.ref B)=some true
structure CB (K:PySem.W.Frag) (B:Addr):Prop where
 c1:∃ cd,PySem.W.clsIn K B=some cd
 c2:PySem.W.typeIn K (.ref B)=some (.type "type")
 c3:PySem.W.subIn K (.type "type") ↥6=some false
 c4:PySem.W.mroIn K B ↥20=some true
theorem xS (b:CB X.K B) (h:∀ n∈ao,qD n cls=true->CF X.K X.mg B n):vo X cls B:=fun C Ca hs hm=>by
 have hn:C∈ao:=by
  unfold qD at hs
  rw [Bool.and_eq_true] at hs
  simpa using hs.1
 rcases (h C hn hs).ex with z | ⟨C',z,x⟩
 ·rw [hm] at z;cases z
 ·rw [hm] at z;cases z;exact ⟨by obtain ⟨_,e⟩:=b.c1;rw [e];rfl,b.c2,b.c3,b.c4,x⟩
structure IF (K:PySem.W.Frag) (mg:Str->Option Value) (c:Value) (k:Bool) (n:String):Prop where
 ex:mg n=none\/∃ C,mg n=some (.ref C)/\PySem.W.kitOne K (.ref C) c=some k
theorem IF.get {K:PySem.W.Frag} {mg:Str->Option Value} {c:Value} {k:Bool} {n:String} {C:Addr} (f:IF K mg c k n) (hm:mg n=some (.ref C)):PySem.W.kitOne K (.ref C) c=some k:=by
 rcases f.ex with z | ⟨C',z,x⟩
 ·rw [hm] at z;cases z
 ·rw [hm] at z;cases z;exact x
theorem Li (hX:∀ n C,ao.contains n=true->X.mg n=some (.ref C)->True) (hr:∀ (n:String) u,ao.contains n=true->X.mg n=some u->∃ C,u=.ref C) (i0:PySem.W.kitOne X.K (.type "NoneType") ↥13=some false) (i1:PySem.W.kitOne X.K (.type "bool") ↥13=some false) (i2:PySem.W.kitOne X.K (.type "int") ↥13=some false)
  (i3:PySem.W.kitOne X.K (.type "str") ↥13=some false) (i4:PySem.W.kitOne X.K ↥6 ↥13=some false) (i5:PySem.W.kitOne X.K (.type "list") ↥13=some false) (ix:∀ n∈ao,IF X.K X.mg ↥13 true n):Isi X (.ty "ValueError"):=by
 intro d k t u e ht hu
 cases hu
 cases d with
 | exc C =>
  obtain ⟨z,rfl⟩:=mO e
  rw [Bool.and_eq_true] at z
  obtain ⟨Ca,rfl⟩:=hr C t z.1 ht
  exact (ix C (by simpa using z.1)).get ht
 | non=>cases ht;cases e;exact i0
 | bl b=>cases ht;cases e;exact i1
 | int b=>cases ht;cases e;exact i2
 | str b=>cases ht;cases e;exact i3
 | tup b=>cases ht;cases e;exact i4
 | lst b=>cases ht;cases e;exact i5
 | _=>cases e
theorem bq (hB:X.mg B=some (.ref Ba)) (hr:∀ (n:String) u,ao.contains n=true->X.mg n=some u->∃ C,u=.ref C) (i0:PySem.W.kitOne X.K (.type "NoneType") (.ref Ba)=some false) (ix:∀ n∈ao,IF X.K X.mg (.ref Ba) (n == B||B == "MillError") n):Isi X (.cls B):=by
 intro d k t u e ht hu
 have hu':X.mg B=some u:=hu
 rw [hB] at hu'
 cases hu'
 cases d with
 | exc C =>
  obtain ⟨z,rfl⟩:=mO e
  rw [Bool.and_eq_true] at z
  obtain ⟨Ca,rfl⟩:=hr C t z.1 ht
  exact (ix C (by simpa using z.1)).get ht
 | non =>
  cases ht
  obtain ⟨_,rfl⟩:=mO e
  exact i0
 | _=>cases e
theorem bV {K:PySem.W.Frag} {mg:Str->Option Value} (h:∀ n∈ao,XF K mg n) (n:String) (u:Value) (hn:ao.contains n=true) (hm:mg n=some u):∃ C,u=.ref C:=by
 rcases (h n (by simpa using hn)).ex with z | ⟨C',z,x⟩
 ·rw [hm] at z;cases z
 ·rw [hm] at z;cases z;exact ⟨_,rfl⟩
theorem iH:∀ {ns:List Int},PySem.W.WData.weightAll (ns.map PySem.W.WData.int)<=2^20->∀ n∈ns,nb n<=2^20
 | [],_,_,h=>nomatch h
 | m::r,hw,n,h=>by
  rw [List.map_cons,PySem.W.WData.weightAll] at hw
  rcases List.mem_cons.mp h with rfl | h
  ·have:PySem.W.WData.weight (.int n)=Builtin.Int.intBits n:=by simp only [PySem.W.WData.weight,Builtin.Int.intBits]
   rw [xx]
   omega
  ·exact iH (ns:=r) ⋯ n h
open PySem.W PySem.Calls Att in
theorem vi {l:OpenLaw} {n:Nat} {q:Program} {loose:List Str} {XP:(Str->Option Value)->Heap->Prop} {YP:World->Heap->Prop} {d:DefRec}
  (hn:l.most=some n) (hdf:d.params.defaults=[])
  (call:∀ (w:World) (s₀ s₁:Shared) (mg mb:Str->Option Value) (fa:Addr) (a:Addr) (vs:List Value) (ns:List Int),
   Ground q loose [] XP w s₀ mg mb s₁.heap->YP w s₁.heap->mg d.name=some (.ref fa) ->
   s₁.heap.get? a=some { cls:=.type "list",data:=.seq vs.toArray }->IntsAre vs ns->ns.length<=n->(∀ m∈ns,nb m<=2^20)->s₁.gens = #[] ->
   codeAny (model l.prog w) callerA (.call (.ref fa) ⟨[.ref a],[]⟩) (fun r s'=>r=.ok (.ret (.bool true))/\OldK s₁.heap s'.heap/\s'.os=s₁.os/\AllBare s'.gens) s₁) :
  WalkO q loose XP YP l.row.toRowW d [] (fun f vs=>PySem.call f vs):=by
 intro w s₀ s₁ mg mb G Y fa o pm cd doc dV kV ho hd hcd hD hmg hg args vals as hpre hlay hrd hwl hlo
 obtain rfl:dV=.none:=Dflts.none hD hdf
 obtain rfl:kV=.none:=Dflts.noKw hD
 obtain ⟨a,vs,ns,rfl,rfl,hobj,hints,hlen⟩:=yL hn hpre hwl
 have hb:∀ m∈ns,nb m<=2^20:=by
  have h1:=(layableW_iff.mp (layW_cons hlay).1).2.2
  rw [WData.weight] at h1
  exact iH h1
 refine enter_call (codeAny_mono (call w s₀ s₁ mg mb fa a vs ns G Y hmg hobj hints hlen hb hg) fun r s' hq => ?_)
 obtain ⟨rfl,h2,h3,h4⟩:=hq
 exact ⟨.inl ⟨.bool true,.bool true,[],rfl,fun _=>rfl,.bool true,zb l _,fun _=>⟨List.Pairwise.nil,fun _ hm=>(nomatch hm)⟩⟩,h2,h3,h4⟩
theorem BE {l:PySem.W.OpenLaw} {k:Nat} {q:Program} {loose:List Str} {XP:(Str->Option Value)->Heap->Prop} {YP:World->Heap->Prop} {d:DefRec} {K:Params->PySem.W.Frag} {x:Str} {f:List D->R D}
  (hf:Good f) (hn:l.most=some 63) (hdf:d.params.defaults=[]) (hr:Room k callerA)
  (hY:∀ (w:World) (h:Heap),YP w h->(K w.params).In h)
  (F:∀ (w:World) (mg:Str->Option Value) (fa:Addr) (h:Heap),(K w.params).In h->h.Ns mainGlobals mg->mg d.name=some (.ref fa) ->
   ∃ fd:FuncData,(∀ (s:Shared) (u:Value),BindsTo s fd ⟨[u],[]⟩ [(x,u)]) /\
    ∀ base:Heap,(K w.params).In base->base.Ns mainGlobals mg->FnOk l.prog w (K w.params) mg base (CXF l.prog w) k fa fd [x] (spP (K w.params) mg f)) :
  PySem.W.WalkO q loose XP YP l.row.toRowW d [] (fun f vs=>PySem.call f vs):=by
 refine vi hn hdf fun w s₀ s₁ mg mb fa a vs ns G Y hmg hobj hints hlen hbits hg => ?_
 have KX:=hY w _ Y
 obtain ⟨fd,hb,hF⟩:=F w mg fa _ KX G.T.g hmg
 refine Dj KX G.T.g G.T.b G.T.builtins G.T.nolimit hg hobj hints (Nat.le_trans hlen ↥0) hr hF hb (fun H hO hS=>⟨[.lst (ns.map .int)],.cons (.lst hS (Reps.ints ns)) .nil,?_⟩) fun H e s' ⟨_,_,_,_,_,z⟩=>z
 rw [hf ns hlen hbits]
 exact fun v H' _ r=>by cases r;rfl
end ES
namespace ES
open PySem PySem.Spec PyProof.Rows L2 EV
unseal SE ST SW SA SS SSs
structure FldOk (X:Cx) (cn f:String):Prop where
 ex:∃ C,X.mg cn=some (.ref C)/\Cls X.K C/\jP X.K C f
structure MethOk (X:Cx) (cn m:String) (F:List D->R D):Prop where
 ex:∃ C fa k fd ps,X.mg cn=some (.ref C)/\Cls X.K C/\Meth X.K C m fa/\FnOk X.prog X.w X.K X.mg X.base (CXF X.prog X.w) k fa fd ps (spP X.K X.mg F)/\Room k X.A/\Binds X.K fd ps []
section
variable {X:Cx} {o e:Expr} {es:List Expr} {go:E} {gs:List E} {pos apos p:Pos} {cn f m:String} {F:List D->R D}
theorem AE (h:FldOk X cn f) (ho:SE X o go) (hb:attributeBase o f X.env (eval o X.env)=eval o X.env:=by rfl):SE X (.Attribute o f pos) (un (ye cn f) go):=by
 obtain ⟨C,hC,cl,na⟩:=h.ex
 refine PE.weak (Kr ho hb) fun σ H Q ⟨δ,hσ,h⟩=>⟨δ,hσ,(RQ.bind h).to fun v H' s ⟨_,d,r,q⟩ => ?_⟩
 cases r with
 | @ins a C' dx n fs ds hn ha rf =>
  unfold ye at q
  simp only at q
  split at q
  ·rename_i hcn
   rw [beq_iff_eq] at hcn
   subst hcn
   split at q
   ·rename_i d hd
    obtain ⟨v,e1,e2⟩:=rf.lookup hd
    rw [hC] at hn
    cases hn
    exact ⟨a,C,dx,fs,v,rfl,ha,cl,na,e1,q _ _ ↥31 e2⟩
   ·exact False.elim q
  ·exact False.elim q
 | _=>exact False.elim q
theorem Hy {σ:L2.St} {H:Hp} {δ:Dt} {d:D} {es:List E} {Q:VK} (h:RQ X σ H (if fq cn m d then (evs es δ).bind fun ds=>F (d::ds) else .bad) Q):fq cn m d=true/\RA X σ H (evs es δ) fun vs H'=>aB H H'/\∃ ds,Reps X.K X.mg H' vs ds/\RQ X σ H' (F (d::ds)) Q:=by
 by_cases hm:fq cn m d=true
 ·rw [if_pos hm] at h
  refine ⟨hm,?_⟩
  have h2:RQ X σ H ((evs es δ).bind fun ds=>F (d::ds)) Q:=h
  cases r:evs es δ with
  | ok ds=>rw [r] at h2;exact fun vs H' s rs=>⟨s,ds,rs,RQ.mono s h2⟩
  | ex C=>rw [r] at h2;exact h2
  | bad=>rw [r] at h2;exact h2
 ·rw [if_neg hm] at h;exact False.elim h
theorem v5 (h:MethOk X cn m F) (ho:SE X o go) (ha:SA X (e::es) gs)
  (hst:starEach (e::es) X.env=↥34::starEach es X.env:=by rfl) (hpl:(backTo pos (starEach es X.env)).any (·.1)=false:=by rfl)
  (ht:eval (.Call (.Attribute o m apos) (e::es) [] pos) X.env=(do
   let ov<-eval o X.env
   standAt apos.atName
   let (f,first)<-holding [ov] (getMethod ov m pl)
   callWith pos f first (backTo pos (starEach (e::es) X.env)) (backToKw pos (keywordEach [] X.env))):=by rfl) :
  SE X (.Call (.Attribute o m apos) (e::es) [] pos) (IK cn m F go gs):=by
 obtain ⟨C,fa,k,fd,ps,hC,cl,hm,FO,hr,hb⟩:=h.ex
 intro pins s σ H Q I ⟨δ,hσ,h⟩
 refine PySem.W.methodCall_KW (pl:=pl) (thn (ho pins s σ H _ I ⟨δ,hσ,RQ.bind h⟩) fun u s1 ⟨x,H1,I1,rx,sm,d,rd,q⟩ => ?_) ht
 obtain ⟨im,qa⟩:=Hy q
 cases rd with
 | @ins a C' dx n fs ds hn hA rf =>
  unfold fq at im
  rw [Bool.and_eq_true,beq_iff_eq] at im
  obtain ⟨e1,e2⟩:=im
  subst e1
  rw [hC] at hn
  cases hn
  have l:fs.lookup (m:Str)=none:=rf.lookupN (by simpa using e2)
  obtain rfl:u=Value.ref a:=rx
  refine xK I1 hA cl hm l ?_
  refine PySem.W.callWith_K (first:=[.ref a]) (h₀:=X.base) I.ok.mod.kin hm.kp (thn (ha pos pins s1 σ H1 _ I1 ⟨δ,hσ.mono sm,qa⟩) fun us s2 ⟨vs,H2,I2,r,sm2,ds',rs,q2⟩=>⟨I2.kIn,?_⟩) hst hpl
  exact JX (us:=.ref a::us) (vs:=.ref a::vs) FO hr hb I2 (.cons rfl r) (.cons (.ins hC (sm2 _ _ hA) (rf.mono sm2)) rs) q2
 | _=>cases im
def spI (K:PySem.W.Frag) (f:Str):Sp:=fun vs H Q _=>∃ x v C dx,vs=[.ref x,v]/\H x=some (.ins C dx [])/\Cls K C/\jP K C f/\Q .non (upd H x (.ins C dx [(f,v)]))
theorem HF {P:Program} {w:World} {K:PySem.W.Frag} {mg:Str->Option Value} {base:Heap} {x qual ps pa f:Str} {st:Stmt} {fa:Addr} {fd:FuncData} {p1 p2 p3 p4:Pos} {k:Nat} (F:Fun K x qual st fa fd)
  (S:FnScope [ps,pa] [ps,pa] (aa st)) (h0:(aa st).names.lookup ps=some .local) (h1:(aa st).names.lookup pa=some .local) (d0:(ps == ("__debug__":Str))=false/\(ps == ("__classdict__":Str))=false) (d1:(pa == ("__debug__":Str))=false/\(pa == ("__classdict__":Str))=false)
  (hb:ah st=[.Assign [.Attribute (.Name ps p1) f p2] (.Name pa p3) p4]) (hsw:∀ env,swapsWith (.Name pa p3) (some (.Attribute (.Name ps p1) f p2)) p4.line env=pure false):FnOk P w K mg base CX0 (k+1) fa fd [ps,pa] (spI K f):=by
 refine F.ok S (fun vs H Q E h => ?_) fun cdv A outer s H vs Q E hr h => ?_
 ·obtain ⟨_,_,_,_,rfl,_⟩:=h
  rfl
 ·obtain ⟨a,v,C,dx,rfl,hH,cl,na,q⟩:=h
  rw [hb]
  refine ⟨_,yZ (Kg (mi (i:=0) rfl (.inl h0) d0.1 d0.2) (mi (i:=1) rfl (.inl h1) d1.1 d1.2) (hsw _)),?_⟩
  exact ⟨v,rfl,_,rfl,a,C,dx,[],rfl,hH,cl,na,by decide,q⟩
structure MakeOk (X:Cx) (cn f:String):Prop where
 ex:∃ C fa k fd ps,X.mg cn=some (.ref C)/\Cls X.K C/\jP X.K C f/\Mk X.K C fa/\FnOk X.prog X.w X.K X.mg X.base CX0 k fa fd ps (spI X.K f)/\Room (k+1) X.A/\Binds X.K fd ps []
theorem HX (h:MakeOk X cn f) (G:Gb X cn) (ha:SA X (e::es) gs) (he:starEach (e::es) X.env=↥34::starEach es X.env:=by rfl) (hpl:(backTo pos (starEach es X.env)).any (·.1)=false:=by rfl) :
  SE X (.Call (.Name cn p) (e::es) [] pos) (EV.call (mk1 cn f) gs):=by
 obtain ⟨C,fa,k,fd,ps,hC,cl,na,M,F,hr,hb⟩:=h.ex
 refine PE.weak (GR (E:=fun _ _ _=>False) M F hr G.g hC hb .nil Nc ha G.d he hpl) fun σ H Q ⟨δ,hσ,h⟩=>⟨δ,hσ,(RA.bind h).to fun vs H' s ⟨_,ds,rs,q⟩ x dx hx hdx hne => ?_⟩
 unfold mk1 at q
 split at q
 ·rename_i d
  obtain ⟨v,rfl,r⟩:=lj rs
  refine ⟨x,v,C,dx,rfl,aQ,cl,na,rfl,?_⟩
  have s1:aB H' (upd H' dx (.own x)):=aH hdx _
  have hx1:(upd H' dx (.own x)) x=none:=by rw [aW (Ne.symm hne)];exact hx
  have s2:aB (upd H' dx (.own x)) (upd (upd H' dx (.own x)) x (.ins C dx [])):=aH hx1 _
  have s3:aB H' (upd (upd (upd H' dx (.own x)) x (.ins C dx [])) x (.ins C dx [((f:Str),v)])):=fun b o e=>by
   have hb:b≠x:=cY e hx
   rw [aW hb,aW hb]
   exact s1 b o e
  exact q _ _ s3 (.ins hC aQ (.cons (r.mono s3) .nil))
 ·exact False.elim q
end
end ES
namespace ES
open PySem PySem.Spec PyProof.Rows L2 EV
unseal SE ST SW SA SS SSs
def Be (X:Cx) (J:It) (H:Hp) (ds:List D):Prop:=∀ Hc,aB H Hc ->
 (∀ i d,ds[i]? = some d->J.go i Hc/\∀ x H',J.yld i Hc x H'->aB Hc H'/\∀ Hq,aB H Hq->(∀ b o,H' b=some o->Hc b=none->Hq b=some o)->Rep X.K X.mg Hq x d)/\∀ i,ds.length<=i->J.stop i Hc
theorem t4 {X:Cx} {H Hc H':Hp} {x:V} {d:D} (e:H'=Hc) (r:Rep X.K X.mg H x d):aB Hc H'/\∀ Hq,aB H Hq->(∀ b o,H' b=some o->Hc b=none->Hq b=some o)->Rep X.K X.mg Hq x d :=
 ⟨by rw [e];exact aB.refl _,fun Hq s _=>r.mono s⟩
def RI (X:Cx) (σ:L2.St) (H:Hp) (r:R (List D)) (Q:It->Hp->Prop):Prop:=match r with
 | .ok ds=>∀ J H',aB H H'->Be X J H' ds->Q J H'
 | .ex C=>∀ Ca,X.mg C=some (.ref Ca)->∀ H',aB H H'->ew X Ca σ H'
 | .bad=>False
def tI (X:Cx) (g:IT):TI:=fun σ H Q=>∃ δ,Stt X.K X.mg H σ δ/\RI X σ H (g δ) Q
@[irreducible] def SI (X:Cx) (tg iter:Expr) (g:IT):Prop:=PI X tg iter (tI X g)
unseal SI
section
variable {X:Cx} {tg e a b:Expr} {g ga gb:E} {σ:L2.St} {H H1:Hp}
theorem RI.mono (s:aB H H1) (h:RI X σ H r Q):RI X σ H1 r Q:=by
 cases r with
 | ok d=>exact fun v H' s' r=>h v H' (s.trans s') r
 | ex C=>exact fun Ca hc H' s'=>h Ca hc H' (s.trans s')
 | bad=>exact h
theorem RI.bind (h:RI X σ H (r.bind f) Q):RQ X σ H r (fun v H'=>aB H H'/\∃ d,Rep X.K X.mg H' v d/\RI X σ H' (f d) Q):=by
 cases r with
 | ok d=>exact fun v H' s r=>⟨s,d,r,h.mono s⟩
 | ex C=>exact h
 | bad=>exact h
theorem PI.weak (h:PI X tg e t) (w:∀ σ H Q,t' σ H Q->t σ H Q):PI X tg e t':=fun pins s σ H Q I q=>h pins s σ H Q I (w σ H Q q)
theorem EH (h:SE X e g):SI X tg e (itL g):=PI.weak (GQ h) fun σ H Q ⟨δ,hσ,q⟩=>⟨δ,hσ,(RI.bind q).to fun v H' s ⟨_,d,r,q⟩=>by
 cases d with
 | lst ds =>
  cases r with
  | @lst p xs _ hq rs =>
   refine ⟨p,rfl,⟨xs,hq⟩,q _ _ ↥31 fun Hc sc=>⟨fun i d hd => ?_,fun i hi=>⟨xs,sc.seq hq,by rw [rs.length];exact hi⟩⟩⟩
   obtain ⟨v,e1,r1⟩:=rs.get hd
   exact ⟨⟨xs,v,sc.seq hq,e1⟩,fun x H'' ⟨e2,y⟩=>by
    have:=y xs (sc.seq hq)
    rw [e1] at this
    cases this
    exact t4 e2 r1⟩
 | _=>exact False.elim q⟩
theorem NF (h:SE X e g):SI X tg e (itT g):=PI.weak (Kk h) fun σ H Q ⟨δ,hσ,q⟩=>⟨δ,hσ,(RI.bind q).to fun v H' s ⟨_,d,r,q⟩=>by
 cases d with
 | tup ds =>
  cases r with
  | @tup p xs _ hq rs =>
   refine ⟨p,rfl,⟨xs,hq⟩,q _ _ ↥31 fun Hc sc=>⟨fun i d hd => ?_,fun i hi=>⟨xs,gC sc hq,by rw [rs.length];exact hi⟩⟩⟩
   obtain ⟨v,e1,r1⟩:=rs.get hd
   exact ⟨⟨xs,v,gC sc hq,e1⟩,fun x H'' ⟨e2,y⟩=>by
    have:=y xs (gC sc hq)
    rw [e1] at this
    cases this
    exact t4 e2 r1⟩
 | _=>exact False.elim q⟩
theorem BD {lo hi:Int}:Be X (Itr lo (hi - lo).toNat) H (xn lo hi):=fun Hc sc=>⟨fun i d hd=>by
  have hl:=(List.getElem?_eq_some_iff.mp hd).1
  rw [vG] at hl
  rw [GB hl] at hd
  cases hd
  exact ⟨hl,fun x H' ⟨e,ex⟩=>by subst ex;exact t4 e (.int _)⟩,fun i hi'=>by rw [vG] at hi';exact hi'⟩
theorem Lo (G:Gb X "range") (hm:X.mg "range"=none) (h:SE X e g) (hs:starEach [e] X.env=[↥34]:=by rfl):SI X tg (.Call (.Name "range" p) [e] [] pos) (ND g) :=
 PI.weak (zd G.g hm (ko h mr hs) hs) fun σ H Q ⟨δ,hσ,q⟩=>⟨δ,hσ,(RI.bind q).to fun v H' s ⟨_,d,r,q⟩=>by
  cases d with
  | int hi =>
   cases r
   unfold LW at q
   simp only at q
   split at q
   ·rename_i hb
    refine ⟨hi,rfl,hb.1,hb.2,q _ _ ↥31 ?_⟩
    have:=BD (X:=X) (lo:=0) (hi:=hi) (H:=H')
    rw [Int.sub_zero] at this
    exact this
   ·exact False.elim q
  | _=>exact False.elim q⟩
end
def FI (X:Cx) (σ:L2.St) (H:Hp) (os:Os) (δ:Dt) (r:R (List D)) (Q:It->Hp->Prop):Prop:=match r with
 | .ok ds=>∀ J H',StO X H' σ δ os->aB ↥29 (hide H' os)->Be X J (hide H' os) ds->Q J H'
 | .ex C=>∀ Ca,X.mg C=some (.ref Ca)->∀ H',aB ↥29 H'->Stt X.K X.mg H' σ (noOwn δ)->ew X Ca σ H'
 | .bad=>False
def tFI (X:Cx) (g:IT):TI:=fun σ H Q=>∃ δ os,StO X H σ δ os/\FI X σ H os δ (g δ) Q
section
variable {X:Cx} {N:List Str} {tg e:Expr} {g:IT}
theorem Ls (hx:X.ex=[]) (h:SI X tg e g):PI X tg e (tFI X g):=by
 intro pins s σ H Q I ⟨δ,os,S,q⟩
 have hl:=S.lsts
 have hw:RI X σ ↥29 (g δ) (fun J H1=>aB ↥29 H1/\∃ ds,g δ=.ok ds/\Be X J H1 ds):=by
  cases r:g δ with
  | ok d=>exact fun v H' s r=>⟨s,d,rfl,r⟩
  | ex C =>
   rw [r] at q
   exact fun Ca hc H' s'=>q Ca hc H' s' (S.noOwn s')
  | bad=>rw [r] at q;exact q
 refine thn (h _ s σ _ _ (lU I hl) ⟨δ,S.st,hw⟩) fun v s1 h1=>thn h1 fun itv s2 h2 => ?_
 obtain ⟨it,fp,tn,J,H1,e1,I1,T,st,fpk,sm,ds,e2,wk⟩:=h2
 obtain ⟨I2,hn⟩:=lT hx I hl I1
 rw [e2] at q
 have eh:=jB (H:=H) hn
 refine ⟨it,fp,tn,J,fH H H1 os,e1,I2,T,st,fun b hb => ?_,q J _ (S.shown sm hn) (by rw [eh];exact sm) (by rw [eh];exact wk)⟩
 obtain ⟨f0,f1,f2,f3,f4,f5⟩:=fpk b hb
 have nb:b∉kC os:=fun z=>by
  obtain ⟨xs,hh⟩:=hl b z
  obtain ⟨o,eo⟩:∃ o,s.heap.get? b=some o:=by
   obtain ⟨_,its,n,_,eo⟩:=I.hok b _ hh
   exact ⟨_,eo⟩
  exact f5 (b,o) (List.mem_append_right _ (List.mem_append_right _ (dW z eo))) rfl
 refine ⟨by unfold fH;rw [if_neg nb];exact f0,f1,f2,f3,f4,fun p hp=>f5 p ?_⟩
 rw [<- List.append_assoc]
 exact List.mem_append_left _ hp
variable {body:List Stmt} {gb:S} {pos:Pos}
theorem jn (C:Sx X N) (L:Lp X) (i:Nat) (hN:N[i]? = some x) (hx:Sto X x) (he:SI X (.Name x pos') e g) (hb:SSs X body gb) (hs:∀ x,foldedSetIterable e X.env x=pure x:=by intro _;rfl) :
  SS X (.For (.Name x pos') e body [] pos) (sE i g gb):=by
 refine PS.weak (Kf L.own L.calm (Ls C.ex he) (uw (i:=i) (by rw [C.sc.n];exact C.sc.nd) (by rw [C.sc.n];exact hN) hx.1 hx.2) hb hs) fun D σ H ⟨δ,os,S,q⟩=>⟨δ,os,S,?_⟩
 unfold sE ovI at q
 cases r:g δ with
 | ok ds =>
  rw [r] at q
  intro J H1 S1 s1 wk
  refine ⟨fun n m σ' H'=>m=ds.length - n/\n<=ds.length/\Pv X D ↥29 (hide H1 os) i gb ds n σ' H',⟨ds.length,by simp,Nat.zero_le _,δ,os,S1,aB.refl _,s1,by rw [List.drop_zero];exact q⟩,?_⟩
  rintro n m σ' H' ⟨rfl,hn,p⟩
  obtain ⟨δ',os',S',s',s0,q'⟩:=id p
  have w:=wk H' (s'.trans (aF _ _))
  by_cases hlt:n<ds.length
  ·have hd:ds[n]? = some ds[n]:=List.getElem?_eq_getElem hlt
   refine .inr ⟨(w.1 n _ hd).1,Pv X D ↥29 (hide H1 os) i gb ds (n+1),fun σ2 H2 z=>⟨ds.length - (n+1),⋯,rfl,⋯,z⟩,fun x H'' y => ?_⟩
   obtain ⟨e1,r1⟩:=(w.1 n _ hd).2 x H'' y
   have sm:=s'.trans (gP os' e1)
   exact vy hd (S'.mono e1) sm s0 q' (r1 _ sm fun b o z1 z2=>by
    rw [bU fun z=>by obtain ⟨xs,hx⟩:=S'.lsts b z;rw [z2] at hx;cases hx]
    exact z1)
  ·exact .inl ⟨w.2 n ⋯,LA ⋯ p⟩
 | ex C=>rw [r] at q;exact fun Ca hc H' s' st=>q σ H' s' st Ca hc
 | bad=>rw [r] at q;exact q
end
end ES
namespace ES
open PySem PySem.Spec PyProof.Rows L2 EV
unseal SE ST SW SA SS SSs SI
def Bs (env:Env):List (Str×NameKind)->List (Str×Addr)->List (Str×Addr)
 | [],cs=>cs
 | (n,k)::r,cs=>Bs env r (if k == .free then (n,(env.cells.lookup n).getD 0)::cs else cs)
theorem xR (h:∀ y,(y,NameKind.free)∈sc.names->∃ c,env.cells.lookup y=some c):closureFor sc env=pure (Bs env sc.names []):=by
 unfold closureFor
 have key:∀ (l:List (Str×NameKind)) (cs:List (Str×Addr)),(∀ y,(y,NameKind.free)∈l->∃ c,env.cells.lookup y=some c) ->
   (forIn l cs fun x (r:List (Str×Addr))=>(match x with | (name,kind)=>if (kind == NameKind.free)=true then do let a<-cellOf env name;pure (ForInStep.yield ((name,a)::r)) else pure (ForInStep.yield r)):Sem _)=pure (Bs env l cs):=by
  intro l
  induction l with
  | nil=>intro cs _;rfl
  | cons p r ih =>
   intro cs hl
   obtain ⟨n,k⟩:=p
   rw [List.forIn_cons]
   by_cases hk:(k == NameKind.free)=true
   ·obtain ⟨c,hc⟩:=hl n (by rw [beq_iff_eq] at hk;subst hk;exact .head _)
    simp only [hk,if_true,cellOf,hc,Bs]
    exact ih _ fun y hy=>hl y (.tail _ hy)
   ·simp only [hk,Bool.false_eq_true,if_false,Bs]
    exact ih _ fun y hy=>hl y (.tail _ hy)
 simp only [key sc.names [] h]
 rfl
theorem ET:∀ {l:List (Str×NameKind)} {cs:List (Str×Addr)},(∀ y,(y,NameKind.free)∈l->∃ c,env.cells.lookup y=some c)->(∀ y c,cs.lookup y=some c->env.cells.lookup y=some c)->∀ y c,(Bs env l cs).lookup y=some c->env.cells.lookup y=some c
 | [],_,_,h=>h
 | (n,k)::r,cs,hl,h=>by
  refine ET (l:=r) (fun y hy=>hl y (.tail _ hy)) fun y c e => ?_
  by_cases hk:(k == NameKind.free)=true
  ·rw [if_pos hk,List.lookup_cons] at e
   cases q:(y == n) with
   | true =>
    rw [q] at e
    obtain ⟨c',hc⟩:=hl n (by rw [beq_iff_eq] at hk;subst hk;exact .head _)
    rw [beq_iff_eq] at q
    subst q
    rw [hc] at e ⊢
    simpa using e
   | false=>rw [q] at e;exact h y c e
  ·rw [if_neg hk] at e;exact h y c e
theorem AL:∀ {l:List (Str×NameKind)} {cs:List (Str×Addr)} {y:Str},((y,NameKind.free)∈l\/∃ c,cs.lookup y=some c)->∃ c,(Bs env l cs).lookup y=some c
 | [],_,_,h=>h.elim (fun z=>nomatch z) id
 | (n,k)::r,cs,y,h=>by
  refine AL (l:=r) ?_
  rcases h with h | ⟨c,h⟩
  ·rcases List.mem_cons.mp h with z | z
   ·cases z
    exact .inr ⟨_,by rw [if_pos (show (NameKind.free == NameKind.free)=true from rfl),List.lookup_cons,beq_self_eq_true]⟩
   ·exact .inl z
  ·refine .inr ?_
   by_cases hk:(k == NameKind.free)=true
   ·rw [if_pos hk,List.lookup_cons]
    cases q:(y == n) with
    | true=>exact ⟨_,rfl⟩
    | false=>exact ⟨c,h⟩
   ·rw [if_neg hk];exact ⟨c,h⟩
theorem gD (hk:k ≠ .free):sc.names.lookup x=some k->(relabel sc env).names.lookup x=some k:=by
 unfold relabel
 simp only
 generalize sc.names=l
 induction l with
 | nil=>intro h;cases h
 | cons p r ih =>
  obtain ⟨n,k'⟩:=p
  intro h
  rw [List.lookup_cons] at h
  rw [List.map_cons]
  cases q:(x == n) with
  | true =>
   rw [q] at h
   have e:k'=k:=by simpa using h
   subst e
   have:(k' == NameKind.free)=false:=by simpa using hk
   simp [this,List.lookup_cons,q]
  | false =>
   rw [q] at h
   split<;>(rw [List.lookup_cons,q];exact ih h)
theorem kF (hf:env.scope.kind=.function) (hc:env.kindOf x=some .cell):sc.names.lookup x=some .free->(relabel sc env).names.lookup x=some .cell:=by
 unfold relabel
 simp only
 generalize sc.names=l
 induction l with
 | nil=>intro h;cases h
 | cons p r ih =>
  obtain ⟨n,k'⟩:=p
  intro h
  rw [List.lookup_cons] at h
  rw [List.map_cons]
  cases q:(x == n) with
  | true =>
   rw [q] at h
   have e:k'=.free:=by simpa using h
   subst e
   rw [beq_iff_eq] at q
   subst q
   simp [hf,hc,List.lookup_cons]
  | false =>
   rw [q] at h
   split<;>(rw [List.lookup_cons,q];exact ih h)
theorem oN:(relabel sc env).names.lookup x=some k->sc.names.lookup x=some k\/(sc.names.lookup x=some .free/\k=.cell):=by
 unfold relabel
 simp only
 generalize sc.names=l
 induction l with
 | nil=>intro h;cases h
 | cons p r ih =>
  obtain ⟨n,k'⟩:=p
  intro h
  rw [List.map_cons] at h
  rw [List.lookup_cons]
  cases q:(x == n) with
  | true =>
   split at h
   ·rename_i hc
    rw [List.lookup_cons,q] at h
    have e:NameKind.cell=k:=by simpa using h
    simp only [Bool.and_eq_true,beq_iff_eq] at hc
    exact .inr ⟨by rw [hc.1.1],e.symm⟩
   ·rw [List.lookup_cons,q] at h
    have e:k'=k:=by simpa using h
    exact .inl (by rw [e])
  | false=>split at h<;>(rw [List.lookup_cons,q] at h;exact ih h)
structure ScU (xs ks G:List Str) (sc:Scope):Prop where
 kind:sc.kind=.function
 noc:∀ y∈sc.names,y.2 ≠ .cell
 nms:∀ y∈sc.names,y.2=.local->sc.names.lookup y.1=some .local
 loc:∀ y∈xs,sc.names.lookup y=some .local
 fre:∀ y∈ks,sc.names.lookup y=some .free
 all:∀ y∈sc.names,y.2=.free->y.1∈ks
 glb:∀ y∈G,sc.names.lookup y=some .globalImplicit
 nd:(xs++ks).Nodup
 dbg:∀ y∈xs++ks,(y == ("__debug__":Str))=false/\(y == ("__classdict__":Str))=false
 dbgG:∀ y∈G,(y == ("__debug__":Str))=false/\y≠"__name__"
def cxU (X:Cx) (xs ks:List Str) (sc:Scope) (C:Addr) (fp:List Addr) (s:Shared) (H:Hp) (W:Value->Shared->Prop):Cx :=
 { X with N:=xs++ks,s₀:=s,H₀:=H,env:={ newEnv sc C X.env.globals (Bs X.env sc.names []) X.env.qual none .none (some X.env) X.env.builtins with scope:=relabel sc X.env },outer:=X.stack,stack:=X.stack,ex:=fp,fn:=fun _=>false,pn:=[],xe:=W }
theorem Jo (u:Un fs ex H H' h h1) (hC:h.objs.size<=C) (sb:Heap.SameBut C h1 h2):Un fs ex H H' h h2:=by
 have ne:∀ {b:Addr} {o:Obj},h.get? b=some o->b≠C:=fun {b o} e=>Nat.ne_of_lt (Nat.lt_of_lt_of_le (Heap.lt_size e) hC)
 refine ⟨fun b o e n hb hx=>(sb.2 b (ne e)).trans (u.keep b o e n hb hx),fun b o e n hb hx => ?_,u.free,fun b o e hx => ?_,u.tups,u.frzs,u.tbls⟩
 ·obtain ⟨sl,q⟩:=u.slot b o e n hb hx
  exact ⟨sl,(sb.2 b (ne e)).trans q⟩
 ·obtain ⟨o',q⟩:=u.there b o e hx
  exact ⟨o',(sb.2 b (ne e)).trans q⟩
theorem HH (hok:HOk P w H h1) (hC:H C=none) (sb:Heap.SameBut C h1 h2):HOk P w H h2:=fun b u e =>
 (hok b u e).stay (fun c o hc q=>(sb.2 c (fun z=>by
  subst z
  rcases hc with rfl | hc
  ·rw [hC] at e;cases e
  ·rw [hC] at hc;cases hc)).trans q) (fun _ q=>q) fun _ _ q=>q
def NB (prog:Program) (w:World) (A:Around) (env:Env) (R:Result->Shared->Prop):Value->Shared->Prop:=notedBy ↥16 A env fun x s'=>R (.error x) s'
theorem zW {prog:Program} {w:World} {A:Around} {R:Result->Shared->Prop} {s:Shared} {elt target iter:Expr} {ifs:List Expr} {scope:Scope} {pos:Pos} {it acc:Value} {env:Env} (J:Nat->Shared->Prop)
  (turn:∀ n s,J n s->wpAny ↥16 A (pyNext it) (fun r s1=>match r with
   | none=>R (.ok .next) s1
   | some v=>wpAny ↥16 A (letOwnedTupleGo target it v) (fun _ s2=>wpAny ↥16 A (assign target env v) (fun _ s3 =>
     wpAny ↥16 A (forIn ifs true fun c r=>if r=true then do let ok<-isTrue c env (eval c env);pure (ForInStep.yield ok) else pure (ForInStep.yield r)) (fun ok s4 =>
      if ok=true then wpAny ↥16 A (eval elt env) (fun x s5=>wpAny ↥16 A (PySem.call (.builtin "list.append") [acc,x]) (fun _ s6=>∃ m,m<n/\J m s6) (NB prog w A env R) s5) (NB prog w A env R) s4
      else ∃ m,m<n/\J m s4) (NB prog w A env R) s3) (NB prog w A env R) s2) (NB prog w A env R) s1) (NB prog w A env R) s)
  (n:Nat) (h:J n s):codeAny ↥16 A (.compLoop (.ListComp elt [⟨target,iter,ifs,0⟩] scope pos) 0 it acc env) R s:=by
 refine codeAny_loop rfl J (fun n s hJ => ?_) n h
 show wpAny _ _ ((compTurn (.ListComp elt [⟨target,iter,ifs,0⟩] scope pos) 0 it acc env).onRaise fun x=>do
  noteFrame x env
  theTreesLotGoes x) _ _ s
 refine wpAny_noted ?_
 rw [compTurn_list]
 refine wpAny_bind (wpAny_standAt (wpAny_bind (wpAny_mono (turn n s hJ) (fun r s1 h1 => ?_) fun _ _ z=>z)))
 cases r with
 | none=>exact wpAny_pure h1
 | some v =>
  refine wpAny_bind (wpAny_mono h1 (fun _ s2 h2 => ?_) fun _ _ z=>z)
  refine wpAny_bind (wpAny_mono h2 (fun _ s3 h3 => ?_) fun _ _ z=>z)
  refine wpAny_bind (wpAny_mono h3 (fun ok s4 h4 => ?_) fun _ _ z=>z)
  cases ok with
  | true =>
   rw [if_pos rfl] at h4
   simp only [if_true]
   refine wpAny_bind (wpAny_bind (wpAny_mono h4 (fun x s5 h5 => ?_) fun _ _ z=>z))
   exact wpAny_bind (wpAny_mono h5 (fun _ s6 h6=>wpAny_pure (wpAny_pure ⟨rfl,h6⟩)) fun _ _ z=>z)
  | false =>
   rw [if_neg Bool.false_ne_true] at h4
   simp only [Bool.false_eq_true,if_false]
   first
    | exact wpAny_pure ⟨rfl,h4⟩
    | exact wpAny_bind (wpAny_pure (wpAny_pure ⟨rfl,h4⟩))
def eB (M:Model) (A:Around) (E:Value->Shared->Prop) (use:Option (Value->Sem Unit)) (Q:Value->Shared->Prop) (acc:Value) (C:Addr) (fr:Option Addr) (r:Result) (s':Shared):Prop :=
 match r,use with
 | .ok _,none=>∃ m,s'.heap.Ns C m/\∀ h',Heap.SameBut C s'.heap h'->Q acc { s' with heap:=h' }
 | .ok _,some u=>wpAny M A (u acc) (fun _ s''=>∃ m,s''.heap.Ns C m/\∀ h',Heap.SameBut C s''.heap h'->Q .none { s'' with heap:=h' }) E s'
 | .error x,_=>∃ m,s'.heap.Ns C m/\∀ h',Heap.SameBut C s'.heap h'->∀ cenv:Env,cenv.frame=fr->wpAny M A (passOn "comprehension.variables-let-go" x cenv:Sem Value) (fun _ _=>False) E { s' with heap:=h' }
theorem m8 {M:Model} {A:Around} {E:Value->Shared->Prop} {s:Shared} {env:Env} {e:Expr} {scope:Scope} {pos:Pos} {newAcc first:Sem Value} {g:Comprehension} {gs:List Comprehension} {cl:List (Str×Addr)} {use:Option (Value->Sem Unit)}
  {Q:Value->Shared->Prop}
  (hcl:clausesOf e=g::gs) (hs:∀ x,foldedSetIterable g.iter env x=pure x) (hclos:closureFor scope env=pure cl)
  (hkind:scope.kind=.function) (hnames:∀ x∈scope.names,x.2=.local->scope.names.lookup x.1=some .local)
  (h:wpAny M A first (fun x s₁=>wpAny M A (pyIter x) (fun it s₂=>wpAny M A newAcc (fun acc s₃ =>
   wpAny M A (newFunctionEnv scope env.globals cl [] env.qual none .none (some env)) (fun cenv s₄=>cenv.frame=env.frame /\
    codeAny M A (.compStart e 0 it acc { cenv with scope:=relabel scope env }) (eB M A E use Q acc cenv.locals env.frame) s₄) E s₃) E s₂) E s₁) E s) :
  wpAny M A (comprehension e scope env pos newAcc false first use) Q E s:=by
 unfold comprehension
 rw [hclos,hcl]
 refine wpAny_bind (wpAny_mono h (fun x s₁ h₁=>wpAny_bind (wpAny_standAt (wpAny_bind (wpAny_of_eq (hs x) (wpAny_bind (wpAny_holding (wpAny_mono h₁ (fun it s₂ h₂ =>
  wpAny_standIf (wpAny_bind (wpAny_mono h₂ (fun acc s₃ h₃=>wpAny_bind (wpAny_pure (wpAny_bind (wpAny_mono h₃ (fun cenv s₄ h₄ => ?_) fun _ _ h'=>h')))) fun _ _ h'=>h')))
   fun _ _ h'=>h'))))))) fun _ _ h'=>h')
 obtain ⟨hfr,h₄⟩:=h₄
 dsimp only
 have hv:∀ x∈(scope.names.filter fun x=>(x.2 == .local||x.2 == .cell)&&x.1 != (".0":Str)).reverse,x.2=.local ->
   Env.kindOf { cenv with scope:=relabel scope env } x.1=some .local:=fun x hx hl=>lookup_relabel_local (hnames x (List.mem_filter.mp (List.mem_reverse.mp hx)).1 hl)
 have hv':∀ x∈(scope.names.filter fun x=>(x.2 == .local||x.2 == .cell)&&x.1 != (".0":Str)).reverse.drop 1++(scope.names.filter fun x=>(x.2 == .local||x.2 == .cell)&&x.1 != (".0":Str)).reverse.take 1,
   x.2=.local->Env.kindOf { cenv with scope:=relabel scope env } x.1=some .local:=fun x hx hl=>by
  rcases List.mem_append.mp hx with h1 | h1
  ·exact hv x (List.mem_of_mem_drop h1) hl
  ·exact hv x (List.mem_of_mem_take h1) hl
 refine wpAny_holding (wpAny_bind (wpAny_attempt (wpAny_holding (wpAny_run (codeAny_mono h₄ fun r s' hr => ?_)))))
 cases r with
 | ok f =>
  cases use with
  | none =>
   obtain ⟨m,hn,hr⟩:=hr
   exact wpAny_bind (wpAny_holding (wpAny_comp_letGo (cenv:={ cenv with scope:=relabel scope env }) hkind _ s' m hv hn fun h' m' _ hs'=>wpAny_pure (hr h' hs')))
  | some u =>
   refine wpAny_bind (wpAny_rule (wpAny_bind (wpAny_holding (wpAny_mono hr (fun _ s'' hr' => ?_) fun _ _ h'=>h'))))
   obtain ⟨m,hn,hr'⟩:=hr'
   exact wpAny_bind (wpAny_comp_letGo (cenv:={ cenv with scope:=relabel scope env }) hkind _ s'' m hv' hn fun h' m' _ hs'=>wpAny_pure (hr' h' hs'))
 | error x =>
  have hr':∃ m,s'.heap.Ns cenv.locals m/\∀ h',Heap.SameBut cenv.locals s'.heap h'->∀ cenv':Env,cenv'.frame=env.frame->wpAny M A (passOn "comprehension.variables-let-go" x cenv':Sem Value) (fun _ _=>False) E { s' with heap:=h' }:=by cases use<;>exact hr
  obtain ⟨m,hn,hr⟩:=hr'
  exact wpAny_bind (wpAny_holding (wpAny_comp_letGo (cenv:={ cenv with scope:=relabel scope env }) hkind _ s' m hv hn fun h' m' _ hs'=>wpAny_mono (hr h' hs' _ hfr) (fun _ _ f=>f.elim) fun _ _ y=>y))
theorem yU {st:D->R (Option D)} {l:List D} {d:D} {r1:List D} {o:Option D} (h1:runC st l=.ok r1) (h2:st d=.ok o):runC st (l++[d])=.ok (r1++o.toList):=by
 induction l generalizing r1 with
 | nil =>
  cases h1
  rw [List.nil_append]
  unfold runC
  rw [h2]
  cases o<;>rfl
 | cons x l ih =>
  rw [List.cons_append]
  unfold runC at h1 ⊢
  cases q:st x with
  | ok o' =>
   rw [q] at h1
   simp only [R.bind] at h1 ⊢
   cases q2:runC st l with
   | ok r =>
    rw [q2] at h1
    rw [ih q2]
    cases o'<;>(cases h1;rfl)
   | ex C=>rw [q2] at h1;cases h1
   | bad=>rw [q2] at h1;cases h1
  | ex C=>rw [q] at h1;cases h1
  | bad=>rw [q] at h1;cases h1
theorem lP (h:qr r=.ex C):False:=by cases r<;>cases h
theorem zI (h:qr r=.ok a):r=.ok a:=by
 cases r with
 | ok x=>exact h
 | ex C=>cases h
 | bad=>cases h
theorem ui {st:D->R (Option D)} {d:D} {l2:List D}:∀ {l1 r1:List D},runC st l1=.ok r1->(st d=.bad->runC st (l1++d::l2)=.bad)/\∀ C,st d=.ex C->runC st (l1++d::l2)=.ex C
 | [],_,_=>⟨fun e=>by rw [List.nil_append];unfold runC;rw [e];rfl,fun C e=>by rw [List.nil_append];unfold runC;rw [e];rfl⟩
 | a::l1,r1,h=>by
  unfold runC at h
  cases q:st a with
  | ok o =>
   rw [q] at h
   simp only [R.bind] at h
   cases q2:runC st l1 with
   | ok r =>
    obtain ⟨i1,i2⟩:=ui (d:=d) (l2:=l2) q2
    refine ⟨fun e => ?_,fun C e => ?_⟩
    ·rw [List.cons_append];unfold runC;rw [q,i1 e];rfl
    ·rw [List.cons_append];unfold runC;rw [q,i2 C e];rfl
   | ex C=>rw [q2] at h;cases h
   | bad=>rw [q2] at h;cases h
  | ex C=>rw [q] at h;cases h
  | bad=>rw [q] at h;cases h
theorem oX:∀ {a:List D} {r:D},D.flats a=true->D.flat r=true->D.flats (a++[r])=true
 | [],r,_,h=>by show (D.flat r&&D.flats [])=true;rw [h];rfl
 | x::a,r,h,hr=>by
  have h':D.flat x=true/\D.flats a=true:=by simpa [D.flats] using h
  show (D.flat x&&D.flats (a++[r]))=true
  rw [h'.1,oX h'.2 hr]
  rfl
def stG (pt:D->Option (List D)) (c elt:E) (ks:List Nat) (δ:Dt) (d:D):R (Option D):=match pt d with
 | some xs=>(qr (c (xs.map some++ks.map fun k=>δ.getD k none))).bind fun b=>truth b ((elt (xs.map some++ks.map fun k=>δ.getD k none)).bind fun r=>if D.flat r=true then .ok (some r) else .bad) (.ok none)
 | none=>.bad
theorem Gp (h:EV.R.bad≠stG pt c elt ks δ d):∃ xs k,pt d=some xs/\c (xs.map some++ks.map fun k=>δ.getD k none)=.ok (.bl k) /\
  ((k=true/\stG pt c elt ks δ d=(elt (xs.map some++ks.map fun k=>δ.getD k none)).bind fun r=>if D.flat r=true then .ok (some r) else .bad)\/(k=false/\stG pt c elt ks δ d=.ok none)):=by
 unfold stG at h ⊢
 cases e:pt d with
 | none=>rw [e] at h;exact absurd rfl h
 | some xs =>
  rw [e] at h
  simp only at h ⊢
  cases q:qr (c (xs.map some++ks.map fun k=>δ.getD k none)) with
  | ok b =>
   have q':=zI q
   rw [q] at h
   simp only [R.bind] at h ⊢
   cases b with
   | bl k =>
    refine ⟨xs,k,rfl,q',?_⟩
    cases k with
    | true=>exact .inl ⟨rfl,rfl⟩
    | false=>exact .inr ⟨rfl,rfl⟩
   | _=>exact absurd rfl h
  | ex C=>exact (lP q).elim
  | bad=>rw [q] at h;exact absurd rfl h
def Put (σ:L2.St) (vs:List V) (σ':L2.St):Prop:=σ'.length=σ.length/\(∀ (j:Nat) (v:V),vs[j]? = some v->σ'[j]? = some (some v))/\∀ j:Nat,vs.length<=j->σ'[j]? = σ[j]?
structure Tgt (X:Cx) (n:Nat) (pt:D->Option (List D)) (gT:TG):Prop where
 len:∀ d xs,pt d=some xs->xs.length=n
 put:∀ {d:D} {xs:List D} {v:V} {σ:L2.St} {H:Hp} {Q:L2.St->Hp->Prop},pt d=some xs->Rep X.K X.mg H v d->n<=σ.length->(∀ vs σ',Reps X.K X.mg H vs xs->Put σ vs σ'->Q σ' H)->gT v σ H Q
inductive Tst (X':Cx):List Expr->E->Prop
 | nil:Tst X' [] (con (.bl true))
 | one {c:Expr} {g:E}:ST X' c g->Tst X' [c] g
theorem FP {X':Cx} {ifs:List Expr} {g:E} (h:Tst X' ifs g) {pins:List ↥11} {s:Shared} {σ:L2.St} {H:Hp} {δ:Dt} {k:Bool} (I:Inv X' pins σ H s) (hσ:Stt X'.K X'.mg H σ δ) (hg:g δ=.ok (.bl k)) {E:Value->Shared->Prop} (hE:∀ e s,X'.xe e s->E e s) :
  wpAny (model X'.prog X'.w) X'.A (forIn ifs true fun c r=>if r=true then do let ok<-isTrue c X'.env (eval c X'.env);pure (ForInStep.yield ok) else pure (ForInStep.yield r)) (fun ok s'=>ok=k/\∃ H',Inv X' pins σ H' s'/\aB H H') E s:=by
 cases h with
 | nil=>cases hg;exact wpAny_tests_nil ⟨rfl,H,I,aB.refl _⟩
 | one h =>
  refine wpAny_mono (wpAny_tests_one (E:=X'.xe) (thn (h pins s σ H (fun b H'=>b=k/\aB H H') I ⟨δ,hσ,?_⟩) fun b s' ⟨H',I',e,sm⟩=>⟨e,H',I',sm⟩)) (fun _ _ x=>x) hE
  rw [hg]
  exact fun H' sm=>⟨rfl,sm⟩
theorem Lw {base h h':Heap}:∀ {l:List Env},h.FunFrames base l->(∀ b∈frs l,h'.get? b=h.get? b)->h'.FunFrames base l
 | [],_,_=>trivial
 | env::r,⟨hk,⟨L,o,hf,hn,ho,hd⟩,hr⟩,k=>by
  have e:frs (env::r)=L::frs r:=by unfold frs;rw [List.filterMap_cons,hf]
  rw [e] at k
  exact ⟨hk,⟨L,o,hf,hn,(k L (.head _)).trans ho,hd⟩,Lw hr fun b hb=>k b (.tail _ hb)⟩
theorem DH {X:Cx} (O:Own X) {xs ksn:List Str} {sc:Scope} {fp:List Addr} {WW:Value->Shared->Prop} {pins pins':List ↥11} {σ σ6:L2.St} {H3 Hx H':Hp} {s3 sx s':Shared} {ea Ca:Addr} {use:Option (Value->Sem Unit)} {Qf:Value->Shared->Prop} {acc:Value} {cenv:Env}
  (I3:Inv X pins σ H3 s3) (f3:∀ b∈fp,yh X pins H3 b) (hcf:cenv.frame=X.env.frame) (Ix:Inv ↥19 pins' σ6 Hx sx) (FX:FlyX X.prog X.w X.stack Hx sx Ca H' ea s')
  (kx:∀ b u,H3 b=some u->∃ u',H' b=some u') (hx:∀ ea s',HeldX X pins σ Ca H' ea s'->X.xe (.ref ea) s') :
  NB X.prog X.w X.A cenv (eB ↥4 X.A X.xe use Qf acc s3.heap.objs.size X.env.frame) (.ref ea) s':=by
 have en:noteFrame (.ref ea) cenv=noteFrame (.ref ea) X.env:=by unfold noteFrame PySem.frameOf;rw [hcf]
 unfold NB notedBy
 rw [en]
 obtain ⟨a0,B,hfl,i1,i2⟩:=FX.fly
 have Iy:Inv ↥19 pins' σ6 H' s':=Av Ix FX
 have ff:=uV hfl.2.2.1
 rw [O.stk] at hfl
 refine wpAny_looks_onW (by rw [I3.ok.frames,O.stk]) O.frm hfl fun h4 held up => ?_
 have IX:Inv X pins σ Hx sx:=I3.call' (s':=sx) (ch:=fp) Ix.os Ix.base Ix.hok Ix.bare fun b hb=>⟨(f3 b hb).2.2.2.1,(f3 b hb).2.1,(f3 b hb).2.2.2.2.1,(f3 b hb).2.2.2.2.2⟩
 obtain ⟨m,⟨oC,es,ep,hoC,rC⟩,_⟩:=Ix.loc
 have hoC:sx.heap.get? s3.heap.objs.size=some oC:=hoC
 have nfr:s3.heap.objs.size∉frs X.stack:=fun z=>by
  rw [O.frs] at z
  rcases List.mem_cons.mp z with q | q
  ·exact absurd I3.lt (by rw [<- q];exact Nat.lt_irrefl _)
  ·exact I3.nofs ↥28 q
 have hBC:B.get? s3.heap.objs.size=some oC:=i1 _ _ hoC Ix.free nfr
 have h4C:h4.get? s3.heap.objs.size=some oC:=held.1 _ _ hBC
 refine ⟨m,⟨oC,es,ep,h4C,rC⟩,fun h5 sb5 cenv' hcf' => ?_⟩
 have kB:(PySem.W.hideAll B [s3.heap.objs.size]).StaysIn B:=fun b o e=>PySem.W.of_hideAll _ e
 have held':=PySem.W.heldW_base kB held
 have st4:∀ b o,(PySem.W.hideAll B [s3.heap.objs.size]).get? b=some o->b≠s3.heap.objs.size:=fun b o e z=>by
  rw [z,PySem.W.hideAll_none _ (by simp)] at e
  cases e
 obtain ⟨_,hne,hff,oe,vs,T,oT,ts,he,hcls,hd,h1,hnT,hTe,hT,hdT,h3⟩:=held
 have neC:∀ b,B.get? b=none->b≠s3.heap.objs.size:=fun b e z=>by rw [z,hBC] at e;cases e
 have he5:h5.get? ea=some oe:=(sb5.2 _ (neC _ hne)).trans he
 have hT5:h5.get? T=some oT:=(sb5.2 _ (neC _ hnT)).trans hT
 have hsz3:3<ts.size:=(Array.getElem?_eq_some_iff.mp h3).1
 unfold PySem.passOn
 refine wpAny_bind (wpAny_field he5 hd h1 ?_)
 rw [if_neg (by simp)]
 show wpAny _ _ (setFlight (.ref ea) cenv'.frame >>= _) _ _ _
 refine wpAny_bind ?_
 unfold setFlight
 refine wpAny_bind (wpAny_field he5 hd h1 ?_)
 rw [if_pos (show (Value.ref T != Value.none)=true from by simp),hcf',O.frm]
 refine wpAny_setField hT5 hdT hsz3 ?_
 refine wpAny_throw (hx ea _ ?_)
 have other:∀ b,b≠T->(h5.update T (Obj.mapFields (·.setIfInBounds 3 ((some X.env.locals).elim Value.none fun f=>rawInt f)))).get? b=h5.get? b:=fun b hb=>Heap.get?_update_other _ _ (Ne.symm hb)
 have hT6:=Heap.get?_update_self (Obj.mapFields (·.setIfInBounds 3 ((some X.env.locals).elim Value.none fun f=>rawInt f))) hT5 (Obj.isFreed_of_fields (Obj.data_mapFields hdT _))
 generalize h5.update T (Obj.mapFields (·.setIfInBounds 3 ((some X.env.locals).elim Value.none fun f=>rawInt f)))=h6 at other hT6 ⊢
 have k46:∀ b,b≠T->b≠s3.heap.objs.size->h6.get? b=h4.get? b:=fun b q1 q2=>(other b q1).trans (sb5.2 b q2)
 have st6:(PySem.W.hideAll B [s3.heap.objs.size]).StaysIn h6:=fun b o e=>by
  rw [k46 b (fun z=>by rw [z] at e;have:=kB _ _ e;rw [hnT] at this;cases this) (st4 b o e)]
  exact held'.1 b o e
 have i2':∀ b u o,H' b=some u->s'.heap.get? b=some o->(PySem.W.hideAll B [s3.heap.objs.size]).get? b=some o:=fun b u o e q=>PySem.W.hideAll_get _ (i2 b u o e q) fun z=>by
  have z':b=s3.heap.objs.size:=by simpa using z
  rw [z'] at e
  have:H' s3.heap.objs.size=none:=Iy.free
  rw [this] at e
  cases e
 have i1':∀ b o,s3.heap.get? b=some o->H3 b=none->b∉frs X.stack->b∉fp->(PySem.W.hideAll B [s3.heap.objs.size]).get? b=some o:=fun b o e n hb hp=>PySem.W.hideAll_get _ (i1 b o (Ix.base.keep b o e n hb hp) (Ix.base.free b o e n hp) hb) fun z=>by
  have z':b=s3.heap.objs.size:=by simpa using z
  exact absurd (Heap.lt_size e) (by rw [z'];exact Nat.lt_irrefl _)
 have u6:Un (frs X.stack) fp H3 H' s3.heap h6:=by
  have u:=Iy.base
  have slot:∀ b o,s3.heap.get? b=some o->H3 b=none->b∈frs X.stack->b∉fp->∃ sl,h6.get? b=some { o with slots:=sl }:=fun b o e n hb hp=>by
   obtain ⟨sl,e1⟩:=u.slot b o e n hb hp
   obtain ⟨sl2,e2⟩:=up b _ e1 (ff b hb _ e1)
   refine ⟨sl2,?_⟩
   rw [k46 b (fun z => ?_) (fun z=>nfr (z▸hb))]
   ·exact e2
   ·have:=uV hff b (by rw [<- O.stk];exact hb) oT (by rw [z];exact hT) ts
    exact this hdT
  refine ⟨fun b o e n hb hp=>st6 b o (i1' b o e n hb hp),slot,u.free,fun b o e hp => ?_,u.tups,u.frzs,u.tbls⟩
  cases n:H3 b with
  | none =>
   by_cases hb:b∈frs X.stack
   ·obtain ⟨sl,e2⟩:=slot b o e n hb hp
    exact ⟨_,e2⟩
   ·exact ⟨o,st6 b o (i1' b o e n hb hp)⟩
  | some x =>
   obtain ⟨o',e1⟩:=u.there b o e hp
   obtain ⟨x',n'⟩:=kx b x n
   exact ⟨o',st6 b o' (i2' b x' o' n' e1)⟩
 refine ⟨I3.call' (s':={ s' with heap:=h6 }) (ch:=fp) Iy.os u6 (ku Iy.hok i2' st6) Iy.bare fun b hb=>⟨(f3 b hb).2.2.2.1,(f3 b hb).2.1,(f3 b hb).2.2.2.2.1,(f3 b hb).2.2.2.2.2⟩,?_,a0,PySem.W.hideAll B [s3.heap.objs.size],?_,fun b o e n hb => ?_,vR Iy.hok i2' st6⟩
 ·exact zL IX O FX.new
 ·rw [O.stk]
  have nT:∀ b∈frs (X.env::X.outer),h6.get? b=h4.get? b:=fun b hb=>k46 b (fun z=>uV hff b hb oT (by rw [z];exact hT) ts hdT) (fun z=>nfr (by rw [O.stk];exact z▸hb))
  exact ⟨st6,held'.2.1,Lw held'.2.2.1 nT,oe,vs,T,_,_,(k46 ea (Ne.symm hTe) (neC _ hne)).trans he,hcls,hd,h1,PySem.W.fresh_of_stays kB hnT,hTe,hT6,Obj.data_mapFields hdT _,by simp [hsz3]⟩
 ·exact PySem.W.hideAll_get _ (jL IX O i1 b o e n hb) fun z=>by
   have z':b=s3.heap.objs.size:=by simpa using z
   exact absurd (Nat.lt_of_lt_of_le (Heap.lt_size e) I3.sz) (by rw [z'];exact Nat.lt_irrefl _)
section
variable {X:Cx}
set_option maxHeartbeats 2000000 in
theorem m9 (hc:X.calm=true) {N:List Str} (S:Sc X N) {xs ksn G:List Str} {ks:List Nat} {tg elt iter:Expr} {ifs:List Expr} {pos ps:Pos} {sc:Scope} {git:IT} {gc ge:E} {pt:EV.D->Option (List EV.D)} {gT:TG} (SC:ScU xs ksn G sc)
  (hks:ks.map (fun k=>N.getD k "")=ksn) (hlt:∀ k∈ks,k<N.length) (hcell:∀ y∈ksn,X.env.scope.names.lookup y=some .cell)
  (he:SI X tg iter git) (TT:Tgt X xs.length pt gT)
  (htg:∀ C fp s H W,Sc ↥7 (xs++ksn)->(∀ y∈xs,(cxU X xs ksn sc C fp s H W).env.scope.names.lookup y=some .local)->PG ↥7 tg gT)
  (htst:∀ C fp s H W,Sc ↥7 (xs++ksn)->(∀ y∈G,Gb ↥7 y)->Tst ↥7 ifs gc)
  (helt:∀ C fp s H W,Sc ↥7 (xs++ksn)->(∀ y∈G,Gb ↥7 y)->SE ↥7 elt ge)
  (hs:∀ z,foldedSetIterable iter X.env z=pure z) {use:Option (Value->Sem Unit)} {Qf:Value->Shared->Prop}
  {pins:List ↥11} {s:Shared} {σ:L2.St} {H:Hp} {δ:Dt} (I:Inv X pins σ H s) (hσ:Stt X.K X.mg H σ δ)
  (hgit:∀ C,git δ=.ex C->∀ Ca,X.mg C=some (.ref Ca)->∀ H',aB H H'->ew X Ca σ H')
  {ds:List EV.D} (hds:git δ ≠ .bad) (hds':∀ ds',git δ=.ok ds'->ds'=ds/\ds.length<=100000/\runC (stG pt gc ge ks δ) ds ≠ .bad/\∀ rs,runC (stG pt gc ge ks δ) ds=.ok rs->EV.D.flats rs=true)
  (hex:∀ C Ca,runC (stG pt gc ge ks δ) ds=.ex C->X.mg C=some (.ref Ca)->∀ H',aB H H'->∀ ea s',HeldX X pins σ Ca H' ea s'->X.xe (.ref ea) s') (hO:(∃ C,runC (stG pt gc ge ks δ) ds=.ex C)->Own X)
  (hfin:∀ (s1:Shared) (Hc:Hp) (D C:Addr) (ys:List V) (rs:List EV.D),git δ=.ok ds->runC (stG pt gc ge ks δ) ds=.ok rs->EV.D.flats rs=true->H D=none->Hc D=some (.lst ys)->Reps X.K X.mg Hc ys rs->aB H Hc ->
   yh X pins Hc C->Inv X pins σ Hc s1->(∃ m,s1.heap.Ns C m)->(∀ h',Heap.SameBut C s1.heap h'->Inv X pins σ Hc { s1 with heap:=h' })->eB ↥4 X.A X.xe use Qf (.ref D) C X.env.frame (.ok .next) s1) :
  wpAny ↥4 X.A (comprehension (.ListComp elt [⟨tg,iter,ifs,0⟩] sc pos) sc X.env ps (newList []) false (eval iter X.env) use) Qf X.xe s:=by
 have lenks:ksn.length=ks.length:=by rw [<- hks,List.length_map]
 have atk:∀ (j:Nat) (y:Str),ksn[j]? = some y->∃ k,ks[j]? = some k/\N[k]? = some y:=fun j y e=>by
  rw [<- hks,List.getElem?_map] at e
  cases q:ks[j]? with
  | none=>rw [q] at e;cases e
  | some k =>
   rw [q] at e
   have e':N.getD k ""=y:=Option.some.inj e
   have hk:=hlt k (List.mem_of_getElem? q)
   exact ⟨k,rfl,by rw [<- e',List.getD_eq_getElem?_getD,List.getElem?_eq_getElem hk];rfl⟩
 have frec:∀ y,(y,NameKind.free)∈sc.names->∃ c,X.env.cells.lookup y=some c:=fun y hy=>I.ok.has y (.inl (hcell y (SC.all _ hy rfl)))
 refine m8 (use:=use) rfl hs (xR frec) SC.kind SC.nms ?_
 have sub:∀ y c,(Bs X.env sc.names []).lookup y=some c->X.env.cells.lookup y=some c:=ET frec fun y c e=>nomatch e
 have hq:RI X σ H (git δ) (fun J H'=>aB H H'/\∃ ds,git δ=.ok ds/\Be X J H' ds):=by
  cases r:git δ with
  | ok ds=>exact fun J H' s w=>⟨s,ds,rfl,w⟩
  | ex C=>exact hgit C r
  | bad=>exact absurd r hds
 refine thn (he pins s σ H _ I ⟨δ,hσ,hq⟩) fun v s1 h1=>thn h1 fun itv s2 h2 => ?_
 obtain ⟨it,fp,tn,J,H2,e,I2,T,st2,f2,sm2,ds',eds,wk⟩:=h2
 subst e
 obtain ⟨eq0,hz,nbad,hfl⟩:=hds' ds' eds
 rw [eq0] at eds wk
 have hσ2:Stt X.K X.mg H2 σ δ:=hσ.mono sm2
 refine wpAny_newList ?_ (Nat.zero_le _)
 have I3:Inv X pins σ (upd H2 s2.heap.objs.size (.lst [])) { s2 with heap:=s2.heap.push { cls:=.type "list",data:=.seq ([]:List Value).toArray } }:=I2.lnew (t':=s2.toks) .nil (Nat.zero_le _)
 have hnew:H2 s2.heap.objs.size=none:=I2.fresh
 have sm3:aB H2 (upd H2 s2.heap.objs.size (.lst [])):=aH hnew _
 generalize hD:s2.heap.objs.size=D at *
 generalize hH3:upd H2 D (.lst [])=H3 at *
 have hD3:H3 D=some (.lst []):=by rw [<- hH3];exact aQ
 have keep3:∀ b o,s2.heap.get? b=some o->(s2.heap.push { cls:=.type "list",data:=.seq ([]:List Value).toArray }).get? b=some o:=fun b o q=>Heap.get?_push_of_some _ q
 have st3:tn 0 (s2.heap.push { cls:=.type "list",data:=.seq ([]:List Value).toArray }):=T.keep 0 _ _ st2 fun b _ o q=>keep3 b o q
 have ne3:∀ b∈fp,b≠D:=fun b hb z=>by
  obtain ⟨o,e,_⟩:=T.obj 0 _ st2 b hb
  exact absurd (Heap.lt_size e) (by rw [z,<-hD];exact Nat.lt_irrefl _)
 have f3:∀ b∈fp,yh X pins H3 b:=fun b hb=>⟨by rw [<- hH3,aW (ne3 b hb)];exact (f2 b hb).1,(f2 b hb).2⟩
 generalize hs3:({ s2 with heap:=s2.heap.push { cls:=.type "list",data:=.seq ([]:List Value).toArray } }:Shared)=s3 at *
 have st3':tn 0 s3.heap:=by rw [<- hs3];exact st3
 refine wpAny_newFunctionEnv SC.noc (fun y z=>nomatch z) (fun h4 ns4 sb4=>⟨rfl,?_⟩) SC.kind
 generalize hWW:NB X.prog X.w X.A (cxU X xs ksn sc s3.heap.objs.size fp s3 H3 (fun _ _=>False)).env (eB ↥4 X.A X.xe use Qf (.ref D) s3.heap.objs.size X.env.frame)=WW
 have kp4:∀ b o,s3.heap.get? b=some o->h4.get? b=some o:=fun b o q=>by
  rw [sb4.2 b (Nat.ne_of_lt (Heap.lt_size q))]
  exact Heap.get?_push_of_some _ q
 have nst:∀ b∈fp,b∉frs X.stack:=fun b hb z=>by
  rcases List.mem_cons.mp (I3.stkSub b z) with q | q
  ·exact (f3 b hb).2.1 q
  ·exact (f3 b hb).2.2.1 q
 have neC:∀ b∈fp,b≠s3.heap.objs.size:=fun b hb=>by
  obtain ⟨ob,e,_⟩:=T.obj 0 _ st3' b hb
  exact Nat.ne_of_lt (Heap.lt_size e)
 have fpcl:∀ b∈fp,∀ y c,(Bs X.env sc.names []).lookup y=some c->c≠b:=fun b hb y c e=>(f3 b hb).2.2.2.2.1 y c (sub y c e)
 have ok4:(cxU X xs ksn sc s3.heap.objs.size fp s3 H3 WW).Ok:=by
  have o:=I3.ok
  refine ⟨o.mod,SC.kind,o.glob,o.blt,Nat.le_refl _,fun y z c e1 e2=>o.inj y z c (sub y c e1) (sub z c e2),fun y hy => ?_,fun y c z e=>absurd z Bool.false_ne_true,o.hd,o.frames,.inl rfl,fun b hb=>⟨neC b hb,fpcl b hb⟩,I3.bs,Nat.le_trans o.bsz I3.sz,fun b ob e hb => ?_,fun b hb=>nst b hb,I3.stack,I3.stkFree⟩
  ·have hy:(relabel sc X.env).names.lookup y=some .cell\/(relabel sc X.env).names.lookup y=some .free:=hy
   have hf:sc.names.lookup y=some .free:=by
    rcases hy with hy | hy
    ·rcases oN hy with q | ⟨q,_⟩
     ·exact absurd rfl (SC.noc _ (PySem.mem_of_lookup q))
     ·exact q
    ·rcases oN hy with q | ⟨_,q⟩
     ·exact q
     ·cases q
   exact AL (.inl (PySem.mem_of_lookup hf))
  ·rcases (f3 b hb).2.2.2.1 with q | q
   ·exact o.noex b ob e q
   ·exact absurd (Heap.lt_size (o.bs b ob e).1) (Nat.not_lt.mpr q)
 have fun4:X.env.scope.kind=.function:=I3.ok.kind
 have S4:Sc ↥19 (xs++ksn):=by
  refine ⟨rfl,SC.nd,fun y hy => ?_,SC.dbg⟩
  rcases List.mem_append.mp hy with z | z
  ·exact .inl (gD ↥0 (SC.loc y z))
  ·exact .inr (.inl (kF fun4 (hcell y z) (SC.fre y z)))
 have G4:∀ y∈G,Gb ↥19 y:=fun y hy=>⟨gD ↥0 (SC.glb y hy),(SC.dbgG y hy).1,(SC.dbgG y hy).2⟩
 have E4:=helt s3.heap.objs.size fp s3 H3 WW S4 G4
 have T4:=htst s3.heap.objs.size fp s3 H3 WW S4 G4
 have P4:=htg s3.heap.objs.size fp s3 H3 WW S4 fun y hy=>gD ↥0 (SC.loc y hy)
 have hCn:H3 s3.heap.objs.size=none:=I3.fresh
 have hσ3:Stt X.K X.mg H3 σ δ:=hσ2.mono sm3
 have lenσ3:σ.length=N.length:=by rw [I3.len,S.n]
 have I4:Inv ↥19 [] (List.replicate xs.length none++ks.map fun k=>σ.getD k none) H3 { s3 with heap:=h4,toks:=s3.toks+([]:List (Str×Value)).length }:=by
  refine ⟨ok4,rfl,I3.bare,Un.kept kp4,⟨_,ns4,fun j y v e1 e2 e3 => ?_⟩,fun y c e => ?_,hCn,fun y c e=>I3.freeC y c (sub y c e),fun p hp=>absurd (show p∈([]:List ↥11) from hp) (by simp),I3.hok.kept kp4,by show _=(xs++ksn).length;rw [List.length_append,List.length_append,List.length_replicate,List.length_map,lenks]⟩
  ·by_cases hj:j<xs.length
   ·rw [List.getElem?_append_left (by rw [List.length_replicate];exact hj),List.getElem?_replicate,if_pos hj] at e2
    cases e2
   ·have e1:(xs++ksn)[j]? = some y:=e1
    rw [List.getElem?_append_right ⋯] at e1
    rw [List.getElem?_append_right (by rw [List.length_replicate];omega),List.length_replicate] at e2
    generalize j - xs.length=j at e1 e2
    have e1':ksn[j]? = some y:=e1
    obtain ⟨k,ek,eN⟩:=atk j y e1'
    rw [List.getElem?_map,ek] at e2
    have e2':σ.getD k none=some v:=Option.some.inj e2
    have eσ:σ[k]? = some (some v):=by
     rw [List.getD_eq_getElem?_getD] at e2'
     cases q:σ[k]? with
     | none=>rw [q] at e2';cases e2'
     | some o=>rw [q] at e2';have:o=some v:=e2';rw [this]
    have hy:=List.mem_of_getElem? e1'
    have hyc:=hcell y hy
    obtain ⟨m',hn',hl'⟩:=I3.loc
    obtain ⟨u,ru,lu⟩:=hl' k y v (by rw [S.n];exact eN) eσ (.inr (.inl hyc))
    refine ⟨u,ru,?_⟩
    rcases lu with ⟨k1,_⟩ | ⟨_,c,hcc,ic⟩
    ·have:(some NameKind.local)=some .cell:=k1.symm.trans hyc
     cases this
    ·obtain ⟨c',hc'⟩:=AL (env:=X.env) (cs:=[]) (.inl (PySem.mem_of_lookup (SC.fre y hy)))
     have:c'=c:=by have:=sub y c' hc';rw [hcc] at this;exact (Option.some.inj this).symm
     subst this
     obtain ⟨oc,hoc,hd⟩:=ic
     exact .inr ⟨.inl (kF fun4 hyc (SC.fre y hy)),c',hc',oc,kp4 _ _ hoc,hd⟩
  ·obtain ⟨v,oc,hoc,hd⟩:=I3.cell y c (sub y c e)
   exact ⟨v,oc,kp4 _ _ hoc,hd⟩
 have fpc:∀ {Hc:Hp},(∀ b∈fp,Hc b=none)->∀ b∈fp,yh ↥19 [] Hc b:=fun {Hc} hn b hb =>
  ⟨hn b hb,neC b hb,nst b hb,.inl hb,fpcl b hb,fun p hp=>absurd (show p∈([]:List ↥11) from hp) (by simp)⟩
 have st4:tn 0 h4:=T.keep 0 _ _ st3' fun b _ o q=>kp4 b o q
 have kc2:∀ {Hc:Hp},(∀ b o,b≠D->H3 b=some o->Hc b=some o)->aB H2 Hc:=fun {Hc} kc b o e=>kc b o (fun z=>by rw [z,hnew] at e;cases e) (sm3 b o e)
 have R4:codeAny ↥4 X.A (.compLoop (.ListComp elt [⟨tg,iter,ifs,0⟩] sc pos) 0 (.ref it) (.ref D) (cxU X xs ksn sc s3.heap.objs.size fp s3 H3 WW).env)
   (eB ↥4 X.A X.xe use Qf (.ref D) s3.heap.objs.size X.env.frame)
   { s3 with heap:=h4,toks:=s3.toks+([]:List (Str×Value)).length }:=by
  refine zW (fun n s'=>∃ i σc Hc ys rsi,Inv ↥19 [] σc Hc s'/\tn i s'.heap/\(∀ b∈fp,Hc b=none)/\n=ds.length - i/\i<=ds.length/\Hc D=some (.lst ys)/\runC (stG pt gc ge ks δ) (ds.take i)=.ok rsi/\ys.length<=i/\Reps X.K X.mg Hc ys rsi/\(∀ b o,b≠D->H3 b=some o->Hc b=some o)/\σc.drop xs.length=(ks.map fun k=>σ.getD k none)/\EV.D.flats rsi=true) ?_ ds.length
   ⟨0,_,H3,[],[],I4,st4,fun b hb=>(f3 b hb).1,rfl,Nat.zero_le _,hD3,by rw [List.take_zero];rfl,Nat.zero_le _,.nil,fun _ _ _ q=>q,by rw [List.drop_append_of_le_length (by rw [List.length_replicate];exact Nat.le_refl _)];simp,rfl⟩
  have hW':NB X.prog X.w X.A (cxU X xs ksn sc s3.heap.objs.size fp s3 H3 WW).env (eB ↥4 X.A X.xe use Qf (.ref D) s3.heap.objs.size X.env.frame)=WW:=hWW
  rw [hW']
  rintro n s' ⟨i,σc,Hc,ys,rsi,Ic,st,fr,rfl,hi,hDc,ersi,hyl,hys,kc,tlσ,fl1⟩
  have smc:=kc2 kc
  have wkc:=wk Hc smc
  by_cases hlt':i<ds.length
  ·have hd:ds[i]? = some ds[i]:=List.getElem?_eq_getElem hlt'
   generalize ds[i]=d at hd
   have etk:ds=ds.take i++(d::ds.drop (i+1)):=by
    have:=List.take_append_drop i ds
    rw [kG hd] at this
    exact this.symm
   have nst':EV.R.bad≠stG pt gc ge ks δ d:=fun z=>nbad (by rw [etk];exact (ui ersi).1 z.symm)
   obtain ⟨xd,k,ept,ek,kcase⟩:=Gp nst'
   have ertk:∀ o,stG pt gc ge ks δ d=.ok o->runC (stG pt gc ge ks δ) (ds.take (i+1))=.ok (rsi++o.toList):=fun o eo=>by
    rw [List.take_add_one,hd]
    exact yU ersi eo
   have lxd:=TT.len d xd ept
   refine thn (T.item ↥19 rfl rfl rfl hc i [] s' σc Hc WW Ic (fpc fr) st (wkc.1 i d hd).1) fun r s1 ⟨u,hr,h4'⟩ => ?_
   subst hr
   refine thn h4' fun _ s5 ⟨v,H5,I5,r5,yl,st5,fr5⟩ => ?_
   obtain ⟨sm5,rd⟩:=(wkc.1 i d hd).2 v H5 yl
   have smc5:=smc.trans sm5
   have rd5:=rd H5 smc5 fun b o z _=>z
   have I5':=I5.pinned (fpc fr5) (T.obj _ _ st5)
   have pinf:∀ {σ7:L2.St} {H7:Hp} {s7:Shared},Inv ↥19 ([]++oO fp s5.heap) σ7 H7 s7->∀ b∈fp,∀ o,s5.heap.get? b=some o->s7.heap.get? b=some o/\H7 b=none:=fun {σ7 H7 s7} I7 b hb o q =>
    have z:=I7.pin (b,o) (List.mem_append_right _ (List.mem_append_right _ (dW hb q)))
    ⟨z.1,z.2.1⟩
   have lenσ:σc.length=xs.length+ks.length:=by
    have:=Ic.len
    rw [this]
    show (xs++ksn).length=_
    rw [List.length_append,lenks]
   refine thn (P4 _ s5 σc H5 v u (fun σ6 H6=>∃ vs,Reps X.K X.mg H5 vs xd/\Put σc vs σ6/\H6=H5) I5' r5 (TT.put ept rd5 ⋯ fun vs σ' rv pu=>⟨vs,rv,pu,rfl⟩)) fun _ s6 ⟨σ6,H6,I6,vs,rv,pu,e6'⟩ => ?_
   subst e6'
   have lvs:vs.length=xs.length:=by rw [rv.length,lxd]
   have hσ6:Stt X.K X.mg H6 σ6 (xd.map some++ks.map fun k=>δ.getD k none):=by
    refine ⟨by rw [pu.1,lenσ,List.length_append,List.length_map,List.length_map,lxd],fun j d' e nown => ?_⟩
    by_cases hj:j<xd.length
    ·rw [List.getElem?_append_left (by rw [List.length_map];exact hj),List.getElem?_map] at e
     cases q:xd[j]? with
     | none=>rw [q] at e;cases e
     | some d'' =>
      rw [q] at e
      cases e
      obtain ⟨v',e1,e2⟩:=rv.get q
      exact ⟨v',pu.2.1 j v' e1,e2⟩
    ·rw [List.getElem?_append_right (by rw [List.length_map];omega),List.length_map,List.getElem?_map] at e
     cases ek':ks[j - xd.length]? with
     | none=>rw [ek'] at e;cases e
     | some k =>
      rw [ek'] at e
      have e':δ.getD k none=some d':=Option.some.inj e
      have eδ:δ[k]? = some (some d'):=by
       rw [List.getD_eq_getElem?_getD] at e'
       cases q:δ[k]? with
       | none=>rw [q] at e';cases e'
       | some o=>rw [q] at e';have:o=some d':=e';rw [this]
      obtain ⟨w,ew',rw'⟩:=hσ2.2 k d' eδ nown
      refine ⟨w,?_,rw'.mono smc5⟩
      rw [pu.2.2 j ⋯]
      have ht:(σc.drop xs.length)[j - xd.length]? = some (some w):=by
       rw [tlσ,List.getElem?_map,ek']
       show some (σ.getD k none)=_
       rw [List.getD_eq_getElem?_getD,ew']
       rfl
      rw [List.getElem?_drop,show xs.length+(j - xd.length)=j by omega] at ht
      exact ht
   have tl6:σ6.drop xs.length=(ks.map fun k=>σ.getD k none):=by
    rw [<- tlσ]
    refine List.ext_getElem? fun j => ?_
    rw [List.getElem?_drop,List.getElem?_drop]
    exact pu.2.2 _ ⋯
   have hD5:H6 D=some (.lst ys):=sm5 _ _ hDc
   have kc5:∀ b o,b≠D->H3 b=some o->H6 b=some o:=fun b o hb q=>sm5 _ _ (kc b o hb q)
   have hys5:=hys.mono sm5
   refine thn (FP T4 I6 hσ6 ek (E:=WW) fun _ _ z=>z) fun ok s7 ⟨eok,H7,I7,sm7⟩ => ?_
   subst eok
   rcases kcase with ⟨rfl,eg⟩ | ⟨rfl,eo⟩
   ·rw [if_pos rfl]
    cases eg':ge (xd.map some++ks.map fun k=>δ.getD k none) with
    | bad=>rw [eg'] at eg;exact absurd eg.symm nst'
    | ex C =>
     rw [eg'] at eg
     have ext:runC (stG pt gc ge ks δ) ds=.ex C:=by rw [etk];exact (ui ersi).2 C eg
     refine thn (E4 _ s7 σ6 H7 (fun _ _=>False) I7 ⟨_,hσ6.mono sm7,?_⟩) fun _ _ ⟨_,_,_,_,z⟩=>z.elim
     rw [eg']
     intro Ca hCa H' sm8 pins' Hx sx ea s8 Ix FX
     show WW (.ref ea) s8
     rw [<- hWW]
     exact DH (hO ⟨C,ext⟩) I3 f3 rfl Ix FX (fun b u e=>by
      by_cases hb:b=D
      ·rw [hb];exact ⟨_,sm8 _ _ (sm7 _ _ hD5)⟩
      ·exact ⟨_,sm8 _ _ (sm7 _ _ (kc5 b u hb e))⟩) (hex C Ca ext hCa H' (((sm2.trans smc5).trans sm7).trans sm8))
    | ok r =>
     rw [eg'] at eg
     simp only [R.bind] at eg
     have flo:EV.D.flat r=true:=by
      refine Classical.byContradiction fun z => ?_
      rw [if_neg z] at eg
      exact nst' eg.symm
     rw [if_pos flo] at eg
     refine thn (E4 _ s7 σ6 H7 (fun v8 H8=>aB H7 H8/\Rep X.K X.mg H8 v8 r) I7 ⟨_,hσ6.mono sm7,by rw [eg'];exact fun v8 H8 sm rp=>⟨sm,rp⟩⟩) fun u8 s8 ⟨v8,H8,I8,r8,sm8,rp8⟩ => ?_
     have sm78:=sm7.trans sm8
     have hD8:H8 D=some (.lst ys):=sm78 _ _ hD5
     refine thn (sj (X:=↥19) _ s8 _ H8 (.ref D) [v8] (.ref D) [u8] (fun _ H9=>H9=upd H8 D (.lst (ys++[v8]))) I8 rfl (.cons r8 .nil) ⟨D,ys,v8,rfl,rfl,hD8,by rw [sizeLine_eq];omega,rfl⟩) fun _ s9 ⟨_,H9,I9,_,e9⟩ => ?_
     subst e9
     have k9:NoL H8 (upd H8 D (.lst (ys++[v8]))):=fun b ob e n _=>by
      rw [aW fun z => ?_];exact e
      rw [z,hD8] at e
      exact n ys (Option.some.inj e).symm
     have k9':∀ b ob,b≠D->H8 b=some ob->upd H8 D (.lst (ys++[v8])) b=some ob:=fun b ob hb q=>by rw [aW hb];exact q
     refine ⟨ds.length - (i+1),⋯,i+1,_,_,ys++[v8],rsi++[r],I9.unpinned,T.keep _ _ _ st5 (fun b hb o q=>(pinf I9 b hb o q).1),fun b hb => ?_,rfl,⋯,aQ,ertk _ eg,by rw [List.length_append];simp;omega,?_,fun b ob hb q=>k9' b ob hb (sm78 _ _ (kc5 b ob hb q)),tl6,oX fl1 flo⟩
     ·obtain ⟨ob,e,_⟩:=T.obj _ _ st5 b hb
      exact (pinf I9 b hb ob e).2
     ·exact (lM k9 fl1 (hys5.mono sm78)).append (.cons (qh k9 flo rp8) .nil)
   ·rw [if_neg Bool.false_ne_true]
    refine ⟨ds.length - (i+1),⋯,i+1,_,_,ys,rsi,I7.unpinned,T.keep _ _ _ st5 (fun b hb o q=>(pinf I7 b hb o q).1),fun b hb => ?_,rfl,⋯,sm7 _ _ hD5,by rw [ertk _ eo];simp,⋯,hys5.mono sm7,fun b ob hb q=>sm7 _ _ (kc5 b ob hb q),tl6,fl1⟩
    obtain ⟨ob,e,_⟩:=T.obj _ _ st5 b hb
    exact (pinf I7 b hb ob e).2
  ·have ei:i=ds.length:=⋯
   subst ei
   refine thn (T.done ↥19 rfl rfl rfl hc ds.length [] s' σc Hc WW Ic (fpc fr) st (wkc.2 _ ↥28)) fun r s1 ⟨hr,I9⟩ => ?_
   subst hr
   obtain ⟨m,hns,_⟩:=id I9.loc
   have I10:∀ h',Heap.SameBut s3.heap.objs.size s1.heap h'->Inv X pins σ Hc { s1 with heap:=h' }:=fun h' sb=>I3.call' (s':={ s1 with heap:=h' }) (ch:=fp) I9.os (Jo I9.base ↥28 sb) (HH I9.hok I9.free sb) I9.bare fun b hb =>
    ⟨(f3 b hb).2.2.2.1,(f3 b hb).2.1,(f3 b hb).2.2.2.2.1,(f3 b hb).2.2.2.2.2⟩
   rw [List.take_of_length_le ↥28] at ersi
   have hHD:H D=none:=by
    cases q:H D with
    | none=>rfl
    | some o=>have:=sm2 D o q;rw [hnew] at this;cases this
   exact hfin s1 Hc D s3.heap.objs.size ys rsi eds ersi fl1 hHD hDc hys (sm2.trans smc) (I3.fpOk ↥28 I9.free)
    (I10 s1.heap (Heap.SameBut.refl _ _)) ⟨m,hns⟩ I10
 exact codeAny_compStart_list R4 (T.self _ 0 _ _ _ st4 R4)
def pt1 (d:D):Option (List D):=some [d]
theorem MI:Tgt X 1 pt1 (uS 0):=⟨fun d xs e=>by cases e;rfl,fun {d xs v σ H Q} e r hl q=>by
 cases e
 refine q [v] _ (.cons r .nil) ⟨List.length_set ..,fun j w hj => ?_,fun j hj => ?_⟩
 ·cases j with
  | zero=>cases hj;exact List.getElem?_set_self ⋯
  | succ j=>simp at hj
 ·exact List.getElem?_set_ne (by have:1<=j:=hj;omega)⟩
theorem tg1:∀ C fp s H W,Sc ↥17 ([x]++ksn)->(∀ y∈[x],(cxU X [x] ksn sc C fp s H W).env.scope.names.lookup y=some .local)->PG ↥17 (.Name x px) (uS 0) :=
 fun C fp s H W S4 hl=>uw (i:=0) (by rw [S4.n];exact S4.nd) rfl (.inl (hl x (by simp))) (.inr (hl x (by simp)))
theorem JN:∀ {ds rs:List EV.D},runC (EV.stC gc ge ks δ) ds=.ok rs->EV.D.flats rs=true->runC (stG pt1 gc ge ks δ) ds=.ok rs
 | [],rs,h,_=>h
 | d::ds,rs,h,hf=>by
  unfold runC at h ⊢
  cases q:EV.stC gc ge ks δ d with
  | ok o =>
   rw [q] at h
   simp only [R.bind] at h
   cases q2:runC (EV.stC gc ge ks δ) ds with
   | ok r =>
    rw [q2] at h
    have e:o.toList++r=rs:=by cases o<;>simpa using h
    have key:stG pt1 gc ge ks δ d=.ok o/\EV.D.flats r=true:=by
     unfold EV.stC at q
     unfold stG pt1
     simp only
     have ei:inC ks δ d=[d].map some++ks.map fun k=>δ.getD k none:=rfl
     rw [ei] at q
     cases q3:qr (gc ([d].map some++ks.map fun k=>δ.getD k none)) with
     | ok b =>
      rw [q3] at q
      cases b with
      | bl k =>
       cases k with
       | true =>
        simp only [R.bind,truth] at q ⊢
        cases q4:qr (ge ([d].map some++ks.map fun k=>δ.getD k none)) with
        | ok r' =>
         rw [q4] at q
         cases q
         rw [zI q4]
         rw [<- e] at hf
         have hf':EV.D.flat r'=true/\EV.D.flats r=true:=by simpa [EV.D.flats] using hf
         simp only
         rw [if_pos hf'.1]
         exact ⟨rfl,hf'.2⟩
        | ex C=>rw [q4] at q;cases q
        | bad=>rw [q4] at q;cases q
       | false =>
        simp only [R.bind,truth] at q ⊢
        cases q
        exact ⟨rfl,by rw [show r=rs from e];exact hf⟩
      | _=>cases q
     | ex C=>exact (lP q3).elim
     | bad=>rw [q3] at q;cases q
    rw [key.1]
    simp only [R.bind]
    rw [JN q2 key.2]
    simp only
    rw [<- e]
    cases o<;>rfl
   | ex C=>rw [q2] at h;cases h
   | bad=>rw [q2] at h;cases h
  | ex C=>rw [q] at h;cases h
  | bad=>rw [q] at h;cases h
structure CompOf (ce:E) (git:IT) (pt:EV.D->Option (List EV.D)) (gc ge:E) (ks:List Nat):Prop where
 ex:∀ δ C,git δ=.ex C->ce δ=.ex C
 bad:∀ δ,git δ=.bad->ce δ=.bad
 ok:∀ δ ds,git δ=.ok ds->ce δ=.bad\/(ds.length<=100000/\∃ rs,runC (stG pt gc ge ks δ) ds=.ok rs/\EV.D.flats rs=true/\ce δ=.ok (.lst rs))
theorem pd (hc:X.calm=true) {N:List Str} (S:Sc X N) {xs ksn G:List Str} {ks:List Nat} {tg elt iter:Expr} {ifs:List Expr} {pos ps:Pos} {sc:Scope} {git:IT} {gc ge ce:E} {pt:EV.D->Option (List EV.D)} {gT:TG} (CE:CompOf ce git pt gc ge ks) (SC:ScU xs ksn G sc)
  (hks:ks.map (fun k=>N.getD k "")=ksn) (hlt:∀ k∈ks,k<N.length) (hcell:∀ y∈ksn,X.env.scope.names.lookup y=some .cell)
  (he:SI X tg iter git) (TT:Tgt X xs.length pt gT)
  (htg:∀ C fp s H W,Sc ↥7 (xs++ksn)->(∀ y∈xs,(cxU X xs ksn sc C fp s H W).env.scope.names.lookup y=some .local)->PG ↥7 tg gT)
  (htst:∀ C fp s H W,Sc ↥7 (xs++ksn)->(∀ y∈G,Gb ↥7 y)->Tst ↥7 ifs gc)
  (helt:∀ C fp s H W,Sc ↥7 (xs++ksn)->(∀ y∈G,Gb ↥7 y)->SE ↥7 elt ge)
  (hs:∀ z,foldedSetIterable iter X.env z=pure z) {use:Option (Value->Sem Unit)} {Qf:Value->Shared->Prop} {Q:VK}
  {pins:List ↥11} {s:Shared} {σ:L2.St} {H:Hp} {δ:Dt} (I:Inv X pins σ H s) (hσ:Stt X.K X.mg H σ δ) (h:RQ X σ H (ce δ) Q)
  (hfin:∀ (s1:Shared) (Hc:Hp) (D C:Addr) (ys:List V) (rs:List EV.D),ce δ=.ok (.lst rs)->EV.D.flats rs=true->H D=none->Hc D=some (.lst ys)->Reps X.K X.mg Hc ys rs->aB H Hc->Q (.ref D) Hc ->
   yh X pins Hc C->Inv X pins σ Hc s1->(∃ m,s1.heap.Ns C m)->(∀ h',Heap.SameBut C s1.heap h'->Inv X pins σ Hc { s1 with heap:=h' })->eB ↥4 X.A X.xe use Qf (.ref D) C X.env.frame (.ok .next) s1) :
  wpAny ↥4 X.A (comprehension (.ListComp elt [⟨tg,iter,ifs,0⟩] sc pos) sc X.env ps (newList []) false (eval iter X.env) use) Qf X.xe s:=by
 have key:git δ ≠ .bad/\(∀ C,git δ=.ex C->∀ Ca,X.mg C=some (.ref Ca)->∀ H',aB H H'->ew X Ca σ H')/\∃ ds,(∀ ds',git δ=.ok ds'->ds'=ds)/\∀ ds',git δ=.ok ds'->ds.length<=100000/\∃ rs,runC (stG pt gc ge ks δ) ds=.ok rs/\EV.D.flats rs=true/\ce δ=.ok (.lst rs):=by
  cases r:git δ with
  | bad=>rw [CE.bad δ r] at h;exact False.elim h
  | ex C=>rw [CE.ex δ C r] at h;exact ⟨(fun z=>nomatch z),(fun C' e=>by cases e;exact h),[],(fun _ e=>nomatch e),(fun _ e=>nomatch e)⟩
  | ok ds =>
   refine ⟨fun z=>(nomatch z),fun C' e=>(nomatch e),ds,fun _ e=>by cases e;rfl,fun _ e => ?_⟩
   rcases CE.ok δ ds r with z | z
   ·rw [z] at h;exact False.elim h
   ·exact z
 obtain ⟨k1,k2,ds,k3,k4⟩:=key
 by_cases g:∃ ds',git δ=.ok ds'
 ·obtain ⟨ds',eds⟩:=g
  obtain ⟨hz,rs,er,fl,ec⟩:=k4 ds' eds
  refine m9 hc S SC hks hlt hcell he TT htg htst helt hs (use:=use) I hσ k2 (ds:=ds) k1 (fun d e=>⟨k3 d e,hz,(fun z=>by rw [er] at z;cases z),(fun rs' e'=>by rw [er] at e';cases e';exact fl)⟩) (fun C Ca e=>by rw [er] at e;cases e) (fun ⟨C,e⟩=>by rw [er] at e;cases e) fun s1 Hc D C ys rs' e1 e2 e3 e4 e5 e6 e7 e8 e9 e10 e11 => ?_
  rw [er] at e2
  cases e2
  rw [ec] at h
  exact hfin s1 Hc D C ys rs ec fl e4 e5 e6 e7 (h _ _ e7 (.lst (SqL.of e5) e6)) e8 e9 e10 e11
 ·have no:∀ d,git δ ≠ .ok d:=fun d e=>g ⟨d,e⟩
  exact m9 hc S SC hks hlt hcell he TT htg htst helt hs (use:=use) I hσ k2 (ds:=[]) k1 (fun d e=>absurd e (no d)) (fun C Ca e=>nomatch e) (fun ⟨C,e⟩=>nomatch e) fun s1 Hc D C ys rs' e1=>absurd e1 (no _)
theorem sJ:CompOf (gR git ks gc ge) git pt1 gc ge ks where
 ex:=fun δ C e=>by unfold gR;rw [e];rfl
 bad:=fun δ e=>by unfold gR;rw [e];rfl
 ok:=fun δ ds e=>by
  unfold gR
  rw [e]
  simp only [R.bind]
  by_cases hz:ds.length<=100000
  ·rw [if_pos hz]
   cases r:runC (EV.stC gc ge ks δ) ds with
   | bad=>exact .inl rfl
   | ex C =>
    exfalso
    have:∀ l C,runC (EV.stC gc ge ks δ) l ≠ .ex C:=fun l C=>by
     induction l with
     | nil=>exact fun z=>nomatch z
     | cons a l ih =>
      intro z
      unfold runC at z
      cases q:EV.stC gc ge ks δ a with
      | ok o =>
       rw [q] at z
       simp only [R.bind] at z
       cases q2:runC (EV.stC gc ge ks δ) l with
       | ok r=>rw [q2] at z;cases z
       | ex C'=>exact ih.elim (by rw [q2] at z;cases z;exact q2)
       | bad=>rw [q2] at z;cases z
      | ex C' =>
       unfold EV.stC at q
       cases q3:qr (gc (inC ks δ a)) with
       | ok d =>
        rw [q3] at q
        cases d with
        | bl b =>
         cases b with
         | true =>
          simp only [R.bind,truth] at q
          cases q4:qr (ge (inC ks δ a)) with
          | ok r=>rw [q4] at q;cases q
          | ex C''=>exact lP q4
          | bad=>rw [q4] at q;cases q
         | false=>cases q
        | _=>cases q
       | ex C''=>exact lP q3
       | bad=>rw [q3] at q;cases q
      | bad=>rw [q] at z;cases z
    exact this _ _ r
   | ok rs =>
    simp only [eG]
    by_cases hf:EV.D.flats rs=true
    ·rw [if_pos hf]
     exact .inr ⟨hz,rs,JN r hf,hf,rfl⟩
    ·rw [if_neg hf]
     exact .inl rfl
  ·rw [if_neg hz]
   exact .inl rfl
theorem HY (hc:X.calm=true) {N:List Str} (S:Sc X N) {xs ksn G:List Str} {ks:List Nat} {tg elt iter:Expr} {ifs:List Expr} {pos:Pos} {sc:Scope} {git:IT} {gc ge ce:E} {pt:EV.D->Option (List EV.D)} {gT:TG} (CE:CompOf ce git pt gc ge ks) (SC:ScU xs ksn G sc)
  (hks:ks.map (fun k=>N.getD k "")=ksn) (hlt:∀ k∈ks,k<N.length) (hcell:∀ y∈ksn,X.env.scope.names.lookup y=some .cell)
  (he:SI X tg iter git) (TT:Tgt X xs.length pt gT)
  (htg:∀ C fp s H W,Sc ↥7 (xs++ksn)->(∀ y∈xs,(cxU X xs ksn sc C fp s H W).env.scope.names.lookup y=some .local)->PG ↥7 tg gT)
  (htst:∀ C fp s H W,Sc ↥7 (xs++ksn)->(∀ y∈G,Gb ↥7 y)->Tst ↥7 ifs gc)
  (helt:∀ C fp s H W,Sc ↥7 (xs++ksn)->(∀ y∈G,Gb ↥7 y)->SE ↥7 elt ge)
  (hs:∀ z,foldedSetIterable iter X.env z=pure z):SE X (.ListComp elt [⟨tg,iter,ifs,0⟩] sc pos) ce:=by
 intro pins s σ H Q I ⟨δ,hσ,h⟩
 rw [eval_ListComp]
 exact pd hc S CE SC hks hlt hcell he TT htg htst helt hs (use:=none) I hσ h fun s1 Hc D C ys rs e1 e2 e3 e4 e5 e6 q fC I1 ⟨m,ns⟩ turn=>⟨m,ns,fun h' sb=>⟨.ref D,Hc,turn h' sb,rfl,q⟩⟩
theorem DE (hc:X.calm=true) {N:List Str} (S:Sc X N) {x:Str} {ksn G:List Str} {ks:List Nat} {elt iter:Expr} {ifs:List Expr} {px pos:Pos} {sc:Scope} {git:IT} {gc ge:E} (SC:ScU [x] ksn G sc)
  (hks:ks.map (fun k=>N.getD k "")=ksn) (hlt:∀ k∈ks,k<N.length) (hcell:∀ y∈ksn,X.env.scope.names.lookup y=some .cell)
  (he:SI X (.Name x px) iter git)
  (htst:∀ C fp s H W,Sc ↥17 ([x]++ksn)->(∀ y∈G,Gb ↥17 y)->Tst ↥17 ifs gc)
  (helt:∀ C fp s H W,Sc ↥17 ([x]++ksn)->(∀ y∈G,Gb ↥17 y)->SE ↥17 elt ge)
  (hs:∀ z,foldedSetIterable iter X.env z=pure z:=by intro _;rfl):SE X (.ListComp elt [⟨.Name x px,iter,ifs,0⟩] sc pos) (gR git ks gc ge) :=
 HY hc S sJ SC hks hlt hcell he MI tg1 htst helt hs
theorem sI (hc:X.calm=true) {N:List Str} (S:Sc X N) {x:Str} {ksn G:List Str} {ks:List Nat} {elt iter:Expr} {px pos:Pos} {sc:Scope} {git:IT} {ge:E} (SC:ScU [x] ksn G sc)
  (hks:ks.map (fun k=>N.getD k "")=ksn) (hlt:∀ k∈ks,k<N.length) (hcell:∀ y∈ksn,X.env.scope.names.lookup y=some .cell)
  (he:SI X (.Name x px) iter git)
  (helt:∀ C fp s H W,Sc ↥17 ([x]++ksn)->(∀ y∈G,Gb ↥17 y)->SE ↥17 elt ge)
  (hs:∀ z,foldedSetIterable iter X.env z=pure z:=by intro _;rfl):SE X (.ListComp elt [⟨.Name x px,iter,[],0⟩] sc pos) (comp git ks ge) :=
 DE hc S SC hks hlt hcell he (fun _ _ _ _ _ _ _=>.nil) helt hs
end
end ES
namespace ES
open PySem PySem.Spec PyProof.Rows L2 EV
unseal SE ST SW SA SS SSs SI
structure GC (X:Cx) (x:String) (d:D):Prop where
 ex:∃ v u,X.mg x=some u/\RelV v u/\∀ H,Rep X.K X.mg H v d
section
variable {X:Cx} {pos p:Pos} {x:String} {d:D} {e e2:Expr} {g:E}
theorem NS (G:Gb X x) (h:GC X x d):SE X (.Name x pos) (con d):=by
 obtain ⟨v,u,hm,r,hr⟩:=h.ex
 exact sG (ux (v:=v) G.g hm r G.d) hr
theorem uR {a:Addr} {dd:Option Addr} {ss:List String} {its:Array Value} {n:Nat} {sl:Array (Option Value)} (hm:X.mg x=some (.ref a)) (hk:X.K.lookup a=some ⟨.type "tuple",dd,.seq its n,sl⟩) (hi:Vals (ss.map fun s=>V.str (Str.ofString s)) its.toList) (hz:its.size<=1000):GC X x (.tup (ss.map fun s=>D.str (Str.ofString s))):=by
 refine ⟨.ref a,.ref a,hm,rfl,fun H=>.tup (.inr ⟨_,its,n,hk,rfl,rfl,Nat.le_of_lt (jc hz),hi⟩) ?_⟩
 clear hi
 induction ss with
 | nil=>exact .nil
 | cons s r ih=>exact .cons (.str _) ih
theorem ja:∀ {ss:List String} {ts:List Tok} {its:List Value},its=(ss.zip ts).map (fun p=>Value.str (Str.ofString p.1) p.2)->ts.length=ss.length->Vals (ss.map fun s=>V.str (Str.ofString s)) its
 | [],_,_,e,_=>by subst e;exact .nil
 | s::r,[],_,_,h=>by simp at h
 | s::r,t::ts,_,e,h=>by
  subst e
  exact .cons ⟨t,rfl⟩ (ja (ts:=ts) rfl (by simpa using h))
end
section
variable {X:Cx} {x y:Str} {ksn:List Str} {sc:Scope} {C:Addr} {fp:List Addr} {s:Shared} {H:Hp} {f:List D->R D} {cn m:String} {F:List D->R D}
end
def cU:Stmt->List Stmt
 | .ClassDef _ _ _ b _ _ _ _ _ _ _=>b
 | _=>[]
end ES
namespace ES
open EV
end ES
namespace ES
open PySem PySem.Spec PyProof.Rows L2 EV
unseal SE ST SW SA SS SSs SI
def ROp (X:Cx) (σ:L2.St) (H:Hp) (r:R (Option Int)) (Q:Option Int->Hp->Prop):Prop:=match r with
 | .ok o=>∀ H',aB H H'->Q o H'
 | .ex C=>∀ Ca,X.mg C=some (.ref Ca)->∀ H',aB H H'->ew X Ca σ H'
 | .bad=>False
def tPo (X:Cx) (g:Option E):TO:=fun σ H Q=>∃ δ,Stt X.K X.mg H σ δ/\ROp X σ H (part g δ) Q
@[irreducible] def SO (X:Cx) (e:Option Expr) (g:Option E):Prop:=PO X e (tPo X g)
unseal SO
section
variable {X:Cx} {tg e a:Expr} {lo hi:Option Expr} {g:E} {gl gu:Option E} {σ:L2.St} {H H1:Hp} {pos p2:Pos}
theorem PO.weak (h:PO X o t) (w:∀ σ H Q,t' σ H Q->t σ H Q):PO X o t':=fun pins s σ H Q I q=>h pins s σ H Q I (w σ H Q q)
theorem fR:SO X none none:=PO.weak GO fun σ H Q ⟨δ,hσ,q⟩=>q H ↥31
theorem bS (h:SE X e g):SO X (some e) (some g):=PO.weak (GN h) fun σ H Q ⟨δ,hσ,q⟩=>⟨δ,hσ,by
 simp only [EV.part] at q
 cases r:g δ with
 | ok d =>
  rw [r] at q
  cases d with
  | int i=>exact fun v H' s r=>by cases r;exact ⟨i,rfl,q H' s⟩
  | _=>exact False.elim q
 | ex C=>rw [r] at q;exact q
 | bad=>rw [r] at q;exact q⟩
theorem ROp.bind (h:RQ X σ H (r.bind f) Q):ROp X σ H r (fun o H'=>aB H H'/\RQ X σ H' (f o) Q):=by
 cases r with
 | ok d=>exact fun H' s=>⟨s,h.mono s⟩
 | ex C=>exact h
 | bad=>exact h
theorem ROp.to (h:ROp X σ H r Q) (g:∀ o H',aB H H'->Q o H'->Q' o H'):ROp X σ H r Q':=by
 cases r with
 | ok d=>exact fun H' s=>g d H' s (h H' s)
 | ex C=>exact h
 | bad=>exact h
theorem vH (rs:Reps X.K X.mg H xs ds) (l u:Option Int):Reps X.K X.mg H (ER xs l u) (EV.cut ds l u):=by
 unfold ER EV.cut
 rw [rs.length]
 exact (rs.drop _).take _
def rS (X:Cx):V->Option Int->Option Int->Hp->VK->Prop:=fun x l u H Q=>∃ dx d,Rep X.K X.mg H x dx/\oSl dx l u=.ok d/\∀ v H',aB H H'->Rep X.K X.mg H' v d->Q v H'
theorem Ti:SlR X (rS X):=by
 intro pins s σ H x v vl vu l u sl Q I rx hs pl pu ⟨dx,d,r,e,q⟩
 unfold oSl at e
 split at e
 ·split at e
  ·cases e
  ·rename_i hn
   cases e;cases r
   rename_i p xs hq rs
   refine JO pins s σ H _ v vl vu l u sl Q I rx hs pl pu ⟨p,xs,rfl,hq,?_,fun p hp=>q _ _ (aH hp _) (.tup (SqT.of aQ) ((vH rs l u).mono (aH hp _)))⟩
   rw [rs.length]
   exact hn
 ·cases e;cases r
  rename_i p xs hq rs
  exact Gq pins s σ H _ v vl vu l u sl Q I rx hs pl pu ⟨p,xs,rfl,hq,fun p hp=>q _ _ (aH hp _) (.lst (SqL.of aQ) ((vH rs l u).mono (aH hp _)))⟩
 ·cases e
theorem oA (ha:SE X a g) (hl:SO X lo gl) (hu:SO X hi gu):SE X (.Subscript a (.Slice lo hi none p2) pos) (slc g gl gu) :=
 PE.weak (CA Ti ha hl hu) fun σ H Q ⟨δ,hσ,q⟩=>⟨δ,hσ,(RQ.bind q).to fun x H1 _ ⟨s1,d,r1,q1⟩=>⟨δ,hσ.mono s1,(ROp.bind q1).to fun l H2 _ ⟨s2,q2⟩=>⟨δ,hσ.mono (s1.trans s2),(ROp.bind q2).to fun u H3 _ ⟨s3,q3⟩=>by
  have r3:=r1.mono (s2.trans s3)
  cases e:oSl d l u with
  | ok z=>rw [e] at q3;exact ⟨d,z,r3,e,q3⟩
  | ex C =>
   exfalso
   unfold oSl at e
   split at e
   ·split at e<;>cases e
   ·cases e
   ·cases e
  | bad=>rw [e] at q3;exact False.elim q3⟩⟩⟩
theorem gO (h:SE X e g):SI X tg e (itA g):=fun pins s σ H Q I ⟨δ,hσ,q⟩=>by
 unfold itA at q
 cases r:g δ with
 | ok d =>
  rw [r] at q
  cases d with
  | lst ds=>exact EH h pins s σ H Q I ⟨δ,hσ,by unfold itL;rw [r];exact q⟩
  | tup ds=>exact NF h pins s σ H Q I ⟨δ,hσ,by unfold itT;rw [r];exact q⟩
  | _=>exact False.elim q
 | ex C=>exact EH h pins s σ H Q I ⟨δ,hσ,by unfold itL;rw [r] at q ⊢;exact q⟩
 | bad=>rw [r] at q;exact False.elim q
end
theorem IH {P:String->Prop} (h0:P "MillError") (h1:P "NoSize") (h2:P "NoBits") (h3:P "NoParts") (h4:P "NoRank") (h5:P "NotFinite") (h6:P "NoWay") (h7:P "NoFlags") (h8:P "NoFraction") (h9:P "Unlike") (h10:P "Empty") (h11:P "NoLeft") (h12:P "NoText") (h13:P "NoRow") (h14:P "NoName") (h15:P "Stopped"):∀ n∈ao,P n:=by
 intro n hn
 simp only [ao,List.mem_cons,List.not_mem_nil,or_false] at hn
 rcases hn with rfl | rfl | rfl | rfl | rfl | rfl | rfl | rfl | rfl | rfl | rfl | rfl | rfl | rfl | rfl | rfl
 all_goals assumption
end ES
namespace ES
open PySem PySem.Spec PyProof.Rows L2 EV
unseal SE ST SW SA SS SSs SI SO
section
variable {X:Cx} {tg:Expr} {H:Hp} {a b c:Expr} {ga gb gc:E}
end
theorem Lv {P:Program} {w:World} {K:PySem.W.Frag} {mg:Str->Option Value} {base:Heap} {CX:CXT} {k:Nat} {f:Addr} {fd:FuncData} {ps:List Str}:FnOk P w K mg base CX k f fd ps (spP K mg fun _=>.bad) :=
 ⟨fun vs H Q E ⟨ds,rs,h⟩=>False.elim h,fun A outer s H args us vs Q E hr he hb hv ⟨ds,rs,h⟩=>False.elim h⟩
theorem up1 {P:Program} {w:World} {K:PySem.W.Frag} {mg:Str->Option Value} {base:Heap} {CX:CXT} {i j:Nat} {f:Addr} {fd:FuncData} {ps:List Str} {sp:Sp} (F:FnOk P w K mg base CX (i+j+1) f fd ps sp):FnOk P w K mg base CX (i+1+j) f fd ps sp:=F.mono ⋯
end ES
namespace ES
open PySem PySem.Spec PyProof.Rows L2 EV
unseal SE ST SW SA SS SSs SI SO
section
variable {X:Cx} {N:List Str} {H:Hp} {σ:L2.St} {δ:Dt} {os:Os}
theorem Gh (h:Stt X.K X.mg H σ δ):Stt X.K X.mg H σ (δ.set i (some (.own ds))):=by
 refine ⟨by rw [List.length_set];exact h.1,fun j d e n => ?_⟩
 by_cases hj:j=i
 ·subst hj
  by_cases hl:j<δ.length
  ·rw [List.getElem?_set_self hl] at e
   have e':.own ds=d:=Option.some.inj (Option.some.inj e)
   exact absurd e'.symm (n ds)
  ·rw [List.getElem?_eq_none (by simp;omega)] at e
   cases e
 ·rw [List.getElem?_set_ne (Ne.symm hj)] at e
  exact h.2 j d e n
theorem lV (h:a∈kC os):hide (upd H a o) os=hide H os:=by
 funext b
 unfold hide
 by_cases hb:b∈kC os
 ·rw [if_pos hb,if_pos hb]
 ·rw [if_neg hb,if_neg hb]
  exact aW fun z=>hb (by rw [z];exact h)
theorem StO.write (S:StO X H σ δ os) (ha:(i,a)∈os) (r:Reps X.K X.mg ↥29 xs ds):StO X (upd H a (.lst xs)) σ (δ.set i (some (.own ds))) os:=by
 have eh:hide (upd H a (.lst xs)) os=hide H os:=lV (fc ha)
 obtain ⟨_,_,_,h2,h3,_⟩:=S.lst _ ha
 have hl:i<δ.length:=(List.getElem?_eq_some_iff.mp h3).1
 refine ⟨by rw [eh];exact Gh S.st,fun p hp => ?_,fun j es e => ?_,S.inj⟩
 ·rw [eh]
  by_cases hj:p.1=i
  ·have e2:p.2=a:=by
    obtain ⟨_,_,_,q2,_,_⟩:=S.lst p hp
    rw [hj,h2] at q2
    exact (V.ref.inj (Option.some.inj (Option.some.inj q2))).symm
   refine ⟨xs,ds,by rw [e2];exact aQ,by rw [hj,e2];exact h2,by rw [hj];exact List.getElem?_set_self hl,r⟩
  ·obtain ⟨ys,es,q1,q2,q3,q4⟩:=S.lst p hp
   have ne:p.2≠a:=fun z=>hj (S.inj p.1 i a (by rw [<- z];exact hp) ha)
   exact ⟨ys,es,by rw [aW ne];exact q1,q2,by rw [List.getElem?_set_ne (Ne.symm hj)];exact q3,q4⟩
 ·by_cases hj:j=i
  ·subst hj;exact ⟨a,ha⟩
  ·rw [List.getElem?_set_ne (Ne.symm hj)] at e
   exact S.own j es e
theorem StO.begin (S:StO X H σ δ os) (hi:i<σ.length) (hn:H a=none) (r:Reps X.K X.mg ↥29 xs ds) :
  StO X (upd H a (.lst xs)) (σ.set i (some (.ref a))) (δ.set i (some (.own ds))) ((i,a)::os.filter fun p=>p.1 != i)/\aB ↥29 (hide (upd H a (.lst xs)) ((i,a)::os.filter fun p=>p.1 != i)):=by
 have hd:i<δ.length:=by rw [<- S.st.1];exact hi
 have sm:aB ↥29 (hide (upd H a (.lst xs)) ((i,a)::os.filter fun p=>p.1 != i)):=fun b o e=>by
  have hb:b∉kC os:=fun z=>by rw [mT z] at e;cases e
  rw [bU hb] at e
  have ne:b≠a:=fun z=>by rw [z,hn] at e;cases e
  rw [bU fun z => ?_,aW ne];exact e
  obtain ⟨p,hp,e2⟩:=iw z
  rcases List.mem_cons.mp hp with q | q
  ·exact ne (by rw [<- e2,q])
  ·exact hb (by rw [<- e2];exact fc (aU os i p q).1)
 have naos:∀ p∈os,p.2≠a:=fun p hp z=>by
  obtain ⟨_,_,q,_⟩:=S.lst p hp
  rw [z,hn] at q
  cases q
 refine ⟨⟨?_,fun p hp => ?_,fun j es e => ?_,fun j k b h1 h2 => ?_⟩,sm⟩
 ·have st:=S.st.mono sm
  refine ⟨by rw [List.length_set,List.length_set];exact st.1,fun j d e n => ?_⟩
  by_cases hj:j=i
  ·subst hj
   rw [List.getElem?_set_self hd] at e
   exact absurd (Option.some.inj (Option.some.inj e)).symm (n ds)
  ·rw [List.getElem?_set_ne (Ne.symm hj)] at e
   obtain ⟨v,e1,e2⟩:=st.2 j d e n
   exact ⟨v,by rw [List.getElem?_set_ne (Ne.symm hj)];exact e1,e2⟩
 ·rcases List.mem_cons.mp hp with q | q
  ·subst q
   exact ⟨xs,ds,aQ,List.getElem?_set_self hi,List.getElem?_set_self hd,r.mono sm⟩
  ·obtain ⟨hp',ne⟩:=aU os i p q
   obtain ⟨ys,es,q1,q2,q3,q4⟩:=S.lst p hp'
   exact ⟨ys,es,by rw [aW (naos p hp')];exact q1,by rw [List.getElem?_set_ne (Ne.symm ne)];exact q2,by rw [List.getElem?_set_ne (Ne.symm ne)];exact q3,q4.mono sm⟩
 ·by_cases hj:j=i
  ·subst hj;exact ⟨a,.head _⟩
  ·rw [List.getElem?_set_ne (Ne.symm hj)] at e
   obtain ⟨b,hb⟩:=S.own j es e
   exact ⟨b,.tail _ (List.mem_filter.mpr ⟨hb,by simpa using hj⟩)⟩
 ·rcases List.mem_cons.mp h1 with q1 | q1<;>rcases List.mem_cons.mp h2 with q2 | q2
  ·cases q1;cases q2;rfl
  ·cases q1;exact absurd rfl (naos _ (aU os i _ q2).1)
  ·cases q2;exact absurd rfl (naos _ (aU os i _ q1).1)
  ·exact S.inj j k b (aU os i _ q1).1 (aU os i _ q2).1
theorem StO.pub (S:StO X H σ δ os) (i:Nat):∃ os',StO X H σ (EV.pub i δ) os'/\aB ↥29 (hide H os'):=by
 unfold EV.pub
 split
 ·rename_i ds e
  obtain ⟨a,ha⟩:=S.own i ds e
  obtain ⟨xs,ds',h1,h2,h3,h4⟩:=S.lst _ ha
  rw [e] at h3
  cases h3
  have sm:aB ↥29 (hide H (os.filter fun p=>p.1 != i)):=mS fun p hp=>(aU os i p hp).1
  have hl:i<δ.length:=(List.getElem?_eq_some_iff.mp e).1
  have na:a∉kC (os.filter fun p=>p.1 != i):=fun z=>by
   obtain ⟨p,hp,e2⟩:=iw z
   obtain ⟨hp',ne⟩:=aU os i p hp
   exact ne (S.inj p.1 i a (by rw [<- e2];exact hp') ha)
  refine ⟨_,⟨?_,fun p hp => ?_,fun j es q => ?_,fun j k b h1 h2=>S.inj j k b (aU os i _ h1).1 (aU os i _ h2).1⟩,sm⟩
  ·have st:=S.st.mono sm
   refine ⟨by rw [List.length_set];exact st.1,fun j d q n => ?_⟩
   by_cases hj:j=i
   ·subst hj
    rw [List.getElem?_set_self hl] at q
    have q':D.lst ds=d:=Option.some.inj (Option.some.inj q)
    subst q'
    exact ⟨.ref a,h2,.lst (SqL.of (by rw [bU na];exact h1)) (h4.mono sm)⟩
   ·rw [List.getElem?_set_ne (Ne.symm hj)] at q
    exact st.2 j d q n
  ·obtain ⟨hp',ne⟩:=aU os i p hp
   obtain ⟨ys,es,q1,q2,q3,q4⟩:=S.lst p hp'
   exact ⟨ys,es,q1,q2,by rw [List.getElem?_set_ne (Ne.symm ne)];exact q3,q4.mono sm⟩
  ·by_cases hj:j=i
   ·subst hj
    rw [List.getElem?_set_self hl] at q
    cases q
   ·rw [List.getElem?_set_ne (Ne.symm hj)] at q
    obtain ⟨b,hb⟩:=S.own j es q
    exact ⟨b,List.mem_filter.mpr ⟨hb,by simpa using hj⟩⟩
 ·exact ⟨os,S,aB.refl _⟩
variable {e:Expr} {g:E} {pos:Pos} {st:Stmt} {gs:S}
theorem xi (i:Nat) (h:SS X st gs):SS X st (Cv i gs):=PS.weak h fun D σ H ⟨δ,os,S,q⟩=>by
 obtain ⟨os',S',sm⟩:=S.pub i
 exact ⟨_,os',S',OQ.mono sm q⟩
theorem vD (C:Sx X N) (i:Nat) (hN:N[i]? = some x) (hx:Sto X x) (hsw:swapsWith (.List [] pl) (some (.Name x pos')) pos.line X.env=pure false:=by rfl):SS X (.Assign [.Name x pos'] (.List [] pl) pos) (vN i):=by
 intro pins s σ H D I ⟨δ,os,S,q⟩
 refine za (i:=i) (by rw [C.sc.n];exact C.sc.nd) (by rw [C.sc.n];exact hN) hx.1 (ze mr) hsw hx.2 pins s σ H D I ⟨Nat.zero_le _,fun p hp => ?_⟩
 have hi:i<σ.length:=by
  rw [I.len,C.sc.n]
  exact (List.getElem?_eq_some_iff.mp hN).1
 obtain ⟨S',sm⟩:=S.begin (i:=i) hi hp .nil
 exact q _ _ _ S' sm
theorem lK (C:Sx X N) (i:Nat) (hN:N[i]? = some x) (he:SE X e g)
  (hbase:attributeBase (.Name x p1) "append" X.env (eval (.Name x p1) X.env)=eval (.Name x p1) X.env:=by rfl)
  (hfew:((backTo p3 (starEach [e] X.env)).all (fun x => !x.1)&&(backToKw p3 (keywordEach [] X.env)).all (fun x=>x.1.isSome)
   && decide ([e].length+([]:List Keyword).length+(if ([]:List Keyword).isEmpty then 0 else 1)<30))=true:=by rfl)
  (hline:(p2.endLine == p3.line)=true:=by rfl) (hs:starEach [e] X.env=[↥34]:=by rfl)
  (hsw:swapsWith (.Call (.Attribute (.Name x p1) "append" p2) [e] [] p3) none pos.line X.env=pure false:=by rfl) :
  SS X (.Expr (.Call (.Attribute (.Name x p1) "append" p2) [e] [] p3) pos) (mw i g):=by
 have hm:x∈N:=List.mem_of_getElem? hN
 refine PS.weak (uq (Kt PySem.F.plainAttrs_list PySem.F.slot_list_append PySem.F.type_list_append sj (mi (i:=i) (by rw [C.sc.n];exact hN) (C.sc.vis x hm) (C.sc.dbg x hm).1 (C.sc.dbg x hm).2) (ko (ng he) mr hs) hbase hfew hline hs (by rfl)) hsw) fun D σ H ⟨δ,os,S,q⟩ => ?_
 unfold mw jt at q
 split at q
 ·rename_i ds ei
  obtain ⟨a,ha⟩:=S.own i ds ei
  obtain ⟨xs,ds',h1,h2,h3,h4⟩:=S.lst _ ha
  rw [ei] at h3
  cases h3
  refine ⟨.ref a,h2,.inl ⟨rfl,xs,SqL.of h1⟩,δ,os,S,?_,?_⟩
  ·intro d ed
   unfold IE at q
   rw [ed] at q
   simp only at q
   split at q
   ·rename_i z;exact z.1
   ·exact False.elim q
  ·unfold IE at q
   cases r:g (view δ) with
   | ok d =>
    rw [r] at q
    simp only at q
    split at q
    ·rename_i z
     intro v H' S' sm rp
     obtain ⟨xs',ds',k1,k2,k3,k4⟩:=S'.lst _ ha
     rw [ei] at k3
     cases k3
     refine ⟨a,xs',v,rfl,rfl,k1,by rw [k4.length,sizeLine_eq];omega,?_⟩
     have S2:=S'.write ha (k4.append (.cons rp .nil))
     exact q _ _ _ S2 (by rw [lV (fc ha)];exact sm)
    ·exact False.elim q
   | ex C=>rw [r] at q;exact fun Ca hc H' s' st=>q σ H' s' st Ca hc
   | bad=>rw [r] at q;exact False.elim q
 ·exact False.elim q
end
end ES
namespace ES
open PySem PySem.Spec PyProof.Rows L2 EV
unseal SE ST SW SA SS SSs SI SO
section
variable {X:Cx} {N:List Str} {H:Hp} {σ:L2.St} {δ:Dt} {os:Os}
theorem StO.adopt (S:StO X H σ δ os) (sm:aB H Hc) (hi:i<σ.length) (hn:H a=none) (ha:Hc a=some (.lst xs)) (r:Reps X.K X.mg Hc xs ds) (fl:EV.D.flats ds=true) :
  StO X Hc (σ.set i (some (.ref a))) (δ.set i (some (.own ds))) ((i,a)::os.filter fun p=>p.1 != i)/\aB ↥29 (hide Hc ((i,a)::os.filter fun p=>p.1 != i)):=by
 have hd:i<δ.length:=by rw [<- S.st.1];exact hi
 have sm2:aB ↥29 (hide Hc ((i,a)::os.filter fun p=>p.1 != i)):=fun b o e=>by
  have hb:b∉kC os:=fun z=>by rw [mT z] at e;cases e
  rw [bU hb] at e
  have ne:b≠a:=fun z=>by rw [z,hn] at e;cases e
  rw [bU fun z => ?_];exact sm b o e
  obtain ⟨p,hp,e2⟩:=iw z
  rcases List.mem_cons.mp hp with q | q
  ·exact ne (by rw [<- e2,q])
  ·exact hb (by rw [<- e2];exact fc (aU os i p q).1)
 have naos:∀ p∈os,p.2≠a:=fun p hp z=>by
  obtain ⟨_,_,q,_⟩:=S.lst p hp
  rw [z,hn] at q
  cases q
 have ls:L7 Hc ((i,a)::os.filter fun p=>p.1 != i):=fun b hb=>by
  obtain ⟨p,hp,e2⟩:=iw hb
  rcases List.mem_cons.mp hp with q | q
  ·exact ⟨xs,by rw [<- e2,q];exact ha⟩
  ·obtain ⟨ys,_,q1,_⟩:=S.lst p (aU os i p q).1
   exact ⟨ys,by rw [<- e2];exact sm _ _ q1⟩
 refine ⟨⟨?_,fun p hp => ?_,fun j es e => ?_,fun j k b h1 h2 => ?_⟩,sm2⟩
 ·have st:=S.st.mono sm2
  refine ⟨by rw [List.length_set,List.length_set];exact st.1,fun j d e n => ?_⟩
  by_cases hj:j=i
  ·subst hj
   rw [List.getElem?_set_self hd] at e
   exact absurd (Option.some.inj (Option.some.inj e)).symm (n ds)
  ·rw [List.getElem?_set_ne (Ne.symm hj)] at e
   obtain ⟨v,e1,e2⟩:=st.2 j d e n
   exact ⟨v,by rw [List.getElem?_set_ne (Ne.symm hj)];exact e1,e2⟩
 ·rcases List.mem_cons.mp hp with q | q
  ·subst q
   exact ⟨xs,ds,ha,List.getElem?_set_self hi,List.getElem?_set_self hd,lM (vP ls) fl r⟩
  ·obtain ⟨hp',ne⟩:=aU os i p q
   obtain ⟨ys,es,q1,q2,q3,q4⟩:=S.lst p hp'
   exact ⟨ys,es,sm _ _ q1,by rw [List.getElem?_set_ne (Ne.symm ne)];exact q2,by rw [List.getElem?_set_ne (Ne.symm ne)];exact q3,q4.mono sm2⟩
 ·by_cases hj:j=i
  ·subst hj;exact ⟨a,.head _⟩
  ·rw [List.getElem?_set_ne (Ne.symm hj)] at e
   obtain ⟨b,hb⟩:=S.own j es e
   exact ⟨b,.tail _ (List.mem_filter.mpr ⟨hb,by simpa using hj⟩)⟩
 ·rcases List.mem_cons.mp h1 with q1 | q1<;>rcases List.mem_cons.mp h2 with q2 | q2
  ·cases q1;cases q2;rfl
  ·cases q1;exact absurd rfl (naos _ (aU os i _ q2).1)
  ·cases q2;exact absurd rfl (naos _ (aU os i _ q1).1)
  ·exact S.inj j k b (aU os i _ q1).1 (aU os i _ q2).1
theorem rl {pins:List ↥11} {s:Shared} {i:Nat} {y:Str} {py:Pos} {a C:Addr} {m:Str->Option Value} (Cx:Sx X N) (hN:N[i]? = some y) (hy:Sto X y) (I:Inv X pins σ H s) (fC:yh X pins H C) (ns:s.heap.Ns C m) :
  wpAny ↥4 X.A (assign (.Name y py) X.env (.ref a)) (fun _ s2=>∃ m,s2.heap.Ns C m/\∀ h',Heap.SameBut C s2.heap h'->Inv X pins (σ.set i (some (.ref a))) H { s2 with heap:=h' }) X.xe s:=by
 obtain ⟨o,es,ep,ho,hd,hk⟩:=id ns
 have Ip:=I.pinned (fp:=[C]) (fun b hb=>by rw [List.mem_singleton] at hb;rw [hb];exact fC) (fun b hb=>by
  rw [List.mem_singleton] at hb
  rw [hb]
  exact ⟨o,ho,fun v z=>by rw [hd] at z;cases z⟩)
 refine thn (uw (X:=X) (pos:=py) (i:=i) (x:=y) (by rw [Cx.sc.n];exact Cx.sc.nd) (by rw [Cx.sc.n];exact hN) hy.1 hy.2 _ s σ H (.ref a) (.ref a) (fun σ6 H6=>σ6=σ.set i (some (.ref a))/\H6=H) Ip rfl ⟨rfl,rfl⟩) fun _ s2 ⟨σ6,H6,I6,e6,e7⟩ => ?_
 subst e6 e7
 have hp:=(I6.pin (C,o) (List.mem_append_right _ (List.mem_append_right _ (dW (List.mem_singleton.mpr rfl) ho)))).1
 refine ⟨m,ns.at' fun o' e' => ?_,fun h' sb => ?_⟩
 ·rw [ho] at e'
  cases e'
  exact hp
 ·obtain ⟨f0,f1,f2,f3,f4,f5⟩:=fC
  exact I6.unpinned.turned (t':=s2.toks) (fun b o hb e=>(sb.2 b hb).trans e) f0 f1 f3 f4 f5
variable {e c k v:Expr} {g gc gk gv:E} {pos:Pos} {st:Stmt} {body els:List Stmt} {gs gb ge:S}
theorem Gx (hc:ST X c gc) (ha:SSs X body gb) (hb:SSs X els ge):SS X (.If c body els pos) (IL gc gb ge) :=
 PS.weak (Ke (Ie hc) ha hb) fun D σ H ⟨δ,os,S,q⟩=>⟨δ,os,S,FT.then q fun b H' S' s q'=>by
  cases b with
  | true=>exact HC ⟨δ,os,S',by simpa using q'⟩
  | false=>exact HD ⟨δ,os,S',by simpa using q'⟩⟩
theorem Ep (C:Sx X N) (i:Nat) (hN:N[i]? = some x) (hx:Sto X x) (h:SE X e g) (hsw:swapsWith e (some (.Name x pos')) pos.line X.env=pure false:=by rfl):SS X (.Assign [.Name x pos'] e pos) (kz i g) :=
 PS.weak (za (i:=i) (by rw [C.sc.n];exact C.sc.nd) (by rw [C.sc.n];exact hN) hx.1 (ng h) hsw hx.2) fun D σ H ⟨δ,os,S,q⟩=>by
  unfold kz IP at q
  refine ⟨δ,os,S,fun d ed => ?_,?_⟩
  ·rw [ed] at q
   simp only at q
   split at q
   ·assumption
   ·exact False.elim q
  ·cases r:g (view δ) with
   | ok d =>
    rw [r] at q
    simp only at q
    split at q
    ·intro v H' S' s rp
     obtain ⟨S2,s2⟩:=S'.set (i:=i) rp
     exact q _ _ _ S2 (s.trans s2)
    ·exact False.elim q
   | ex C=>rw [r] at q;exact fun Ca hc H' s' st=>q σ H' s' st Ca hc
   | bad=>rw [r] at q;exact False.elim q
theorem jb (hS:env.scope=sc0)
  (h:((if sc0.kind.isAnnotationScope then ScopeKind.function else sc0.kind) == ScopeKind.function&&sc0.names.lookup t == some NameKind.local&&pt.line == (Expr.ListComp elt gens sc pos).pos.line && !(sc.names.any fun (n,k)=>n == t&&(k == .local||k == .cell)))=true) :
  swapsWith (.ListComp elt gens sc pos) (some (.Name t pt)) line env=pure true:=by
 subst hS
 show (pure ((if env.scope.kind.isAnnotationScope then ScopeKind.function else env.scope.kind) == ScopeKind.function&&env.scope.names.lookup t == some NameKind.local&&pt.line == (Expr.ListComp elt gens sc pos).pos.line && !(sc.names.any fun (n,k)=>n == t&&(k == .local||k == .cell))):Sem Bool)=pure true
 rw [h]
theorem xk (Cx:Sx X N) (hc:X.calm=true) (i:Nat) {y:Str} {py spos:Pos} (hN:N[i]? = some y) (hy:Sto X y) {xs ksn G:List Str} {ks:List Nat} {tg elt iter:Expr} {ifs:List Expr} {sc:Scope} {git:IT} {gt ge' ce:E} {pt:EV.D->Option (List EV.D)} {gT:TG} (CE:CompOf ce git pt gt ge' ks) (SC:ScU xs ksn G sc)
  (hks:ks.map (fun k=>N.getD k "")=ksn) (hlt:∀ k∈ks,k<N.length) (hcell:∀ y∈ksn,X.env.scope.names.lookup y=some .cell)
  (he:SI X tg iter git) (TT:Tgt X xs.length pt gT)
  (htg:∀ C fp s H W,Sc ↥7 (xs++ksn)->(∀ y∈xs,(cxU X xs ksn sc C fp s H W).env.scope.names.lookup y=some .local)->PG ↥7 tg gT)
  (htst:∀ C fp s H W,Sc ↥7 (xs++ksn)->(∀ y∈G,Gb ↥7 y)->Tst ↥7 ifs gt)
  (helt:∀ C fp s H W,Sc ↥7 (xs++ksn)->(∀ y∈G,Gb ↥7 y)->SE ↥7 elt ge')
  (hsw:swapsWith (.ListComp elt [⟨tg,iter,ifs,0⟩] sc pos) (some (.Name y py)) spos.line X.env=pure true)
  (hs:∀ z,foldedSetIterable iter X.env z=pure z) :
  SS X (.Assign [.Name y py] (.ListComp elt [⟨tg,iter,ifs,0⟩] sc pos) spos) (iU i ce):=by
 intro pins s σ H D I ⟨δ,os,S,q⟩
 have hi:i<σ.length:=by
  rw [I.len,Cx.sc.n]
  exact (List.getElem?_eq_some_iff.mp hN).1
 unfold iU F9 at q
 rw [exec_Assign_Name_used _ _ _ _ hsw]
 refine wpAny_bind (wpAny_standAt (wpAny_bind ?_))
 show wpAny _ X.A (do let _<-comprehension (.ListComp elt [⟨tg,iter,ifs,0⟩] sc pos) sc X.env _ (newList []) false (eval iter X.env) (some (assign (.Name y py) X.env))) _ _ s
 refine wpAny_bind (wpAny_mono (pd (Q:=fun _ _=>True) (Qf:=fun _ s'=>SP X pins D .next s') hc Cx.sc CE SC hks hlt hcell he TT htg htst helt hs (use:=some (assign (.Name y py) X.env)) I S.view ?_ ?_) (fun _ s' hq=>wpAny_pure (wpAny_pure hq)) fun _ _ e=>e)
 ·cases r:ce (view δ) with
  | ok d=>exact fun _ _ _ _=>trivial
  | ex C=>rw [r] at q;exact fun Ca hc H' s'=>q σ H' ((aF H os).trans s') (S.noOwn ((aF H os).trans s')) Ca hc
  | bad=>rw [r] at q;exact False.elim q
 ·intro s1 Hc A C ys rs e1 fl hA hAc rr sm _ fC I1 ⟨m,ns⟩ _
  rw [e1] at q
  obtain ⟨S2,sm2⟩:=S.adopt sm hi hA hAc rr fl
  refine thn (rl (a:=A) (py:=py) Cx hN hy I1 fC ns) fun _ s2 ⟨m2,ns2,hq⟩=>⟨m2,ns2,fun h' sb=>⟨_,Hc,hq h' sb,q _ _ _ S2 sm2⟩⟩
theorem me (Cx:Sx X N) (hc:X.calm=true) (i:Nat) {y:Str} {py spos:Pos} (hN:N[i]? = some y) (hy:Sto X y) {x:Str} {ksn G:List Str} {ks:List Nat} {elt iter:Expr} {ifs:List Expr} {px:Pos} {sc:Scope} {git:IT} {gt ge':E} (SC:ScU [x] ksn G sc)
  (hks:ks.map (fun k=>N.getD k "")=ksn) (hlt:∀ k∈ks,k<N.length) (hcell:∀ y∈ksn,X.env.scope.names.lookup y=some .cell)
  (he:SI X (.Name x px) iter git)
  (htst:∀ C fp s H W,Sc ↥17 ([x]++ksn)->(∀ y∈G,Gb ↥17 y)->Tst ↥17 ifs gt)
  (helt:∀ C fp s H W,Sc ↥17 ([x]++ksn)->(∀ y∈G,Gb ↥17 y)->SE ↥17 elt ge')
  (hsw:swapsWith (.ListComp elt [⟨.Name x px,iter,ifs,0⟩] sc pos) (some (.Name y py)) spos.line X.env=pure true)
  (hs:∀ z,foldedSetIterable iter X.env z=pure z:=by intro _;rfl) :
  SS X (.Assign [.Name y py] (.ListComp elt [⟨.Name x px,iter,ifs,0⟩] sc pos) spos) (iU i (gR git ks gt ge')) :=
 xk Cx hc i hN hy sJ SC hks hlt hcell he MI tg1 htst helt hsw hs
theorem vC {K:PySem.W.Frag} {mg:Str->Option Value} {H:Hp} {v:V} {d:EV.D} (rp:Rep K mg H v d):∀ {xs:List V} {ds:List EV.D},Reps K mg H xs ds->∀ j,Reps K mg H (xs.set j v) (ds.set j d)
 | _,_,.nil,_=>.nil
 | _,_,.cons _ rr,0=>.cons rp rr
 | _,_,.cons r0 rr,j+1=>.cons r0 (vC rp rr j)
theorem Cm (Cx:Sx X N) (i:Nat) {x:Str} {p1 p2:Pos} (hN:N[i]? = some x) (hv:SE X v gv) (hk:SE X k gk)
  (ha:∀ w,assign (.Subscript (.Name x p1) k p2) X.env w=(do
   let ov<-holding [w] (eval (.Name x p1) X.env)
   let iv<-holding [w,ov] (eval k X.env)
   standAt p2
   holding [w,ov,iv] (setItem ov iv w)
   release [w,ov,iv] []):=by intro _;rfl)
  (hs:swapsWithSole [.Subscript (.Name x p1) k p2] v pos.line X.env=pure false:=by rfl) (hw:swappedStores [.Subscript (.Name x p1) k p2] v X.env=pure none:=by rfl)
  (h1:(assignEach [.Subscript (.Name x p1) k p2] X.env).map (·.2)=[assign (.Subscript (.Name x p1) k p2) X.env]:=by rfl) :
  SS X (.Assign [.Subscript (.Name x p1) k p2] v pos) (vM i gk gv):=by
 have hm:x∈N:=List.mem_of_getElem? hN
 refine PS.weak (Kh (ng hv) (Kl (mi (i:=i) (by rw [Cx.sc.n];exact hN) (Cx.sc.vis x hm) (Cx.sc.dbg x hm).1 (Cx.sc.dbg x hm).2) (ng hk) set_list ha) hs hw h1) fun D σ H ⟨δ,os,S,q⟩ => ?_
 unfold vM jt at q
 split at q
 ·rename_i ds ei
  obtain ⟨a,haos⟩:=S.own i ds ei
  unfold JQ at q
  split at q
  ·rename_i d kk ev ek
   dsimp only at q
   split at q
   ·rename_i z
    refine ⟨δ,os,S,fun d' ed => ?_,?_⟩
    ·rw [ev] at ed;cases ed;exact z.1
    ·rw [ev]
     intro w H1 S1 s1 rw1
     obtain ⟨xs1,ds1,a1,a2,a3,a4⟩:=S1.lst _ haos
     refine ⟨.ref a,a2,δ,os,S1,fun d' ed => ?_,?_⟩
     ·rw [ek] at ed;cases ed;rfl
     ·rw [ek]
      intro w2 H2 S2 s2 rw2
      cases rw2
      obtain ⟨xs2,ds2,b1,b2,b3,b4⟩:=S2.lst _ haos
      rw [ei] at b3
      cases b3
      have hj:L2.ixN xs2.length kk=some kk.toNat:=by
       unfold L2.ixN
       rw [if_pos z.2.1,if_pos (by rw [b4.length];exact z.2.2)]
      refine ⟨a,xs2,kk,kk.toNat,rfl,rfl,b1,hj,?_⟩
      have S3:=S2.write haos (vC (rw1.mono s2) b4 kk.toNat)
      exact q _ _ _ S3 (by rw [lV (fc haos)];exact s1.trans s2)
   ·exact False.elim q
  ·exact False.elim q
 ·exact False.elim q
end
end ES
namespace ES
open PySem PySem.Spec PyProof.Rows L2 EV
unseal SE ST SW SA SS SSs SI SO
def RF (X:Cx) (σ:L2.St) (H:Hp) (r:R D) (Q:VK):Prop:=match r with
 | .ok (.lst rs)=>∀ a xs H',aB H H'->H a=none->H' a=some (.lst xs)->Reps X.K X.mg H' xs rs->EV.D.flats rs=true->Q (.ref a) H'
 | .ex C=>∀ Ca,X.mg C=some (.ref Ca)->∀ H',aB H H'->ew X Ca σ H'
 | _=>False
def FE (X:Cx) (e:Expr) (g:E):Prop:=PE X e fun σ H Q=>∃ δ,Stt X.K X.mg H σ δ/\RF X σ H (g δ) Q
def OQF (X:Cx) (D:Ends) (F:Hp):O->Prop
 | .rt (.lst rs)=>∀ a xs H,aB F H->F a=none->H a=some (.lst xs)->Reps X.K X.mg H xs rs->EV.D.flats rs=true->D.rt (.ref a) H
 | .rt _=>False
 | o=>OQ X D F o
def tSF (X:Cx) (g:S):TS:=fun D σ H=>∃ δ os,StO X H σ δ os/\OQF X D ↥29 (g δ)
@[irreducible] def SSF (X:Cx) (st:List Stmt) (g:S):Prop:=PSs X st (tSF X g)
unseal SSF
section
variable {X:Cx} {N:List Str}
variable {st:Stmt} {rest:List Stmt} {gs gr:S} {e:Expr} {g:E} {pos:Pos}
theorem yJ {H Hc:Hp} {os:Os} (hn:∀ a∈kC os,Hc a=none):aB Hc (fH H Hc os):=fun b o q=>by
 unfold fH
 rw [if_neg fun z=>by rw [hn b z] at q;cases q]
 exact q
end
def spF (K:PySem.W.Frag) (mg:Str->Option Value) (f:List D->R D):Sp:=fun vs H Q E=>∃ ds,Reps K mg H vs ds/\match f ds with
 | .ok (.lst rs)=>∀ a xs H',aB H H'->H a=none->H' a=some (.lst xs)->Reps K mg H' xs rs->EV.D.flats rs=true->Q (.ref a) H'
 | .ex C=>∀ Ca,mg C=some (.ref Ca)->∀ H',aB H H'->E (.ref Ca) none H'
 | _=>False
structure FnF (P:Program) (w:World) (K:PySem.W.Frag) (mg:Str->Option Value) (base:Heap) (x:Str) (k:Nat) (f:List D->R D):Prop where
 ex:∃ fa fd ps,FnOk P w K mg base (CXF P w) k fa fd ps (spF K mg f)/\mg x=some (.ref fa)/\PySem.W.keepIn K (.ref fa)=true/\Binds K fd ps []
structure CalleeF (X:Cx) (x:Str) (f:List D->R D):Prop where
 ex:∃ k fa fd ps,FnOk X.prog X.w X.K X.mg X.base (CXF X.prog X.w) k fa fd ps (spF X.K X.mg f)/\Room k X.A/\X.mg x=some (.ref fa)/\PySem.W.keepIn X.K (.ref fa)=true/\Binds X.K fd ps []
section
variable {X:Cx} {N:List Str} {x:Str} {f:List D->R D} {e:Expr} {es:List Expr} {gs:List E} {p pos:Pos} {g:E}
theorem rK (C:Sx X N) (i:Nat) {y:Str} {pos':Pos} (hN:N[i]? = some y) (hy:Sto X y) (h:FE X e g) (hsw:swapsWith e (some (.Name y pos')) pos.line X.env=pure false:=by rfl):SS X (.Assign [.Name y pos'] e pos) (mv i g):=by
 intro pins s σ H D I ⟨δ,os,S,q⟩
 have hi:i<σ.length:=by
  rw [I.len,C.sc.n]
  exact (List.getElem?_eq_some_iff.mp hN).1
 have hl:=S.lsts
 unfold mv F9 at q
 refine wpAny_Assign_Name (thn (h _ s σ _ (fun v Hc=>∃ a xs rs,v=.ref a/\g δ=.ok (.lst rs)/\aB ↥29 Hc/\hide H os a=none/\Hc a=some (.lst xs)/\Reps X.K X.mg Hc xs rs/\EV.D.flats rs=true) (lU I hl) ⟨δ,S.st,?_⟩) fun u s1 ⟨v,Hc,I1,rv,a,xs,rs,ev,eg,sm,hn,ha,rr,fl⟩ => ?_) hsw
 ·cases r:g δ with
  | ok d =>
   rw [r] at q
   cases d with
   | lst rs=>exact fun a xs H' sm hn ha rr fl=>⟨a,xs,rs,rfl,rfl,sm,hn,ha,rr,fl⟩
   | _=>exact False.elim q
  | ex C=>rw [r] at q;exact fun Ca hc H' s'=>q σ H' s' (S.noOwn s') Ca hc
  | bad=>rw [r] at q;exact False.elim q
 ·obtain ⟨I2,hz⟩:=lT C.ex I hl I1
  rw [eg] at q
  subst ev
  have ss:=yJ (H:=H) hz
  have na:a∉kC os:=fun z=>by rw [hz a z] at ha;cases ha
  have sH:aB H (fH H Hc os):=fun b o e=>by
   unfold fH
   by_cases hb:b∈kC os
   ·rw [if_pos hb];exact e
   ·rw [if_neg hb]
    exact sm b o (by rw [bU hb];exact e)
  obtain ⟨S2,sm2⟩:=S.adopt (i:=i) sH hi (by rw [bU na] at hn;exact hn) (ss a _ ha) (rr.mono ss) fl
  exact lD I2 (by rw [C.sc.n];exact C.sc.nd) (by rw [C.sc.n];exact hN) hy.1 rv (fun s2 I3=>⟨_,_,I3,q _ _ _ S2 sm2⟩) hy.2
end
end ES
namespace EV
def Md (gs:List E):E:=fun δ=>(evs gs δ).bind eG
def qR (k:Int):List D->R D
 | [.lst ds]=>match intsOf ds with
  | some []=>.ok (.int k)
  | some (n::ns)=>.ok (.int (ns.foldl min n))
  | none=>.bad
 | _=>.bad
def pj:List D->R D
 | [.lst ds]=>eG ds
 | [.tup ds]=>eG ds
 | _=>.bad
def boolsOf:List D->Option (List Bool)
 | []=>some []
 | .bl b::r=>(boolsOf r).map (b::·)
 | _=>none
def Ir:List D->R D
 | [.lst ds]=>match boolsOf ds with | some bs=>.ok (.bl (bs.any id)) | none=>.bad
 | _=>.bad
def EL (i:Nat) (δ:Dt) (ds:List D) (r:R D):O:=match r with
 | .ok (.tup es)=>if D.flats es=true/\ds.length+es.length<=100000 then .nx (δ.set i (some (.own (ds++es)))) else .bad
 | .ex C=>.ex C (noOwn δ)
 | _=>.bad
def gK (i:Nat) (g:E):S:=fun δ=>jt i δ fun ds=>EL i δ ds (g (view δ))
theorem Ed:Md gs δ=(evs gs δ).bind eG:=rfl
theorem BW:gK i g δ=jt i δ fun ds=>EL i δ ds (g (view δ)):=rfl
end EV
namespace ES
open PySem PySem.Spec PyProof.Rows L2 EV
unseal SE ST SW SA SS SSs SI SO
section
variable {X:Cx} {N:List Str} {e:Expr} {g:E} {pos:Pos}
theorem NP (h:SA X es gs) (hl:es.length<=1000) (hg:gs.length=es.length:=by rfl):FE X (.List es pos) (Md gs) :=
 PE.weak (ze h) fun σ H Q ⟨δ,hσ,q⟩=>⟨δ,hσ,by
  unfold Md at q
  cases e:evs gs δ with
  | ok ds =>
   have hd:ds.length=gs.length:=aV.evs_len e
   rw [e] at q
   simp only [R.bind,eG] at q
   refine fun vs H1 s1 rs=>⟨by rw [rs.length,hd,hg];exact Nat.le_of_lt (jc hl),fun p hp => ?_⟩
   split at q
   ·rename_i fl
    have q':∀ a xs H',aB H H'->H a=none->H' a=some (.lst xs)->Reps X.K X.mg H' xs ds->EV.D.flats ds=true->Q (.ref a) H':=q
    exact q' p vs _ (s1.trans (aH hp _)) (by
     cases z:H p with
     | none=>rfl
     | some o=>rw [s1 p o z] at hp;cases hp) aQ (rs.mono (aH hp _)) fl
   ·exact False.elim q
  | ex C=>rw [e] at q;exact q
  | bad=>rw [e] at q;exact False.elim q⟩
end
end ES
namespace ES
open PySem PySem.Spec PyProof.Rows L2 EV
unseal SE ST SW SA SS SSs SI SO
section
variable {prog:Program} {w:World} {A:Around} {R:Result->Shared->Prop} {I:Addr} {fp wr:List Addr} {n:Nat} {P:Nat->Value->Prop} {St:Nat->Heap->Prop}
abbrev dfl (d:Value):List (Str×Value):=[(Str.ofString "default",d)]
theorem qt:(toString "min"++toString ".loop":String)="min.loop":=by decide
theorem zT (W:Walks prog w A.in1 I fp wr n P St) (bt:Nat->Nat->Bool) (hcmp:CmpOf prog w A.in1 .Lt P bt) (S:Addr) (hSf:S∉fp) :
  ∀ (k j:Nat) (s:Shared) (vb:Value) (c:Nat),n - (j+1)=k->j+1<=n->St (j+1) s.heap->P (argBest bt j) vb->s.heap.get? S=some { cls:=.type "list",dict:=none,data:=.seq #[vb,vb] c,slots := #[] } ->
   (∀ v h' tk,P (argBest bt (n - 1)) v->(∀ b o,b∉wr->b≠S->s.heap.get? b=some o->h'.get? b=some o)->R (.ok (.ret v)) { s with heap:=h',toks:=tk }) ->
   codeAny ↥16 A (.builtin "min.loop" ⟨[.ref I,.none,.ref S],dfl d⟩) R s:=by
 have hSw:S∉wr:=fun z=>hSf (W.sub _ z)
 intro k
 induction k with
 | zero =>
  intro j s vb c hk hj hst hPb hS hR
  have hin:j+1=n:=⋯
  refine codeAny_builtin PySem.F.entry_min_loop ?_;rw [Around.under_plainId PySem.F.plain_min_loop _]
  (show wpAny _ A.in1 (seqItems? (.ref S) >>= _) _ _ s);refine wpAny_bind (wpAny_seqItems hS rfl ?_)
  (show wpAny _ A.in1 (tryCatch (pyNext (.ref I)) _ >>= _) _ _ s);refine wpAny_bind (wpAny_tryCatch (W.done s _ _ (hin▸hst) fun h' tk hk' => ?_))
  have hS':=hk' S _ hSw hS
  (show wpAny _ A.in1 (updateSeq S (fun _ => #[]) >>= _) _ _ _);refine wpAny_bind ?_;refine wpAny_updateSeq hS' rfl (wpAny_bind (wpAny_letGo (wpAny_pure ?_)))
  exact hR vb _ tk (by rw [<- hin];exact hPb) fun b o hbw hbS e=>(Heap.get?_update_other _ _ (Ne.symm hbS)).trans (hk' b o hbw e)
 | succ k ih =>
  intro j s vb c hk hj hst hPb hS hR
  have hlt:j+1<n:=⋯
  refine codeAny_builtin PySem.F.entry_min_loop ?_;rw [Around.under_plainId PySem.F.plain_min_loop _]
  (show wpAny _ A.in1 (seqItems? (.ref S) >>= _) _ _ s);refine wpAny_bind (wpAny_seqItems hS rfl ?_)
  (show wpAny _ A.in1 (tryCatch (pyNext (.ref I)) _ >>= _) _ _ s);refine wpAny_bind (wpAny_tryCatch (W.item (j+1) s _ _ hlt hst fun v h' tk hP hst' hk' => ?_))
  have hS':=hk' S _ hSw hS
  (show wpAny _ A.in1 (tryCatch (holding [v,v] (richCompare .Lt v vb >>= _)) _ >>= _) _ _ _);refine wpAny_bind (wpAny_tryCatch (wpAny_holding (wpAny_bind (hcmp (j+1) (argBest bt j) v vb _ _ _ hP hPb ?_))))
  refine wpAny_bind (wpAny_holding (wpAny_truthy_bool ?_));refine wpAny_bind (wpAny_letGo (wpAny_pure ?_))
  cases hb:bt (j+1) (argBest bt j) with
  | true =>
   simp only [if_true];refine wpAny_bind ?_;refine wpAny_updateSeq hS' rfl (wpAny_bind (wpAny_letGo ?_));rw [qt]
   refine wpAny_pure ⟨plainId_quiet PySem.F.plain_min_loop _,ih (j+1) _ v _ ⋯ hlt (W.frame _ _ _ hst' fun b hbf o e => ?_) (by simp only [argBest,hb,if_true];exact hP) (Heap.get?_update_self _ hS' rfl) fun v' h'' tk'' hP' hk'' => ?_⟩
   ·exact (Heap.get?_update_other _ _ (fun z:S=b=>hSf (by rw [z];exact hbf))).trans e
   ·exact hR v' h'' tk'' hP' fun b o hbw hbS e=>hk'' b o hbw hbS ((Heap.get?_update_other _ _ (Ne.symm hbS)).trans (hk' b o hbw e))
  | false =>
   simp only [Bool.false_eq_true,if_false];refine wpAny_bind (wpAny_letGo ?_);rw [qt]
   exact wpAny_pure ⟨plainId_quiet PySem.F.plain_min_loop _,ih (j+1) _ vb c ⋯ hlt hst' (by simp only [argBest,hb,Bool.false_eq_true,if_false];exact hPb) hS' fun v' h'' tk'' hP' hk''=>hR v' h'' tk'' hP' fun b o hbw hbS e=>hk'' b o hbw hbS (hk' b o hbw e)⟩
theorem xA (W:Walks prog w A.in1 I fp wr n P St) (bt:Nat->Nat->Bool) (hcmp:CmpOf prog w A.in1 .Lt P bt) (S:Addr) (hSf:S∉fp) (hst:St 0 s.heap)
  (hS:s.heap.get? S=some { cls:=.type "list",dict:=none,data:=.seq #[] c,slots := #[] })
  (h0:n=0->∀ h' tk,(∀ b o,b∉wr->s.heap.get? b=some o->h'.get? b=some o)->R (.ok (.ret d)) { s with heap:=h',toks:=tk })
  (hR:0<n->∀ v h' tk,P (argBest bt (n - 1)) v->(∀ b o,b∉wr->b≠S->s.heap.get? b=some o->h'.get? b=some o)->R (.ok (.ret v)) { s with heap:=h',toks:=tk }) :
  codeAny ↥16 A (.builtin "min.loop" ⟨[.ref I,.none,.ref S],dfl d⟩) R s:=by
 have hSw:S∉wr:=fun z=>hSf (W.sub _ z)
 refine codeAny_builtin PySem.F.entry_min_loop ?_;rw [Around.under_plainId PySem.F.plain_min_loop _]
 (show wpAny _ A.in1 (seqItems? (.ref S) >>= _) _ _ s);refine wpAny_bind (wpAny_seqItems hS rfl ?_)
 by_cases hn:n=0
 ·(show wpAny _ A.in1 (tryCatch (pyNext (.ref I)) _ >>= _) _ _ s);refine wpAny_bind (wpAny_tryCatch (W.done s _ _ (hn▸hst) fun h' tk hk' => ?_))
  (show wpAny _ A.in1 (rule _ >>= _) _ _ _);refine wpAny_bind (wpAny_rule (wpAny_pure ?_))
  exact h0 hn h' tk hk'
 ·(show wpAny _ A.in1 (tryCatch (pyNext (.ref I)) _ >>= _) _ _ s);refine wpAny_bind (wpAny_tryCatch (W.item 0 s _ _ ⋯ hst fun v h' tk hP hst' hk' => ?_))
  have hS':=hk' S _ hSw hS
  (show wpAny _ A.in1 (updateSeq S (fun _ => #[v,v]) >>= _) _ _ _);refine wpAny_bind ?_;refine wpAny_updateSeq hS' rfl ?_;rw [qt]
  refine wpAny_pure ⟨plainId_quiet PySem.F.plain_min_loop _,zT W bt hcmp S hSf _ 0 _ v _ rfl ⋯ (W.frame _ _ _ hst' fun b hbf o e => ?_) hP (Heap.get?_update_self _ hS' rfl) fun v' h'' tk'' hP' hk'' => ?_⟩
  ·exact (Heap.get?_update_other _ _ (fun z:S=b=>hSf (by rw [z];exact hbf))).trans e
  ·exact hR ⋯ v' h'' tk'' hP' fun b o hbw hbS e=>hk'' b o hbw hbS ((Heap.get?_update_other _ _ (Ne.symm hbS)).trans (hk' b o hbw e))
end
section
variable {prog:Program} {w:World} {A:Around} {E:Value->Shared->Prop} {s:Shared} {l:Addr} {xs:Array (Int×Tok)}
theorem HA (h1:builtinKind i=none) (h2:plainId i=true) (h3:entryFor table i=some f) (h4:argsOk i ⟨us,ks⟩)
  (h:wpAny ↥16 A.in1 (f ⟨us,ks⟩) (fun x s'=>match x with | .done r=>(match (Except.ok r:Result) with | .ok (.ret v)=>Q v s' | .ok _=>False | .error e=>E e s') | .again c=>c.quiet=true/\codeAny ↥16 A c (fun r s'=>match r with | .ok (.ret v)=>Q v s' | .ok _=>False | .error e=>E e s') s') E s) :
  wpAny ↥16 A (call (.builtin i) us ks) Q E s:=by
 refine wpAny_call (codeAny_call_builtin h2 h3 ?_);simp only [checkBuiltinCall,h1]
 cases q:Manifest.signature? i with
 | none=>exact wpAny_pure h
 | some sg=>simp only [show Bind.checkArgs i sg ⟨us,ks⟩=pure () by simpa only [argsOk,q] using h4];exact wpAny_pure h
theorem Bd (a v:Value):argsOk "min" ⟨[a],dfl v⟩:=by unfold argsOk;kernel_rfl
theorem zU (hh:A.handled=none) (hl:s.heap.IsList l (intItems xs))
  (h:∀ v h' tk,(xs.size=0/\v=d\/0<xs.size/\(intItems xs)[argBest (fun i j=>decide (numAt xs i<numAt xs j)) (xs.size - 1)]? = some v)->(∀ b o,s.heap.get? b=some o->h'.get? b=some o)->Q v { s with heap:=h',toks:=tk }) :
  wpAny ↥16 A (call (.builtin "min") [.ref l] (dfl d)) Q E s:=by
 refine HA PySem.F.kind_min PySem.F.plain_min PySem.F.entry_min (Bd _ _) ?_
 (show wpAny _ A.in1 (Builtin.Builtins.bindParams "min" ["key","default"] 0 ⟨[],dfl d⟩ >>= _) _ _ s);refine wpAny_bind (wpAny_of_eq (show Builtin.Builtins.bindParams "min" ["key","default"] 0 ⟨[],dfl d⟩=pure [none,some d] from rfl) ?_)
 refine wpAny_bind (wpAny_pure ?_);refine wpAny_bind (iter_intList hl fun s₂ e st hfp hlI => ?_)
 subst e
 refine wpAny_bind (wpAny_newObj_type ?_);rw [qt]
 have hz:(intItems xs).size=xs.size:=by simp [intItems]
 refine wpAny_pure ⟨plainId_quiet PySem.F.plain_min_loop _,xA (Walks.list (A:=A.in1) hh _ l hlI (intItems xs)) _ (CmpOf.ints_lt (numAt xs) (fun _ _=>intItems_at)) _ (fun z=>Nat.lt_irrefl _ (hfp _ z)) ((Walks.list (prog:=prog) (w:=w) (A:=A.in1) hh _ l hlI (intItems xs)).frame _ _ _ st fun b _ o e=>Heap.get?_push_of_some _ e) (Heap.get?_push_size _ rfl) (fun z h' tk hk => ?_) fun z v h' tk hP hk => ?_⟩
 ·exact h d h' tk (.inl ⟨by rw [<- hz];exact z,rfl⟩) (old_kept (l:=l) fun b o hb e=>hk b o hb (Heap.get?_push_of_some _ e))
 ·exact h v h' tk (.inr ⟨by rw [<- hz];exact z,by rw [<- hz];exact hP⟩) (old_kept (l:=l) fun b o hb e=>hk b o hb (Nat.ne_of_lt (Heap.lt_size e)) (Heap.get?_push_of_some _ e))
end
theorem wb {f:Nat->Int} {n:Int} {ns:List Int} (h0:f 0=n) (h1:∀ i,i<ns.length->ns[i]? = some (f (i+1))):∀ k,k<=ns.length->f (argBest (fun i j=>decide (f i<f j)) k)=(ns.take k).foldl min n
 | 0,_=>by rw [List.take_zero];exact h0
 | k+1,hk=>by
  have ih:=wb h0 h1 k ⋯
  rw [List.take_succ,h1 k ⋯,List.foldl_append]
  show f (if decide (f (k+1)<f (argBest _ k))=true then k+1 else argBest _ k)=min ((ns.take k).foldl min n) (f (k+1))
  rw [<- ih]
  by_cases g:f (k+1)<f (argBest (fun i j=>decide (f i<f j)) k)
  ·rw [if_pos (by simpa using g)];omega
  ·rw [if_neg (by simpa using g)];omega
section
variable {X:Cx} {N:List Str} {e:Expr} {g:E} {pos:Pos}
theorem KR:NoX (qR k):=fun ds C z=>by
 unfold qR at z
 split at z
 ·split at z<;>cases z
 ·cases z
theorem LL (hc:X.calm=true) {k:Int} {t:Tok} (pins:List ↥11) (s:Shared) (σ:L2.St) (H:Hp) (xs:List V) (us:List Value) (Q:VK) (I:Inv X pins σ H s) (rs:Vals xs us) (h:rC X (qR k) xs H Q) :
  wpAny ↥4 X.A (call (.builtin "min") us (dfl (.int k t))) (EP X pins σ Q) X.xe s:=by
 obtain ⟨ds,d,r,e,q⟩:=h
 unfold qR at e
 split at e
 ·rename_i ds'
  cases hns:intsOf ds' with
  | none=>rw [hns] at e;cases e
  | some ns =>
   obtain ⟨v,rfl,r1⟩:=lj r
   cases r1 with
   | @lst a ys _ hq rr =>
    obtain ⟨its,rv,pl,_⟩:=I.list hq
    obtain ⟨ts,e1,e2⟩:=mQ hns rr rv
    cases rs with
    | cons h1 h2 =>
     cases h2
     cases h1
     have hl:s.heap.IsList a (intItems ts.toArray):=by
      have:=pl.isList
      rw [e1] at this
      rw [show intItems ts.toArray=(ts.map fun p=>Value.int p.1 p.2).toArray by simp [intItems]]
      exact this
     refine zU (I.ok.hd hc) hl fun v h' tk hv hk => ?_
     have fin:∀ (m:Int) (t':Tok),v=.int m t'->d=.int m->EP X pins σ Q v { s with heap:=h',toks:=tk }:=fun m t' ev ed=>by
      subst ev ed
      exact ⟨.int m,H,I.kept (t':=tk) hk,⟨_,rfl⟩,q _ _ ↥31 (.int _)⟩
     have hlen:ts.length=ns.length:=by rw [<- e2,List.length_map]
     cases ns with
     | nil =>
      rw [hns] at e
      rcases hv with ⟨_,hv⟩ | ⟨z,_⟩
      ·exact fin k t hv (R.ok.inj e).symm
      ·rw [List.size_toArray,hlen] at z;exact absurd z (Nat.lt_irrefl 0)
     | cons n ns =>
      rw [hns] at e
      rcases hv with ⟨z,_⟩ | ⟨_,hv⟩
      ·rw [List.size_toArray] at z;rw [z] at hlen;cases hlen
      ·obtain ⟨t',ev⟩:=intItems_at hv
       have at_:∀ i,numAt ts.toArray i=((n::ns)[i]?).getD 0:=fun i=>by
        rw [<- e2];unfold numAt;simp
       have bm:=wb (f:=numAt ts.toArray) (n:=n) (ns:=ns) (by rw [at_];rfl) (fun i hi=>by rw [at_];simp [List.getElem?_eq_getElem hi]) ns.length ↥28
       rw [List.take_length] at bm
       have hs:ts.toArray.size - 1=ns.length:=by rw [List.size_toArray,hlen,List.length_cons];omega
       rw [hs,bm] at ev
       exact fin _ t' ev (R.ok.inj e).symm
 ·cases e
theorem LD (hc:X.calm=true) (G:Gb X "min") (hm:X.mg "min"=none) {j} (ha:SA X [e] [g])
  (he:backTo pos (starEach [e] X.env)=↥34::backTo pos (starEach [] X.env):=by rfl) (hpl:(backTo pos (starEach [e] X.env)).any (·.1)=false:=by rfl) :
  SE X (.Call (.Name "min" p) [e] [⟨some "default",.Constant (.int k) j cp,kp⟩] pos) (EV.call (qR k) [g]):=by
 intro pins s σ H Q I ⟨δ,hσ,q⟩
 refine wpAny_Call_Name_kw (mL I G.g hm boot_min ?_ G.n G.d)
 refine callWith_kw (thn (ha pos pins s σ H (fun vs H'=>∃ ds,aB H H'/\Reps X.K X.mg H' vs ds/\RQ X σ H' (qR k ds) Q) I ⟨δ,hσ,?_⟩) fun us s1 ⟨vs,H1,I1,r1,ds,s01,rp,q1⟩ => ?_) he hpl
 ·exact (RA.bind q).to fun vs H' s ⟨s',ds,rs,q⟩=>⟨ds,s',rs,q⟩
 ·refine kws_cons (thn (af pins s1 σ H1 (fun v H'=>v=.int k/\aB H1 H') I1 ⟨δ,hσ.mono s01,fun v H' s' r=>by cases r;exact ⟨rfl,s'⟩⟩) fun u s2 ⟨v,H2,I2,rv,ev,sm⟩=>kws_nil ?_)
  subst ev
  obtain ⟨t,rfl⟩:=rv
  obtain ⟨ds',d,r,e',q'⟩:=RQ.cl KR rp q1
  exact LL hc pins s2 σ H2 vs us Q I2 r1 ⟨ds',d,r.mono sm,e',fun v H' s'=>q' v H' (sm.trans s')⟩
end
end ES
namespace ES
open PySem PySem.Spec PyProof.Rows L2 EV
unseal SE ST SW SA SS SSs SI SO
set_option maxRecDepth 8000 in
theorem HP (a:Addr) (xs:Array Value) (k:Nat) (t:Addr) (ys:Array Value) (m:Nat) (dd:Option Addr) (sl:Array (Option Value)) (z0:¬(!xs.isEmpty&&Builtin.List.listTooLong (xs.size+ys.size))=true) (z1:xs.size<=sizeLine) (z2:xs.size+ys.size<=sizeLine+1) :
  Meets (Builtin.«list.extend» ⟨[.ref a,.ref t],[]⟩) (fun _ R s=>s.heap.get? a=some { cls:=.type "list",dict:=none,data:=.seq xs k,slots := #[] }/\s.heap.get? t=some { cls:=.type "tuple",dict:=dd,data:=.seq ys m,slots:=sl }/\R (.ok (.ret Value.none)) { s with heap:=s.heap.update a (Obj.mapSeq fun x=>x++ys),toks:=s.toks }) :=
 .of_wp fun prog w A R s q=>by
  obtain ⟨hp,g,d,tk,os⟩:=s;obtain ⟨ha,ht,q⟩:=q;have f1:=PySem.AutoSeq1.idx_int;have f2:=PySem.AutoSeq1.sub_tuple_tuple;have f3:=PySem.AutoSeq1.sub_list_list;have f4:=PySem.AutoSeq1.sub_tuple_list;have f5:=PySem.AutoSeq1.sub_list_tuple
  have z3:(xs++ys).size<=sizeLine+1:=by rw [Array.size_append];exact z2
  wp_walk using (wpAny_updateSeq ha rfl (hz:=z1) (_hz':=z3)),PySem.AutoSeq1.wpAny_loadPart' ha,PySem.AutoSeq1.wpAny_loadPart' ht;exact ⟨_,rfl,q⟩
section
variable {X:Cx} {N:List Str} {e:Expr} {g:E} {pos:Pos}
def MZ (X:Cx):V->List V->Hp->VK->Prop:=fun x vs H Q=>∃ l b xs zs,x=.ref l/\vs=[.ref b]/\H l=some (.lst xs)/\SqT X.K H b zs/\xs.length+zs.length<=sizeLine/\Q .non (upd H l (.lst (xs++zs)))
theorem Hw:MtM X "list.extend" (MZ X):=by
 intro pins s σ H x vs v us Q I rx rv h
 obtain ⟨l,b,xs,zs,rfl,rfl,hH,hB,hz,q⟩:=h
 cases rx
 obtain ⟨u,rfl,ru⟩:=rv.one
 cases ru
 obtain ⟨z,its,n,r,hl,e⟩:=I.lstM hH
 obtain ⟨its2,r2,⟨⟨cl,dd,da,sl⟩,e2,hc,n2,hd⟩,hl2⟩:=I.tuple hB
 simp only at hc hd
 subst hc hd
 have hl3:=r2.length
 have hsz:its.toArray.size+its2.toArray.size<=sizeLine:=by rw [List.size_toArray,List.size_toArray];omega
 have hlong:¬ (!its.toArray.isEmpty&&Builtin.List.listTooLong (its.toArray.size+its2.toArray.size))=true:=by rw [C8 hsz,Bool.and_false];exact Bool.false_ne_true
 refine call_meets PySem.F.slot_list_extend ⟨_,e,rfl⟩ PySem.F.entry_list_extend (PySem.F.args_list_extend_2 _ _) (HP l its.toArray n b its2.toArray n2 dd sl hlong (by rw [List.size_toArray];omega) ⋯) ⟨e,e2,?_⟩
 exact ⟨.non,_,I.lset (its':=its++its2) hH e (by simp) (r.append r2) (by rw [List.length_append];omega),rfl,q⟩
theorem Cn (C:Sx X N) (i:Nat) (hN:N[i]? = some x) (he:SE X e g)
  (hbase:attributeBase (.Name x p1) "extend" X.env (eval (.Name x p1) X.env)=eval (.Name x p1) X.env:=by rfl)
  (hfew:((backTo p3 (starEach [e] X.env)).all (fun x => !x.1)&&(backToKw p3 (keywordEach [] X.env)).all (fun x=>x.1.isSome)
   && decide ([e].length+([]:List Keyword).length+(if ([]:List Keyword).isEmpty then 0 else 1)<30))=true:=by rfl)
  (hline:(p2.endLine == p3.line)=true:=by rfl) (hs:starEach [e] X.env=[↥34]:=by rfl)
  (hsw:swapsWith (.Call (.Attribute (.Name x p1) "extend" p2) [e] [] p3) none pos.line X.env=pure false:=by rfl) :
  SS X (.Expr (.Call (.Attribute (.Name x p1) "extend" p2) [e] [] p3) pos) (gK i g):=by
 have hm:x∈N:=List.mem_of_getElem? hN
 refine PS.weak (uq (Kt PySem.F.plainAttrs_list PySem.F.slot_list_extend PySem.F.type_list_extend Hw (mi (i:=i) (by rw [C.sc.n];exact hN) (C.sc.vis x hm) (C.sc.dbg x hm).1 (C.sc.dbg x hm).2) (ko (ng he) mr hs) hbase hfew hline hs (by rfl)) hsw) fun D σ H ⟨δ,os,S,q⟩ => ?_
 unfold gK jt at q
 split at q
 ·rename_i ds ei
  obtain ⟨a,ha⟩:=S.own i ds ei
  obtain ⟨xs,ds',h1,h2,h3,h4⟩:=S.lst _ ha
  rw [ei] at h3
  cases h3
  refine ⟨.ref a,h2,.inl ⟨rfl,xs,SqL.of h1⟩,δ,os,S,?_,?_⟩
  ·intro d ed
   unfold EL at q
   rw [ed] at q
   cases d with
   | tup es =>
    simp only at q
    split at q
    ·rename_i z;exact z.1
    ·exact False.elim q
   | _=>exact False.elim q
  ·unfold EL at q
   cases r:g (view δ) with
   | ok d =>
    rw [r] at q
    cases d with
    | tup es =>
     simp only at q
     split at q
     ·rename_i z
      intro v H' S' sm rp
      obtain ⟨xs',ds',k1,k2,k3,k4⟩:=S'.lst _ ha
      rw [ei] at k3
      cases k3
      cases rp with
      | @tup b ys _ hq rr =>
       refine ⟨a,b,xs',ys,rfl,rfl,k1,gC (aF _ _) hq,by rw [k4.length,rr.length,sizeLine_eq];omega,?_⟩
       have S2:=S'.write ha (k4.append rr)
       exact q _ _ _ S2 (by rw [lV (fc ha)];exact sm)
     ·exact False.elim q
    | _=>exact False.elim q
   | ex C=>rw [r] at q;exact fun Ca hc H' s' st=>q σ H' s' st Ca hc
   | bad=>rw [r] at q;exact False.elim q
 ·exact False.elim q
theorem HN (G:Gb X "list") (hm:X.mg "list"=none) (h:SE X e g) (he:starEach [e] X.env=[↥34]:=by rfl) (hpl:(backTo pos (starEach [] X.env)).any (·.1)=false:=by rfl) :
  FE X (.Call (.Name "list" p) [e] [] pos) (EV.call pj [g]):=by
 refine PE.weak (rR gU G.g hm boot_list (ko h mr he) G.n G.d he hpl) fun σ H Q ⟨δ,hσ,q⟩=>⟨δ,hσ,?_⟩
 unfold EV.call at q
 have fin:∀ {H':Hp} {a:Addr} {ys:List V} {ds:List D},RF X σ H (eG ds) Q->aB H H'->(SqL X.K H' a ys\/SqT X.K H' a ys)->Reps X.K X.mg H' ys ds->∃ p zs,[V.ref a]=[V.ref p]/\(SqL X.K H' p zs\/SqT X.K H' p zs)/\∀ l,H' l=none->Q (.ref l) (upd H' l (.lst zs)):=by
  intro H' a ys ds q sm hq rr
  unfold eG at q
  split at q
  ·rename_i fl
   have q':∀ a xs H'',aB H H''->H a=none->H'' a=some (.lst xs)->Reps X.K X.mg H'' xs ds->EV.D.flats ds=true->Q (.ref a) H'':=q
   exact ⟨a,ys,rfl,hq,fun l hl=>q' l ys _ (sm.trans (aH hl _)) (by
    cases z:H l with
    | none=>rfl
    | some o=>rw [sm l o z] at hl;cases hl) aQ (rr.mono (aH hl _)) fl⟩
  ·exact False.elim q
 cases r:g δ with
 | ok d =>
  have ev:evs [g] δ=.ok [d]:=by unfold evs;rw [r];rfl
  rw [ev] at q
  simp only [R.bind] at q
  intro v H' sm rp
  cases d with
  | tup ds =>
   cases rp with
   | @tup a ys _ hq rr=>exact fin q sm (.inr hq) rr
  | lst ds =>
   cases rp with
   | @lst a ys _ hq rr=>exact fin q sm (.inl hq) rr
  | _=>exact False.elim q
 | ex C =>
  have ev:evs [g] δ=.ex C:=by unfold evs;rw [r];rfl
  rw [ev] at q
  exact q
 | bad =>
  have ev:evs [g] δ=.bad:=by unfold evs;rw [r];rfl
  rw [ev] at q
  exact False.elim q
theorem Nw:NoX Ir:=fun ds C z=>by
 unfold Ir at z
 split at z
 ·split at z<;>cases z
 ·cases z
theorem pf:∀ {xs:List V} {ds:List D} {bs:List Bool} {us:List Value},boolsOf ds=some bs->Reps X.K X.mg H xs ds->Vals xs us->us=bs.map Value.bool
 | _,[],_,_,e,.nil,.nil=>by cases e;rfl
 | _,.bl b::r,bs,_,e,.cons h t,.cons h' t'=>by
  cases h
  unfold boolsOf at e
  cases q:boolsOf r with
  | none=>rw [q] at e;cases e
  | some ms =>
   rw [q] at e
   have e':b::ms=bs:=Option.some.inj e
   subst e'
   cases h'
   rw [pf q t t',List.map_cons]
 | _,.non::_,_,_,e,_,_=>by cases e
 | _,.int _::_,_,_,e,_,_=>by cases e
 | _,.str _::_,_,_,e,_,_=>by cases e
 | _,.tup _::_,_,_,e,_,_=>by cases e
 | _,.lst _::_,_,_,e,_,_=>by cases e
 | _,.own _::_,_,_,e,_,_=>by cases e
 | _,.ty _::_,_,_,e,_,_=>by cases e
 | _,.cls _::_,_,_,e,_,_=>by cases e
 | _,.exc _::_,_,_,e,_,_=>by cases e
 | _,.ins _ _::_,_,_,e,_,_=>by cases e
theorem NW (hc:X.calm=true):gB X (.builtin "any") (rC X Ir):=by
 intro pins s σ H xs us Q I rs ⟨ds,d,r,e,q⟩
 unfold Ir at e
 split at e
 ·rename_i ds'
  cases hbs:boolsOf ds' with
  | none=>rw [hbs] at e;cases e
  | some bs =>
   rw [hbs] at e
   cases e
   obtain ⟨v,rfl,r1⟩:=lj r
   cases r1 with
   | @lst a ys _ hq rr =>
    obtain ⟨its,rv,pl,_⟩:=I.list hq
    have e1:=pf hbs rr rv
    cases rs with
    | cons h1 h2 =>
     cases h2
     cases h1
     have hl:=pl.isList
     rw [e1] at hl
     have hlt:a<s.heap.objs.size:=by obtain ⟨_,z,_⟩:=hl;exact Heap.lt_size z
     refine call_any_walk (wpAny_pyIter_list hl ⟨_,_,_,_,_,_,fun i=>(bs[i]?).getD false,rfl,Walks.list (A:=X.A.in1) (I.ok.hd hc) _ a (Nat.ne_of_lt hlt) (bs.map Value.bool).toArray,⟨⟨_,Heap.get?_push_size _ rfl,rfl,rfl⟩,hl.push _⟩,?_,fun h' tk hk => ?_⟩)
     ·intro i v s' Q' E' hP hQ
      have hQ':Q' ((bs[i]?).getD false) s':=hQ
      have hP':((bs.map Value.bool).toArray)[i]? = some v:=hP
      rw [List.getElem?_toArray,List.getElem?_map] at hP'
      cases hb:bs[i]? with
      | none=>rw [hb] at hP';cases hP'
      | some b =>
       rw [hb] at hP' hQ'
       cases hP'
       exact wpAny_truthy_bool hQ'
     ·have hold:∀ b o,s.heap.get? b=some o->h'.get? b=some o:=fun b o z=>hk b o (fun hm=>by
       rcases List.mem_cons.mp hm with e2 | hm
       ·exact absurd (e2▸Heap.lt_size z) (Nat.lt_irrefl _)
       ·cases hm) (Heap.get?_push_of_some _ z)
      have ea:(List.range (bs.map Value.bool).toArray.size).any (fun i=>(bs[i]?).getD false)=bs.any id:=by
       rw [List.size_toArray,List.length_map]
       apply Bool.eq_iff_iff.mpr
       simp only [List.any_eq_true,List.mem_range,id]
       constructor
       ·rintro ⟨i,hi,z⟩
        rw [List.getElem?_eq_getElem hi] at z
        exact ⟨_,List.getElem_mem hi,z⟩
       ·rintro ⟨b,hb,z⟩
        obtain ⟨i,hi,rfl⟩:=List.getElem_of_mem hb
        exact ⟨i,hi,by rw [List.getElem?_eq_getElem hi];exact z⟩
      rw [ea]
      exact ⟨.bl _,H,I.kept (t':=tk) hold,rfl,q _ _ ↥31 (.bl _)⟩
 ·cases e
end
end ES
namespace ES
open PySem PySem.Spec PyProof.Rows L2 EV
structure DA (K:PySem.W.Frag) (n:Str) (st:Stmt):Prop where
 ex:∃ f fd,PySem.W.nsIn K mainGlobals n=some (some (.ref f))/\Fun K n n st f fd
theorem H0 {K:PySem.W.Frag} {n:Str} {st:Stmt} {f:Addr} {oc:Value} {od an:Option Addr} {osl:Array (Option Value)} {kV doc pm cdv ct:Value} (a:PySem.W.nsIn K mainGlobals n=some (some (.ref f))) (l:K.lookup f=some ⟨oc,od,.func (PySem.W.fnOf n n (eA st) (ah st) (aa st) .none kV doc pm an cdv ct),osl⟩)
  (c:PySem.W.codeIn K cdv n=true) (k:PySem.W.keepIn K (.ref f)=true):DA K n st:=⟨_,_,a,mV l c k⟩
theorem DA.fn {P:Program} {w:World} {K:PySem.W.Frag} {h:Heap} {mg:Str->Option Value} {base:Heap} {n:Str} {st:Stmt} {N G ps:List Str} {k a m:Nat} {g:S}
  (q:DA K n st) (KX:K.In h) (GG:h.Ns mainGlobals mg) (S:ScF N G ps (aa st)) (hn:ps.length=a) (hm:N.length=m) (B:∀ {f:Addr} {fd:FuncData},Fun K n n st f fd->Binds K fd ps [])
  (hbody:∀ X:Cx,Room k (at5 X P w K mg base).A->Lp (at5 X P w K mg base)->Own (at5 X P w K mg base)->Pl (at5 X P w K mg base) N G->(at5 X P w K mg base).env.scope=aa st->SSs (at5 X P w K mg base) (ah st) g) :
  FnP P w K mg base n (k+1) (fn a m g):=by
 obtain ⟨f,fd,a,F⟩:=q.ex
 exact Au (oW F S hn hm hbody) F.kp (PySem.W.mg_of KX GG a) (B F)
theorem FnP.c (F:FnP X.prog X.w X.K X.mg X.base x k f) (hr:Room j X.A) (h:k<=j:=by decide):Callee X x f:=F.callee hr h
end ES
local macro_rules | `(tactic| walk_at "S")=>`(tactic| exact ⟨⟨rfl,rfl,rfl,by decide +kernel,by decide +kernel,by decide +kernel,by decide +kernel⟩,by decide +kernel,by decide +kernel,by decide +kernel,by decide +kernel⟩)
namespace EV
def Od:List Nat->Dt->List D->Option Dt
 | [],δ,[]=>some δ
 | i::is,δ,d::ds=>Od is (δ.set i (some d)) ds
 | _,_,_=>none
end EV
namespace ES
open PySem PySem.Spec PyProof.Rows L2 EV
unseal SE ST SW SA SS SSs SI SO
section
variable {X:Cx}
end
end ES
namespace ES
open PySem PySem.Spec PyProof.Rows L2 EV
unseal SE ST SW SA SS SSs SI SO
def gIs:List Nat->TGs
 | []=>VO
 | i::is=>NI (uS i) (gIs is)
section
variable {X:Cx} {N:List Str} {e:Expr} {es:List Expr} {g:IT} {gb:S} {body:List Stmt} {is:List Nat} {pos:Pos}
theorem Tu:∀ {is:List Nat} {xs:List V} {ds:List D} {σ:L2.St} {δ δ2:Dt} {os:List (Nat×Addr)},StO X H σ δ os->Reps X.K X.mg ↥29 xs ds->Od is δ ds=some δ2->(∀ σ2 os2,StO X H σ2 δ2 os2->aB ↥29 (hide H os2)->Q σ2 H)->gIs is xs σ H Q
 | [],xs,ds,σ,δ,δ2,os,S,r,e,q=>by
  cases r with
  | nil=>cases e;exact ⟨rfl,q _ _ S ↥31⟩
  | cons _ _=>cases e
 | i::is,xs,ds,σ,δ,δ2,os,S,r,e,q=>by
  cases r with
  | nil=>cases e
  | cons ra rr =>
   obtain ⟨S2,s2⟩:=S.set (i:=i) ra
   exact ⟨_,_,rfl,Tu S2 (rr.mono s2) e fun σ2 os2 S3 s3=>q σ2 os2 S3 (s2.trans s3)⟩
end
end ES
namespace ES
open PySem PySem.Spec PyProof.Rows L2 EV
section
variable {X:Cx} {N G:List Str} {e e1 e2 e3 e4:Expr} {es:List Expr} {g g1 g2 g3 g4:E} {gs:List E} {x:Str} {p pos:Pos} {f:List D->R D}
theorem Pl.v (P:Pl X N G) (i:Nat) (h:N[i]? = some x:=by rfl):SE X (.Name x pos) (var i):=dD P.sc i h
theorem Pl.w (P:Pl X N G) (i:Nat) (h:G[i]? = some x:=by rfl):Gb X x:=P.gb _ (mG i h)
theorem Pl.set (P:Pl X N G) (i:Nat) (h:SE X e g) (hN:N[i]? = some x:=by rfl) (hsw:swapsWith e (some (.Name x p)) pos.line X.env=pure false:=by rfl):SS X (.Assign [.Name x p] e pos) (assign i g):=JU P.toSx i hN (P.sto _ (mG i hN)) h hsw
theorem Pl.ret (P:Pl X N G) (h:SE X e g):SS X (.Return (some e) pos) (ret g):=MW P.toSx h
theorem Pl.if_ {c:Expr} {gc:E} {body els:List Stmt} {gb ge:S} (P:Pl X N G) (hc:ST X c gc) (ha:SSs X body gb) (hb:SSs X els ge):SS X (.If c body els pos) (ifs gc gb ge):=Tj P.toSx hc ha hb
theorem Pl.xp (P:Pl X N G) (h:SE X e g) (hs:swapsWith e none pos.line X.env=pure false:=by rfl):SS X (.Expr e pos) (expr g):=Er P.toSx h hs
theorem Pl.y {j} (P:Pl X N G) (i:Nat) (h:N[i]? = some x:=by rfl):SE X (.Subscript (.Name x p1) (.Constant (.int k) j p2) pos) (bin oIx (var i) (con (.int k))):=oB (dD P.sc i h) af
theorem Pl.call (P:Pl X N G) (i:Nat) (c:Callee X x f) (ha:SA X (e::es) gs) (h:G[i]? = some x:=by rfl) (he:starEach (e::es) X.env=↥34::starEach es X.env:=by rfl) (hpl:(backTo pos (starEach es X.env)).any (·.1)=false:=by rfl) :
  SE X (.Call (.Name x p) (e::es) [] pos) (EV.call f gs):=mX c (P.gb _ (mG i h)) ha he hpl
theorem a1 (h1:SE X e1 g1) (s1:starEach [e1] X.env=(false,eval e1 X.env)::starEach [] X.env:=by rfl):SA X [e1] [g1]:=ag h1 bR s1
theorem a2 (h1:SE X e1 g1) (h2:SE X e2 g2) (s1:starEach [e1,e2] X.env=(false,eval e1 X.env)::starEach [e2] X.env:=by rfl) (s2:starEach [e2] X.env=(false,eval e2 X.env)::starEach [] X.env:=by rfl):SA X [e1,e2] [g1,g2]:=ag h1 (ag h2 bR s2) s1
theorem a3 (h1:SE X e1 g1) (h2:SE X e2 g2) (h3:SE X e3 g3) (s1:starEach [e1,e2,e3] X.env=(false,eval e1 X.env)::starEach [e2,e3] X.env:=by rfl) (s2:starEach [e2,e3] X.env=(false,eval e2 X.env)::starEach [e3] X.env:=by rfl) (s3:starEach [e3] X.env=(false,eval e3 X.env)::starEach [] X.env:=by rfl):SA X [e1,e2,e3] [g1,g2,g3]:=ag h1 (ag h2 (ag h3 bR s3) s2) s1
end
end ES
local macro_rules | `(tactic| walk_at "C")=>`(tactic| exact ⟨rfl,by decide +kernel,by decide +kernel,by decide +kernel,by decide +kernel,by decide +kernel,by decide +kernel,by decide +kernel,by decide +kernel,by decide +kernel⟩)
namespace ES
open PySem PySem.Spec PyProof.Rows L2 EV
unseal SE ST SW SA SS SSs SI SO
section
variable {X:Cx} {pos:Pos} {a b:Expr} {ga gb:E}
end
end ES
namespace EV
end EV
namespace ES
open PySem PySem.Spec PyProof.Rows L2 EV
unseal SE ST SW SA SS SSs SI SO
section
variable {X:Cx} {pos:Pos} {a b:Expr} {ga gb:E}
end
end ES
namespace EV
theorem jr:part (some e) δ=(e δ).bind fun d=>match d with | .int i=>.ok (some i) | _=>.bad:=rfl
end EV
namespace ES
open PySem PySem.Spec PyProof.Rows L2 EV
unseal SE ST SW SA SS SSs SI SO
section
variable {X:Cx} {pos p p2:Pos} {a e:Expr} {g:E} {lo hi:Option Expr} {gl gu:Option E}
structure IsW (X:Cx) (n:String) (C:Addr):Prop where
 mg:X.mg n=some (.ref C)
 cl:Cls X.K C
 ha:PySem.W.findIn X.K (.ref C) "__class__"=some (some (.builtin "object.__class__"))
 hn:PySem.W.specialIn X.K (.builtin "object.__class__") "__get__"=some (some (.builtin "getset_descriptor.__get__"))
 htk:PySem.W.takesIn X.K (.builtin "object.__class__")=some true
 hm:PySem.W.mroIn X.K C ↥35=some true
 kit:PySem.W.kitOne X.K (.ref C) (.ref C)=some true
end
end ES
namespace EV
def zf (x:PySem.Str) (i:Int):PySem.Str:=if i<=x.cps.size then x else ⟨(List.replicate (i.toNat - x.cps.size) 48).toArray++x.cps⟩
end EV
namespace ES
open PySem PySem.Spec PyProof.Rows L2 EV
unseal SE ST SW SA SS SSs SI SO
section
variable {X:Cx} {pos:Pos} {a b:Expr} {ga gb:E}
end
end ES
namespace EV
end EV
namespace ES
open PySem PySem.Spec PyProof.Rows L2 EV
unseal SE ST SW SA SS SSs SI SO
section
variable {X:Cx} {pos:Pos} {a b:Expr} {ga gb:E}
end
end ES
namespace EV
end EV
namespace ES
open PySem PySem.Spec PyProof.Rows L2 EV
unseal SE ST SW SA SS SSs SI SO
section
variable {X:Cx} {pos:Pos} {tg e a b:Expr} {g ga gb:E}
end
end ES
namespace EV
def LR:List D->R D
 | [.lst xs,.lst ys]=>if xs.length<=100000/\ys.length<=100000 then .ok (.lst (List.zipWith (fun x y=>.tup [x,y]) xs ys)) else .bad
 | _=>.bad
end EV
namespace ES
open PySem PySem.Spec PyProof.Rows L2 EV
abbrev IsZ (h:Heap) (z TI TO:Addr) (f0:Value) (b:Bool):Prop :=
 h.get? z=some { cls:=.type "zip",dict:=none,data:=.fields #[f0,.bool b,.bool false,.ref TI,.ref TO],slots := #[] }
section
variable {prog:Program} {w:World} {A:Around} {E:Value->Shared->Prop} {s:Shared}
theorem tY {M:Model} {a:Addr} {Q:Option Obj->Shared->Prop} (h:Q (s.heap.get? a) s):wpAny M A (loadIfAlive a) Q E s:=fun Γ p _=>h
theorem Ao {z TI TO T:Addr} {b:Bool} {Q:Bool->Shared->Prop} (hz:IsZ s.heap z TI TO (rawInt T) b) (hT:∃ o,s.heap.get? T=some o)
  (h:∀ h',IsZ h' z TI TO (rawInt T) true->Heap.SameBut z s.heap h'->Q false { s with heap:=h' }):wpAny ↥16 A (Builtin.SmallTypes.ownedTupleIsFree (.ref z)) Q E s:=by
 obtain ⟨o,ho⟩:=hT
 unfold Builtin.SmallTypes.ownedTupleIsFree
 refine wpAny_bind (wpAny_field hz rfl (x:=rawInt T) rfl ?_)
 show wpAny _ _ (loadIfAlive (Int.toNat (T:Int)) >>= _) _ _ _
 refine wpAny_bind (tY ?_)
 rw [Int.toNat_natCast,ho]
 simp only [Option.isNone_some,Bool.false_eq_true,if_false]
 refine wpAny_bind (wpAny_field hz rfl (x:=.bool b) rfl ?_)
 cases b with
 | true =>
  rw [if_neg ↥0]
  exact wpAny_pure (h s.heap hz (Heap.SameBut.refl ..))
 | false =>
  rw [if_pos ↥0]
  exact wpAny_bind (wpAny_setField_rec hz (by simp) fun h₁ hz₁ hs₁=>wpAny_pure (h h₁ hz₁ hs₁))
theorem pP {z TI TO T i1 i2 l1 l2:Addr} {b:Bool} {k1 k2:Nat} {xs ys:Array Value} {x y:Value} {Q:Value->Shared->Prop} (D:ZipApart z TI TO i1 i2 l1 l2)
  (hz:IsZ s.heap z TI TO (rawInt T) b) (hT:∃ o,s.heap.get? T=some o) (hTI:IsPair s.heap TI (.ref i1) (.ref i2))
  (h1:s.heap.IsListIter i1 l1 k1) (h2:s.heap.IsListIter i2 l2 k2) (hl1:s.heap.IsList l1 xs) (hl2:s.heap.IsList l2 ys) (hx:xs[k1]? = some x) (hy:ys[k2]? = some y)
  (hQ:∀ h',IsZ h' z TI TO (rawInt T) true->h'.IsListIter i1 l1 (k1+1)->h'.IsListIter i2 l2 (k2+1)->IsPair h' s.heap.objs.size x y->h'.objs.size=s.heap.objs.size+1 ->
   ↥38->Q (.ref s.heap.objs.size) { s with heap:=h' }) :
  wpAny ↥16 A (Builtin.«zip.__next__» ⟨[.ref z],[]⟩) (fun fin s'=>∃ v,fin=.done (.ret v)/\Q v s') E s:=by
 show wpAny _ _ (field (.ref z) 2 >>= _) _ _ _
 refine wpAny_bind (wpAny_field hz rfl (x:=.bool false) rfl ?_)
 show wpAny _ _ (field (.ref z) 3 >>= _) _ _ _
 refine wpAny_bind (wpAny_field hz rfl (x:=.ref TI) rfl ?_)
 refine wpAny_bind (wpAny_seqItems hTI rfl ?_)
 show wpAny _ _ (Builtin.SmallTypes.ownedTupleIsFree (.ref z) >>= _) _ _ _
 refine wpAny_bind (Ao hz hT fun h₁ hz₁ hs₁ => ?_)
 simp only [Bool.false_eq_true,if_false]
 refine wpAny_bind ?_
 simp only [Array.forIn_toList.symm,List.forIn_cons,List.forIn_nil]
 refine wpAny_bind (wpAny_bind (wpAny_holding ?_))
 show wpAny _ _ (Builtin.SmallTypes.nextOf (.ref i1) >>= _) _ _ _
 refine wpAny_bind (wpAny_nextOf_list_item (h1.extBut hs₁.extBut D.i1z) (hl1.extBut hs₁.extBut D.l1z) hx fun h₂ h1₂ hs₂=>wpAny_pure ?_)
 refine wpAny_pure ?_
 refine wpAny_bind (wpAny_bind (wpAny_holding ?_))
 show wpAny _ _ (Builtin.SmallTypes.nextOf (.ref i2) >>= _) _ _ _
 refine wpAny_bind (wpAny_nextOf_list_item ((h2.extBut hs₁.extBut D.i2z).extBut hs₂.extBut D.i12.symm) ((hl2.extBut hs₁.extBut D.l2z).extBut hs₂.extBut D.l2i1) hy fun h₃ h2₃ hs₃=>wpAny_pure ?_)
 refine wpAny_pure (wpAny_pure ?_)
 refine wpAny_bind (wpAny_newTuple ?_ (by show 2<=sizeLine;decide))
 have hsz:h₃.objs.size=s.heap.objs.size:=by rw [hs₃.1,hs₂.1,hs₁.1]
 have hz₃:IsZ h₃ z TI TO (rawInt T) true:=hs₃.extBut _ _ D.i2z.symm (hs₂.extBut _ _ D.i1z.symm hz₁)
 have hk₃:∀ c o,c≠z->c≠i1->c≠i2->s.heap.get? c=some o->h₃.get? c=some o:=fun c o c1 c3 c4 e=>hs₃.extBut _ _ c4 (hs₂.extBut _ _ c3 (hs₁.extBut _ _ c1 e))
 refine wpAny_pure ⟨_,rfl,?_⟩
 show Q (.ref h₃.objs.size) _
 rw [hsz]
 refine hQ (h₃.push { cls:=.type "tuple",data:=.seq #[x,y] }) (Heap.get?_push_of_some _ hz₃) ?_ ?_ ?_ ?_ ?_
 ·exact (h1₂.extBut hs₃.extBut D.i12).at fun o e=>Heap.get?_push_of_some _ e
 ·exact h2₃.at fun o e=>Heap.get?_push_of_some _ e
 ·rw [<- hsz];exact Heap.get?_push_size _ rfl
 ·rw [Heap.size_push,hsz]
 ·exact fun c o c1 c2 c3 e=>Heap.get?_push_of_some _ (hk₃ c o c1 c2 c3 e)
theorem qX {z TI TO T i1 i2 l1 l2:Addr} {b:Bool} {k1 k2:Nat} {xs ys:Array Value} {Q:Fin->Shared->Prop} (hh:A.handled=none) (D:ZipApart z TI TO i1 i2 l1 l2)
  (hz:IsZ s.heap z TI TO (rawInt T) b) (hT:∃ o,s.heap.get? T=some o) (hTI:IsPair s.heap TI (.ref i1) (.ref i2))
  (h1:s.heap.IsListIter i1 l1 k1) (h2:s.heap.IsListIter i2 l2 k2) (hl1:s.heap.IsList l1 xs) (hl2:s.heap.IsList l2 ys) (hend:xs[k1]? = none\/ys[k2]? = none)
  (hE:∀ h' e,↥38->(∃ o,h'.get? e=some o/\o.cls=.type "StopIteration")->E (.ref e) { s with heap:=h' }) :
  wpAny ↥16 A (Builtin.«zip.__next__» ⟨[.ref z],[]⟩) Q E s:=by
 show wpAny _ _ (field (.ref z) 2 >>= _) _ _ _
 refine wpAny_bind (wpAny_field hz rfl (x:=.bool false) rfl ?_)
 show wpAny _ _ (field (.ref z) 3 >>= _) _ _ _
 refine wpAny_bind (wpAny_field hz rfl (x:=.ref TI) rfl ?_)
 refine wpAny_bind (wpAny_seqItems hTI rfl ?_)
 show wpAny _ _ (Builtin.SmallTypes.ownedTupleIsFree (.ref z) >>= _) _ _ _
 refine wpAny_bind (Ao hz hT fun h₁ hz₁ hs₁ => ?_)
 simp only [Bool.false_eq_true,if_false]
 refine wpAny_bind ?_
 simp only [Array.forIn_toList.symm,List.forIn_cons,List.forIn_nil]
 refine wpAny_bind (wpAny_bind (wpAny_holding ?_))
 show wpAny _ _ (Builtin.SmallTypes.nextOf (.ref i1) >>= _) _ _ _
 cases hx:xs[k1]? with
 | none =>
  refine wpAny_bind (wpAny_nextOf_list_end hh (h1.extBut hs₁.extBut D.i1z) (hl1.extBut hs₁.extBut D.l1z) hx fun h₂ e hs₂ he => ?_)
  exact hE h₂ e (fun c o c1 c3 _ x=>hs₂ _ _ c3 (hs₁.extBut _ _ c1 x)) he
 | some x =>
  have hy:ys[k2]? = none:=by rcases hend with h | h;rw [hx] at h;cases h;exact h
  refine wpAny_bind (wpAny_nextOf_list_item (h1.extBut hs₁.extBut D.i1z) (hl1.extBut hs₁.extBut D.l1z) hx fun h₂ h1₂ hs₂=>wpAny_pure ?_)
  refine wpAny_pure ?_
  refine wpAny_bind (wpAny_bind (wpAny_holding ?_))
  show wpAny _ _ (Builtin.SmallTypes.nextOf (.ref i2) >>= _) _ _ _
  refine wpAny_bind (wpAny_nextOf_list_end hh ((h2.extBut hs₁.extBut D.i2z).extBut hs₂.extBut D.i12.symm) ((hl2.extBut hs₁.extBut D.l2z).extBut hs₂.extBut D.l2i1) hy fun h₃ e hs₃ he => ?_)
  exact hE h₃ e (fun c o c1 c3 c4 x=>hs₃ _ _ c4 (hs₂.extBut _ _ c3 (hs₁.extBut _ _ c1 x))) he
theorem zK {z TI TO T i1 i2 l1 l2:Addr} {b:Bool} {k1 k2:Nat} {xs ys:Array Value} {x y:Value} {Q:Option Value->Shared->Prop} (D:ZipApart z TI TO i1 i2 l1 l2)
  (hz:IsZ s.heap z TI TO (rawInt T) b) (hT:∃ o,s.heap.get? T=some o) (hTI:IsPair s.heap TI (.ref i1) (.ref i2))
  (h1:s.heap.IsListIter i1 l1 k1) (h2:s.heap.IsListIter i2 l2 k2) (hl1:s.heap.IsList l1 xs) (hl2:s.heap.IsList l2 ys) (hx:xs[k1]? = some x) (hy:ys[k2]? = some y)
  (hQ:∀ h',IsZ h' z TI TO (rawInt T) true->h'.IsListIter i1 l1 (k1+1)->h'.IsListIter i2 l2 (k2+1)->IsPair h' s.heap.objs.size x y->h'.objs.size=s.heap.objs.size+1 ->
   ↥38->Q (some (.ref s.heap.objs.size)) { s with heap:=h' }) :
  wpAny ↥16 A (pyNext (.ref z)) Q E s:=by
 have hty:s.TypeIs (.ref z) "zip":=⟨_,hz,rfl⟩
 unfold pyNext
 exact wpAny_bind (wpAny_attempt (wpAny_callSpecial?_slot (name:=Str.ofString "__next__") hty F.slot_zip_next
  (wpAny_call_entry F.slot_zip_next hty F.entry_zip_next
   (pP D hz hT hTI h1 h2 hl1 hl2 hx hy fun h' a1 a2 a3 a4 a5 a6=>wpAny_pure (hQ h' a1 a2 a3 a4 a5 a6)) (F.args_zip_next_1 _))))
theorem next_end {z TI TO T i1 i2 l1 l2:Addr} {b:Bool} {k1 k2:Nat} {xs ys:Array Value} {Q:Option Value->Shared->Prop} (hh:A.handled=none) (D:ZipApart z TI TO i1 i2 l1 l2)
  (hz:IsZ s.heap z TI TO (rawInt T) b) (hT:∃ o,s.heap.get? T=some o) (hTI:IsPair s.heap TI (.ref i1) (.ref i2))
  (h1:s.heap.IsListIter i1 l1 k1) (h2:s.heap.IsListIter i2 l2 k2) (hl1:s.heap.IsList l1 xs) (hl2:s.heap.IsList l2 ys) (hend:xs[k1]? = none\/ys[k2]? = none)
  (hQ:∀ h',↥38->Q none { s with heap:=h' }):wpAny ↥16 A (pyNext (.ref z)) Q E s:=by
 have hty:s.TypeIs (.ref z) "zip":=⟨_,hz,rfl⟩
 unfold pyNext
 refine wpAny_bind (wpAny_attempt (wpAny_callSpecial?_slot (name:=Str.ofString "__next__") hty F.slot_zip_next
  (wpAny_call_entry F.slot_zip_next hty F.entry_zip_next (qX hh D hz hT hTI h1 h2 hl1 hl2 hend fun h' e hk he => ?_) (F.args_zip_next_1 _))))
 obtain ⟨o,ho,hc⟩:=he
 refine wpAny_bind (wpAny_isInstance (T:="StopIteration") (b:=true) ⟨o,ho,hc⟩ isSubtype_stop ?_)
 exact wpAny_pure (hQ _ hk)
end
structure Zs (h:Heap) (z TI TO i1 i2 l1 l2 S N0:Addr) (xs ys:Array Value) (i:Nat) (acc:Array Value):Prop where
 zf:(IsZip h z TI TO .none/\∃ a b,IsPair h TO a b)\/∃ (T:Addr) (b:Bool),IsZ h z TI TO (rawInt T) b/\(∃ o,h.get? T=some o)/\N0<=T
 ti:IsPair h TI (.ref i1) (.ref i2)
 h1:h.IsListIter i1 l1 i
 h2:h.IsListIter i2 l2 i
 hl1:h.IsList l1 xs
 hl2:h.IsList l2 ys
 sz:N0<=h.objs.size
 al:acc.size=i
 ac:∀ (j:Nat) (v:Value),acc[j]? = some v->∃ (a:Addr) (x y:Value),v=Value.ref a/\xs[j]? = some x/\ys[j]? = some y/\IsPair h a x y/\N0<=a
 inj:∀ (j j':Nat) (a:Addr),acc[j]? = some (Value.ref a)->acc[j']? = some (Value.ref a)->j=j'
def Zo (h':Heap) (N0:Addr) (xs ys acc':Array Value):Prop:=acc'.size=min xs.size ys.size /\
 (∀ (j:Nat) (v:Value),acc'[j]? = some v->∃ (a:Addr) (x y:Value),v=Value.ref a/\xs[j]? = some x/\ys[j]? = some y/\IsPair h' a x y/\N0<=a) /\
 ∀ (j j':Nat) (a:Addr),acc'[j]? = some (Value.ref a)->acc'[j']? = some (Value.ref a)->j=j'
structure Zap (z TI TO i1 i2 l1 l2 S N0:Addr):Prop where
 D:ZipApart z TI TO i1 i2 l1 l2
 zN:z<N0
 TIN:TI<N0
 TON:TO<N0
 i1N:i1<N0
 i2N:i2<N0
 SN:S<N0
 Sz:S≠z
 STI:S≠TI
 STO:S≠TO
 Si1:S≠i1
 Si2:S≠i2
 Sl1:S≠l1
 Sl2:S≠l2
def Kp (z TO i1 i2 S:Addr) (h h':Heap):Prop:=∀ c o,c≠z->c≠TO->c≠i1->c≠i2->c≠S->h.get? c=some o->h'.get? c=some o
section
variable {prog:Program} {w:World} {A:Around} {R:Result->Shared->Prop} {z TI TO i1 i2 l1 l2 S N0:Addr} {xs ys:Array Value}
theorem Zs.put {h:Heap} {i:Nat} {acc:Array Value} {c:Nat} {v:Value} (Z:Zap z TI TO i1 i2 l1 l2 S N0) (H:Zs h z TI TO i1 i2 l1 l2 S N0 xs ys i acc) (f:Obj->Obj):∀ acc':Array Value,acc'.size=acc.size->(∀ (j:Nat) (v:Value),acc'[j]? = some v->acc[j]? = some v)->Zs (h.update S f) z TI TO i1 i2 l1 l2 S N0 xs ys i acc':=by
 intro acc' e1 e2
 have up:∀ b o,S≠b->h.get? b=some o->(h.update S f).get? b=some o:=fun b o hb e=>(Heap.get?_update_other _ _ hb).trans e
 obtain ⟨zf,ti,g1,g2,hl1,hl2,sz,al,ac,inj⟩:=H
 refine ⟨?_,up _ _ Z.STI ti,g1.at fun o e=>up _ o Z.Si1 e,g2.at fun o e=>up _ o Z.Si2 e,hl1.at fun o e=>up _ o Z.Sl1 e,hl2.at fun o e=>up _ o Z.Sl2 e,by rw [Heap.size_update];exact sz,by rw [e1,al],fun j v hj => ?_,fun j j' a q1 q2=>inj j j' a (e2 _ _ q1) (e2 _ _ q2)⟩
 ·rcases zf with ⟨a,x,y,b⟩ | ⟨T,b,a,⟨o,ho⟩,n⟩
  ·exact .inl ⟨up _ _ Z.Sz a,x,y,up _ _ Z.STO b⟩
  ·exact .inr ⟨T,b,up _ _ Z.Sz a,⟨o,up _ _ (Nat.ne_of_lt (Nat.lt_of_lt_of_le Z.SN n)) ho⟩,n⟩
 ·obtain ⟨a,x,y,h1,h2,h3,h4,h5⟩:=ac j v (e2 j v hj)
  exact ⟨a,x,y,h1,h2,h3,up _ _ (Nat.ne_of_lt (Nat.lt_of_lt_of_le Z.SN h5)) h4,h5⟩
theorem Zs.next {s:Shared} {i:Nat} {acc:Array Value} {E:Value->Shared->Prop} {Q:Option Value->Shared->Prop} (Z:Zap z TI TO i1 i2 l1 l2 S N0) (H:Zs s.heap z TI TO i1 i2 l1 l2 S N0 xs ys i acc) (hi:i<min xs.size ys.size)
  (hQ:∀ h' a,Zs h' z TI TO i1 i2 l1 l2 S N0 xs ys (i+1) (acc.push (.ref a))->Kp z TO i1 i2 S s.heap h'->(∀ o,s.heap.get? S=some o->h'.get? S=some o)->Q (some (.ref a)) { s with heap:=h' }) :
  wpAny ↥16 A (pyNext (.ref z)) Q E s:=by
 obtain ⟨zf,ti,g1,g2,hl1,hl2,sz,al,ac,inj⟩:=H
 have D:=Z.D
 have hix:i<xs.size:=Nat.lt_of_lt_of_le hi (Nat.min_le_left ..)
 have hiy:i<ys.size:=Nat.lt_of_lt_of_le hi (Nat.min_le_right ..)
 have fin:∀ h',(∀ c o,c≠z->c≠TO->c≠i1->c≠i2->s.heap.get? c=some o->h'.get? c=some o)->h'.objs.size=s.heap.objs.size+1->IsPair h' s.heap.objs.size xs[i] ys[i]->h'.IsListIter i1 l1 (i+1)->h'.IsListIter i2 l2 (i+1) ->
   (∃ (T:Addr) (b:Bool),IsZ h' z TI TO (rawInt T) b/\(∃ o,h'.get? T=some o)/\N0<=T)->Q (some (.ref s.heap.objs.size)) { s with heap:=h' }:=fun h' hk hsz hp a1 a2 a3=>by
  refine hQ h' s.heap.objs.size ⟨.inr a3,hk _ _ D.TIz D.TITO D.TIi1 D.TIi2 ti,a1,a2,hl1.at fun o e=>hk _ o D.l1z D.l1TO D.l1i1 D.l1i2 e,hl2.at fun o e=>hk _ o D.l2z D.l2TO D.l2i1 D.l2i2 e,by rw [hsz];exact Nat.le_succ_of_le sz,by rw [Array.size_push,al],fun j v hj => ?_,fun j j' a q1 q2 => ?_⟩ (fun c o c1 c2 c3 c4 _ e=>hk c o c1 c2 c3 c4 e) fun o e=>hk _ o Z.Sz Z.STO Z.Si1 Z.Si2 e
  ·rw [Array.getElem?_push] at hj
   split at hj
   ·rename_i e
    rw [al] at e
    subst e
    cases hj
    exact ⟨_,_,_,rfl,Array.getElem?_eq_getElem hix,Array.getElem?_eq_getElem hiy,hp,sz⟩
   ·obtain ⟨a,x,y,h1,h2,h3,h4,h5⟩:=ac j v hj
    have lt:∀ b,b<N0->a≠b:=fun b hb e=>absurd (e▸h5) (Nat.not_le_of_lt hb)
    exact ⟨a,x,y,h1,h2,h3,hk _ _ (lt z Z.zN) (lt TO Z.TON) (lt i1 Z.i1N) (lt i2 Z.i2N) h4,h5⟩
  ·have old:∀ j a,acc[j]? = some (Value.ref a)->a≠s.heap.objs.size:=fun j a q=>by
    obtain ⟨a',x,y,h1,_,_,h4,_⟩:=ac j _ q
    cases h1
    exact Nat.ne_of_lt (Heap.lt_size h4)
   rw [Array.getElem?_push] at q1 q2
   split at q1
   ·rename_i e1
    split at q2
    ·rename_i e2
     rw [e1,e2]
    ·cases q1
     exact absurd rfl (old _ _ q2)
   ·split at q2
    ·cases q2
     exact absurd rfl (old _ _ q1)
    ·exact inj j j' a q1 q2
 rcases zf with ⟨hz,a,b,hTO⟩ | ⟨T,b,hz,hT,hN⟩
 ·refine wpAny_pyNext_zip_item D hz ti hTO g1 g2 hl1 hl2 (Array.getElem?_eq_getElem hix) (Array.getElem?_eq_getElem hiy) fun h' a1 a2 a3 a4 a5 a6 hk => ?_
  exact fin h' hk a6 a5 a3 a4 ⟨_,false,a1,⟨_,a5⟩,sz⟩
 ·refine zK D hz hT ti g1 g2 hl1 hl2 (Array.getElem?_eq_getElem hix) (Array.getElem?_eq_getElem hiy) fun h' a1 a3 a4 a5 a6 hk => ?_
  obtain ⟨o,ho⟩:=hT
  have lt:∀ b,b<N0->T≠b:=fun b hb e=>absurd (e▸hN) (Nat.not_le_of_lt hb)
  exact fin h' (fun c o c1 _ c3 c4 e=>hk c o c1 c3 c4 e) a6 a5 a3 a4 ⟨T,true,a1,⟨o,hk _ _ (lt z Z.zN) (lt i1 Z.i1N) (lt i2 Z.i2N) ho⟩,hN⟩
theorem Zs.stop {s:Shared} {i:Nat} {acc:Array Value} {E:Value->Shared->Prop} {Q:Option Value->Shared->Prop} (hh:A.handled=none) (Z:Zap z TI TO i1 i2 l1 l2 S N0) (H:Zs s.heap z TI TO i1 i2 l1 l2 S N0 xs ys i acc) (hi:min xs.size ys.size<=i)
  (hQ:∀ h',(∀ c o,c≠z->c≠TO->c≠i1->c≠i2->s.heap.get? c=some o->h'.get? c=some o)->Q none { s with heap:=h' }):wpAny ↥16 A (pyNext (.ref z)) Q E s:=by
 obtain ⟨zf,ti,g1,g2,hl1,hl2,sz,al,ac,inj⟩:=H
 have hend:xs[i]? = none\/ys[i]? = none:=by
  by_cases g:xs.size<=i
  ·exact .inl (by simp [g])
  ·exact .inr (by have:ys.size<=i:=⋯
                  simp [this])
 rcases zf with ⟨hz,a,b,hTO⟩ | ⟨T,b,hz,hT,hN⟩
 ·exact wpAny_pyNext_zip_end hh Z.D hz ti hTO g1 g2 hl1 hl2 hend hQ
 ·exact next_end hh Z.D hz hT ti g1 g2 hl1 hl2 hend fun h' hk=>hQ h' fun c o c1 _ c3 c4 e=>hk c o c1 c3 c4 e
theorem Bu (hh:A.in1.handled=none) (hn:min xs.size ys.size<=sizeLine) (Z:Zap z TI TO i1 i2 l1 l2 S N0) (res:Value) :
  ∀ (k i:Nat) (s:Shared) (acc:Array Value) (c:Nat),min xs.size ys.size - i=k->i<=min xs.size ys.size->Zs s.heap z TI TO i1 i2 l1 l2 S N0 xs ys i acc->s.heap.get? S=some { cls:=.type "list",dict:=none,data:=.seq acc c,slots := #[] } ->
  (∀ h' acc' c',Kp z TO i1 i2 S s.heap h'->h'.get? S=some { cls:=.type "list",dict:=none,data:=.seq acc' c',slots := #[] }->Zo h' N0 xs ys acc'->R (.ok (.ret res)) { s with heap:=h' }) ->
  codeAny ↥16 A (.builtin "list.extend.loop" ⟨[.ref S,.ref z,res],[]⟩) R s:=by
 intro k
 induction k with
 | zero =>
  intro i s acc c hk hi H hS hR
  have hin:i=min xs.size ys.size:=⋯
  refine codeAny_builtin F.entry_extend_loop ?_
  rw [Around.under_plainId F.plain_extend_loop _]
  show wpAny _ A.in1 (pyNext (.ref z) >>= _) _ _ s
  refine wpAny_bind (H.stop hh Z ⋯ fun h' kp=>wpAny_pure ?_)
  refine hR h' acc c (fun c o c1 c2 c3 c4 _ e=>kp c o c1 c2 c3 c4 e) (kp _ _ Z.Sz Z.STO Z.Si1 Z.Si2 hS) ⟨by rw [H.al,hin],fun j v hj => ?_,H.inj⟩
  obtain ⟨a,x,y,g1,g2,g3,g4,g5⟩:=H.ac j v hj
  have lt:∀ b,b<N0->a≠b:=fun b hb e=>absurd (e▸g5) (Nat.not_le_of_lt hb)
  exact ⟨a,x,y,g1,g2,g3,kp _ _ (lt z Z.zN) (lt TO Z.TON) (lt i1 Z.i1N) (lt i2 Z.i2N) g4,g5⟩
 | succ k ih =>
  intro i s acc c hk hi H hS hR
  have hlt:i<min xs.size ys.size:=⋯
  refine codeAny_builtin F.entry_extend_loop ?_
  rw [Around.under_plainId F.plain_extend_loop _]
  show wpAny _ A.in1 (pyNext (.ref z) >>= _) _ _ s
  refine wpAny_bind (H.next Z hlt fun h' a H' kp kS => ?_)
  have hS':=kS _ hS
  show wpAny _ A.in1 (updateSeq S (·.push (.ref a)) >>= _) _ _ _
  refine wpAny_bind ?_
  have ha:=H.al
  refine wpAny_updateSeq hS' rfl (wpAny_pure ⟨plainId_quiet F.plain_extend_loop _,ih (i+1) _ (acc.push (.ref a)) _ ⋯ ⋯ (H'.put (c:=c) (v:=.none) Z _ _ rfl fun j v e=>e) (Heap.get?_update_self _ hS' rfl) fun h'' acc' c' kp' hS'' e1 => ?_⟩)
   (by rw [ha];omega) (by show (acc.push _).size<=sizeLine+1;rw [Array.size_push,ha];omega)
  refine hR h'' acc' c' (fun c o c1 c2 c3 c4 c5 e=>kp' c o c1 c2 c3 c4 c5 ((Heap.get?_update_other _ _ (Ne.symm c5)).trans (kp c o c1 c2 c3 c4 c5 e))) hS'' e1
theorem wH:typeLookup (.type "zip") "__len__"=pure none:=by rw [typeLookup_type,builtinLookup_eq_fast];kernel_rfl
theorem tX:typeLookup (.type "zip") "__length_hint__"=pure none:=by rw [typeLookup_type,builtinLookup_eq_fast];kernel_rfl
theorem Zs.ty {s:Shared} {i:Nat} {acc:Array Value} (H:Zs s.heap z TI TO i1 i2 l1 l2 S N0 xs ys i acc):s.TypeIs (.ref z) "zip":=by
 rcases H.zf with ⟨hz,_⟩ | ⟨T,b,hz,_⟩
 ·exact ⟨_,hz,rfl⟩
 ·exact ⟨_,hz,rfl⟩
theorem xO {s:Shared} {c₀:Nat} (hh:A.in1.handled=none) (hn:min xs.size ys.size<=sizeLine) (Z:Zap z TI TO i1 i2 l1 l2 S N0) (res:Value) (hz:IsZip s.heap z TI TO .none) (H:Zs s.heap z TI TO i1 i2 l1 l2 S N0 xs ys 0 #[])
  (hS:s.heap.get? S=some { cls:=.type "list",data:=.seq #[] c₀ })
  (hR:∀ h' acc' c',Kp z TO i1 i2 S s.heap h'->h'.get? S=some { cls:=.type "list",dict:=none,data:=.seq acc' c',slots := #[] }->Zo h' N0 xs ys acc'->R (.ok (.ret res)) { s with heap:=h' }) :
  wpAny ↥16 A.in1 (Builtin.List.listExtendWith (.ref S) (.ref z) res)
   (fun fin s'=>match fin with | .done f=>R (.ok f) s' | .again c'=>c'.quiet=true/\codeAny ↥16 A c' R s') (fun e s'=>R (.error e) s') s:=by
 unfold Builtin.List.listExtendWith
 refine wpAny_bind (wpAny_typeOf H.ty ?_)
 have h1:Builtin.List.listSameRef (.ref S) (.ref z)=false:=by simp [Builtin.List.listSameRef,Z.Sz]
 have h2:(Value.type "zip" == Value.type "list")=false:=by decide
 have h3:(Value.type "zip" == Value.type "tuple")=false:=by decide
 simp only [h1,h2,h3,Bool.or_false,Bool.false_eq_true,if_false]
 refine wpAny_bind (wpAny_pyIter_zip hz ?_)
 refine wpAny_bind (wpAny_holding ?_)
 unfold Builtin.List.listLengthHint
 refine wpAny_bind (wpAny_specialOf H.ty wH ?_)
 show wpAny _ A.in1 (specialOf (Value.ref z) (Str.ofString "__length_hint__") >>= _) _ _ _
 refine wpAny_bind (wpAny_specialOf H.ty tX ?_)
 refine wpAny_pure ?_
 show wpAny _ A.in1 (rule "list.extend.makes-room" >>= fun _=>Builtin.List.listTouch (.ref S) >>= fun _ =>
  again (.builtin "list.extend.loop" ⟨[.ref S,.ref z,res],[]⟩)) _ _ _
 refine wpAny_bind (wpAny_rule ?_)
 refine wpAny_bind ?_
 show wpAny _ A.in1 (updateSeq S (·.push .none) >>= fun _=>updateSeq S (·.pop)) _ _ _
 refine wpAny_bind (wpAny_updateSeq hS rfl ?_)
 have hS₂:=Heap.get?_update_self (Obj.mapSeq (·.push Value.none)) hS rfl
 refine wpAny_updateSeq (hz:=by seq_fits) hS₂ rfl ?_
 have hS₃:=Heap.get?_update_self (Obj.mapSeq (·.pop)) hS₂ rfl
 have oth:∀ b o,b≠S->s.heap.get? b=some o->((s.heap.update S (Obj.mapSeq (·.push Value.none))).update S (Obj.mapSeq (·.pop))).get? b=some o :=
  fun b o hb e=>(Heap.get?_update_other _ _ (Ne.symm hb)).trans ((Heap.get?_update_other _ _ (Ne.symm hb)).trans e)
 have H1:=Zs.put (c:=0) (v:=.none) Z H (Obj.mapSeq (·.push Value.none)) #[] rfl fun j v e=>e
 have H2:=Zs.put (c:=0) (v:=.none) Z H1 (Obj.mapSeq (·.pop)) #[] rfl fun j v e=>e
 refine wpAny_pure ⟨plainId_quiet F.plain_extend_loop _,Bu hh hn Z _ (min xs.size ys.size) 0 _ #[] _ rfl (Nat.zero_le _) H2 hS₃ fun h' acc' c' kp hS' e1 => ?_⟩
 exact hR h' acc' c' (fun c o c1 c2 c3 c4 c5 e=>kp c o c1 c2 c3 c4 c5 (oth c o c5 e)) hS' e1
theorem Dr {s:Shared} (hh:A.in1.handled=none) (hn:min xs.size ys.size<=sizeLine) (Z:Zap z TI TO i1 i2 l1 l2 S N0) (hz:IsZip s.heap z TI TO .none) (H:Zs s.heap z TI TO i1 i2 l1 l2 S N0 xs ys 0 #[])
  (hS:s.heap.get? S=some { cls:=.type "list",data:=.seq #[] })
  (hR:∀ h' acc' c',Kp z TO i1 i2 S s.heap h'->h'.get? S=some { cls:=.type "list",dict:=none,data:=.seq acc' c',slots := #[] }->Zo h' N0 xs ys acc'->R (.ok (.ret .none)) { s with heap:=h' }) :
  wpAny ↥16 A.in1 (Builtin.«list.__init__» ⟨[.ref S,.ref z],[]⟩)
   (fun fin s'=>match fin with | .done f=>R (.ok f) s' | .again c'=>c'.quiet=true/\codeAny ↥16 A c' R s') (fun e s'=>R (.error e) s') s:=by
 show wpAny _ A.in1 (do let old<-Builtin.List.listItems (.ref S);Builtin.List.listUpdate (.ref S) (fun _ => #[]);letGo old.toList.reverse;Builtin.List.listExtendWith (.ref S) (.ref z) .none) _ _ s
 refine wpAny_bind ?_
 unfold Builtin.List.listItems
 refine wpAny_bind (wpAny_seqItems hS rfl (wpAny_pure ?_))
 show wpAny _ A.in1 (updateSeq S (fun _ => #[]) >>= fun _=>letGo (#[]:Array Value).toList.reverse >>= fun _=>Builtin.List.listExtendWith (.ref S) (.ref z) .none) _ _ s
 refine wpAny_bind (wpAny_updateSeq hS rfl ?_)
 have hS₂:=Heap.get?_update_self (Obj.mapSeq (fun _=>(#[]:Array Value))) hS rfl
 have oth:∀ b o,b≠S->s.heap.get? b=some o->(s.heap.update S (Obj.mapSeq (fun _=>(#[]:Array Value)))).get? b=some o :=
  fun b o hb e=>(Heap.get?_update_other _ _ (Ne.symm hb)).trans e
 refine wpAny_bind (wpAny_letGo ?_)
 have H1:=Zs.put (c:=0) (v:=.none) Z H (Obj.mapSeq (fun _=>(#[]:Array Value))) #[] rfl fun j v e=>e
 refine xO hh hn Z .none (oth _ _ (Ne.symm Z.Sz) hz) H1 hS₂ fun h' acc' c' kp hS' e1 => ?_
 exact hR h' acc' c' (fun c o c1 c2 c3 c4 c5 e=>kp c o c1 c2 c3 c4 c5 (oth c o c5 e)) hS' e1
end
theorem IQ {N l1 l2:Nat} (h1:l1<N) (h2:l2<N):Zap (N+4) (N+2) (N+3) N (N+1) l1 l2 (N+5) (N+6):=by
 refine ⟨⟨?_,?_,?_,?_,?_,?_,?_,?_,?_,?_,?_,?_,?_,?_,?_,?_,?_,?_⟩,?_,?_,?_,?_,?_,?_,?_,?_,?_,?_,?_,?_,?_⟩<;>first | exact Nat.add_lt_add_left ↥0 N | exact Nat.lt_add_of_pos_right ↥0 | exact Nat.ne_of_gt ⋯ | exact Nat.ne_of_lt ⋯
section
variable {prog:Program} {w:World} {A:Around} {E:Value->Shared->Prop} {s:Shared} {xs ys:Array Value}
theorem Dh {l1 l2:Addr} {Q:Value->Shared->Prop} (hh:A.handled=none) (hn:min xs.size ys.size<=sizeLine) (hl1:s.heap.IsList l1 xs) (hl2:s.heap.IsList l2 ys)
  (hQ:∀ h' (S:Addr) acc' c',s.heap.objs.size<=S->(∀ c o,s.heap.get? c=some o->h'.get? c=some o)->h'.get? S=some { cls:=.type "list",dict:=none,data:=.seq acc' c',slots := #[] }->acc'.size=min xs.size ys.size ->
   (∀ (j:Nat) (v:Value),acc'[j]? = some v->∃ (a:Addr) (x y:Value),v=Value.ref a/\xs[j]? = some x/\ys[j]? = some y/\IsPair h' a x y/\s.heap.objs.size<=a/\a≠S)->(∀ (j j':Nat) (a:Addr),acc'[j]? = some (Value.ref a)->acc'[j']? = some (Value.ref a)->j=j')->Q (.ref S) { s with heap:=h' }) :
  wpAny ↥16 A (call (.type "zip") [.ref l1,.ref l2]) (fun v s1=>wpAny ↥16 A (call (.type "list") [v]) Q E s1) E s:=by
 refine call_zip_2 hl1 hl2 fun h' hz hTI hTO g1 g2 hsz kp => ?_
 have lt1:l1<s.heap.objs.size:=by obtain ⟨_,e,_⟩:=hl1;exact Heap.lt_size e
 have lt2:l2<s.heap.objs.size:=by obtain ⟨_,e,_⟩:=hl2;exact Heap.lt_size e
 generalize hN:s.heap.objs.size=N at *
 refine callType_codes (Q₁:=fun obj s₁=>obj=.ref h'.objs.size/\s₁={ s with heap:=h'.push { cls:=.type "list",data:=.seq #[] } }) F.called_list (F.typeCall_list_1 _) F.entry_list_init
  (code_list_new _ ⟨rfl,rfl⟩) fun obj s₁ h₁ => ?_
 obtain ⟨rfl,rfl⟩:=h₁
 have hS:(h'.push { cls:=.type "list",data:=.seq #[] }).get? h'.objs.size=some { cls:=.type "list",data:=.seq #[] }:=Heap.get?_push_size _ rfl
 have up:∀ c o,h'.get? c=some o->(h'.push { cls:=.type "list",data:=.seq #[] }).get? c=some o:=fun c o e=>Heap.get?_push_of_some _ e
 have Z:=IQ lt1 lt2
 have hN6:(h'.push { cls:=.type "list",data:=.seq #[] }).objs.size=N+6:=by rw [Heap.size_push,hsz]
 rw [hsz] at hS ⊢
 have H:Zs (h'.push { cls:=.type "list",data:=.seq #[] }) (N+4) (N+2) (N+3) N (N+1) l1 l2 (N+5) (N+6) xs ys 0 #[] :=
  ⟨.inl ⟨up _ _ hz,_,_,up _ _ hTO⟩,up _ _ hTI,g1.at fun o e=>up _ o e,g2.at fun o e=>up _ o e,hl1.at fun o e=>up _ o (kp _ _ e),hl2.at fun o e=>up _ o (kp _ _ e),Nat.le_of_eq hN6.symm,rfl,(fun j v hj=>by simp at hj),fun j j' a hj=>by simp at hj⟩
 refine ⟨⟨_,hS,rfl⟩,F.args_list_init_2 _ _,Dr (R:=wants (fun r s₂=>r=.none/\Q (.ref (N+5)) s₂) E) (by exact hh) hn Z (up _ _ hz) H hS fun h'' acc' c' kk hS' e1 => ?_⟩
 refine ⟨rfl,hQ h'' (N+5) acc' c' (Nat.le_add_right _ _) (fun c o e => ?_) hS' e1.1 (fun j v hj => ?_) e1.2.2⟩
 ·have hc:c<N:=by rw [<- hN];exact Heap.lt_size e
  exact kk c o (Nat.ne_of_lt (Nat.lt_of_lt_of_le hc (Nat.le_add_right _ _))) (Nat.ne_of_lt (Nat.lt_of_lt_of_le hc (Nat.le_add_right _ _))) (Nat.ne_of_lt hc) (Nat.ne_of_lt (Nat.lt_of_lt_of_le hc (Nat.le_add_right _ _))) (Nat.ne_of_lt (Nat.lt_of_lt_of_le hc (Nat.le_add_right _ _))) (up _ _ (kp _ _ e))
 ·obtain ⟨a,x,y,q1,q2,q3,q4,q5⟩:=e1.2.1 j v hj
  exact ⟨a,x,y,q1,q2,q3,q4,Nat.le_trans (Nat.le_add_right _ _) q5,Nat.ne_of_gt (Nat.lt_of_lt_of_le (Nat.lt_succ_self _) q5)⟩
end
section
variable {X:Cx} {pins:List ↥11} {σ:L2.St} {H H':Hp} {s:Shared}
theorem Dp {h':Heap} {t':Nat} (I:Inv X pins σ H s) (k:∀ b u,s.heap.get? b=some u->h'.get? b=some u) (e:∀ b,b<s.heap.objs.size->H' b=H b)
  (new:∀ a o,s.heap.objs.size<=a->H' a=some o->iE X.prog X.w H' h' a o):Inv X pins σ H' { s with heap:=h',toks:=t' }:=by
 have up:∀ b o,H b=some o->H' b=some o:=fun b o q=>by rw [e b (I.hok.lt q)];exact q
 refine I.un ⟨fun b u q _ _ _=>k b u q,fun b u q _ _ _=>⟨u.slots,k b u q⟩,fun b u q n _=>by rw [e b (Heap.lt_size q)];exact n,fun b u q _=>⟨u,k b u q⟩,fun b xs q=>up _ _ q,fun b u xs q=>up _ _ q,fun b ps q=>⟨#[],by rw [up _ _ q];simp⟩⟩ ?_
 intro a o q
 by_cases g:a<s.heap.objs.size
 ·rw [e a g] at q
  exact (I.hok a o q).stay (fun c v _ q=>k c v q) (fun c q=>up _ _ q) fun c xs q=>up _ _ q
 ·exact new a o (Nat.le_of_not_lt g) q
theorem rT {α β:Type} {R:α->β->Prop}:∀ {xs:List α} {ys:List β},xs.length=ys.length->(∀ (j:Nat) x y,xs[j]? = some x->ys[j]? = some y->R x y)->Paired R xs ys
 | [],[],_,_=>.nil
 | x::xs,y::ys,hl,h=>.cons (h 0 x y rfl rfl) (rT (by simpa using hl) fun j a b q1 q2=>h (j+1) a b q1 q2)
def adr (acc:Array Value) (j:Nat):Addr:=match acc[j]? with | some (.ref a)=>a | _=>0
open Classical in
def Bv (H:Hp) (N S n:Nat) (acc:Array Value) (xs ys:List V):Hp:=fun b=>if b<N then H b else if b=S then some (.lst ((List.range n).map fun j=>V.ref (adr acc j))) else
 if h:∃ j,j<n/\acc[j]? = some (Value.ref b) then some (.tup [xs.getD h.choose .non,ys.getD h.choose .non]) else none
def vn (H:Hp) (zs xs ys:List V):Prop:=zs.length=min xs.length ys.length/\∀ (j:Nat) (v:V),zs[j]? = some v->∃ a x y,v=.ref a/\xs[j]? = some x/\ys[j]? = some y/\H a=some (.tup [x,y])
theorem sL {l1 l2:Addr} {xs ys:List V} {Q:VK} (hc:X.calm=true) (I:Inv X pins σ H s) (h1:SqL X.K H l1 xs) (h2:SqL X.K H l2 ys) (hl:xs.length<=100000) (hl2:ys.length<=100000)
  (q:∀ H' S zs,aB H H'->H S=none->H' S=some (.lst zs)->vn H' zs xs ys->Q (.ref S) H') :
  wpAny ↥4 X.A (call (.type "zip") [.ref l1,.ref l2]) (fun v s1=>wpAny ↥4 X.A (call (.type "list") [v]) (EP X pins σ Q) X.xe s1) X.xe s:=by
 obtain ⟨it1,r1,p1,z1⟩:=I.list h1
 obtain ⟨it2,r2,p2,z2⟩:=I.list h2
 have n1:=r1.length
 have n2:=r2.length
 refine Dh (I.ok.hd hc) (by simp only [List.size_toArray];have:sizeLine=16777216:=rfl;omega) p1.isList p2.isList fun h' S acc c' hS kp gS sz ac inj => ?_
 simp only [List.size_toArray] at sz
 have ad:∀ j,j<min it1.length it2.length->∃ (a:Addr) (x y:V),acc[j]? = some (Value.ref a)/\xs[j]? = some x/\ys[j]? = some y/\(∃ u v,RelV x u/\RelV y v/\IsPair h' a u v)/\s.heap.objs.size<=a/\a≠S:=fun j hj=>by
  have hj':j<acc.size:=by rw [sz];exact hj
  obtain ⟨a,u,v,e1,e2,e3,e4,e5,e6⟩:=ac j acc[j] (Array.getElem?_eq_getElem hj')
  have j1:j<xs.length:=⋯
  have j2:j<ys.length:=⋯
  obtain ⟨u',hu,ru⟩:=r1.get (List.getElem?_eq_getElem j1)
  obtain ⟨v',hv,rv⟩:=r2.get (List.getElem?_eq_getElem j2)
  rw [List.getElem?_toArray] at e2 e3
  rw [hu] at e2
  rw [hv] at e3
  cases e2
  cases e3
  exact ⟨a,_,_,by rw [Array.getElem?_eq_getElem hj',e1],List.getElem?_eq_getElem j1,List.getElem?_eq_getElem j2,⟨_,_,ru,rv,e4⟩,e5,e6⟩
 have hn:min it1.length it2.length=min xs.length ys.length:=by rw [n1,n2]
 generalize hN:min it1.length it2.length=n at *
 have adr_is:∀ {j a},acc[j]? = some (Value.ref a)->adr acc j=a:=fun {j a} e=>by unfold adr;rw [e]
 have tup:∀ (j:Nat) (a:Addr) (x y:V),j<n->acc[j]? = some (Value.ref a)->xs[j]? = some x->ys[j]? = some y->s.heap.objs.size<=a->a≠S->Bv H s.heap.objs.size S n acc xs ys a=some (.tup [x,y]):=fun j a x y hj e ex ey ha hs=>by
  have h:∃ j,j<n/\acc[j]? = some (Value.ref a):=⟨j,hj,e⟩
  have hj2:h.choose=j:=inj _ _ a h.choose_spec.2 e
  unfold Bv
  rw [if_neg (Nat.not_lt_of_le ha),if_neg hs,dif_pos h,hj2,List.getD_eq_getElem?_getD,List.getD_eq_getElem?_getD,ex,ey]
  rfl
 have sat:Bv H s.heap.objs.size S n acc xs ys S=some (.lst ((List.range n).map fun j=>V.ref (adr acc j))):=by
  unfold Bv
  rw [if_neg (Nat.not_lt_of_le hS),if_pos rfl]
 have lo:∀ b,b<s.heap.objs.size->Bv H s.heap.objs.size S n acc xs ys b=H b:=fun b hb=>by
  unfold Bv
  rw [if_pos hb]
 have same:aB H (Bv H s.heap.objs.size S n acc xs ys):=fun b o e=>by rw [lo b (I.hok.lt e)];exact e
 refine ⟨.ref S,Bv H s.heap.objs.size S n acc xs ys,Dp (t':=s.toks) I kp lo fun a o ha e => ?_,rfl,q _ S _ same (I.hok.fresh hS) sat ⟨by simp [hn],fun j v hv => ?_⟩⟩
 ·by_cases g:a=S
  ·subst g
   rw [sat] at e
   cases e
   refine ⟨by rw [List.length_map,List.length_range];have:sizeLine=16777216:=rfl;omega,acc.toList,c',rT (by simp [sz]) fun j x y e1 e2 => ?_,by simpa using gS⟩
   rw [List.getElem?_map] at e1
   have hj:j<n:=by
    refine Classical.byContradiction fun z => ?_
    rw [List.getElem?_eq_none (by rw [List.length_range];omega)] at e1
    cases e1
   rw [List.getElem?_range hj] at e1
   cases e1
   obtain ⟨a',_,_,ea,_⟩:=ad j hj
   rw [Array.getElem?_toList] at e2
   rw [ea] at e2
   cases e2
   show L2.RelV (V.ref (adr acc j)) (Value.ref a')
   rw [adr_is ea]
   rfl
  ·unfold Bv at e
   rw [if_neg (Nat.not_lt_of_le ha),if_neg g] at e
   split at e
   ·rename_i h
    obtain ⟨a',x,y,ea,ex,ey,⟨u,v,ru,rv,hp⟩,_,_⟩:=ad h.choose h.choose_spec.1
    have:a'=a:=by have:=h.choose_spec.2;rw [ea] at this;cases this;rfl
    subst this
    rw [List.getD_eq_getElem?_getD,List.getD_eq_getElem?_getD,ex,ey] at e
    cases e
    exact ⟨by simp only [List.length_cons,List.length_nil];rw [sizeLine_eq];decide,[u,v],.cons ru (.cons rv .nil),⟨_,hp,rfl,0,rfl⟩⟩
   ·cases e
 ·rw [List.getElem?_map] at hv
  have hj:j<n:=by
   refine Classical.byContradiction fun z => ?_
   rw [List.getElem?_eq_none (by rw [List.length_range];omega)] at hv
   cases hv
  rw [List.getElem?_range hj] at hv
  cases hv
  obtain ⟨a',x,y,ea,ex,ey,_,ha,hs⟩:=ad j hj
  exact ⟨a',x,y,congrArg V.ref (adr_is ea),ex,ey,tup j a' x y hj ea ex ey ha hs⟩
end
unseal SE ST SW SA SS SSs SI SO
section
variable {X:Cx} {a b:Expr} {ga gb:E} {p p2 pos pos2:Pos}
theorem xq {t:TA} (hc:X.calm=true) (gl:Gl X "list") (ml:X.mg "list"=none) (gz:Gl X "zip") (mz:X.mg "zip"=none) (ha:PA X [a,b] t)
  (hs:starEach [a,b] X.env=(false,eval a X.env)::starEach [b] X.env:=by rfl) (hpl:(backTo pos2 (starEach [b] X.env)).any (·.1)=false:=by rfl)
  (hs2:starEach [Expr.Call (.Name "zip" p2) [a,b] [] pos2] X.env=[(false,eval (Expr.Call (.Name "zip" p2) [a,b] [] pos2) X.env)]:=by rfl) (hpl2:(backTo pos (starEach [] X.env)).any (·.1)=false:=by rfl) :
  PE X (.Call (.Name "list" p) [.Call (.Name "zip" p2) [a,b] [] pos2] [] pos) (fun σ H Q=>t σ H fun vs H1=>∃ l1 l2 xs ys,vs=[.ref l1,.ref l2]/\SqL X.K H1 l1 xs/\SqL X.K H1 l2 ys/\xs.length<=100000/\ys.length<=100000 /\
   ∀ H' S zs,aB H1 H'->H1 S=none->H' S=some (.lst zs)->vn H' zs xs ys->Q (.ref S) H'):=by
 intro pins s σ H Q I h
 refine wpAny_Call_Name_kw (mL I gl ml boot_list ?_ ↥0 ↥0)
 refine PyProof.Rows.callWith_type1 ?_ hs2 hpl2
 rw [hs2]
 show wpAny _ _ (spliced ((false,eval (Expr.Call (.Name "zip" p2) [a,b] [] pos2) X.env)::[])) _ _ s
 refine Calls.spliced_cons ?_
 refine wpAny_Call_Name_kw (mL I gz mz boot_zip ?_ ↥0 ↥0)
 refine PyProof.Rows.callWith_type1 (thn (ha pos2 pins s σ H _ I h) fun us s1 ⟨vs,H1,I1,r1,q1⟩ => ?_) hs hpl
 obtain ⟨l1,l2,xs,ys,rfl,g1,g2,n1,n2,q⟩:=q1
 obtain ⟨u1,u2,rfl,e1,e2⟩:=vals2 r1
 cases e1
 cases e2
 exact thn (sL hc I1 g1 g2 n1 n2 q) fun v s2 h2=>Calls.spliced_nil h2
theorem xr {H H':Hp} {zs xs ys:List V} {ds es:List D} (P:vn H' zs xs ys) (r1:Reps X.K X.mg H' xs ds) (r2:Reps X.K X.mg H' ys es):Reps X.K X.mg H' zs (List.zipWith (fun x y=>D.tup [x,y]) ds es):=by
 obtain ⟨hl,hp⟩:=P
 have l1:=r1.length
 have l2:=r2.length
 have key:∀ (zs:List V) (fs:List D),zs.length=fs.length->(∀ (j:Nat) v f,zs[j]? = some v->fs[j]? = some f->Rep X.K X.mg H' v f)->Reps X.K X.mg H' zs fs:=by
  intro zs
  induction zs with
  | nil =>
   intro fs h _
   cases fs with
   | nil=>exact .nil
   | cons f fs=>cases h
  | cons v vs ih =>
   intro fs h k
   cases fs with
   | nil=>cases h
   | cons f fs=>exact .cons (k 0 v f rfl rfl) (ih fs (by simpa using h) fun j a b q1 q2=>k (j+1) a b q1 q2)
 refine key _ _ (by rw [List.length_zipWith,hl,l1,l2]) fun j v f e1 e2 => ?_
 obtain ⟨a,x,y,rfl,ex,ey,ha⟩:=hp j v e1
 have jx:=(List.getElem?_eq_some_iff.mp ex).1
 have jy:=(List.getElem?_eq_some_iff.mp ey).1
 have jd:j<ds.length:=⋯
 have je:j<es.length:=⋯
 rw [List.getElem?_zipWith,List.getElem?_eq_getElem jd,List.getElem?_eq_getElem je] at e2
 cases e2
 obtain ⟨x',ex',rx⟩:=r1.get (List.getElem?_eq_getElem jd)
 obtain ⟨y',ey',ry⟩:=r2.get (List.getElem?_eq_getElem je)
 rw [ex] at ex'
 rw [ey] at ey'
 cases ex'
 cases ey'
 exact .tup (SqT.of ha) (.cons rx (.cons ry .nil))
theorem AB (hc:X.calm=true) (Gl':Gb X "list") (ml:X.mg "list"=none) (Gz:Gb X "zip") (mz:X.mg "zip"=none) (ha:SA X [a,b] [ga,gb])
  (hs:starEach [a,b] X.env=(false,eval a X.env)::starEach [b] X.env:=by rfl) (hpl:(backTo pos2 (starEach [b] X.env)).any (·.1)=false:=by rfl)
  (hs2:starEach [Expr.Call (.Name "zip" p2) [a,b] [] pos2] X.env=[(false,eval (Expr.Call (.Name "zip" p2) [a,b] [] pos2) X.env)]:=by rfl) (hpl2:(backTo pos (starEach [] X.env)).any (·.1)=false:=by rfl) :
  SE X (.Call (.Name "list" p) [.Call (.Name "zip" p2) [a,b] [] pos2] [] pos) (EV.call LR [ga,gb]) :=
 PE.weak (xq hc Gl'.g ml Gz.g mz ha hs hpl hs2 hpl2) fun σ H Q ⟨δ,hσ,h⟩=>⟨δ,hσ,(RA.bind h).to fun vs H1 s ⟨_,ds,rs,q⟩=>by
  unfold LR at q
  split at q
  ·rename_i xs ys
   split at q
   ·rename_i hb
    obtain ⟨v,v',rfl,r1,r2⟩:=GH rs
    cases r1 with
    | @lst l1 vs1 _ hq1 rr1 =>
     cases r2 with
     | @lst l2 vs2 _ hq2 rr2 =>
      refine ⟨l1,l2,vs1,vs2,rfl,hq1,hq2,by rw [rr1.length];exact hb.1,by rw [rr2.length];exact hb.2,fun H' S zs sm hn e P => ?_⟩
      exact q _ _ sm (.lst (SqL.of e) (xr (H:=H') P (rr1.mono sm) (rr2.mono sm)))
   ·exact False.elim q
  ·exact False.elim q⟩
end
end ES
namespace ES
open PySem PySem.Spec PyProof.Rows L2 EV
unseal SE ST SW SA SS SSs SI SO
section
variable {X:Cx} {N:List Str} {e e2:Expr} {g g2:E} {pos:Pos}
end
end ES
namespace EV
def stX (elt:E) (ks:List Nat) (δ:Dt) (x:D):R (Option D):=(elt (inC ks δ x)).bind fun r=>if D.flat r=true then .ok (some r) else .bad
def F8 (i:Nat) (δ:Dt) (r:R (List D)):O:=match r with
 | .ok rs=>if D.flats rs=true then .nx (δ.set i (some (.own rs))) else .bad
 | .ex C=>.hx C (noOwn δ)
 | .bad=>.bad
def ovX (i:Nat) (δ:Dt) (st:D->R (Option D)) (r:R (List D)):O:=match r with
 | .ok ds=>if ds.length<=100000 then F8 i δ (runC st ds) else .bad
 | .ex C=>.ex C (noOwn δ)
 | .bad=>.bad
def lN (i:Nat) (it:IT) (ks:List Nat) (elt:E):S:=fun δ=>ovX i δ (stX elt ks (view δ)) (it (view δ))
theorem oJ:lN i it ks elt δ=ovX i δ (stX elt ks (view δ)) (it (view δ)):=rfl
theorem Ex (h:ds.length<=100000):ovX i δ st (.ok ds)=F8 i δ (runC st ds):=by
 unfold ovX
 simp only
 rw [if_pos h]
theorem F6 (h:D.flats rs=true):F8 i δ (.ok rs)=.nx (δ.set i (some (.own rs))):=by
 unfold F8
 simp only
 rw [if_pos h]
theorem F7:F8 i δ (.ex C)=.hx C (noOwn δ):=rfl
end EV
namespace ES
open PySem PySem.Spec PyProof.Rows L2 EV
unseal SE ST SW SA SS SSs SI SO
section
variable {prog:Program} {w:World} {A:Around} {E:Value->Shared->Prop} {s:Shared}
end
section
variable {X:Cx} {a b:Expr} {ga gb:E} {p p2 pos pos2:Pos}
end
end ES
namespace ES
open PySem PySem.Spec PyProof.Rows L2 EV
unseal SE ST SW SA SS SSs SI SO
section
variable {X:Cx} {pins:List ↥11} {σ:L2.St} {H:Hp} {s:Shared} {h':Heap}
end
section
variable {X:Cx} {a b:Expr} {ga gb:E} {p pos:Pos}
end
section
variable {X:Cx}
theorem oM:∀ {ds rs:List EV.D},runC (stX ge ks δ) ds=.ok rs->D.flats rs=true
 | [],rs,h=>by cases h;rfl
 | d::ds,rs,h=>by
  unfold runC at h
  cases q:stX ge ks δ d with
  | ok o =>
   rw [q] at h
   simp only [R.bind] at h
   cases q2:runC (stX ge ks δ) ds with
   | ok r =>
    rw [q2] at h
    have i:=oM q2
    cases o with
    | none=>cases h;exact i
    | some x =>
     cases h
     unfold stX at q
     cases q4:ge (inC ks δ d) with
     | ok y =>
      rw [q4] at q
      simp only [R.bind] at q
      split at q
      ·rename_i hf
       cases q
       show (D.flat _&&D.flats r)=true
       rw [hf,i]
       rfl
      ·cases q
     | ex C=>rw [q4] at q;cases q
     | bad=>rw [q4] at q;cases q
   | ex C=>rw [q2] at h;cases h
   | bad=>rw [q2] at h;cases h
  | ex C=>rw [q] at h;cases h
  | bad=>rw [q] at h;cases h
theorem xj {N:List Str} (Cx:Sx X N) (O:Own X) (hc:X.calm=true) (i:Nat) {y:Str} {py spos:Pos} (hN:N[i]? = some y) (hy:Sto X y) {x:Str} {ksn G:List Str} {ks:List Nat} {elt iter:Expr} {px pos:Pos} {sc:Scope} {git:IT} {ge:E} (SC:ScU [x] ksn G sc)
  (hks:ks.map (fun k=>N.getD k "")=ksn) (hlt:∀ k∈ks,k<N.length) (hcell:∀ y∈ksn,X.env.scope.names.lookup y=some .cell)
  (he:SI X (.Name x px) iter git)
  (helt:∀ C fp s H W,Sc ↥17 ([x]++ksn)->(∀ y∈G,Gb ↥17 y)->SE ↥17 elt ge)
  (hsw:swapsWith (.ListComp elt [⟨.Name x px,iter,[],0⟩] sc pos) (some (.Name y py)) spos.line X.env=pure true)
  (hs:∀ z,foldedSetIterable iter X.env z=pure z:=by intro _;rfl) :
  SS X (.Assign [.Name y py] (.ListComp elt [⟨.Name x px,iter,[],0⟩] sc pos) spos) (lN i git ks ge):=by
 intro pins s σ H D I ⟨δ,os,S,q⟩
 have hi:i<σ.length:=by
  rw [I.len,Cx.sc.n]
  exact (List.getElem?_eq_some_iff.mp hN).1
 unfold lN ovX at q
 rw [exec_Assign_Name_used _ _ _ _ hsw]
 refine wpAny_bind (wpAny_standAt (wpAny_bind ?_))
 show wpAny _ X.A (do let _<-comprehension (.ListComp elt [⟨.Name x px,iter,[],0⟩] sc pos) sc X.env _ (newList []) false (eval iter X.env) (some (assign (.Name y py) X.env))) _ _ s
 have key:git (view δ) ≠ .bad/\(∀ C,git (view δ)=.ex C->∀ Ca,X.mg C=some (.ref Ca)->∀ H',aB H H'->ew X Ca σ H')/\∃ ds,(∀ ds',git (view δ)=.ok ds'->ds'=ds/\ds.length<=100000/\OQ X D ↥29 (F8 i δ (runC (stG pt1 (con (.bl true)) ge ks (view δ)) ds)))/\((∃ ds',git (view δ)=.ok ds')\/ds=[]):=by
  cases r:git (view δ) with
  | bad=>rw [r] at q;exact False.elim q
  | ex C=>rw [r] at q;exact ⟨(fun z=>nomatch z),(fun C' e=>by cases e;exact fun Ca hc H' s'=>q σ H' ((aF H os).trans s') (S.noOwn ((aF H os).trans s')) Ca hc),[],(fun _ e=>nomatch e),.inr rfl⟩
  | ok ds =>
   rw [r] at q
   simp only at q
   split at q
   ·rename_i hz
    exact ⟨(fun z=>nomatch z),(fun C' e=>nomatch e),ds,(fun _ e=>by cases e;exact ⟨rfl,hz,q⟩),.inl ⟨_,rfl⟩⟩
   ·exact False.elim q
 obtain ⟨k1,k2,ds,k3,k4⟩:=key
 refine wpAny_bind (wpAny_mono (m9 (Qf:=fun _ s'=>SP X pins D .next s') hc Cx.sc SC hks hlt hcell he MI tg1 (fun _ _ _ _ _ _ _=>.nil) helt hs (use:=some (assign (.Name y py) X.env)) I S.view k2 (ds:=ds) k1 ?_ ?_ (fun _=>O) ?_) (fun _ s' hq=>wpAny_pure (wpAny_pure hq)) fun _ _ e=>e)
 ·intro ds' e
  obtain ⟨e1,e2,e3⟩:=k3 ds' e
  refine ⟨e1,e2,fun z => ?_,fun rs er=>oM (ge:=ge) (ks:=ks) (δ:=view δ) er⟩
  rw [z] at e3
  exact e3
 ·intro C Ca er hC H' sm ea s' hx
  rcases k4 with ⟨ds',e⟩ | e
  ·obtain ⟨_,_,e3⟩:=k3 ds' e
   rw [er] at e3
   exact e3 σ H' ((aF H os).trans sm) (S.noOwn ((aF H os).trans sm)) Ca hC pins ea s' hx
  ·rw [e] at er
   cases er
 ·intro s1 Hc A C ys rs e1 er fl hA hAc rr sm fC I1 ⟨m,ns⟩ _
  obtain ⟨_,_,e3⟩:=k3 ds e1
  rw [er] at e3
  unfold F8 at e3
  simp only at e3
  rw [if_pos fl] at e3
  obtain ⟨S2,sm2⟩:=S.adopt sm hi hA hAc rr fl
  exact thn (rl (a:=A) (py:=py) Cx hN hy I1 fC ns) fun _ s2 ⟨m2,ns2,hq⟩=>⟨m2,ns2,fun h' sb=>⟨_,Hc,hq h' sb,e3 _ _ _ S2 sm2⟩⟩
end
section
variable {prog:Program} {w:World} {A:Around} {E:Value->Shared->Prop} {s:Shared}
end
section
variable {X:Cx} {N:List Str} {e:Expr} {es:List Expr} {g:E} {is:List Nat} {pos:Pos}
end
end ES
namespace ES
open PySem PySem.Spec PyProof.Rows L2 EV
def tabI (K:PySem.W.Frag) (Cs:List (String×Addr)) (q:String×Addr):Bool:=PySem.W.kitOne K (.type "NoneType") (.ref q.2) == some false&&Cs.all fun p=>PySem.W.kitOne K (.ref p.2) (.ref q.2) == some (p.1 == q.1||q.1 == "MillError")
def N9 (K:PySem.W.Frag) (Cs:List (String×Addr)):Bool:=Cs.all fun p=>PySem.W.kitOne K (.ref p.2) ↥13 == some true
def Eb (mg:Str->Option Value) (Cs:List (String×Addr)) (x:String):Prop:=mg x=none\/∃ C,mg x=some (.ref C)/\(x,C)∈Cs
theorem mP {ns:List (String×Addr)} (i:Nat) {x:String×Addr} (h:ns[i]? = some x:=by rfl):x∈ns:=List.mem_of_getElem? h
section
variable {K:PySem.W.Frag} {mg:Str->Option Value} {Cs ns:List (String×Addr)} {q:String×Addr}
theorem cw (t:ns.all (tabI K Cs)=true) (m:q∈ns):PySem.W.kitOne K (.type "NoneType") (.ref q.2)=some false:=by
 have:=List.all_eq_true.mp t q m
 unfold tabI at this
 rw [Bool.and_eq_true] at this
 exact eq_of_beq this.1
theorem cx (hC:∀ x∈ao,Eb mg Cs x) (t:ns.all (tabI K Cs)=true) (m:q∈ns):∀ x∈ao,IF K mg (.ref q.2) (x == q.1||q.1 == "MillError") x:=fun x hx=>by
 have:=List.all_eq_true.mp t q m
 unfold tabI at this
 rw [Bool.and_eq_true] at this
 rcases hC x hx with z | ⟨C,e,mC⟩
 ·exact ⟨.inl z⟩
 ·exact ⟨.inr ⟨C,e,eq_of_beq (List.all_eq_true.mp this.2 (x,C) mC)⟩⟩
theorem JI (hC:∀ x∈ao,Eb mg Cs x) (t:N9 K Cs=true):∀ x∈ao,IF K mg ↥13 true x:=fun x hx=>by
 rcases hC x hx with z | ⟨C,e,mC⟩
 ·exact ⟨.inl z⟩
 ·exact ⟨.inr ⟨C,e,eq_of_beq (List.all_eq_true.mp t (x,C) mC)⟩⟩
end
end ES
namespace T
open EV
def dQ:S :=
 seq (assign 1 (bin oMod (var 0) ⇑8))
 (seq (assign 2 (bin oDiv (var 0) ⇑8))
 (seq (ifs (bin oLt (var 1) ⇑4) (ret (bin oIx (iX [df [⇑5,⇑10],df [⇑8,⇑23],df [⇑11,⇑52],df [⇑15,⇑112]]) (var 1))) (av))
 (seq (ifs (bin oLt (var 1) ⇑6) (ret (df [bin bY ⇑2 (bin oMod (var 2) ⇑14),bin bY ⇑1 (bin oMod (bin oDiv (var 2) ⇑14) ⇑112)])) (av))
 (ret (df [bin bY ⇑2 (bin oMod (var 2) ⇑4),bin bY ⇑1 (bin oMod (bin oDiv (var 2) ⇑4) ⇑5)])))))
def cM:List D->R D:=fn 1 3 dQ
def dR:S :=
 seq (ifs (bin oLt (var 1) (call l5 [var 0])) (ret (bin oIx (var 0) (var 1))) (av))
 (ret ⇑0)
def cN:List D->R D:=fn 2 2 dR
def dS:S :=
 seq (assign 2 (bin eF ⇑1 (bin bY (bin oIx (var 0) ⇑0) ↥18)))
 (seq (assign 3 (bin eF (bin fV (bin eF ⇑1 (bin oIx (var 0) ⇑0)) ⇑1) ↥18))
 (seq (assign 4 (bin oMod (var 1) ⇑9))
 (seq (assign 5 (bin oDiv (var 1) ⇑9))
 (seq (ifs (bin oLt (var 4) ⇑3) (ret (bin oMod (bin kq (var 5) ⇑73846150927364518273645509182736455091829) (bin kq ⇑2 (var 2)))) (av))
 (seq (assign 6 (bin kq (bin oMod (var 5) ⇑2) (var 2)))
 (seq (assign 5 (bin oDiv (var 5) ⇑2))
 (seq (ifs (bin oEq (var 4) ⇑3) (ret (bin bY (var 6) (bin oMod (var 5) ⇑6))) (av))
 (seq (ifs (bin oEq (var 4) ⇑4) (ret (bin bY (bin fV (bin bY (var 6) (var 3)) ⇑3) (bin oMod (var 5) ⇑5))) (av))
 (seq (ifs (bin oEq (var 4) ⇑5) (ret (bin bY (bin fV (bin bY (var 6) (bin eF ⇑1 ↥18)) ⇑2) (bin oMod (var 5) ⇑4))) (av))
 (seq (ifs (bin oEq (var 4) ⇑6) (ret (bin bY (bin fV (bin bY (var 6) (bin eF (bin fV (bin eF ⇑1 (bin fV (bin oIx (var 0) ⇑0) ⇑1)) ⇑1) ↥18)) ⇑2) (bin oMod (var 5) ⇑5))) (av))
 (seq (ifs (bin oEq (var 4) ⇑7) (ret (bin bY (bin bY (bin bY (var 6) (var 3)) ⇑1) (bin oMod (var 5) (bin fV (bin eF ⇑1 ↥18) ⇑1)))) (av))
 (seq (assign 7 (bin oIx (iX [⇑0,⇑1,bin fV (bin eF ⇑1 ↥18) ⇑1,bin eF ⇑1 (bin fV ↥18 ⇑1)]) (bin oMod (var 5) ⇑4)))
 (ret (bin bY (bin bY (var 6) (bin eF (bin oMod (bin oDiv (var 5) ⇑4) (bin eF ⇑1 (bin oIx (var 0) ⇑0))) ↥18)) (var 7)))))))))))))))
def bD:List D->R D:=fn 2 8 dS
def eX:S :=
 seq (iU 3 (gR (itA (slc (var 1) none (some (bin oMod (var 2) ⇑5)))) [0] (con (.bl true)) (call bD [var 1,var 0])))
 (seq (IL (jO (bin oEq (bin oMod (bin oDiv (var 2) ⇑5) ⇑3) ⇑0) (bin oGt (call l5 [var 3]) ⇑0)) (seq (assign 4 (bin eF ⇑2 (bin bY (bin oIx (var 0) ⇑0) ↥18)))
 (seq (assign 5 (bin oMod (bin oDiv (var 2) ⇑60) (bin CN ⇑10 ⇑60)))
 (vM 3 (bin oMod (bin oDiv (var 2) ⇑15) (call l5 [var 3])) (bin oIx (iX [bin fV (un CQ ⇑1) (var 5),bin bY (var 4) (var 5),var 4,un CQ ⇑1]) (bin oMod (bin oDiv (var 2) ⇑30) ⇑4))))) (av))
 (Mc (var 3)))
def bx:List D->R D:=fn 3 6 eX
def jI:S :=
 seq (assign 5 (bin eF ⇑1 (bin bY (bin oIx (var 1) ⇑0) (bin oIx (var 1) ⇑1))))
 (seq (ifs (jO (bin oNe (var 0) ⇑4) (jO (bin oNe (var 0) ⇑8) (bin dE (var 2) ↥33))) (ret (con (.str "way"))) (av))
 (seq (ifs (jO (bin oEq (var 0) ⇑0) (bin oNe (call l5 [var 3]) (call l5 [var 4]))) (ret (con (.str "unlike"))) (av))
 (seq (ifs (jO (or_ (bin oEq (var 0) ⇑3) (bin oEq (var 0) ⇑8)) (bin oEq (call l5 [var 3]) ⇑0)) (ret (con (.str "empty"))) (av))
 (seq (assign 6 (call td [var 3]))
 (seq (ifs (bin oEq (var 0) ⇑0) (assign 6 (bin bY (var 3) (var 4))) (av))
 (seq (sE 7 (itA (var 6)) (ifs (or_ (bin oLt (var 7) ⇑0) (bin oGe (var 7) (bin kq ⇑2 (var 5)))) (ret (con (.str "bits"))) (av)))
 (seq (sE 7 (itA (var 6)) (ifs (jO (bin oGe (var 0) ⇑4) (bin oGe (bin oMod (var 7) (var 5)) (bin fV (var 5) (bin eF ⇑1 (bin oIx (var 1) ⇑1))))) (ret (con (.str "finite"))) (av)))
 (ret (con (.str ""))))))))))
def dv:List D->R D:=fn 5 8 jI
def iz:S :=
 ret (bin eF ⇑1 (bin bY (bin oIx (var 0) ⇑0) ↥18))
def cC:List D->R D:=fn 1 1 iz
def qx:S :=
 ret (bin bY (bin bY (bin oIx (var 0) ⇑0) ↥18) ⇑1)
def iT:List D->R D:=fn 1 1 qx
def jG:S :=
 seq (ifs (or_ (bin oLt (var 1) ⇑0) (bin oGe (var 1) (bin eF ⇑1 (call iT [var 0])))) (raise "NoBits") (av))
 (seq (assign 2 (bin oMod (var 1) (call cC [var 0])))
 (seq (assign 3 (bin eF ⇑1 ↥18))
 (ret (df [bin oDiv (var 1) (call cC [var 0]),bin oDiv (var 2) (var 3),bin oMod (var 2) (var 3)]))))
def aP:List D->R D:=fn 2 4 jG
def dz:S :=
 sE 2 (itA (var 1)) (expr (call aP [var 0,var 2]))
def aT:List D->R D:=fn 2 3 dz
def eY:S :=
 ret (bin fV (bin eF ⇑1 (bin oIx (var 0) ⇑0)) ⇑1)
def bh:List D->R D:=fn 1 1 eY
def sD:S :=
 seq (assign 2 (call aP [var 0,var 1]))
 (seq (assign 3 (bin oIx (var 2) ⇑1))
 (seq (assign 4 (bin oIx (var 2) ⇑2))
 (seq (ifs (bin oEq (var 3) ⇑0) (ret (ife (bin oEq (var 4) ⇑0) (con (.str "nought")) (con (.str "faint")))) (av))
 (seq (ifs (bin oEq (var 3) (call bh [var 0])) (ret (ife (bin oEq (var 4) ⇑0) (con (.str "endless")) (con (.str "none")))) (av))
 (ret (con (.str "plain")))))))
def aN:List D->R D:=fn 2 5 sD
def bL:S :=
 seq (expr (call aT [var 0,var 1]))
 (sE 2 (itA (var 1)) (ifs (bin oIn (call aN [var 0,var 2]) (con (.tup [.str "endless",.str "none"]))) (raise "NotFinite") (av)))
def aq:List D->R D:=fn 2 3 bL
def cS:S :=
 seq (ifs (or_ (bin oIn (call aN [var 0,bin oIx (var 1) ⇑0]) (con (.tup [.str "endless",.str "none"]))) (bin oNe (bin mD (bin oIx (var 1) ⇑1) ⇑4) ⇑0)) (raise "NoLeft") (av))
 (ret (bin oIx (var 1) ⇑0))
def aD:List D->R D:=fn 2 2 cS
def jC:S :=
 seq (ifs (bin dE (var 0) (con (.tup [.str "even",.str "away",.str "nought",.str "up",.str "down"]))) (raise "NoWay") (av))
 (ret (call (mk1 "Way" "name") [var 0]))
def aA:List D->R D:=fn 1 1 jC
def fB:S :=
 seq (lN 2 (itA (var 1)) [0] (call aN [var 1,var 0]))
 (Cv 2 (ret (bin oIn (con (.str "none")) (var 2))))
def bb:List D->R D:=fn 2 3 fB
def ck:S :=
 seq (assign 1 ↥18)
 (seq (assign 2 (bin oIx (var 0) ⇑2))
 (seq (ifs (bin oGe (var 2) ⇑0) (ret (df [bin oIx (var 0) ⇑0,bin eF (var 1) (var 2),⇑1])) (av))
 (ret (df [bin oIx (var 0) ⇑0,var 1,bin eF ⇑1 (un CQ (var 2))]))))
def aC:List D->R D:=fn 1 3 ck
def cv:S :=
 ifs (or_ (bin oLt (var 0) ⇑0) (bin oLt (var 1) ⇑1)) (raise "NoFraction") (av)
def aZ:List D->R D:=fn 2 2 cv
def lX:S :=
 seq (ifs (bin oGe (var 2) ⇑0) (ret (df [var 0,bin eF (var 1) (var 2)])) (av))
 (ret (df [bin eF (var 0) (un CQ (var 2)),var 1]))
def dO:List D->R D:=fn 3 3 lX
def vU:S :=
 ret (bin fV (bin eF ⇑1 (bin fV (bin oIx (var 0) ⇑0) ⇑1)) ⇑1)
def rV:List D->R D:=fn 1 1 vU
def Dz:S :=
 ret (bin fV (bin fV ⇑1 (call rV [var 0])) ↥18)
def js:List D->R D:=fn 1 1 Dz
def cq:S :=
 seq (ifs (bin oEq (var 0) ⇑0) (ret ⇑0) (av))
 (seq (ifs (bin oLt (var 1) (var 2)) (ret ⇑1) (av))
 (ret (ife (bin oEq (var 1) (var 2)) ⇑2 ⇑3)))
def aY:List D->R D:=fn 3 3 cq
def jF:S :=
 ret (call aY [var 0,bin kq ⇑2 (var 0),var 1])
def gI:List D->R D:=fn 2 2 jF
def lY:S :=
 seq (assign 2 (bin fV (call i7 [var 0]) (call i7 [var 1])))
 (seq (assign 3 (call dO [var 0,var 1,var 2]))
 (ret (ife (bin oLt (bin oIx (var 3) ⇑0) (bin oIx (var 3) ⇑1)) (var 2) (bin bY (var 2) ⇑1))))
def fT:List D->R D:=fn 2 4 lY
def Am:S :=
 seq (expr (call aZ [var 1,var 2]))
 (seq (ifs (bin oEq (var 1) ⇑0) (ret (df [⇑0,call js [var 0],⇑0])) (av))
 (seq (assign 3 (call EU [call js [var 0],bin fV (bin fV (call fT [var 1,var 2]) ↥18) ⇑1]))
 (seq (assign 4 (call dO [var 1,var 2,var 3]))
 (ret (df [bin oDiv (bin oIx (var 4) ⇑0) (bin oIx (var 4) ⇑1),var 3,call gI [bin oMod (bin oIx (var 4) ⇑0) (bin oIx (var 4) ⇑1),bin oIx (var 4) ⇑1]])))))
def uy:List D->R D:=fn 3 5 Am
def jJ:S :=
 ret (bin eF (call bh [var 0]) ↥18)
def a9:List D->R D:=fn 1 1 jJ
def lW:S :=
 ret (bin bY (bin kq (var 1) (call cC [var 0])) (var 2))
def bB:List D->R D:=fn 3 3 lW
def eV:S :=
 seq (ifs (bin oEq (var 2) (call a9 [var 0])) (ret (bin bY ⇑1 ⇑4)) (av))
 (seq (assign 3 (bin oLt (var 1) (bin eF ⇑1 ↥18)))
 (ret (ife (var 3) (bin bY ⇑1 ⇑2) ⇑1)))
def dt:List D->R D:=fn 3 4 eV
def bo:S :=
 seq (ifs (bin oEq (un (ye "Way" "name") (var 0)) (con (.str "up"))) (ret (bin oEq (var 1) ⇑0)) (av))
 (ret (jO (bin oEq (un (ye "Way" "name") (var 0)) (con (.str "down"))) (bin oEq (var 1) ⇑1)))
def aX:List D->R D:=fn 2 2 bo
def et:S :=
 seq (ifs (bin oEq (var 3) ⇑0) (ret (con (.bl false))) (av))
 (seq (ifs (bin oEq (un (ye "Way" "name") (var 0)) (con (.str "even"))) (ret (or_ (bin oEq (var 3) ⇑3) (jO (bin oEq (var 3) ⇑2) (var 2)))) (av))
 (seq (ifs (bin oEq (un (ye "Way" "name") (var 0)) (con (.str "away"))) (ret (bin oGe (var 3) ⇑2)) (av))
 (ret (IK "Way" "flees_nought" aX (var 0) [var 1]))))
def fU:List D->R D:=fn 4 4 et
def dA:S :=
 seq (ifs (bin oIn (un (ye "Way" "name") (var 0)) (df [con (.str "even"),con (.str "away")])) (ret (con (.bl true))) (av))
 (ret (IK "Way" "flees_nought" aX (var 0) [var 1]))
def eR:List D->R D:=fn 2 2 dA
def jE:S :=
 seq (assign 6 (call aA [var 1]))
 (seq (assign 7 (bin bY (bin eF (bin fV (var 4) (call js [var 0])) ↥18) (var 3)))
 (seq (assign 8 (call a9 [var 0]))
 (seq (ifs (bin oGe (var 7) (var 8)) (seq (assign 9 (ife (IK "Way" "bursts" eR (var 6) [var 2]) (var 8) (bin fV (var 8) ⇑1)))
 (ret (df [call bB [var 0,var 2,var 9],bin bY ⇑1 ⇑4]))) (av))
 (seq (ifs (bin oEq (var 5) ⇑0) (ret (df [call bB [var 0,var 2,var 7],⇑0])) (av))
 (seq (assign 9 (ife (IK "Way" "grows" fU (var 6) [var 2,bin oEq (bin mD (var 7) ⇑1) ⇑1,var 5]) (bin bY (var 7) ⇑1) (var 7)))
 (ret (df [call bB [var 0,var 2,var 9],call dt [var 0,var 7,var 9]])))))))
def d4:List D->R D:=fn 6 10 jE
def gQ:S :=
 seq (expr (call aA [var 1]))
 (seq (assign 5 (call uy [var 0,var 3,var 4]))
 (ret (call d4 [var 0,var 1,var 2,bin oIx (var 5) ⇑0,bin oIx (var 5) ⇑1,bin oIx (var 5) ⇑2])))
def bG:List D->R D:=fn 5 6 gQ
def qy:S :=
 seq (assign 1 (call (qR 0) [comp (itA (var 0)) [] (bin oIx (var 0) ⇑2)]))
 (seq (assign 2 ⇑0)
 (seq (sE 3 (itA (var 0)) (seq (assign 4 (bin eF (bin oIx (var 3) ⇑1) (bin fV (bin oIx (var 3) ⇑2) (var 1))))
 (assign 2 (ife (bin oEq (bin oIx (var 3) ⇑0) ⇑1) (bin fV (var 2) (var 4)) (bin bY (var 2) (var 4))))))
 (ret (df [ife (bin oLt (var 2) ⇑0) ⇑1 ⇑0,call IM [var 2],var 1]))))
def gH:List D->R D:=fn 1 5 qy
def dP:S :=
 seq (expr (call aA [var 0]))
 (seq (ifs (jO (bin oIn ⇑0 (var 1)) (bin oIn ⇑1 (var 1))) (ret (ife (bin oEq (var 0) (con (.str "down"))) ⇑1 ⇑0)) (av))
 (ret (ife (bin oIn ⇑1 (var 1)) ⇑1 ⇑0)))
def cL:List D->R D:=fn 2 2 dP
def bP:S :=
 seq (assign 3 (call aC [call gH [var 2]]))
 (seq (ifs (bin oEq (bin oIx (var 3) ⇑1) ⇑0) (seq (assign 4 (call cL [var 1,comp (itA (var 2)) [] (bin oIx (var 0) ⇑0)]))
 (ret (df [call bB [var 0,var 4,⇑0],⇑0]))) (av))
 (ret (call bG [var 0,var 1,bin oIx (var 3) ⇑0,bin oIx (var 3) ⇑1,bin oIx (var 3) ⇑2])))
def aK:List D->R D:=fn 3 5 bP
def fZ:S :=
 ret (bin bY (call a9 [var 0]) (bin eF ⇑1 (bin fV ↥18 ⇑1)))
def aM:List D->R D:=fn 1 1 fZ
def bQ:S :=
 seq (iU 3 (gR (itA (var 2)) [] (un tV ↥18) (bin oIx (var 0) ⇑0)))
 (seq (Cv 3 (ifs (jO (bin oIn ⇑0 (var 3)) (bin oIn ⇑1 (var 3))) (ret (df [call aM [var 0],⇑16])) (av)))
 (seq (ifs (bin oGt (call l5 [var 3]) ⇑0) (ret (df [call bB [var 0,bin oIx (var 3) ⇑0,call a9 [var 0]],⇑0])) (av))
 (ret (call aK [var 0,var 1,var 2]))))
def aS:List D->R D:=fn 3 4 bQ
def qw:S :=
 seq (assign 2 (call aP [var 0,var 1]))
 (seq (assign 3 (bin oIx (var 2) ⇑0))
 (seq (assign 4 (bin oIx (var 2) ⇑1))
 (seq (assign 5 (bin oIx (var 2) ⇑2))
 (seq (ifs (bin oEq (var 4) (call bh [var 0])) (raise "NotFinite") (av))
 (seq (ifs (bin oEq (var 4) ⇑0) (ret (df [var 3,var 5,call js [var 0]])) (av))
 (ret (df [var 3,bin bY (bin eF ⇑1 ↥18) (var 5),bin fV (bin bY (call js [var 0]) (var 4)) ⇑1])))))))
def bA:List D->R D:=fn 2 6 qw
def cR:S :=
 seq (ifs (bin oEq (call aN [var 0,var 1]) (con (.str "endless"))) (ret (df [bin oIx (call aP [var 0,var 1]) ⇑0,con .non,⇑0])) (av))
 (ret (call bA [var 0,var 1]))
def aG:List D->R D:=fn 2 2 cR
def dk:S :=
 seq (assign 3 (call aG [var 0,var 1]))
 (seq (assign 4 (call aG [var 0,var 2]))
 (seq (assign 5 (bin qm (bin oIx (var 3) ⇑0) (bin oIx (var 4) ⇑0)))
 (seq (ifs (or_ (un tV (bin oIx (var 3) ⇑1)) (un tV (bin oIx (var 4) ⇑1))) (ret (df [var 5,con .non,⇑0])) (av))
 (ret (df [var 5,bin kq (bin oIx (var 3) ⇑1) (bin oIx (var 4) ⇑1),bin bY (bin oIx (var 3) ⇑2) (bin oIx (var 4) ⇑2)])))))
def ay:List D->R D:=fn 3 6 dk
def cQ:S :=
 seq (assign 3 (df [call aN [var 0,var 1],call aN [var 0,var 2]]))
 (ret (jO (bin oIn (con (.str "nought")) (var 3)) (bin oIn (con (.str "endless")) (var 3))))
def bc:List D->R D:=fn 3 4 cQ
def bj:S :=
 seq (expr (call aA [var 1]))
 (seq (mv 4 (call pj [var 3]))
 (seq (sE 5 (itA (var 2)) (gK 4 (var 5)))
 (seq (IL (call bb [var 0,var 4]) (ret (df [call aM [var 0],⇑0])) (av))
 (seq (ifs (call Ir [comp (itA (var 2)) [0] (call bc [var 1,bin oIx (var 0) ⇑0,bin oIx (var 0) ⇑1])]) (ret (df [call aM [var 0],⇑16])) (av))
 (seq (iU 6 (gR (itA (var 2)) [0] (con (.bl true)) (call ay [var 1,bin oIx (var 0) ⇑0,bin oIx (var 0) ⇑1])))
 (Cv 6 (ret (call aS [var 0,var 1,bin bY (var 6) (comp (itA (var 3)) [0] (call aG [var 1,var 0]))]))))))))
def aj:List D->R D:=fn 4 7 bj
def qA:S :=
 ret (call aj [var 0,var 1,iX [],iX [var 2,var 3]])
def d8:List D->R D:=fn 4 4 qA
def qz:S :=
 ret (df [bin fV ⇑1 (bin oIx (var 0) ⇑0),bin oIx (var 0) ⇑1,bin oIx (var 0) ⇑2])
def dB:List D->R D:=fn 1 1 qz
def jH:S :=
 seq (assign 2 (call aC [call gH [var 1]]))
 (seq (assign 3 (call bG [var 0,con (.str "even"),bin oIx (var 2) ⇑0,bin oIx (var 2) ⇑1,bin oIx (var 2) ⇑2]))
 (seq (ifs (bin oNe (bin oIx (var 3) ⇑1) ⇑0) (raise "NoLeft") (av))
 (ret (bin oIx (var 3) ⇑0))))
def bH:List D->R D:=fn 2 4 jH
def fw:S :=
 seq (expr (call aq [var 0,iX [var 1,var 2]]))
 (seq (assign 3 (call aD [var 0,call d8 [var 0,con (.str "even"),var 1,var 2]]))
 (seq (assign 4 (iX [call bA [var 0,var 1],call bA [var 0,var 2],call dB [call bA [var 0,var 3]]]))
 (ret (df [var 3,call bH [var 0,var 4]]))))
def bI:List D->R D:=fn 3 5 fw
def de:S :=
 seq (ifs (bin oEq (call l5 [var 1]) ⇑0) (raise "Empty") (av))
 (seq (expr (call aq [var 0,var 1]))
 (seq (mv 2 (Md [bin oIx (var 1) ⇑0]))
 (seq (vN 3)
 (seq (sE 4 (itA (slc (var 1) (some ⇑1) none)) (seq (kz 5 (call bI [var 0,bin oIx (var 2) (un CQ ⇑1),var 4]))
 (seq (mw 2 (bin oIx (var 5) ⇑0))
 (mw 3 (bin oIx (var 5) ⇑1)))))
 (Cv 3 (Cv 2 (ret (df [var 2,var 3]))))))))
def bE:List D->R D:=fn 2 6 de
def dX:S :=
 seq (expr (call aA [var 1]))
 (seq (ifs (bin oNe (call l5 [var 2]) (call l5 [var 3])) (raise "Unlike") (av))
 (ret (call aj [var 0,var 1,call LR [var 2,var 3],iX []])))
def cD:List D->R D:=fn 4 4 dX
def jD:S :=
 ret (call aj [var 0,var 1,iX [],var 2])
def fS:List D->R D:=fn 3 3 jD
def fA:S :=
 seq (expr (call aA [var 1]))
 (seq (expr (call aT [var 0,var 2]))
 (seq (vN 3)
 (seq (assign 4 ⇑0)
 (seq (sE 5 (itA (var 2)) (IL (bin oEq (call l5 [var 3]) ⇑0) (mw 3 (var 5)) (seq (kz 6 (call d8 [var 0,var 1,bin oIx (var 3) (un CQ ⇑1),var 5]))
 (seq (mw 3 (bin oIx (var 6) ⇑0))
 (assign 4 (bin yf (var 4) (bin oIx (var 6) ⇑1)))))))
 (Cv 3 (ret (df [var 3,var 4])))))))
def cO:List D->R D:=fn 3 7 fA
def b7 (P0:List D->R D):S :=
 seq (ifs (bin oEq (call l5 [var 2]) ⇑1) (ret (df [bin oIx (var 2) ⇑0,⇑0])) (av))
 (seq (assign 3 (bin oDiv (call l5 [var 2]) ⇑2))
 (seq (assign 4 (call P0 [var 0,var 1,slc (var 2) none (some (var 3))]))
 (seq (assign 5 (call P0 [var 0,var 1,slc (var 2) (some (var 3)) none]))
 (seq (assign 6 (call d8 [var 0,var 1,bin oIx (var 4) ⇑0,bin oIx (var 5) ⇑0]))
 (ret (df [bin oIx (var 6) ⇑0,bin yf (bin yf (bin oIx (var 4) ⇑1) (bin oIx (var 5) ⇑1)) (bin oIx (var 6) ⇑1)]))))))
def az:Nat->List D->R D
 | 0=>fun _=>.bad
 | j+1=>fn 3 7 (b7 (az j))
def cz:S :=
 seq (expr (call aA [var 1]))
 (seq (ifs (bin oEq (call l5 [var 2]) ⇑0) (raise "Empty") (av))
 (seq (expr (call aT [var 0,var 2]))
 (ret (call (az 20) [var 0,var 1,var 2]))))
def bf:List D->R D:=fn 3 3 cz
def eU:S :=
 ret (call aj [var 0,var 1,iX [df [var 2,var 3]],iX []])
def dq:List D->R D:=fn 4 4 eU
def bK:S :=
 seq (expr (call aA [var 1]))
 (seq (expr (call aq [var 0,iX [var 2,var 3]]))
 (seq (assign 4 (call aD [var 0,call dq [var 0,var 1,var 2,var 3]]))
 (seq (assign 5 (iX [call ay [var 0,var 2,var 3],call dB [call bA [var 0,var 4]]]))
 (ret (df [var 4,call bH [var 0,var 5]])))))
def aR:List D->R D:=fn 4 6 bK
def iC:S :=
 ret (call bG [var 0,var 1,bin qm (bin oIx (var 2) ⇑0) (bin oIx (var 3) ⇑0),bin kq (bin oIx (var 2) ⇑1) (bin oIx (var 3) ⇑2),bin kq (bin oIx (var 2) ⇑2) (bin oIx (var 3) ⇑1)])
def fj:List D->R D:=fn 4 4 iC
def iD:S :=
 ret (call aC [call bA [var 0,var 1]])
def bT:List D->R D:=fn 2 2 iD
def jK:S :=
 seq (expr (call aA [var 1]))
 (seq (ifs (call bb [var 0,iX [var 2,var 3]]) (ret (df [call aM [var 0],⇑0])) (av))
 (seq (assign 4 (call aN [var 0,var 2]))
 (seq (assign 5 (call aN [var 0,var 3]))
 (seq (ifs (jO (bin oEq (var 4) (var 5)) (bin oIn (var 4) (df [con (.str "nought"),con (.str "endless")]))) (ret (df [call aM [var 0],⇑16])) (av))
 (seq (assign 6 (bin qm (bin oIx (call aP [var 0,var 2]) ⇑0) (bin oIx (call aP [var 0,var 3]) ⇑0)))
 (seq (ifs (bin oEq (var 4) (con (.str "endless"))) (ret (df [call bB [var 0,var 6,call a9 [var 0]],⇑0])) (av))
 (seq (ifs (or_ (bin oEq (var 4) (con (.str "nought"))) (bin oEq (var 5) (con (.str "endless")))) (ret (df [call bB [var 0,var 6,⇑0],⇑0])) (av))
 (seq (ifs (bin oEq (var 5) (con (.str "nought"))) (ret (df [call bB [var 0,var 6,call a9 [var 0]],⇑8])) (av))
 (ret (call fj [var 0,var 1,call bT [var 0,var 2],call bT [var 0,var 3]]))))))))))
def gJ:List D->R D:=fn 4 7 jK
def br:S :=
 seq (expr (call aA [var 1]))
 (seq (expr (call aq [var 0,iX [var 2,var 3]]))
 (seq (assign 4 (call aD [var 0,call gJ [var 0,var 1,var 2,var 3]]))
 (seq (assign 5 (iX [call bA [var 0,var 2],call dB [call ay [var 0,var 4,var 3]]]))
 (ret (df [var 4,call bH [var 0,var 5]])))))
def aL:List D->R D:=fn 4 6 br
def eT:S :=
 seq (ifs (bin oLt (var 0) ⇑0) (raise "NoFraction") (av))
 (seq (assign 1 (bin eF ⇑1 (bin oDiv (bin bY (call i7 [var 0]) ⇑1) ⇑2)))
 (seq (kD (bin oGt (bin kq (var 1) (var 1)) (var 0)) (assign 1 (bin oDiv (bin bY (var 1) (bin oDiv (var 0) (var 1))) ⇑2)))
 (ret (var 1))))
def dn:List D->R D:=fn 1 2 eT
def fY:S :=
 seq (assign 3 (bin kq (bin kq (bin bY (bin kq ⇑2 (var 2)) ⇑1) (bin bY (bin kq ⇑2 (var 2)) ⇑1)) (var 1)))
 (ret (call aY [bin fV (var 0) (bin kq (bin kq (var 2) (var 2)) (var 1)),bin kq ⇑4 (var 0),var 3]))
def d5:List D->R D:=fn 3 4 fY
def iB:S :=
 seq (expr (call aZ [var 1,var 2]))
 (seq (ifs (bin oEq (var 1) ⇑0) (ret (df [⇑0,call js [var 0],⇑0])) (av))
 (seq (assign 3 (bin oDiv (bin bY (call fT [var 1,var 2]) ⇑1) ⇑2))
 (seq (assign 4 (call EU [call js [var 0],bin fV (bin fV (var 3) ↥18) ⇑1]))
 (seq (assign 5 (call dO [var 1,var 2,bin kq ⇑2 (var 4)]))
 (seq (assign 6 (call dn [bin oDiv (bin oIx (var 5) ⇑0) (bin oIx (var 5) ⇑1)]))
 (ret (df [var 6,var 4,call d5 [bin oIx (var 5) ⇑0,bin oIx (var 5) ⇑1,var 6]])))))))
def fi:List D->R D:=fn 3 7 iB
def iA:S :=
 seq (expr (call aA [var 1]))
 (seq (ifs (call bb [var 0,iX [var 2]]) (ret (df [call aM [var 0],⇑0])) (av))
 (seq (ifs (or_ (bin oEq (call aN [var 0,var 2]) (con (.str "nought"))) (bin oEq (var 2) (call a9 [var 0]))) (ret (df [var 2,⇑0])) (av))
 (seq (ifs (bin oEq (bin oIx (call aP [var 0,var 2]) ⇑0) ⇑1) (ret (df [call aM [var 0],⇑16])) (av))
 (seq (assign 3 (call bT [var 0,var 2]))
 (seq (assign 4 (call fi [var 0,bin oIx (var 3) ⇑1,bin oIx (var 3) ⇑2]))
 (ret (call d4 [var 0,var 1,⇑0,bin oIx (var 4) ⇑0,bin oIx (var 4) ⇑1,bin oIx (var 4) ⇑2])))))))
def dj:List D->R D:=fn 3 5 iA
def cZ:S :=
 seq (expr (call aA [var 1]))
 (seq (expr (call aq [var 0,iX [var 2]]))
 (seq (assign 3 (call aD [var 0,call dj [var 0,var 1,var 2]]))
 (seq (assign 4 (iX [call bA [var 0,var 2],call dB [call ay [var 0,var 3,var 3]]]))
 (ret (df [var 3,call bH [var 0,var 4]])))))
def bC:List D->R D:=fn 3 5 cZ
def a8:S :=
 seq (ifs (bin oEq (var 0) ⇑0) (ret (call cD [var 1,var 2,var 3,var 4])) (av))
 (seq (ifs (bin oEq (var 0) ⇑1) (ret (call fS [var 1,var 2,var 3])) (av))
 (seq (ifs (bin oEq (var 0) ⇑2) (ret (call cO [var 1,var 2,var 3])) (av))
 (seq (ifs (bin oEq (var 0) ⇑3) (ret (call bf [var 1,var 2,var 3])) (av))
 (seq (ifs (bin oEq (var 0) ⇑4) (ret (call bI [var 1,bin oIx (var 3) ⇑0,bin oIx (var 3) ⇑1])) (av))
 (seq (ifs (bin oEq (var 0) ⇑5) (ret (call aR [var 1,var 2,bin oIx (var 3) ⇑0,bin oIx (var 3) ⇑1])) (av))
 (seq (ifs (bin oEq (var 0) ⇑6) (ret (call aL [var 1,var 2,bin oIx (var 3) ⇑0,bin oIx (var 3) ⇑1])) (av))
 (seq (ifs (bin oEq (var 0) ⇑7) (ret (call bC [var 1,var 2,bin oIx (var 3) ⇑0])) (av))
 (ret (call bE [var 1,var 3])))))))))
def ar:List D->R D:=fn 5 5 a8
def gf:S :=
 seq (assign 1 (iX [call fF [var 0,con (.cls "NoSize")],call fF [var 0,con (.cls "NoBits")],call fF [var 0,con (.cls "NoParts")]]))
 (seq (assign 1 (bin bY (var 1) (iX [call fF [var 0,con (.cls "NoRank")],call fF [var 0,con (.cls "NotFinite")],call fF [var 0,con (.cls "NoWay")]])))
 (seq (assign 1 (bin bY (var 1) (iX [call fF [var 0,con (.cls "NoFlags")],call fF [var 0,con (.cls "NoFraction")],call fF [var 0,con (.cls "Unlike")]])))
 (seq (assign 1 (bin bY (var 1) (iX [call fF [var 0,con (.cls "Empty")],call fF [var 0,con (.cls "NoLeft")],call fF [var 0,con (.cls "NoText")]])))
 (seq (assign 1 (bin bY (var 1) (iX [call fF [var 0,con (.cls "NoRow")],call fF [var 0,con (.cls "NoName")],call fF [var 0,con (.cls "Stopped")]])))
 (ret (jO (call fF [var 0,con (.ty "ValueError")]) (bin oEq (call LS [comp (itA (var 1)) [] (call Iq [var 0])]) ⇑1)))))))
def d7:List D->R D:=fn 1 2 gf
def fz:S :=
 seq (ifs (un tV (var 0)) (ret (con (.str ""))) (av))
 (seq (ifs (KZ (call d7 [var 0])) (ret (con (.str "other"))) (av))
 (seq (ifs (call fF [var 0,con (.cls "NoWay")]) (ret (con (.str "way"))) (av))
 (seq (ifs (call fF [var 0,con (.cls "Unlike")]) (ret (con (.str "unlike"))) (av))
 (seq (ifs (call fF [var 0,con (.cls "Empty")]) (ret (con (.str "empty"))) (av))
 (seq (ifs (call fF [var 0,con (.cls "NoBits")]) (ret (con (.str "bits"))) (av))
 (seq (ifs (call fF [var 0,con (.cls "NotFinite")]) (ret (con (.str "finite"))) (av))
 (seq (ifs (call fF [var 0,con (.cls "NoLeft")]) (ret (con (.str "left"))) (av))
 (ret (con (.str "other"))))))))))
def bJ:List D->R D:=fn 1 1 fz
def f9:S :=
 seq (assign 2 (bin oMod (bin oIx (var 1) ⇑0) ⇑9))
 (seq (assign 3 (bin oDiv (bin oIx (var 1) ⇑0) ⇑9))
 (seq (assign 4 (bin oIx ↥33 (bin oMod (var 3) ⇑5)))
 (seq ↥21
 (seq (assign 5 (call bx [var 0,slc (var 1) (some ⇑1) (some ⇑5),bin oDiv (var 3) ⇑20]))
 (seq (assign 6 (call bx [var 0,slc (var 1) (some ⇑3) (some ⇑7),bin oDiv (var 3) ⇑40]))
 (seq (ifs (jO (bin oGe (var 2) ⇑4) (bin oLt (var 2) ⇑8)) (seq (assign 5 (slc (bin bY (var 5) (iX [⇑1,bin eF ⇑1 ↥18])) none (some ⇑2)))
 (ifs (bin oEq (var 2) ⇑7) (assign 5 (slc (var 5) none (some ⇑1))) (av))) (av))
 (seq (assign 7 (con .non))
 (seq (JD (expr (call ar [var 2,var 0,var 4,var 5,var 6])) "MillError" 8 (assign 7 (var 8)))
 (seq (assign 9 (call dv [var 2,var 0,var 4,var 5,var 6]))
 (ret (or_ (bin oEq (call bJ [var 7]) (var 9)) (jO (bin oGe (var 2) ⇑4) (jO (bin oEq (var 9) (con (.str ""))) (bin oEq (call bJ [var 7]) (con (.str "left"))))))))))))))))
def d6:List D->R D:=fn 2 10 f9
def DB:S :=
 seq (assign 1 (call cM [call cN [var 0,⇑0]]))
 (seq (assign 2 (bin bY (slc (var 0) (some ⇑1) none) (iX [⇑8,⇑3,⇑1,⇑4,⇑2,⇑9,⇑5])))
 (seq (sE 3 (ND (bin fV (call l5 [var 2]) ⇑6)) (ifs (KZ (call d6 [var 1,slc (var 2) (some (var 3)) (some (bin bY (var 3) ⇑7))])) (ret (con (.bl false))) (av)))
 (ret (con (.bl true)))))
def CH:List D->R D:=fn 1 4 DB
end T
namespace T
open PySem PySem.Spec PyProof.Rows L2 EV ES
def top (i:Nat):Stmt:=PySem.Challenge.pw_roundmill_k58_rows_refused.main.body.getD i ↥39
set_option maxHeartbeats 4000000
def iu:Stmt:=(cU (top 50)).getD 0 ↥39
def dI:Stmt:=top 92
abbrev jT:List Str:=["_law_cell","_law_way","_law_rest"]
abbrev j3:List Str:=[]
theorem oo:ScF jT j3 ["_law_cell"] (aa dI):=by walk_at "S"
def dJ:Stmt:=top 91
abbrev jU:List Str:=["_law_script","_law_k"]
abbrev j5:List Str:=["len"]
theorem oq:ScF jU j5 ["_law_script","_law_k"] (aa dJ):=by walk_at "S"
def dM:Stmt:=top 93
abbrev jV:List Str:=["_law_size","_law_cell","_law_half","_law_last","_law_way","_law_rest","_law_side","_law_figures"]
abbrev j6:List Str:=[]
theorem ot:ScF jV j6 ["_law_size","_law_cell"] (aa dM):=by walk_at "S"
def eL:Stmt:=top 98
abbrev kL:List Str:=["_law_size","_law_cells","_law_cell","_law_row","_law_many","_law_far"]
abbrev kT:List Str:=["len"]
theorem p0:ScF kL kT ["_law_size","_law_cells","_law_cell"] (aa eL):=by walk_at "S"
def jl:Stmt:=top 97
abbrev tu:List Str:=["_law_which","_law_size","_law_way","_law_xs","_law_ys","_law_half","_law_asked_here","_law_bits"]
abbrev tN:List Str:=["len","list"]
theorem xc:ScF tu tN ["_law_which","_law_size","_law_way","_law_xs","_law_ys"] (aa jl):=by walk_at "S"
def ie:Stmt:=top 21
abbrev pz:List Str:=["size"]
abbrev pI:List Str:=[]
theorem ub:ScF pz pI ["size"] (aa ie):=by walk_at "S"
def qb:Stmt:=top 18
abbrev Bh:List Str:=["size"]
abbrev Bm:List Str:=[]
theorem Cg:ScF Bh Bm ["size"] (aa qb):=by walk_at "S"
def lJ:Stmt:=top 41
abbrev wx:List Str:=["size","bits","code","step"]
abbrev wF:List Str:=["width","NoBits","sign_bit"]
theorem yR:ScF wx wF ["size","bits"] (aa lJ):=by walk_at "S"
def eQ:Stmt:=top 42
abbrev kN:List Str:=["size","numbers","bits"]
abbrev kW:List Str:=["parted"]
theorem p7:ScF kN kW ["size","numbers"] (aa eQ):=by walk_at "S"
def eO:Stmt:=top 22
abbrev kM:List Str:=["size"]
abbrev kU:List Str:=[]
theorem p5:ScF kM kU ["size"] (aa eO):=by walk_at "S"
def vE:Stmt:=top 43
abbrev EW:List Str:=["size","bits","parts","field","figures"]
abbrev EZ:List Str:=["parted","last_field"]
theorem Gu:ScF EW EZ ["size","bits"] (aa vE):=by walk_at "S"
def di:Stmt:=top 81
abbrev iL:List Str:=["size","numbers","bits"]
abbrev iP:List Str:=["check_bits","kind","NOT_FINITE","NotFinite"]
theorem md:ScF iL iP ["size","numbers"] (aa di):=by walk_at "S"
def dN:Stmt:=top 82
abbrev jW:List Str:=["size","pair"]
abbrev j7:List Str:=["kind","NOT_FINITE","GREAT","NoLeft"]
theorem ou:ScF jW j7 ["size","pair"] (aa dN):=by walk_at "S"
def lE:Stmt:=top 51
abbrev wg:List Str:=["name"]
abbrev wz:List Str:=["NAMES","NoWay","Way"]
theorem yM:ScF wg wz ["name"] (aa lE):=by walk_at "S"
def ir:Stmt:=top 61
abbrev pG:List Str:=["size","numbers","kinds"]
abbrev pO:List Str:=[]
theorem uh:ScF pG pO ["size","numbers"] (aa ir):=by walk_at "S"
def cc:Stmt:=top 45
abbrev gm:List Str:=["value","whole","power"]
abbrev gq:List Str:=[]
theorem kh:ScF gm gq ["value"] (aa cc):=by walk_at "S"
def cj:Stmt:=top 26
abbrev gp:List Str:=["top","bottom"]
abbrev gy:List Str:=["NoFraction"]
theorem kj:ScF gp gy ["top","bottom"] (aa cj):=by walk_at "S"
def lH:Stmt:=top 27
abbrev wq:List Str:=["top","bottom","power"]
abbrev wC:List Str:=[]
theorem yP:ScF wq wC ["top","bottom","power"] (aa lH):=by walk_at "S"
def vF:Stmt:=top 19
abbrev EX:List Str:=["size"]
abbrev E1:List Str:=[]
theorem Gv:ScF EX E1 ["size"] (aa vF):=by walk_at "S"
def Co:Stmt:=top 20
abbrev LY:List Str:=["size"]
abbrev L8:List Str:=["bias"]
theorem JR:ScF LY L8 ["size"] (aa Co):=by walk_at "S"
def cg:Stmt:=top 29
abbrev gn:List Str:=["over","number","middle"]
abbrev gx:List Str:=[]
theorem ki:ScF gn gx ["over","number","middle"] (aa cg):=by walk_at "S"
def jj:Stmt:=top 30
abbrev tm:List Str:=["over","step"]
abbrev tL:List Str:=["rest_by_middle"]
theorem xa:ScF tm tL ["over","step"] (aa jj):=by walk_at "S"
def lL:Stmt:=top 28
abbrev wy:List Str:=["top","bottom","guess","parts"]
abbrev wG:List Str:=["scaled"]
theorem yT:ScF wy wG ["top","bottom"] (aa lL):=by walk_at "S"
def Cp:Stmt:=top 31
abbrev L6:List Str:=["size","top","bottom","power","parts"]
abbrev Ma:List Str:=["check_fraction","low","max","height","scaled","rest_of"]
theorem JT:ScF L6 Ma ["size","top","bottom"] (aa Cp):=by walk_at "S"
def jo:Stmt:=top 23
abbrev tG:List Str:=["size"]
abbrev tP:List Str:=["last_field"]
theorem xg:ScF tG tP ["size"] (aa jo):=by walk_at "S"
def lG:Stmt:=top 47
abbrev wm:List Str:=["size","sign","code"]
abbrev wB:List Str:=["sign_bit"]
theorem yO:ScF wm wB ["size","sign","code"] (aa lG):=by walk_at "S"
def eK:Stmt:=top 54
abbrev kK:List Str:=["size","code","taken","faint"]
abbrev kR:List Str:=["endless","INEXACT","GREAT","SMALL"]
theorem pZ:ScF kK kR ["size","code","taken"] (aa eK):=by walk_at "S"
def aJ:Stmt:=(cU (top 50)).getD 3 ↥39
abbrev fe:List Str:=["self","sign"]
abbrev fg:List Str:=[]
theorem iR:ScF fe fg ["self","sign"] (aa aJ):=by walk_at "S"
def cy:Stmt:=(cU (top 50)).getD 1 ↥39
abbrev nR:List Str:=["self","sign","odd","rest"]
abbrev oh:List Str:=[]
theorem rJ:ScF nR oh ["self","sign","odd","rest"] (aa cy):=by walk_at "S"
def bO:Stmt:=(cU (top 50)).getD 2 ↥39
abbrev kO:List Str:=["self","sign"]
abbrev kX:List Str:=[]
theorem p8:ScF kO kX ["self","sign"] (aa bO):=by walk_at "S"
def jh:Stmt:=top 53
abbrev tf:List Str:=["size","way","sign","whole","power","rest","chosen","code","end","taken"]
abbrev tJ:List Str:=["way_of","low","endless","signed","INEXACT","GREAT","lost_flags"]
theorem wY:ScF tf tJ ["size","way","sign","whole","power","rest"] (aa jh):=by walk_at "S"
def ji:Stmt:=top 55
abbrev tj:List Str:=["size","way","sign","top","bottom","parts"]
abbrev tK:List Str:=["way_of","cut","settled"]
theorem wZ:ScF tj tK ["size","way","sign","top","bottom"] (aa ji):=by walk_at "S"
def qc:Stmt:=top 57
abbrev Bi:List Str:=["terms","power","whole","term","part"]
abbrev Bn:List Str:=["min","abs"]
theorem Ci:ScF Bi Bn ["terms"] (aa qc):=by walk_at "S"
def dH:Stmt:=top 58
abbrev jS:List Str:=["way","signs"]
abbrev jZ:List Str:=["way_of"]
theorem om:ScF jS jZ ["way","signs"] (aa dH):=by walk_at "S"
def cH:Stmt:=top 59
abbrev gW:List Str:=["size","way","terms","value","sign"]
abbrev hG:List Str:=["worth_fraction","total","nought_sign","signed","rounded"]
theorem kZ:ScF gW hG ["size","way","terms"] (aa cH):=by walk_at "S"
def fK:Stmt:=top 24
abbrev nK:List Str:=["size"]
abbrev nW:List Str:=["endless"]
theorem rA:ScF nK nW ["size"] (aa fK):=by walk_at "S"
def cI:Stmt:=top 65
abbrev gX:List Str:=["size","way","terms","signs"]
abbrev hU:List Str:=["no_number","WRONG","len","signed","endless","settled_total"]
theorem la:ScF gX hU ["size","way","terms"] (aa cI):=by walk_at "S"
def p9:Stmt:=top 44
abbrev Bg:List Str:=["size","bits","parts","sign","field","figures"]
abbrev Bl:List Str:=["parted","last_field","NotFinite","low"]
theorem Cf:ScF Bg Bl ["size","bits"] (aa p9):=by walk_at "S"
def dG:Stmt:=top 62
abbrev jR:List Str:=["size","bits"]
abbrev jY:List Str:=["kind","parted","worth"]
theorem oj:ScF jR jY ["size","bits"] (aa dG):=by walk_at "S"
def dg:Stmt:=top 64
abbrev iI:List Str:=["size","a","b","left","right","sign"]
abbrev iM:List Str:=["number_term"]
theorem l8:ScF iI iM ["size","a","b"] (aa dg):=by walk_at "S"
def cK:Stmt:=top 63
abbrev gZ:List Str:=["size","a","b","kinds"]
abbrev ia:List Str:=["kind"]
theorem lh:ScF gZ ia ["size","a","b"] (aa cK):=by walk_at "S"
def dF:Stmt:=top 66
abbrev jQ:List Str:=["size","way","pairs","singles","numbers","pair","products"]
abbrev jX:List Str:=["way_of","list","any_none","no_number","any","WRONG","settled_terms"]
theorem oi:ScF jQ jX ["size","way","pairs","singles"] (aa dF):=by walk_at "S"
def qe:Stmt:=top 68
abbrev Bk:List Str:=["size","way","a","b"]
abbrev Bp:List Str:=["settled_sum"]
theorem Ck:ScF Bk Bp ["size","way","a","b"] (aa qe):=by walk_at "S"
def qd:Stmt:=top 83
abbrev Bj:List Str:=["term"]
abbrev Bo:List Str:=[]
theorem Cj:ScF Bj Bo ["term"] (aa qd):=by walk_at "S"
def jk:Stmt:=top 84
abbrev tq:List Str:=["size","terms","value","pair"]
abbrev tM:List Str:=["worth_fraction","total","rounded","NoLeft"]
theorem xb:ScF tq tM ["size","terms"] (aa jk):=by walk_at "S"
def ib:Stmt:=top 85
abbrev pq:List Str:=["size","a","b","answer","terms"]
abbrev pH:List Str:=["check_finite","kept_answer","added","worth","minus","left_of"]
theorem ua:ScF pq pH ["size","a","b"] (aa ib):=by walk_at "S"
def fO:Stmt:=top 89
abbrev nO:List Str:=["size","xs","steps","lefts","bits","pair"]
abbrev oa:List Str:=["len","Empty","check_finite","sum_left"]
theorem rG:ScF nO oa ["size","xs"] (aa fO):=by walk_at "S"
def ip:Stmt:=top 74
abbrev pE:List Str:=["size","way","xs","ys"]
abbrev pM:List Str:=["way_of","len","Unlike","settled_sum","list","zip"]
theorem uf:ScF pE pM ["size","way","xs","ys"] (aa ip):=by walk_at "S"
def lF:Stmt:=top 75
abbrev wj:List Str:=["size","way","xs"]
abbrev wA:List Str:=["settled_sum"]
theorem yN:ScF wj wA ["size","way","xs"] (aa lF):=by walk_at "S"
def jm:Stmt:=top 76
abbrev tw:List Str:=["size","way","xs","steps","flags","bits","pair"]
abbrev tO:List Str:=["way_of","check_bits","len","added"]
theorem xf:ScF tw tO ["size","way","xs"] (aa jm):=by walk_at "S"
def bp:Stmt:=top 78
abbrev iK:List Str:=["size","way","xs","middle","first","second","pair"]
abbrev iO:List Str:=["len","halves_added","added"]
theorem ma:ScF iK iO ["size","way","xs"] (aa bp):=by walk_at "S"
def fP:Stmt:=top 77
abbrev nQ:List Str:=["size","way","xs"]
abbrev og:List Str:=["way_of","len","Empty","check_bits","halves_added"]
theorem rH:ScF nQ og ["size","way","xs"] (aa fP):=by walk_at "S"
def eJ:Stmt:=top 69
abbrev kJ:List Str:=["size","way","a","b"]
abbrev kQ:List Str:=["settled_sum"]
theorem pY:ScF kJ kQ ["size","way","a","b"] (aa eJ):=by walk_at "S"
def dh:Stmt:=top 86
abbrev iJ:List Str:=["size","way","a","b","answer","terms"]
abbrev iN:List Str:=["way_of","check_finite","kept_answer","multiplied","product_term","minus","worth","left_of"]
theorem l9:ScF iJ iN ["size","way","a","b"] (aa dh):=by walk_at "S"
def ij:Stmt:=top 71
abbrev pB:List Str:=["size","way","over","under"]
abbrev pK:List Str:=["rounded"]
theorem ud:ScF pB pK ["size","way","over","under"] (aa ij):=by walk_at "S"
def iq:Stmt:=top 46
abbrev pF:List Str:=["size","bits"]
abbrev pN:List Str:=["worth_fraction","worth"]
theorem ug:ScF pF pN ["size","bits"] (aa iq):=by walk_at "S"
def jq:Stmt:=top 70
abbrev tH:List Str:=["size","way","a","b","over","under","sign"]
abbrev tQ:List Str:=["way_of","any_none","no_number","kind","WRONG","parted","signed","endless","POLE","quotient","fraction"]
theorem xh:ScF tH tQ ["size","way","a","b"] (aa jq):=by walk_at "S"
def cJ:Stmt:=top 87
abbrev gY:List Str:=["size","way","a","b","answer","terms"]
abbrev hV:List Str:=["way_of","check_finite","kept_answer","divided","worth","minus","product_term","left_of"]
theorem lg:ScF gY hV ["size","way","a","b"] (aa cJ):=by walk_at "S"
def eI:Stmt:=top 32
abbrev kI:List Str:=["number","root"]
abbrev kP:List Str:=["NoFraction"]
theorem pX:ScF kI kP ["number"] (aa eI):=by walk_at "S"
def fI:Stmt:=top 33
abbrev nH:List Str:=["top","bottom","root","middle"]
abbrev nU:List Str:=["rest_by_middle"]
theorem rq:ScF nH nU ["top","bottom","root"] (aa fI):=by walk_at "S"
def ig:Stmt:=top 34
abbrev pA:List Str:=["size","top","bottom","root_height","power","parts","root"]
abbrev pJ:List Str:=["check_fraction","low","height","max","scaled","whole_root","root_rest"]
theorem uc:ScF pA pJ ["size","top","bottom"] (aa ig):=by walk_at "S"
def lI:Stmt:=top 72
abbrev wu:List Str:=["size","way","a","value","parts"]
abbrev wD:List Str:=["way_of","any_none","no_number","kind","endless","parted","WRONG","fraction","root_cut","settled"]
theorem yQ:ScF wu wD ["size","way","a"] (aa lI):=by walk_at "S"
def fJ:Stmt:=top 88
abbrev nJ:List Str:=["size","way","a","answer","terms"]
abbrev nV:List Str:=["way_of","check_finite","kept_answer","rooted","worth","minus","product_term","left_of"]
theorem rz:ScF nJ nV ["size","way","a"] (aa fJ):=by walk_at "S"
def fM:Stmt:=top 96
abbrev nM:List Str:=["_law_which","_law_size","_law_way","_law_xs","_law_ys"]
abbrev nY:List Str:=["gathered","summed","in_turn","in_halves","sum_left","product_left","quotient_left","root_left","kept_turn"]
theorem rE:ScF nM nY ["_law_which","_law_size","_law_way","_law_xs","_law_ys"] (aa fM):=by walk_at "S"
def fN:Stmt:=top 94
abbrev nN:List Str:=["_law_caught","_law_fits"]
abbrev nZ:List Str:=["isinstance","NoSize","NoBits","NoParts","NoRank","NotFinite","NoWay","NoFlags","NoFraction","Unlike","Empty","NoLeft","NoText","NoRow","NoName","Stopped","ValueError","sum"]
theorem rF:ScF nN nZ ["_law_caught"] (aa fN):=by walk_at "S"
def ik:Stmt:=top 95
abbrev pC:List Str:=["_law_caught"]
abbrev pL:List Str:=["_law_alone","isinstance","NoWay","Unlike","Empty","NoBits","NotFinite","NoLeft"]
theorem ue:ScF pC pL ["_law_caught"] (aa ik):=by walk_at "S"
def fL:Stmt:=top 99
abbrev nL:List Str:=["_law_size","_law_cells","_law_which","_law_rest","_law_way","_law_xs","_law_ys","_law_caught","e","_law_due_here"]
abbrev nX:List Str:=["_law_row_by","_law_asked","MillError","_law_due","_law_word"]
theorem rB:ScF nL nX ["_law_size","_law_cells"] (aa fL):=by walk_at "S"
def ow:Stmt:=top 100
abbrev LZ:List Str:=["_law_script","_law_size","_law_cells","_law_k"]
abbrev L9:List Str:=["_law_size_by","_law_cell_at","range","len","_law_holds"]
theorem JS:ScF LZ L9 ["_law_script"] (aa ow):=by walk_at "S"
section
variable {X:Cx} {k:Nat} (hr:Room k X.A) (L:Lp X) (O:Own X)
include hr L O
theorem qN (P:Pl X jT j3) (hS:X.env.scope=aa dI)
     : SSs X (ah dI) dQ:=by
 unfold dQ
 exact (ae (P.set 1 (cW ↥22 af))
 (ae (P.set 2 (eu ↥22 af))
 (ae (P.if_ (wV (P.v 1) af) (ai (P.ret (oB (cT (ag (aV (a2 af af) ↥0) (ag (aV (a2 af af) ↥0) (ag (aV (a2 af af) ↥0) (ag (aV (a2 af af) ↥0) bR)))) ↥0) (P.v 1)))) ax)
 (ae (P.if_ (wV (P.v 1) af) (ai (P.ret (aV (a2 (ba af (cW (P.v 2) af)) (ba af (cW (eu (P.v 2) af) af))) ↥0))) ax)
 (ai (P.ret (aV (a2 (ba af (cW (P.v 2) af)) (ba af (cW (eu (P.v 2) af) af))) ↥0)))))))
theorem qO (P:Pl X jU j5) (hS:X.env.scope=aa dJ)
  (m_len:X.mg "len"=none):SSs X (ah dJ) dR:=by
 unfold dR
 exact (ae (P.if_ (wV (P.v 1) (cE i6 iW (P.w 0) m_len PySem.boot_len (a1 ↥22))) (ai (P.ret (oB ↥22 (P.v 1)))) ax)
 (ai (P.ret af)))
theorem qP (P:Pl X jV j6) (hS:X.env.scope=aa dM)
     : SSs X (ah dM) dS:=by
 unfold dS
 exact (ae (P.set 2 (cA af (ba (P.y 0) (P.y 0))))
 (ae (P.set 3 (cA (cF (cA af (P.y 0)) af) (P.y 0)))
 (ae (P.set 4 (cW (P.v 1) af))
 (ae (P.set 5 (eu (P.v 1) af))
 (ae (P.if_ (wV (P.v 4) af) (ai (P.ret (cW (gA (P.v 5) af) (gA af (P.v 2))))) ax)
 (ae (P.set 6 (gA (cW (P.v 5) af) (P.v 2)))
 (ae (P.set 5 (eu (P.v 5) af))
 (ae (P.if_ (dm hr (P.v 4) af) (ai (P.ret (ba (P.v 6) (cW (P.v 5) af)))) ax)
 (ae (P.if_ (dm hr (P.v 4) af) (ai (P.ret (ba (cF (ba (P.v 6) (P.v 3)) af) (cW (P.v 5) af)))) ax)
 (ae (P.if_ (dm hr (P.v 4) af) (ai (P.ret (ba (cF (ba (P.v 6) (cA af (P.y 0))) af) (cW (P.v 5) af)))) ax)
 (ae (P.if_ (dm hr (P.v 4) af) (ai (P.ret (ba (cF (ba (P.v 6) (cA (cF (cA af (cF (P.y 0) af)) af) (P.y 0))) af) (cW (P.v 5) af)))) ax)
 (ae (P.if_ (dm hr (P.v 4) af) (ai (P.ret (ba (ba (ba (P.v 6) (P.v 3)) af) (cW (P.v 5) (cF (cA af (P.y 0)) af))))) ax)
 (ae (P.set 7 (oB (cT (ag af (ag af (ag (cF (cA af (P.y 0)) af) (ag (cA af (cF (P.y 0) af)) bR)))) ↥0) (cW (P.v 5) af)))
 (ai (P.ret (ba (ba (P.v 6) (cA (cW (eu (P.v 5) af) (cA af (P.y 0))) (P.y 0))) (P.v 7)))))))))))))))))
theorem sW (P:Pl X kL kT) (hS:X.env.scope=aa eL)
  (c_law_bits_by:Callee X "_law_bits_by" bD) (m_len:X.mg "len"=none):SSs X (ah eL) eX:=by
 unfold eX
 exact (ae (me P.toSx L.calm 3 rfl (P.sto _ (mG 3)) (x:="_law_number") (ksn:=["_law_size"]) (G:=["_law_bits_by"]) (ks:=[0]) (by walk_at "C") rfl ↥0 (by rw [hS];decide +kernel) (gO (oA (P.v 1) fR (bS (cW (P.v 2) af)))) (fun C fp s H W S' G'=>.nil) (fun C fp s H W S' G'=>(mX ⟨c_law_bits_by.ex⟩ (G' _ (mG 0)) (a2 (dD S' 1 rfl) (dD S' 0 rfl)))) (jb hS (by decide +kernel)))
 (ae (Gx (t_w (w_and (dm hr (cW (eu (P.v 2) af) af) af) (i8 (MK (cE i6 iW (P.w 0) m_len PySem.boot_len (a1 (P.v 3))) af)))) (ae (P.set 4 (cA af (ba (P.y 0) (P.y 0))))
 (ae (P.set 5 (cW (eu (P.v 2) af) (NQ af af)))
 (ai (Cm P.toSx 3 rfl (oB (cT (ag (cF (xP af) (P.v 5)) (ag (ba (P.v 4) (P.v 5)) (ag (P.v 4) (ag (xP af) bR)))) ↥0) (cW (eu (P.v 2) af) af)) (cW (eu (P.v 2) af) (cE i6 iW (P.w 0) m_len PySem.boot_len (a1 (P.v 3)))))))) ax)
 (ai (JV (P.v 3)))))
theorem AZ (P:Pl X tu tN) (hS:X.env.scope=aa jl)
  (m_len:X.mg "len"=none) (m_list:X.mg "list"=none):SSs X (ah jl) jI:=by
 unfold jI
 exact (ae (P.set 5 (cA af (ba (P.y 1) (P.y 1))))
 (ae (P.if_ (t_w (w_and (II hr ↥22 af) (w_and (II hr ↥22 af) (i8 (yF (P.v 2) (cT (ag aO (ag aO (ag aO (ag aO (ag aO bR))))) ↥0)))))) (ai (P.ret aO)) ax)
 (ae (P.if_ (t_w (w_and (dm hr ↥22 af) (i8 (II hr (cE i6 iW (P.w 0) m_len PySem.boot_len (a1 (P.v 3))) (cE i6 iW (P.w 0) m_len PySem.boot_len (a1 (P.v 4))))))) (ai (P.ret aO)) ax)
 (ae (P.if_ (t_w (w_and (t_w (w_or (dm hr ↥22 af) (rg (dm hr ↥22 af)))) (i8 (dm hr (cE i6 iW (P.w 0) m_len PySem.boot_len (a1 (P.v 3))) af)))) (ai (P.ret aO)) ax)
 (ae (P.set 6 (EN LN KU (P.w 1) m_list boot_list (a1 (P.v 3))))
 (ae (P.if_ (dm hr ↥22 af) (ai (P.set 6 (ba (P.v 3) (P.v 4)))) ax)
 (ae (jn P.toSx L 7 rfl (P.sto _ (mG 7)) (gO (P.v 6)) (ai (P.if_ (t_w (w_or (wV (P.v 7) af) (rg (Ek (P.v 7) (gA af (P.v 5)))))) (ai (P.ret aO)) ax)))
 (ae (jn P.toSx L 7 rfl (P.sto _ (mG 7)) (gO (P.v 6)) (ai (P.if_ (t_w (w_and (Ek ↥22 af) (i8 (Ek (cW (P.v 7) (P.v 5)) (cF (P.v 5) (cA af (P.y 1))))))) (ai (P.ret aO)) ax)))
 (ai (P.ret aO))))))))))
theorem xV (P:Pl X pz pI) (hS:X.env.scope=aa ie)
     : SSs X (ah ie) iz:=by
 unfold iz
 exact (ai (P.ret (cA af (ba (P.y 0) (P.y 0)))))
theorem Ij (P:Pl X Bh Bm) (hS:X.env.scope=aa qb)
     : SSs X (ah qb) qx:=by
 unfold qx
 exact (ai (P.ret (ba (ba (P.y 0) (P.y 0)) af)))
theorem DQ (P:Pl X wx wF) (hS:X.env.scope=aa lJ) {C_NoBits:Addr}
  (c_width:Callee X "width" iT) (q_NoBits:X.mg "NoBits"=some (.ref  C_NoBits)) (xi_NoBits:PySem.W.excIn X.K C_NoBits bmV "ValueError.__new__"=true) (c_sign_bit:Callee X "sign_bit" cC):SSs X (ah lJ) jG:=by
 unfold jG
 exact (ae (P.if_ (t_w (w_or (wV (P.v 1) af) (rg (Ek (P.v 1) (cA af (P.call 0 c_width (a1 ↥22))))))) (ai (dY (x:="NoBits") L.calm (P.w 1) q_NoBits xi_NoBits)) ax)
 (ae (P.set 2 (cW (P.v 1) (P.call 2 c_sign_bit (a1 ↥22))))
 (ae (P.set 3 (cA af (P.y 0)))
 (ai (P.ret (aV (a3 (eu (P.v 1) (P.call 2 c_sign_bit (a1 ↥22))) (eu (P.v 2) (P.v 3)) (cW (P.v 2) (P.v 3))) ↥0))))))
theorem sY (P:Pl X kN kW) (hS:X.env.scope=aa eQ)
  (c_parted:Callee X "parted" aP):SSs X (ah eQ) dz:=by
 unfold dz
 exact (ai (jn P.toSx L 2 rfl (P.sto _ (mG 2)) (gO (P.v 1)) (ai (P.xp (P.call 0 c_parted (a2 ↥22 (P.v 2)))))))
theorem sX (P:Pl X kM kU) (hS:X.env.scope=aa eO)
     : SSs X (ah eO) eY:=by
 unfold eY
 exact (ai (P.ret (cF (cA af (P.y 0)) af)))
theorem LP (P:Pl X EW EZ) (hS:X.env.scope=aa vE)
  (c_parted:Callee X "parted" aP) (c_last_field:Callee X "last_field" bh):SSs X (ah vE) sD:=by
 unfold sD
 exact (ae (P.set 2 (P.call 0 c_parted (a2 ↥22 (P.v 1))))
 (ae (P.set 3 (P.y 2))
 (ae (P.set 4 (P.y 2))
 (ae (P.if_ (dm hr (P.v 3) af) (ai (P.ret (AD (dm hr (P.v 4) af) aO aO))) ax)
 (ae (P.if_ (dm hr (P.v 3) (P.call 1 c_last_field (a1 ↥22))) (ai (P.ret (AD (dm hr (P.v 4) af) aO aO))) ax)
 (ai (P.ret aO)))))))
theorem oI (P:Pl X iL iP) (hS:X.env.scope=aa di) {C_NotFinite:Addr}
  (c_check_bits:Callee X "check_bits" aT) (c_kind:Callee X "kind" aN) (g_NOT_FINITE:GC X "NOT_FINITE" (.tup [.str "endless",.str "none"])) (q_NotFinite:X.mg "NotFinite"=some (.ref  C_NotFinite)) (xi_NotFinite:PySem.W.excIn X.K C_NotFinite bmV "ValueError.__new__"=true):SSs X (ah di) bL:=by
 unfold bL
 exact (ae (P.xp (P.call 0 c_check_bits (a2 ↥22 (P.v 1))))
 (ai (jn P.toSx L 2 rfl (P.sto _ (mG 2)) (gO (P.v 1)) (ai (P.if_ (Cc (P.call 1 c_kind (a2 ↥22 (P.v 2))) (NS (P.w 2) g_NOT_FINITE)) (ai (dY (x:="NotFinite") L.calm (P.w 3) q_NotFinite xi_NotFinite)) ax)))))
theorem qQ (P:Pl X jW j7) (hS:X.env.scope=aa dN) {C_NoLeft:Addr}
  (c_kind:Callee X "kind" aN) (g_NOT_FINITE:GC X "NOT_FINITE" (.tup [.str "endless",.str "none"])) (g_GREAT:∃ t,X.mg "GREAT"=some (.int 4 t)) (q_NoLeft:X.mg "NoLeft"=some (.ref  C_NoLeft)) (xi_NoLeft:PySem.W.excIn X.K C_NoLeft bmV "ValueError.__new__"=true):SSs X (ah dN) cS:=by
 unfold cS
 exact (ae (P.if_ (t_w (w_or (Cc (P.call 0 c_kind (a2 ↥22 (P.y 1))) (NS (P.w 1) g_NOT_FINITE)) (rg (II hr (EO (P.y 1) (fE (P.w 2) g_GREAT)) af)))) (ai (dY (x:="NoLeft") L.calm (P.w 3) q_NoLeft xi_NoLeft)) ax)
 (ai (P.ret (P.y 1))))
theorem DL (P:Pl X wg wz) (hS:X.env.scope=aa lE) {C_NoWay:Addr}
  (g_NAMES:GC X "NAMES" (.tup [.str "even",.str "away",.str "nought",.str "up",.str "down"])) (q_NoWay:X.mg "NoWay"=some (.ref  C_NoWay)) (xi_NoWay:PySem.W.excIn X.K C_NoWay bmV "ValueError.__new__"=true) (mk_Way:MakeOk X "Way" "name"):SSs X (ah lE) jC:=by
 unfold jC
 exact (ae (P.if_ (yF ↥22 (NS (P.w 0) g_NAMES)) (ai (dY (x:="NoWay") L.calm (P.w 1) q_NoWay xi_NoWay)) ax)
 (ai (P.ret (HX (cn:="Way") (f:="name") mk_Way (P.w 2) (a1 ↥22)))))
theorem yb (P:Pl X pG pO) (hS:X.env.scope=aa ir)
  (c_kind:Callee X "kind" aN):SSs X (ah ir) fB:=by
 unfold fB
 exact (ae (xj P.toSx O L.calm 2 rfl (P.sto _ (mG 2)) (x:="bits") (ksn:=["size"]) (G:=["kind"]) (ks:=[0]) (by walk_at "C") rfl ↥0 (by rw [hS];decide +kernel) (gO (P.v 1)) (fun C fp s H W S' G'=>(mX ⟨c_kind.ex⟩ (G' _ (mG 0)) (a2 (dD S' 1 rfl) (dD S' 0 rfl)))) (jb hS (by decide +kernel)))
 (ai (xi 2 (P.ret (NR aO (P.v 2))))))
theorem lz (P:Pl X gm gq) (hS:X.env.scope=aa cc)
     : SSs X (ah cc) ck:=by
 unfold ck
 exact (ae (P.set 1 (P.y 0))
 (ae (P.set 2 (P.y 0))
 (ae (P.if_ (Ek (P.v 2) af) (ai (P.ret (aV (a3 (P.y 0) (cA (P.v 1) (P.v 2)) af) ↥0))) ax)
 (ai (P.ret (aV (a3 (P.y 0) (P.v 1) (cA af (xP (P.v 2)))) ↥0))))))
theorem lB (P:Pl X gp gy) (hS:X.env.scope=aa cj) {C_NoFraction:Addr}
  (q_NoFraction:X.mg "NoFraction"=some (.ref  C_NoFraction)) (xi_NoFraction:PySem.W.excIn X.K C_NoFraction bmV "ValueError.__new__"=true):SSs X (ah cj) cv:=by
 unfold cv
 exact (ai (P.if_ (t_w (w_or (wV ↥22 af) (rg (wV (P.v 1) af)))) (ai (dY (x:="NoFraction") L.calm (P.w 0) q_NoFraction xi_NoFraction)) ax))
theorem DO (P:Pl X wq wC) (hS:X.env.scope=aa lH)
     : SSs X (ah lH) lX:=by
 unfold lX
 exact (ae (P.if_ (Ek (P.v 2) af) (ai (P.ret (aV (a2 ↥22 (cA (P.v 1) (P.v 2))) ↥0))) ax)
 (ai (P.ret (aV (a2 (cA ↥22 (xP (P.v 2))) (P.v 1)) ↥0))))
theorem LQ (P:Pl X EX E1) (hS:X.env.scope=aa vF)
     : SSs X (ah vF) vU:=by
 unfold vU
 exact (ai (P.ret (cF (cA af (cF (P.y 0) af)) af)))
theorem N1 (P:Pl X LY L8) (hS:X.env.scope=aa Co)
  (c_bias:Callee X "bias" rV):SSs X (ah Co) Dz:=by
 unfold Dz
 exact (ai (P.ret (cF (cF af (P.call 0 c_bias (a1 ↥22))) (P.y 0))))
theorem lA (P:Pl X gn gx) (hS:X.env.scope=aa cg)
     : SSs X (ah cg) cq:=by
 unfold cq
 exact (ae (P.if_ (dm hr ↥22 af) (ai (P.ret af)) ax)
 (ae (P.if_ (wV (P.v 1) (P.v 2)) (ai (P.ret af)) ax)
 (ai (P.ret (AD (dm hr (P.v 1) (P.v 2)) af af)))))
theorem AX (P:Pl X tm tL) (hS:X.env.scope=aa jj)
  (c_rest_by_middle:Callee X "rest_by_middle" aY):SSs X (ah jj) jF:=by
 unfold jF
 exact (ai (P.ret (P.call 0 c_rest_by_middle (a3 ↥22 (gA af ↥22) (P.v 1)))))
theorem DR (P:Pl X wy wG) (hS:X.env.scope=aa lL)
  (c_scaled:Callee X "scaled" dO):SSs X (ah lL) lY:=by
 unfold lY
 exact (ae (P.set 2 (cF (qE ↥22) (qE (P.v 1))))
 (ae (P.set 3 (P.call 0 c_scaled (a3 ↥22 (P.v 1) (P.v 2))))
 (ai (P.ret (AD (wV (P.y 3) (P.y 3)) (P.v 2) (ba (P.v 2) af))))))
theorem N3 (P:Pl X L6 Ma) (hS:X.env.scope=aa Cp)
  (c_check_fraction:Callee X "check_fraction" aZ) (c_low:Callee X "low" js) (c_height:Callee X "height" fT) (m_max:X.mg "max"=none) (c_scaled:Callee X "scaled" dO) (c_rest_of:Callee X "rest_of" gI):SSs X (ah Cp) Am:=by
 unfold Am
 exact (ae (P.xp (P.call 0 c_check_fraction (a2 (P.v 1) (P.v 2))))
 (ae (P.if_ (dm hr (P.v 1) af) (ai (P.ret (aV (a3 af (P.call 1 c_low (a1 ↥22)) af) ↥0))) ax)
 (ae (P.set 3 (cE (LM L.calm) KS (P.w 2) m_max boot_max (a2 (P.call 1 c_low (a1 ↥22)) (cF (cF (P.call 3 c_height (a2 (P.v 1) (P.v 2))) (P.y 0)) af))))
 (ae (P.set 4 (P.call 4 c_scaled (a3 (P.v 1) (P.v 2) (P.v 3))))
 (ai (P.ret (aV (a3 (eu (P.y 4) (P.y 4)) (P.v 3) (P.call 5 c_rest_of (a2 (cW (P.y 4) (P.y 4)) (P.y 4)))) ↥0)))))))
theorem A5 (P:Pl X tG tP) (hS:X.env.scope=aa jo)
  (c_last_field:Callee X "last_field" bh):SSs X (ah jo) jJ:=by
 unfold jJ
 exact (ai (P.ret (cA (P.call 0 c_last_field (a1 ↥22)) (P.y 0))))
theorem DN (P:Pl X wm wB) (hS:X.env.scope=aa lG)
  (c_sign_bit:Callee X "sign_bit" cC):SSs X (ah lG) lW:=by
 unfold lW
 exact (ai (P.ret (ba (gA (P.v 1) (P.call 0 c_sign_bit (a1 ↥22))) (P.v 2))))
theorem sV (P:Pl X kK kR) (hS:X.env.scope=aa eK)
  (c_endless:Callee X "endless" a9) (g_INEXACT:∃ t,X.mg "INEXACT"=some (.int 1 t)) (g_GREAT:∃ t,X.mg "GREAT"=some (.int 4 t)) (g_SMALL:∃ t,X.mg "SMALL"=some (.int 2 t)):SSs X (ah eK) eV:=by
 unfold eV
 exact (ae (P.if_ (dm hr (P.v 2) (P.call 0 c_endless (a1 ↥22))) (ai (P.ret (ba (fE (P.w 1) g_INEXACT) (fE (P.w 2) g_GREAT)))) ax)
 (ae (P.set 3 (V0 (P.v 1) (cA af (P.y 0))))
 (ai (P.ret (AD (iQ (P.v 3)) (ba (fE (P.w 1) g_INEXACT) (fE (P.w 3) g_SMALL)) (fE (P.w 1) g_INEXACT))))))
theorem jN (P:Pl X fe fg) (hS:X.env.scope=aa aJ)
  (fl_Way_name:FldOk X "Way" "name"):SSs X (ah aJ) bo:=by
 unfold bo
 exact (ae (P.if_ (dm hr (AE (cn:="Way") (f:="name") fl_Way_name ↥22) aO) (ai (P.ret (Br hr (P.v 1) af))) ax)
 (ai (P.ret (xQ (Br hr (AE (cn:="Way") (f:="name") fl_Way_name ↥22) aO) (uW (Br hr (P.v 1) af))))))
theorem vg (P:Pl X nR oh) (hS:X.env.scope=aa cy)
  (fl_Way_name:FldOk X "Way" "name") (mt_Way_flees_nought:MethOk X "Way" "flees_nought" aX):SSs X (ah cy) et:=by
 unfold et
 exact (ae (P.if_ (dm hr (P.v 3) af) (ai (P.ret Me)) ax)
 (ae (P.if_ (dm hr (AE (cn:="Way") (f:="name") fl_Way_name ↥22) aO) (ai (P.ret (Sr (Br hr (P.v 3) af) (uW (xQ (Br hr (P.v 3) af) (uW (P.v 2))))))) ax)
 (ae (P.if_ (dm hr (AE (cn:="Way") (f:="name") fl_Way_name ↥22) aO) (ai (P.ret (Ss (P.v 3) af))) ax)
 (ai (P.ret (v5 (cn:="Way") (m:="flees_nought") mt_Way_flees_nought ↥22 (a1 (P.v 1))))))))
theorem sZ (P:Pl X kO kX) (hS:X.env.scope=aa bO)
  (fl_Way_name:FldOk X "Way" "name") (mt_Way_flees_nought:MethOk X "Way" "flees_nought" aX):SSs X (ah bO) dA:=by
 unfold dA
 exact (ae (P.if_ (Cc (AE (cn:="Way") (f:="name") fl_Way_name ↥22) (aV (a2 aO aO) ↥0)) (ai (P.ret Me)) ax)
 (ai (P.ret (v5 (cn:="Way") (m:="flees_nought") mt_Way_flees_nought ↥22 (a1 (P.v 1))))))
theorem AV (P:Pl X tf tJ) (hS:X.env.scope=aa jh)
  (c_way_of:Callee X "way_of" aA) (c_low:Callee X "low" js) (c_endless:Callee X "endless" a9) (mt_Way_bursts:MethOk X "Way" "bursts" eR) (c_signed:Callee X "signed" bB) (g_INEXACT:∃ t,X.mg "INEXACT"=some (.int 1 t)) (g_GREAT:∃ t,X.mg "GREAT"=some (.int 4 t)) (mt_Way_grows:MethOk X "Way" "grows" fU) (c_lost_flags:Callee X "lost_flags" dt):SSs X (ah jh) jE:=by
 unfold jE
 exact (ae (P.set 6 (P.call 0 c_way_of (a1 (P.v 1))))
 (ae (P.set 7 (ba (cA (cF (P.v 4) (P.call 1 c_low (a1 ↥22))) (P.y 0)) (P.v 3)))
 (ae (P.set 8 (P.call 2 c_endless (a1 ↥22)))
 (ae (P.if_ (Ek (P.v 7) (P.v 8)) (ae (P.set 9 (AD (iQ (v5 (cn:="Way") (m:="bursts") mt_Way_bursts (P.v 6) (a1 (P.v 2)))) (P.v 8) (cF (P.v 8) af)))
 (ai (P.ret (aV (a2 (P.call 3 c_signed (a3 ↥22 (P.v 2) (P.v 9))) (ba (fE (P.w 4) g_INEXACT) (fE (P.w 5) g_GREAT))) ↥0)))) ax)
 (ae (P.if_ (dm hr (P.v 5) af) (ai (P.ret (aV (a2 (P.call 3 c_signed (a3 ↥22 (P.v 2) (P.v 7))) af) ↥0))) ax)
 (ae (P.set 9 (AD (iQ (v5 (cn:="Way") (m:="grows") mt_Way_grows (P.v 6) (a3 (P.v 2) (Br hr (EO (P.v 7) af) af) (P.v 5)))) (ba (P.v 7) af) (P.v 7)))
 (ai (P.ret (aV (a2 (P.call 3 c_signed (a3 ↥22 (P.v 2) (P.v 9))) (P.call 6 c_lost_flags (a3 ↥22 (P.v 7) (P.v 9)))) ↥0)))))))))
theorem AW (P:Pl X tj tK) (hS:X.env.scope=aa ji)
  (c_way_of:Callee X "way_of" aA) (c_cut:Callee X "cut" uy) (c_settled:Callee X "settled" d4):SSs X (ah ji) gQ:=by
 unfold gQ
 exact (ae ↥32
 (ae (P.set 5 (P.call 1 c_cut (a3 ↥22 (P.v 3) (P.v 4))))
 (ai (P.ret (P.call 2 c_settled (ag ↥22 (ag (P.v 1) (ag (P.v 2) (ag (P.y 5) (ag (P.y 5) (ag (P.y 5) bR)))))))))))
theorem Ik (P:Pl X Bi Bn) (hS:X.env.scope=aa qc)
  (m_min:X.mg "min"=none) (m_abs:X.mg "abs"=none):SSs X (ah qc) qy:=by
 unfold qy
 exact (ae (P.set 1 (LD L.calm (P.w 0) m_min (a1 (sI L.calm P.sc (x:="term") (ksn:=[]) (G:=[]) (ks:=[]) (by walk_at "C") rfl ↥0 (by rw [hS];decide +kernel) (gO ↥22) (fun C fp s H W S' G'=>(oB (dD S' 0 rfl) af))))))
 (ae (P.set 2 af)
 (ae (jn P.toSx L 3 rfl (P.sto _ (mG 3)) (gO ↥22) (ae (P.set 4 (cA (P.y 3) (cF (P.y 3) (P.v 1))))
 (ai (P.set 2 (AD (dm hr (P.y 3) af) (cF (P.v 2) (P.v 4)) (ba (P.v 2) (P.v 4)))))))
 (ai (P.ret (aV (a3 (AD (wV (P.v 2) af) af af) (cE NX Ny (P.w 1) m_abs boot_abs (a1 (P.v 2))) (P.v 1)) ↥0))))))
theorem qM (P:Pl X jS jZ) (hS:X.env.scope=aa dH)
  (c_way_of:Callee X "way_of" aA):SSs X (ah dH) dP:=by
 unfold dP
 exact (ae (P.xp (P.call 0 c_way_of (a1 ↥22)))
 (ae (P.if_ (t_w (w_and (Cc af (P.v 1)) (i8 (Cc af (P.v 1))))) (ai (P.ret (AD (dm hr ↥22 aO) af af))) ax)
 (ai (P.ret (AD (Cc af (P.v 1)) af af)))))
theorem ni (P:Pl X gW hG) (hS:X.env.scope=aa cH)
  (c_worth_fraction:Callee X "worth_fraction" aC) (c_total:Callee X "total" gH) (c_nought_sign:Callee X "nought_sign" cL) (c_signed:Callee X "signed" bB) (c_rounded:Callee X "rounded" bG):SSs X (ah cH) bP:=by
 unfold bP
 exact (ae (P.set 3 (P.call 0 c_worth_fraction (a1 (P.call 1 c_total (a1 (P.v 2))))))
 (ae (P.if_ (dm hr (P.y 3) af) (ae (P.set 4 (P.call 2 c_nought_sign (a2 (P.v 1) (sI L.calm P.sc (x:="term") (ksn:=[]) (G:=[]) (ks:=[]) (by walk_at "C") rfl ↥0 (by rw [hS];decide +kernel) (gO (P.v 2)) (fun C fp s H W S' G'=>(oB (dD S' 0 rfl) af))))))
 (ai (P.ret (aV (a2 (P.call 3 c_signed (a3 ↥22 (P.v 4) af)) af) ↥0)))) ax)
 (ai (P.ret (P.call 4 c_rounded (ag ↥22 (ag (P.v 1) (ag (P.y 3) (ag (P.y 3) (ag (P.y 3) bR))))))))))
theorem u5 (P:Pl X nK nW) (hS:X.env.scope=aa fK)
  (c_endless:Callee X "endless" a9):SSs X (ah fK) fZ:=by
 unfold fZ
 exact (ai (P.ret (ba (P.call 0 c_endless (a1 ↥22)) (cA af (cF (P.y 0) af)))))
theorem nj (P:Pl X gX hU) (hS:X.env.scope=aa cI)
  (c_no_number:Callee X "no_number" aM) (g_WRONG:∃ t,X.mg "WRONG"=some (.int 16 t)) (m_len:X.mg "len"=none) (c_signed:Callee X "signed" bB) (c_endless:Callee X "endless" a9) (c_settled_total:Callee X "settled_total" aK):SSs X (ah cI) bQ:=by
 unfold bQ
 exact (ae (me P.toSx L.calm 3 rfl (P.sto _ (mG 3)) (x:="term") (ksn:=[]) (G:=[]) (ks:=[]) (by walk_at "C") rfl ↥0 (by rw [hS];decide +kernel) (gO (P.v 2)) (fun C fp s H W S' G'=>.one (Cb (oB (dD S' 0 rfl) af))) (fun C fp s H W S' G'=>(oB (dD S' 0 rfl) af)) (jb hS (by decide +kernel)))
 (ae (xi 3 (P.if_ (t_w (w_and (Cc af (P.v 3)) (i8 (Cc af (P.v 3))))) (ai (P.ret (aV (a2 (P.call 0 c_no_number (a1 ↥22)) (fE (P.w 1) g_WRONG)) ↥0))) ax))
 (ae (P.if_ (MK (cE i6 iW (P.w 2) m_len PySem.boot_len (a1 (P.v 3))) af) (ai (P.ret (aV (a2 (P.call 3 c_signed (a3 ↥22 (P.y 3) (P.call 4 c_endless (a1 ↥22)))) af) ↥0))) ax)
 (ai (P.ret (P.call 5 c_settled_total (a3 ↥22 (P.v 1) (P.v 2))))))))
theorem Ii (P:Pl X Bg Bl) (hS:X.env.scope=aa p9) {C_NotFinite:Addr}
  (c_parted:Callee X "parted" aP) (c_last_field:Callee X "last_field" bh) (q_NotFinite:X.mg "NotFinite"=some (.ref  C_NotFinite)) (xi_NotFinite:PySem.W.excIn X.K C_NotFinite bmV "ValueError.__new__"=true) (c_low:Callee X "low" js):SSs X (ah p9) qw:=by
 unfold qw
 exact (ae (P.set 2 (P.call 0 c_parted (a2 ↥22 (P.v 1))))
 (ae (P.set 3 (P.y 2))
 (ae (P.set 4 (P.y 2))
 (ae (P.set 5 (P.y 2))
 (ae (P.if_ (dm hr (P.v 4) (P.call 1 c_last_field (a1 ↥22))) (ai (dY (x:="NotFinite") L.calm (P.w 2) q_NotFinite xi_NotFinite)) ax)
 (ae (P.if_ (dm hr (P.v 4) af) (ai (P.ret (aV (a3 (P.v 3) (P.v 5) (P.call 3 c_low (a1 ↥22))) ↥0))) ax)
 (ai (P.ret (aV (a3 (P.v 3) (ba (cA af (P.y 0)) (P.v 5)) (cF (ba (P.call 3 c_low (a1 ↥22)) (P.v 4)) af)) ↥0)))))))))
theorem qL (P:Pl X jR jY) (hS:X.env.scope=aa dG)
  (c_kind:Callee X "kind" aN) (c_parted:Callee X "parted" aP) (c_worth:Callee X "worth" bA):SSs X (ah dG) cR:=by
 unfold cR
 exact (ae (P.if_ (dm hr (P.call 0 c_kind (a2 ↥22 (P.v 1))) aO) (ai (P.ret (aV (a3 (oB (P.call 1 c_parted (a2 ↥22 (P.v 1))) af) DD af) ↥0))) ax)
 (ai (P.ret (P.call 2 c_worth (a2 ↥22 (P.v 1))))))
theorem oF (P:Pl X iI iM) (hS:X.env.scope=aa dg)
  (c_number_term:Callee X "number_term" aG):SSs X (ah dg) dk:=by
 unfold dk
 exact (ae (P.set 3 (P.call 0 c_number_term (a2 ↥22 (P.v 1))))
 (ae (P.set 4 (P.call 0 c_number_term (a2 ↥22 (P.v 2))))
 (ae (P.set 5 (AF (P.y 3) (P.y 4)))
 (ae (P.if_ (t_w (w_or (Cb (P.y 3)) (rg (Cb (P.y 4))))) (ai (P.ret (aV (a3 (P.v 5) DD af) ↥0))) ax)
 (ai (P.ret (aV (a3 (P.v 5) (gA (P.y 3) (P.y 4)) (ba (P.y 3) (P.y 4))) ↥0)))))))
theorem nz (P:Pl X gZ ia) (hS:X.env.scope=aa cK)
  (c_kind:Callee X "kind" aN):SSs X (ah cK) cQ:=by
 unfold cQ
 exact (ae (P.set 3 (aV (a2 (P.call 0 c_kind (a2 ↥22 (P.v 1))) (P.call 0 c_kind (a2 ↥22 (P.v 2)))) ↥0))
 (ai (P.ret (xQ (NR aO (P.v 3)) (uW (NR aO (P.v 3)))))))
theorem qK (P:Pl X jQ jX) (hS:X.env.scope=aa dF)
  (c_way_of:Callee X "way_of" aA) (m_list:X.mg "list"=none) (c_any_none:Callee X "any_none" bb) (c_no_number:Callee X "no_number" aM) (c_product_wrong:Callee X "product_wrong" bc) (m_any:X.mg "any"=none) (g_WRONG:∃ t,X.mg "WRONG"=some (.int 16 t)) (c_product_term:Callee X "product_term" ay) (c_settled_terms:Callee X "settled_terms" aS) (c_number_term:Callee X "number_term" aG):SSs X (ah dF) bj:=by
 unfold bj
 exact (ae ↥32
 (ae (rK P.toSx 4 rfl (P.sto _ (mG 4)) (HN (P.w 1) m_list (P.v 3)))
 (ae (jn P.toSx L 5 rfl (P.sto _ (mG 5)) (gO (P.v 2)) (ai (Cn P.toSx 4 rfl (P.v 5))))
 (ae (Gx (iQ (P.call 2 c_any_none (a2 ↥22 (P.v 4)))) (ai (P.ret (aV (a2 (P.call 3 c_no_number (a1 ↥22)) af) ↥0))) ax)
 (ae (P.if_ (iQ (cE (NW L.calm) Nw (P.w 4) m_any boot_any (a1 (sI L.calm P.sc (x:="pair") (ksn:=["size"]) (G:=["product_wrong"]) (ks:=[0]) (by walk_at "C") rfl ↥0 (by rw [hS];decide +kernel) (gO (P.v 2)) (fun C fp s H W S' G'=>(mX ⟨c_product_wrong.ex⟩ (G' _ (mG 0)) (a3 (dD S' 1 rfl) (oB (dD S' 0 rfl) af) (oB (dD S' 0 rfl) af)))))))) (ai (P.ret (aV (a2 (P.call 3 c_no_number (a1 ↥22)) (fE (P.w 5) g_WRONG)) ↥0))) ax)
 (ae (me P.toSx L.calm 6 rfl (P.sto _ (mG 6)) (x:="pair") (ksn:=["size"]) (G:=["product_term"]) (ks:=[0]) (by walk_at "C") rfl ↥0 (by rw [hS];decide +kernel) (gO (P.v 2)) (fun C fp s H W S' G'=>.nil) (fun C fp s H W S' G'=>(mX ⟨c_product_term.ex⟩ (G' _ (mG 0)) (a3 (dD S' 1 rfl) (oB (dD S' 0 rfl) af) (oB (dD S' 0 rfl) af)))) (jb hS (by decide +kernel)))
 (ai (xi 6 (P.ret (P.call 6 c_settled_terms (a3 ↥22 (P.v 1) (ba (P.v 6) (sI L.calm P.sc (x:="bits") (ksn:=["size"]) (G:=["number_term"]) (ks:=[0]) (by walk_at "C") rfl ↥0 (by rw [hS];decide +kernel) (gO (P.v 3)) (fun C fp s H W S' G'=>(mX ⟨c_number_term.ex⟩ (G' _ (mG 0)) (a2 (dD S' 1 rfl) (dD S' 0 rfl)))))))))))))))))
theorem Im (P:Pl X Bk Bp) (hS:X.env.scope=aa qe)
  (c_settled_sum:Callee X "settled_sum" aj):SSs X (ah qe) qA:=by
 unfold qA
 exact (ai (P.ret (P.call 0 c_settled_sum (ag ↥22 (ag (P.v 1) (ag (cT bR ↥0) (ag (cT (a2 (P.v 2) (P.v 3)) ↥0) bR)))))))
theorem Il (P:Pl X Bj Bo) (hS:X.env.scope=aa qd)
     : SSs X (ah qd) qz:=by
 unfold qz
 exact (ai (P.ret (aV (a3 (cF af (P.y 0)) (P.y 0) (P.y 0)) ↥0)))
theorem AY (P:Pl X tq tM) (hS:X.env.scope=aa jk) {C_NoLeft:Addr}
  (c_worth_fraction:Callee X "worth_fraction" aC) (c_total:Callee X "total" gH) (c_rounded:Callee X "rounded" bG) (q_NoLeft:X.mg "NoLeft"=some (.ref  C_NoLeft)) (xi_NoLeft:PySem.W.excIn X.K C_NoLeft bmV "ValueError.__new__"=true):SSs X (ah jk) jH:=by
 unfold jH
 exact (ae (P.set 2 (P.call 0 c_worth_fraction (a1 (P.call 1 c_total (a1 (P.v 1))))))
 (ae (P.set 3 (P.call 2 c_rounded (ag ↥22 (ag aO (ag (P.y 2) (ag (P.y 2) (ag (P.y 2) bR)))))))
 (ae (P.if_ (II hr (P.y 3) af) (ai (dY (x:="NoLeft") L.calm (P.w 3) q_NoLeft xi_NoLeft)) ax)
 (ai (P.ret (P.y 3))))))
theorem xU (P:Pl X pq pH) (hS:X.env.scope=aa ib)
  (c_check_finite:Callee X "check_finite" aq) (c_kept_answer:Callee X "kept_answer" aD) (c_added:Callee X "added" d8) (c_worth:Callee X "worth" bA) (c_minus:Callee X "minus" dB) (c_left_of:Callee X "left_of" bH):SSs X (ah ib) fw:=by
 unfold fw
 exact (ae (P.xp (P.call 0 c_check_finite (a2 ↥22 (cT (a2 (P.v 1) (P.v 2)) ↥0))))
 (ae (P.set 3 (P.call 1 c_kept_answer (a2 ↥22 (P.call 2 c_added (ag ↥22 (ag aO (ag (P.v 1) (ag (P.v 2) bR))))))))
 (ae (P.set 4 (cT (a3 (P.call 3 c_worth (a2 ↥22 (P.v 1))) (P.call 3 c_worth (a2 ↥22 (P.v 2))) (P.call 4 c_minus (a1 (P.call 3 c_worth (a2 ↥22 (P.v 3)))))) ↥0))
 (ai (P.ret (aV (a2 (P.v 3) (P.call 5 c_left_of (a2 ↥22 (P.v 4)))) ↥0))))))
theorem ve (P:Pl X nO oa) (hS:X.env.scope=aa fO) {C_Empty:Addr}
  (m_len:X.mg "len"=none) (q_Empty:X.mg "Empty"=some (.ref  C_Empty)) (xi_Empty:PySem.W.excIn X.K C_Empty bmV "ValueError.__new__"=true) (c_check_finite:Callee X "check_finite" aq) (c_sum_left:Callee X "sum_left" bI):SSs X (ah fO) de:=by
 unfold de
 exact (ae (P.if_ (dm hr (cE i6 iW (P.w 0) m_len PySem.boot_len (a1 (P.v 1))) af) (ai (dY (x:="Empty") L.calm (P.w 1) q_Empty xi_Empty)) ax)
 (ae (P.xp (P.call 2 c_check_finite (a2 ↥22 (P.v 1))))
 (ae (rK P.toSx 2 rfl (P.sto _ (mG 2)) (NP (a1 (P.y 1)) ↥0))
 (ae (vD P.toSx 3 rfl (P.sto _ (mG 3)))
 (ae (jn P.toSx L 4 rfl (P.sto _ (mG 4)) (gO (oA (P.v 1) (bS af) fR)) (ae (Ep P.toSx 5 rfl (P.sto _ (mG 5)) (P.call 3 c_sum_left (a3 ↥22 (oB (P.v 2) (xP af)) (P.v 4))))
 (ae (lK P.toSx 2 rfl (P.y 5))
 (ai (lK P.toSx 3 rfl (P.y 5))))))
 (ai (xi 3 (xi 2 (P.ret (aV (a2 (P.v 2) (P.v 3)) ↥0))))))))))
theorem xZ (P:Pl X pE pM) (hS:X.env.scope=aa ip) {C_Unlike:Addr}
  (c_way_of:Callee X "way_of" aA) (m_len:X.mg "len"=none) (q_Unlike:X.mg "Unlike"=some (.ref  C_Unlike)) (xi_Unlike:PySem.W.excIn X.K C_Unlike bmV "ValueError.__new__"=true) (c_settled_sum:Callee X "settled_sum" aj) (m_list:X.mg "list"=none) (m_zip:X.mg "zip"=none):SSs X (ah ip) dX:=by
 unfold dX
 exact (ae ↥32
 (ae (P.if_ (II hr (cE i6 iW (P.w 1) m_len PySem.boot_len (a1 (P.v 2))) (cE i6 iW (P.w 1) m_len PySem.boot_len (a1 (P.v 3)))) (ai (dY (x:="Unlike") L.calm (P.w 2) q_Unlike xi_Unlike)) ax)
 (ai (P.ret (P.call 3 c_settled_sum (ag ↥22 (ag (P.v 1) (ag (AB L.calm (P.w 4) m_list (P.w 5) m_zip (a2 (P.v 2) (P.v 3))) (ag (cT bR ↥0) bR)))))))))
theorem DM (P:Pl X wj wA) (hS:X.env.scope=aa lF)
  (c_settled_sum:Callee X "settled_sum" aj):SSs X (ah lF) jD:=by
 unfold jD
 exact (ai (P.ret (P.call 0 c_settled_sum (ag ↥22 (ag (P.v 1) (ag (cT bR ↥0) (ag (P.v 2) bR)))))))
theorem A4 (P:Pl X tw tO) (hS:X.env.scope=aa jm)
  (c_way_of:Callee X "way_of" aA) (c_check_bits:Callee X "check_bits" aT) (m_len:X.mg "len"=none) (c_added:Callee X "added" d8):SSs X (ah jm) fA:=by
 unfold fA
 exact (ae ↥32
 (ae (P.xp (P.call 1 c_check_bits (a2 ↥22 (P.v 2))))
 (ae (vD P.toSx 3 rfl (P.sto _ (mG 3)))
 (ae (P.set 4 af)
 (ae (jn P.toSx L 5 rfl (P.sto _ (mG 5)) (gO (P.v 2)) (ai (Gx (dm hr (cE i6 iW (P.w 2) m_len PySem.boot_len (a1 (P.v 3))) af) (ai (lK P.toSx 3 rfl (P.v 5))) (ae (Ep P.toSx 6 rfl (P.sto _ (mG 6)) (P.call 3 c_added (ag ↥22 (ag (P.v 1) (ag (oB (P.v 3) (xP af)) (ag (P.v 5) bR))))))
 (ae (lK P.toSx 3 rfl (P.y 6))
 (ai (P.set 4 (HZ (P.v 4) (P.y 6)))))))))
 (ai (xi 3 (P.ret (aV (a2 (P.v 3) (P.v 4)) ↥0)))))))))
theorem oH {P0:List D->R D} (P:Pl X iK iO) (hS:X.env.scope=aa bp)
  (m_len:X.mg "len"=none) (c_halves_added:Callee X "halves_added" P0) (c_added:Callee X "added" d8):SSs X (ah bp) (b7 P0):=by
 unfold b7
 exact (ae (P.if_ (dm hr (cE i6 iW (P.w 0) m_len PySem.boot_len (a1 (P.v 2))) af) (ai (P.ret (aV (a2 (P.y 2) af) ↥0))) ax)
 (ae (P.set 3 (eu (cE i6 iW (P.w 0) m_len PySem.boot_len (a1 (P.v 2))) af))
 (ae (P.set 4 (P.call 1 c_halves_added (a3 ↥22 (P.v 1) (oA (P.v 2) fR (bS (P.v 3))))))
 (ae (P.set 5 (P.call 1 c_halves_added (a3 ↥22 (P.v 1) (oA (P.v 2) (bS (P.v 3)) fR))))
 (ae (P.set 6 (P.call 2 c_added (ag ↥22 (ag (P.v 1) (ag (P.y 4) (ag (P.y 5) bR))))))
 (ai (P.ret (aV (a2 (P.y 6) (HZ (HZ (P.y 4) (P.y 5)) (P.y 6))) ↥0))))))))
theorem vf (P:Pl X nQ og) (hS:X.env.scope=aa fP) {C_Empty:Addr}
  (c_way_of:Callee X "way_of" aA) (m_len:X.mg "len"=none) (q_Empty:X.mg "Empty"=some (.ref  C_Empty)) (xi_Empty:PySem.W.excIn X.K C_Empty bmV "ValueError.__new__"=true) (c_check_bits:Callee X "check_bits" aT) (c_halves_added:Callee X "halves_added" (az 20)):SSs X (ah fP) cz:=by
 unfold cz
 exact (ae ↥32
 (ae (P.if_ (dm hr (cE i6 iW (P.w 1) m_len PySem.boot_len (a1 (P.v 2))) af) (ai (dY (x:="Empty") L.calm (P.w 2) q_Empty xi_Empty)) ax)
 (ae (P.xp (P.call 3 c_check_bits (a2 ↥22 (P.v 2))))
 (ai (P.ret (P.call 4 c_halves_added (a3 ↥22 (P.v 1) (P.v 2))))))))
theorem sU (P:Pl X kJ kQ) (hS:X.env.scope=aa eJ)
  (c_settled_sum:Callee X "settled_sum" aj):SSs X (ah eJ) eU:=by
 unfold eU
 exact (ai (P.ret (P.call 0 c_settled_sum (ag ↥22 (ag (P.v 1) (ag (cT (a1 (aV (a2 (P.v 2) (P.v 3)) ↥0)) ↥0) (ag (cT bR ↥0) bR)))))))
theorem oG (P:Pl X iJ iN) (hS:X.env.scope=aa dh)
  (c_way_of:Callee X "way_of" aA) (c_check_finite:Callee X "check_finite" aq) (c_kept_answer:Callee X "kept_answer" aD) (c_multiplied:Callee X "multiplied" dq) (c_product_term:Callee X "product_term" ay) (c_minus:Callee X "minus" dB) (c_worth:Callee X "worth" bA) (c_left_of:Callee X "left_of" bH):SSs X (ah dh) bK:=by
 unfold bK
 exact (ae ↥32
 (ae (P.xp (P.call 1 c_check_finite (a2 ↥22 (cT (a2 (P.v 2) (P.v 3)) ↥0))))
 (ae (P.set 4 (P.call 2 c_kept_answer (a2 ↥22 (P.call 3 c_multiplied (ag ↥22 (ag (P.v 1) (ag (P.v 2) (ag (P.v 3) bR))))))))
 (ae (P.set 5 (cT (a2 (P.call 4 c_product_term (a3 ↥22 (P.v 2) (P.v 3))) (P.call 5 c_minus (a1 (P.call 6 c_worth (a2 ↥22 (P.v 4)))))) ↥0))
 (ai (P.ret (aV (a2 (P.v 4) (P.call 7 c_left_of (a2 ↥22 (P.v 5)))) ↥0)))))))
theorem xX (P:Pl X pB pK) (hS:X.env.scope=aa ij)
  (c_rounded:Callee X "rounded" bG):SSs X (ah ij) iC:=by
 unfold iC
 exact (ai (P.ret (P.call 0 c_rounded (ag ↥22 (ag (P.v 1) (ag (AF (P.y 2) (P.y 3)) (ag (gA (P.y 2) (P.y 3)) (ag (gA (P.y 2) (P.y 3)) bR))))))))
theorem ya (P:Pl X pF pN) (hS:X.env.scope=aa iq)
  (c_worth_fraction:Callee X "worth_fraction" aC) (c_worth:Callee X "worth" bA):SSs X (ah iq) iD:=by
 unfold iD
 exact (ai (P.ret (P.call 0 c_worth_fraction (a1 (P.call 1 c_worth (a2 ↥22 (P.v 1)))))))
theorem A6 (P:Pl X tH tQ) (hS:X.env.scope=aa jq)
  (c_way_of:Callee X "way_of" aA) (c_any_none:Callee X "any_none" bb) (c_no_number:Callee X "no_number" aM) (c_kind:Callee X "kind" aN) (g_WRONG:∃ t,X.mg "WRONG"=some (.int 16 t)) (c_parted:Callee X "parted" aP) (c_signed:Callee X "signed" bB) (c_endless:Callee X "endless" a9) (g_POLE:∃ t,X.mg "POLE"=some (.int 8 t)) (c_quotient:Callee X "quotient" fj) (c_fraction:Callee X "fraction" bT):SSs X (ah jq) jK:=by
 unfold jK
 exact (ae ↥32
 (ae (P.if_ (iQ (P.call 1 c_any_none (a2 ↥22 (cT (a2 (P.v 2) (P.v 3)) ↥0)))) (ai (P.ret (aV (a2 (P.call 2 c_no_number (a1 ↥22)) af) ↥0))) ax)
 (ae (P.set 4 (P.call 3 c_kind (a2 ↥22 (P.v 2))))
 (ae (P.set 5 (P.call 3 c_kind (a2 ↥22 (P.v 3))))
 (ae (P.if_ (t_w (w_and (dm hr (P.v 4) (P.v 5)) (i8 (Cc (P.v 4) (aV (a2 aO aO) ↥0))))) (ai (P.ret (aV (a2 (P.call 2 c_no_number (a1 ↥22)) (fE (P.w 4) g_WRONG)) ↥0))) ax)
 (ae (P.set 6 (AF (oB (P.call 5 c_parted (a2 ↥22 (P.v 2))) af) (oB (P.call 5 c_parted (a2 ↥22 (P.v 3))) af)))
 (ae (P.if_ (dm hr (P.v 4) aO) (ai (P.ret (aV (a2 (P.call 6 c_signed (a3 ↥22 (P.v 6) (P.call 7 c_endless (a1 ↥22)))) af) ↥0))) ax)
 (ae (P.if_ (t_w (w_or (dm hr (P.v 4) aO) (rg (dm hr (P.v 5) aO)))) (ai (P.ret (aV (a2 (P.call 6 c_signed (a3 ↥22 (P.v 6) af)) af) ↥0))) ax)
 (ae (P.if_ (dm hr (P.v 5) aO) (ai (P.ret (aV (a2 (P.call 6 c_signed (a3 ↥22 (P.v 6) (P.call 7 c_endless (a1 ↥22)))) (fE (P.w 8) g_POLE)) ↥0))) ax)
 (ai (P.ret (P.call 9 c_quotient (ag ↥22 (ag (P.v 1) (ag (P.call 10 c_fraction (a2 ↥22 (P.v 2))) (ag (P.call 10 c_fraction (a2 ↥22 (P.v 3))) bR))))))))))))))))
theorem nq (P:Pl X gY hV) (hS:X.env.scope=aa cJ)
  (c_way_of:Callee X "way_of" aA) (c_check_finite:Callee X "check_finite" aq) (c_kept_answer:Callee X "kept_answer" aD) (c_divided:Callee X "divided" gJ) (c_worth:Callee X "worth" bA) (c_minus:Callee X "minus" dB) (c_product_term:Callee X "product_term" ay) (c_left_of:Callee X "left_of" bH):SSs X (ah cJ) br:=by
 unfold br
 exact (ae ↥32
 (ae (P.xp (P.call 1 c_check_finite (a2 ↥22 (cT (a2 (P.v 2) (P.v 3)) ↥0))))
 (ae (P.set 4 (P.call 2 c_kept_answer (a2 ↥22 (P.call 3 c_divided (ag ↥22 (ag (P.v 1) (ag (P.v 2) (ag (P.v 3) bR))))))))
 (ae (P.set 5 (cT (a2 (P.call 4 c_worth (a2 ↥22 (P.v 2))) (P.call 5 c_minus (a1 (P.call 6 c_product_term (a3 ↥22 (P.v 4) (P.v 3)))))) ↥0))
 (ai (P.ret (aV (a2 (P.v 4) (P.call 7 c_left_of (a2 ↥22 (P.v 5)))) ↥0)))))))
theorem sT (P:Pl X kI kP) (hS:X.env.scope=aa eI) {C_NoFraction:Addr}
  (q_NoFraction:X.mg "NoFraction"=some (.ref  C_NoFraction)) (xi_NoFraction:PySem.W.excIn X.K C_NoFraction bmV "ValueError.__new__"=true):SSs X (ah eI) eT:=by
 unfold eT
 exact (ae (P.if_ (wV ↥22 af) (ai (dY (x:="NoFraction") L.calm (P.w 0) q_NoFraction xi_NoFraction)) ax)
 (ae (P.set 1 (cA af (eu (ba (qE ↥22) af) af)))
 (ae (Gw P.toSx L.own (MK (gA (P.v 1) (P.v 1)) ↥22) (ai (P.set 1 (eu (ba (P.v 1) (eu ↥22 (P.v 1))) af))))
 (ai (P.ret (P.v 1))))))
theorem u3 (P:Pl X nH nU) (hS:X.env.scope=aa fI)
  (c_rest_by_middle:Callee X "rest_by_middle" aY):SSs X (ah fI) fY:=by
 unfold fY
 exact (ae (P.set 3 (gA (gA (ba (gA af (P.v 2)) af) (ba (gA af (P.v 2)) af)) (P.v 1)))
 (ai (P.ret (P.call 0 c_rest_by_middle (a3 (cF ↥22 (gA (gA (P.v 2) (P.v 2)) (P.v 1))) (gA af ↥22) (P.v 3))))))
theorem xW (P:Pl X pA pJ) (hS:X.env.scope=aa ig)
  (c_check_fraction:Callee X "check_fraction" aZ) (c_low:Callee X "low" js) (c_height:Callee X "height" fT) (m_max:X.mg "max"=none) (c_scaled:Callee X "scaled" dO) (c_whole_root:Callee X "whole_root" dn) (c_root_rest:Callee X "root_rest" d5):SSs X (ah ig) iB:=by
 unfold iB
 exact (ae (P.xp (P.call 0 c_check_fraction (a2 (P.v 1) (P.v 2))))
 (ae (P.if_ (dm hr (P.v 1) af) (ai (P.ret (aV (a3 af (P.call 1 c_low (a1 ↥22)) af) ↥0))) ax)
 (ae (P.set 3 (eu (ba (P.call 2 c_height (a2 (P.v 1) (P.v 2))) af) af))
 (ae (P.set 4 (cE (LM L.calm) KS (P.w 3) m_max boot_max (a2 (P.call 1 c_low (a1 ↥22)) (cF (cF (P.v 3) (P.y 0)) af))))
 (ae (P.set 5 (P.call 4 c_scaled (a3 (P.v 1) (P.v 2) (gA af (P.v 4)))))
 (ae (P.set 6 (P.call 5 c_whole_root (a1 (eu (P.y 5) (P.y 5)))))
 (ai (P.ret (aV (a3 (P.v 6) (P.v 4) (P.call 6 c_root_rest (a3 (P.y 5) (P.y 5) (P.v 6)))) ↥0)))))))))
theorem DP (P:Pl X wu wD) (hS:X.env.scope=aa lI)
  (c_way_of:Callee X "way_of" aA) (c_any_none:Callee X "any_none" bb) (c_no_number:Callee X "no_number" aM) (c_kind:Callee X "kind" aN) (c_endless:Callee X "endless" a9) (c_parted:Callee X "parted" aP) (g_WRONG:∃ t,X.mg "WRONG"=some (.int 16 t)) (c_fraction:Callee X "fraction" bT) (c_root_cut:Callee X "root_cut" fi) (c_settled:Callee X "settled" d4):SSs X (ah lI) iA:=by
 unfold iA
 exact (ae ↥32
 (ae (P.if_ (iQ (P.call 1 c_any_none (a2 ↥22 (cT (a1 (P.v 2)) ↥0)))) (ai (P.ret (aV (a2 (P.call 2 c_no_number (a1 ↥22)) af) ↥0))) ax)
 (ae (P.if_ (t_w (w_or (dm hr (P.call 3 c_kind (a2 ↥22 (P.v 2))) aO) (rg (dm hr (P.v 2) (P.call 4 c_endless (a1 ↥22)))))) (ai (P.ret (aV (a2 (P.v 2) af) ↥0))) ax)
 (ae (P.if_ (dm hr (oB (P.call 5 c_parted (a2 ↥22 (P.v 2))) af) af) (ai (P.ret (aV (a2 (P.call 2 c_no_number (a1 ↥22)) (fE (P.w 6) g_WRONG)) ↥0))) ax)
 (ae (P.set 3 (P.call 7 c_fraction (a2 ↥22 (P.v 2))))
 (ae (P.set 4 (P.call 8 c_root_cut (a3 ↥22 (P.y 3) (P.y 3))))
 (ai (P.ret (P.call 9 c_settled (ag ↥22 (ag (P.v 1) (ag af (ag (P.y 4) (ag (P.y 4) (ag (P.y 4) bR)))))))))))))))
theorem u4 (P:Pl X nJ nV) (hS:X.env.scope=aa fJ)
  (c_way_of:Callee X "way_of" aA) (c_check_finite:Callee X "check_finite" aq) (c_kept_answer:Callee X "kept_answer" aD) (c_rooted:Callee X "rooted" dj) (c_worth:Callee X "worth" bA) (c_minus:Callee X "minus" dB) (c_product_term:Callee X "product_term" ay) (c_left_of:Callee X "left_of" bH):SSs X (ah fJ) cZ:=by
 unfold cZ
 exact (ae ↥32
 (ae (P.xp (P.call 1 c_check_finite (a2 ↥22 (cT (a1 (P.v 2)) ↥0))))
 (ae (P.set 3 (P.call 2 c_kept_answer (a2 ↥22 (P.call 3 c_rooted (a3 ↥22 (P.v 1) (P.v 2))))))
 (ae (P.set 4 (cT (a2 (P.call 4 c_worth (a2 ↥22 (P.v 2))) (P.call 5 c_minus (a1 (P.call 6 c_product_term (a3 ↥22 (P.v 3) (P.v 3)))))) ↥0))
 (ai (P.ret (aV (a2 (P.v 3) (P.call 7 c_left_of (a2 ↥22 (P.v 4)))) ↥0)))))))
theorem u9 (P:Pl X nM nY) (hS:X.env.scope=aa fM)
  (c_gathered:Callee X "gathered" cD) (c_summed:Callee X "summed" fS) (c_in_turn:Callee X "in_turn" cO) (c_in_halves:Callee X "in_halves" bf) (c_sum_left:Callee X "sum_left" bI) (c_product_left:Callee X "product_left" aR) (c_quotient_left:Callee X "quotient_left" aL) (c_root_left:Callee X "root_left" bC) (c_kept_turn:Callee X "kept_turn" bE):SSs X (ah fM) a8:=by
 unfold a8
 exact (ae (P.if_ (dm hr ↥22 af) (ai (P.ret (P.call 0 c_gathered (ag (P.v 1) (ag (P.v 2) (ag (P.v 3) (ag (P.v 4) bR))))))) ax)
 (ae (P.if_ (dm hr ↥22 af) (ai (P.ret (P.call 1 c_summed (a3 (P.v 1) (P.v 2) (P.v 3))))) ax)
 (ae (P.if_ (dm hr ↥22 af) (ai (P.ret (P.call 2 c_in_turn (a3 (P.v 1) (P.v 2) (P.v 3))))) ax)
 (ae (P.if_ (dm hr ↥22 af) (ai (P.ret (P.call 3 c_in_halves (a3 (P.v 1) (P.v 2) (P.v 3))))) ax)
 (ae (P.if_ (dm hr ↥22 af) (ai (P.ret (P.call 4 c_sum_left (a3 (P.v 1) (P.y 3) (P.y 3))))) ax)
 (ae (P.if_ (dm hr ↥22 af) (ai (P.ret (P.call 5 c_product_left (ag (P.v 1) (ag (P.v 2) (ag (P.y 3) (ag (P.y 3) bR))))))) ax)
 (ae (P.if_ (dm hr ↥22 af) (ai (P.ret (P.call 6 c_quotient_left (ag (P.v 1) (ag (P.v 2) (ag (P.y 3) (ag (P.y 3) bR))))))) ax)
 (ae (P.if_ (dm hr ↥22 af) (ai (P.ret (P.call 7 c_root_left (a3 (P.v 1) (P.v 2) (P.y 3))))) ax)
 (ai (P.ret (P.call 8 c_kept_turn (a2 (P.v 1) (P.v 3)))))))))))))
theorem va (P:Pl X nN nZ) (hS:X.env.scope=aa fN) {C_Empty C_NoBits C_NoFlags C_NoFraction C_NoLeft C_NoName C_NoParts C_NoRank C_NoRow C_NoSize C_NoText C_NoWay C_NotFinite C_Stopped C_Unlike:Addr}
  (q_NoSize:X.mg "NoSize"=some (.ref  C_NoSize)) (isi_NoSize:Isi X (.cls "NoSize")) (hE:tR X) (m_isinstance:X.mg "isinstance"=none) (q_NoBits:X.mg "NoBits"=some (.ref  C_NoBits)) (isi_NoBits:Isi X (.cls "NoBits")) (q_NoParts:X.mg "NoParts"=some (.ref  C_NoParts)) (isi_NoParts:Isi X (.cls "NoParts")) (q_NoRank:X.mg "NoRank"=some (.ref  C_NoRank)) (isi_NoRank:Isi X (.cls "NoRank")) (q_NotFinite:X.mg "NotFinite"=some (.ref  C_NotFinite)) (isi_NotFinite:Isi X (.cls "NotFinite")) (q_NoWay:X.mg "NoWay"=some (.ref  C_NoWay)) (isi_NoWay:Isi X (.cls "NoWay")) (q_NoFlags:X.mg "NoFlags"=some (.ref  C_NoFlags)) (isi_NoFlags:Isi X (.cls "NoFlags")) (q_NoFraction:X.mg "NoFraction"=some (.ref  C_NoFraction)) (isi_NoFraction:Isi X (.cls "NoFraction")) (q_Unlike:X.mg "Unlike"=some (.ref  C_Unlike)) (isi_Unlike:Isi X (.cls "Unlike")) (q_Empty:X.mg "Empty"=some (.ref  C_Empty)) (isi_Empty:Isi X (.cls "Empty")) (q_NoLeft:X.mg "NoLeft"=some (.ref  C_NoLeft)) (isi_NoLeft:Isi X (.cls "NoLeft")) (q_NoText:X.mg "NoText"=some (.ref  C_NoText)) (isi_NoText:Isi X (.cls "NoText")) (q_NoRow:X.mg "NoRow"=some (.ref  C_NoRow)) (isi_NoRow:Isi X (.cls "NoRow")) (q_NoName:X.mg "NoName"=some (.ref  C_NoName)) (isi_NoName:Isi X (.cls "NoName")) (q_Stopped:X.mg "Stopped"=some (.ref  C_Stopped)) (isi_Stopped:Isi X (.cls "Stopped")) (m_ValueError:X.mg "ValueError"=none) (isi_ValueError:Isi X (.ty "ValueError")) (m_int:X.mg "int"=none) (m_sum:X.mg "sum"=none):SSs X (ah fN) gf:=by
 unfold gf
 exact (ae (P.set 1 (cT (a3 (eH isi_NoSize hE (P.w 0) m_isinstance ↥22 (fh (x:="NoSize") (P.w 1) q_NoSize)) (eH isi_NoBits hE (P.w 0) m_isinstance ↥22 (fh (x:="NoBits") (P.w 2) q_NoBits)) (eH isi_NoParts hE (P.w 0) m_isinstance ↥22 (fh (x:="NoParts") (P.w 3) q_NoParts))) ↥0))
 (ae (P.set 1 (ba (P.v 1) (cT (a3 (eH isi_NoRank hE (P.w 0) m_isinstance ↥22 (fh (x:="NoRank") (P.w 4) q_NoRank)) (eH isi_NotFinite hE (P.w 0) m_isinstance ↥22 (fh (x:="NotFinite") (P.w 5) q_NotFinite)) (eH isi_NoWay hE (P.w 0) m_isinstance ↥22 (fh (x:="NoWay") (P.w 6) q_NoWay))) ↥0)))
 (ae (P.set 1 (ba (P.v 1) (cT (a3 (eH isi_NoFlags hE (P.w 0) m_isinstance ↥22 (fh (x:="NoFlags") (P.w 7) q_NoFlags)) (eH isi_NoFraction hE (P.w 0) m_isinstance ↥22 (fh (x:="NoFraction") (P.w 8) q_NoFraction)) (eH isi_Unlike hE (P.w 0) m_isinstance ↥22 (fh (x:="Unlike") (P.w 9) q_Unlike))) ↥0)))
 (ae (P.set 1 (ba (P.v 1) (cT (a3 (eH isi_Empty hE (P.w 0) m_isinstance ↥22 (fh (x:="Empty") (P.w 10) q_Empty)) (eH isi_NoLeft hE (P.w 0) m_isinstance ↥22 (fh (x:="NoLeft") (P.w 11) q_NoLeft)) (eH isi_NoText hE (P.w 0) m_isinstance ↥22 (fh (x:="NoText") (P.w 12) q_NoText))) ↥0)))
 (ae (P.set 1 (ba (P.v 1) (cT (a3 (eH isi_NoRow hE (P.w 0) m_isinstance ↥22 (fh (x:="NoRow") (P.w 13) q_NoRow)) (eH isi_NoName hE (P.w 0) m_isinstance ↥22 (fh (x:="NoName") (P.w 14) q_NoName)) (eH isi_Stopped hE (P.w 0) m_isinstance ↥22 (fh (x:="Stopped") (P.w 15) q_Stopped))) ↥0)))
 (ai (P.ret (xQ (eH isi_ValueError hE (P.w 0) m_isinstance ↥22 (VZ (n:="ValueError") (P.w 16) m_ValueError nh)) (uW (Br hr (cE (NT L.calm) Nl (P.w 17) m_sum boot_sum (a1 (sI L.calm P.sc (x:="_law_fit") (ksn:=[]) (G:=["int"]) (ks:=[]) (by walk_at "C") rfl ↥0 (by rw [hS];decide +kernel) (gO (P.v 1)) (fun C fp s H W S' G'=>(EN NV Nt (G' _ (mG 0)) m_int PyProof.Rows.boot_int (a1 (dD S' 0 rfl))))))) af))))))))))
theorem xY (P:Pl X pC pL) (hS:X.env.scope=aa ik) {C_Empty C_NoBits C_NoLeft C_NoWay C_NotFinite C_Unlike:Addr}
  (c_law_alone:Callee X "_law_alone" d7) (q_NoWay:X.mg "NoWay"=some (.ref  C_NoWay)) (isi_NoWay:Isi X (.cls "NoWay")) (hE:tR X) (m_isinstance:X.mg "isinstance"=none) (q_Unlike:X.mg "Unlike"=some (.ref  C_Unlike)) (isi_Unlike:Isi X (.cls "Unlike")) (q_Empty:X.mg "Empty"=some (.ref  C_Empty)) (isi_Empty:Isi X (.cls "Empty")) (q_NoBits:X.mg "NoBits"=some (.ref  C_NoBits)) (isi_NoBits:Isi X (.cls "NoBits")) (q_NotFinite:X.mg "NotFinite"=some (.ref  C_NotFinite)) (isi_NotFinite:Isi X (.cls "NotFinite")) (q_NoLeft:X.mg "NoLeft"=some (.ref  C_NoLeft)) (isi_NoLeft:Isi X (.cls "NoLeft")):SSs X (ah ik) fz:=by
 unfold fz
 exact (ae (P.if_ (Cb ↥22) (ai (P.ret aO)) ax)
 (ae (P.if_ (JK (iQ (P.call 0 c_law_alone (a1 ↥22)))) (ai (P.ret aO)) ax)
 (ae (P.if_ (iQ (eH isi_NoWay hE (P.w 1) m_isinstance ↥22 (fh (x:="NoWay") (P.w 2) q_NoWay))) (ai (P.ret aO)) ax)
 (ae (P.if_ (iQ (eH isi_Unlike hE (P.w 1) m_isinstance ↥22 (fh (x:="Unlike") (P.w 3) q_Unlike))) (ai (P.ret aO)) ax)
 (ae (P.if_ (iQ (eH isi_Empty hE (P.w 1) m_isinstance ↥22 (fh (x:="Empty") (P.w 4) q_Empty))) (ai (P.ret aO)) ax)
 (ae (P.if_ (iQ (eH isi_NoBits hE (P.w 1) m_isinstance ↥22 (fh (x:="NoBits") (P.w 5) q_NoBits))) (ai (P.ret aO)) ax)
 (ae (P.if_ (iQ (eH isi_NotFinite hE (P.w 1) m_isinstance ↥22 (fh (x:="NotFinite") (P.w 6) q_NotFinite))) (ai (P.ret aO)) ax)
 (ae (P.if_ (iQ (eH isi_NoLeft hE (P.w 1) m_isinstance ↥22 (fh (x:="NoLeft") (P.w 7) q_NoLeft))) (ai (P.ret aO)) ax)
 (ai (P.ret aO))))))))))
theorem u7 (P:Pl X nL nX) (hS:X.env.scope=aa fL) {C_MillError:Addr}
  (c_law_row_by:Callee X "_law_row_by" bx) (c_law_asked:Callee X "_law_asked" ar) (lc_8:X.env.scope.names.lookup ("e":Str)=some .local) (q_MillError:X.mg "MillError"=some (.ref  C_MillError)) (ct_MillError:vo X "MillError" C_MillError) (c_law_due:Callee X "_law_due" dv) (c_law_word:Callee X "_law_word" bJ):SSs X (ah fL) f9:=by
 unfold f9
 exact (ae (P.set 2 (cW (P.y 1) af))
 (ae (P.set 3 (eu (P.y 1) af))
 (ae (P.set 4 (oB (cT (ag aO (ag aO (ag aO (ag aO (ag aO bR))))) ↥0) (cW (P.v 3) af)))
 (ae (P.if_ (dm hr (cW (eu (P.v 3) af) af) af) (ai (P.set 4 (oB (cT (ag aO (ag aO (ag aO (ag aO (ag aO bR))))) ↥0) (cW (P.v 3) af)))) ax)
 (ae (P.set 5 (P.call 0 c_law_row_by (a3 ↥22 (oA (P.v 1) (bS af) (bS af)) (eu (P.v 3) af))))
 (ae (P.set 6 (P.call 0 c_law_row_by (a3 ↥22 (oA (P.v 1) (bS af) (bS af)) (eu (P.v 3) af))))
 (ae (P.if_ (t_w (w_and (Ek (P.v 2) af) (i8 (wV (P.v 2) af)))) (ae (P.set 5 (oA (ba (P.v 5) (cT (a2 af (cA af (P.y 0))) ↥0)) fR (bS af)))
 (ai (P.if_ (dm hr (P.v 2) af) (ai (P.set 5 (oA (P.v 5) fR (bS af)))) ax))) ax)
 (ae (P.set 7 DD)
 (ae (MV (cls:="MillError") P O 8 rfl lc_8 (P.w 2) q_MillError ct_MillError (fun pins W=>(ai (Er (P.try pins W).toSx (mX ⟨c_law_asked.ex⟩ ((P.try pins W).gb _ (mG 1)) (ag (dD (P.try pins W).sc 2 rfl) (ag (dD (P.try pins W).sc 0 rfl) (ag (dD (P.try pins W).sc 4 rfl) (ag (dD (P.try pins W).sc 5 rfl) (ag (dD (P.try pins W).sc 6 rfl) bR))))))))) (fun ea=>(ai (JU (P.inn ea).toSx 7 rfl ((P.inn ea).sto _ (mG 7)) (dD (P.inn ea).sc 8 rfl)))))
 (ae (P.set 9 (P.call 3 c_law_due (ag (P.v 2) (ag ↥22 (ag (P.v 4) (ag (P.v 5) (ag (P.v 6) bR)))))))
 (ai (P.ret (Sr (Br hr (P.call 4 c_law_word (a1 (P.v 7))) (P.v 9)) (uW (xQ (Ss (P.v 2) af) (xQ (Br hr (P.v 9) aO) (uW (Br hr (P.call 4 c_law_word (a1 (P.v 7))) aO))))))))))))))))))
theorem N2 (P:Pl X LZ L9) (hS:X.env.scope=aa ow)
  (c_law_size_by:Callee X "_law_size_by" cM) (c_law_cell_at:Callee X "_law_cell_at" cN) (m_len:X.mg "len"=none) (m_range:X.mg "range"=none) (c_law_holds:Callee X "_law_holds" d6):SSs X (ah ow) DB:=by
 unfold DB
 exact (ae (P.set 1 (P.call 0 c_law_size_by (a1 (P.call 1 c_law_cell_at (a2 ↥22 af)))))
 (ae (P.set 2 (ba (oA ↥22 (bS af) fR) (cT (ag af (ag af (ag af (ag af (ag af (ag af (ag af bR))))))) ↥0)))
 (ae (jn P.toSx L 3 rfl (P.sto _ (mG 3)) (Lo (P.w 2) m_range (cF (cE i6 iW (P.w 3) m_len PySem.boot_len (a1 (P.v 2))) af)) (ai (P.if_ (JK (iQ (P.call 4 c_law_holds (a2 (P.v 1) (oA (P.v 2) (bS (P.v 3)) (bS (ba (P.v 3) af))))))) (ai (P.ret Me)) ax)))
 (ai (P.ret Me)))))
end
theorem all_mk {P:Program} {w:World} {K:PySem.W.Frag} {h:Heap} {mg:Str->Option Value} {fa:Addr} (KX:K.In h) (GG:h.Ns mainGlobals mg) (hfa:mg "law"=some (.ref fa))
  {C_Way:Addr} (n_Way:PySem.W.nsIn K mainGlobals "Way"=some (some (.ref C_Way)))
  (pg_Way:PySem.W.plainGet K C_Way Str.empty=true) (hd_Way:PySem.W.hasDictIn K C_Way=true) (po_Way:PySem.W.plainOver K C_Way=true) (sa_Way:PySem.W.findIn K (.ref C_Way) "__setattr__"=some (some (.builtin "object.__setattr__")))
  (na_Way:PySem.W.findIn K (.ref C_Way) "name"=some none)
  {fIWay:Addr} {odIWay anIWay:Option Addr} {slIWay:Array (Option Value)} {ocIWay kVIWay dcIWay pmIWay cdIWay ctIWay:Value}
  (aIWay:PySem.W.findIn K (.ref C_Way) "__init__"=some (some (.ref fIWay))) (uIWay:PySem.W.isFn K (.ref fIWay)=true) (mm_Way:PySem.W.makesIn K C_Way=true) (kc_Way:PySem.W.keepIn K (.ref C_Way)=true)
  (lIWay:K.lookup fIWay=some ⟨ocIWay,odIWay,.func (PySem.W.fnOf "__init__" "Way.__init__" (eA iu) (ah iu) (aa iu) .none kVIWay dcIWay pmIWay anIWay cdIWay ctIWay),slIWay⟩)
  (eIWay:PySem.W.codeIn K cdIWay "Way.__init__"=true) (kIWay:PySem.W.keepIn K (.ref fIWay)=true)
  (q1:DA K "_law_size_by" dI)
  (q2:DA K "_law_cell_at" dJ)
  (q3:DA K "_law_bits_by" dM)
  (q4:DA K "_law_row_by" eL)
  (q5:DA K "_law_due" jl)
  (q6:DA K "sign_bit" ie)
  (q7:DA K "width" qb)
  (q8:DA K "parted" lJ)
  (q9:DA K "check_bits" eQ)
  (q10:DA K "last_field" eO)
  (q11:DA K "kind" vE)
  (q12:DA K "check_finite" di)
  (q13:DA K "kept_answer" dN)
  (q14:DA K "way_of" lE)
  (q15:DA K "any_none" ir)
  (q16:DA K "worth_fraction" cc)
  (q17:DA K "check_fraction" cj)
  (q18:DA K "scaled" lH)
  (q19:DA K "bias" vF)
  (q20:DA K "low" Co)
  (q21:DA K "rest_by_middle" cg)
  (q22:DA K "rest_of" jj)
  (q23:DA K "height" lL)
  (q24:DA K "cut" Cp)
  (q25:DA K "endless" jo)
  (q26:DA K "signed" lG)
  (q27:DA K "lost_flags" eK)
  {f28:Addr} {od28 an28:Option Addr} {sl28:Array (Option Value)} {oc28 kV28 dc28 pm28 cd28 ct28:Value}
  (a28:PySem.W.findIn K (.ref C_Way) "flees_nought"=some (some (.ref f28))) (u28:PySem.W.isFn K (.ref f28)=true)
  (l28:K.lookup f28=some ⟨oc28,od28,.func (PySem.W.fnOf "flees_nought" "Way.flees_nought" (eA aJ) (ah aJ) (aa aJ) .none kV28 dc28 pm28 an28 cd28 ct28),sl28⟩)
  (e28:PySem.W.codeIn K cd28 "Way.flees_nought"=true) (k28:PySem.W.keepIn K (.ref f28)=true)
  {f29:Addr} {od29 an29:Option Addr} {sl29:Array (Option Value)} {oc29 kV29 dc29 pm29 cd29 ct29:Value}
  (a29:PySem.W.findIn K (.ref C_Way) "grows"=some (some (.ref f29))) (u29:PySem.W.isFn K (.ref f29)=true)
  (l29:K.lookup f29=some ⟨oc29,od29,.func (PySem.W.fnOf "grows" "Way.grows" (eA cy) (ah cy) (aa cy) .none kV29 dc29 pm29 an29 cd29 ct29),sl29⟩)
  (e29:PySem.W.codeIn K cd29 "Way.grows"=true) (k29:PySem.W.keepIn K (.ref f29)=true)
  {f30:Addr} {od30 an30:Option Addr} {sl30:Array (Option Value)} {oc30 kV30 dc30 pm30 cd30 ct30:Value}
  (a30:PySem.W.findIn K (.ref C_Way) "bursts"=some (some (.ref f30))) (u30:PySem.W.isFn K (.ref f30)=true)
  (l30:K.lookup f30=some ⟨oc30,od30,.func (PySem.W.fnOf "bursts" "Way.bursts" (eA bO) (ah bO) (aa bO) .none kV30 dc30 pm30 an30 cd30 ct30),sl30⟩)
  (e30:PySem.W.codeIn K cd30 "Way.bursts"=true) (k30:PySem.W.keepIn K (.ref f30)=true)
  (q31:DA K "settled" jh)
  (q32:DA K "rounded" ji)
  (q33:DA K "total" qc)
  (q34:DA K "nought_sign" dH)
  (q35:DA K "settled_total" cH)
  (q36:DA K "no_number" fK)
  (q37:DA K "settled_terms" cI)
  (q38:DA K "worth" p9)
  (q39:DA K "number_term" dG)
  (q40:DA K "product_term" dg)
  (q41:DA K "product_wrong" cK)
  (q42:DA K "settled_sum" dF)
  (q43:DA K "added" qe)
  (q44:DA K "minus" qd)
  (q45:DA K "left_of" jk)
  (q46:DA K "sum_left" ib)
  (q47:DA K "kept_turn" fO)
  (q48:DA K "gathered" ip)
  (q49:DA K "summed" lF)
  (q50:DA K "in_turn" jm)
  {f51:Addr} {od51 an51:Option Addr} {sl51:Array (Option Value)} {oc51 kV51 dc51 pm51 cd51 ct51:Value}
  (a51:PySem.W.nsIn K mainGlobals "halves_added"=some (some (.ref f51)))
  (l51:K.lookup f51=some ⟨oc51,od51,.func (PySem.W.fnOf "halves_added" "halves_added" (eA bp) (ah bp) (aa bp) .none kV51 dc51 pm51 an51 cd51 ct51),sl51⟩)
  (e51:PySem.W.codeIn K cd51 "halves_added"=true) (k51:PySem.W.keepIn K (.ref f51)=true)
  (q52:DA K "in_halves" fP)
  (q53:DA K "multiplied" eJ)
  (q54:DA K "product_left" dh)
  (q55:DA K "quotient" ij)
  (q56:DA K "fraction" iq)
  (q57:DA K "divided" jq)
  (q58:DA K "quotient_left" cJ)
  (q59:DA K "whole_root" eI)
  (q60:DA K "root_rest" fI)
  (q61:DA K "root_cut" ig)
  (q62:DA K "rooted" lI)
  (q63:DA K "root_left" fJ)
  (q64:DA K "_law_asked" fM)
  (q65:DA K "_law_alone" fN)
  (q66:DA K "_law_word" ik)
  (q67:DA K "_law_holds" fL)
  {f68:Addr} {od68 an68:Option Addr} {sl68:Array (Option Value)} {oc68 kV68 dc68 pm68 cd68 ct68:Value}
  (a68:PySem.W.nsIn K mainGlobals "law"=some (some (.ref f68)))
  (l68:K.lookup f68=some ⟨oc68,od68,.func (PySem.W.fnOf "law" "law" (eA ow) (ah ow) (aa ow) .none kV68 dc68 pm68 an68 cd68 ct68),sl68⟩)
  (e68:PySem.W.codeIn K cd68 "law"=true) (k68:PySem.W.keepIn K (.ref f68)=true)
  (z_len:PySem.W.nsIn K mainGlobals "len"=some none)
  (z_list:PySem.W.nsIn K mainGlobals "list"=some none)
  (z_max:PySem.W.nsIn K mainGlobals "max"=some none)
  (z_min:PySem.W.nsIn K mainGlobals "min"=some none)
  (z_abs:PySem.W.nsIn K mainGlobals "abs"=some none)
  (z_any:PySem.W.nsIn K mainGlobals "any"=some none)
  (z_zip:PySem.W.nsIn K mainGlobals "zip"=some none)
  (z_isinstance:PySem.W.nsIn K mainGlobals "isinstance"=some none)
  (z_ValueError:PySem.W.nsIn K mainGlobals "ValueError"=some none)
  (z_int:PySem.W.nsIn K mainGlobals "int"=some none)
  (z_sum:PySem.W.nsIn K mainGlobals "sum"=some none)
  (z_range:PySem.W.nsIn K mainGlobals "range"=some none)
  {A_NOT_FINITE:Addr} {dd_NOT_FINITE:Option Addr} {nn_NOT_FINITE:Nat} {ss_NOT_FINITE:Array (Option Value)} {t0_NOT_FINITE t1_NOT_FINITE:Tok} (y_NOT_FINITE:PySem.W.nsIn K mainGlobals "NOT_FINITE"=some (some (.ref A_NOT_FINITE)))
  (yl_NOT_FINITE:K.lookup A_NOT_FINITE=some ⟨.type "tuple",dd_NOT_FINITE,.seq #[.str "endless" t0_NOT_FINITE,.str "none" t1_NOT_FINITE] nn_NOT_FINITE,ss_NOT_FINITE⟩)
  {t_GREAT:Tok} (y_GREAT:PySem.W.nsIn K mainGlobals "GREAT"=some (some (.int 4 t_GREAT)))
  {A_NAMES:Addr} {dd_NAMES:Option Addr} {nn_NAMES:Nat} {ss_NAMES:Array (Option Value)} {t0_NAMES t1_NAMES t2_NAMES t3_NAMES t4_NAMES:Tok} (y_NAMES:PySem.W.nsIn K mainGlobals "NAMES"=some (some (.ref A_NAMES)))
  (yl_NAMES:K.lookup A_NAMES=some ⟨.type "tuple",dd_NAMES,.seq #[.str "even" t0_NAMES,.str "away" t1_NAMES,.str "nought" t2_NAMES,.str "up" t3_NAMES,.str "down" t4_NAMES] nn_NAMES,ss_NAMES⟩)
  {t_INEXACT:Tok} (y_INEXACT:PySem.W.nsIn K mainGlobals "INEXACT"=some (some (.int 1 t_INEXACT)))
  {t_SMALL:Tok} (y_SMALL:PySem.W.nsIn K mainGlobals "SMALL"=some (some (.int 2 t_SMALL)))
  {t_WRONG:Tok} (y_WRONG:PySem.W.nsIn K mainGlobals "WRONG"=some (some (.int 16 t_WRONG)))
  {t_POLE:Tok} (y_POLE:PySem.W.nsIn K mainGlobals "POLE"=some (some (.int 8 t_POLE)))
  {C_MillError:Addr} (n_MillError:PySem.W.nsIn K mainGlobals "MillError"=some (some (.ref C_MillError)))
  {C_NoSize:Addr} (n_NoSize:PySem.W.nsIn K mainGlobals "NoSize"=some (some (.ref C_NoSize)))
  {C_NoBits:Addr} (n_NoBits:PySem.W.nsIn K mainGlobals "NoBits"=some (some (.ref C_NoBits)))
  {C_NoParts:Addr} (n_NoParts:PySem.W.nsIn K mainGlobals "NoParts"=some (some (.ref C_NoParts)))
  {C_NoRank:Addr} (n_NoRank:PySem.W.nsIn K mainGlobals "NoRank"=some (some (.ref C_NoRank)))
  {C_NotFinite:Addr} (n_NotFinite:PySem.W.nsIn K mainGlobals "NotFinite"=some (some (.ref C_NotFinite)))
  {C_NoWay:Addr} (n_NoWay:PySem.W.nsIn K mainGlobals "NoWay"=some (some (.ref C_NoWay)))
  {C_NoFlags:Addr} (n_NoFlags:PySem.W.nsIn K mainGlobals "NoFlags"=some (some (.ref C_NoFlags)))
  {C_NoFraction:Addr} (n_NoFraction:PySem.W.nsIn K mainGlobals "NoFraction"=some (some (.ref C_NoFraction)))
  {C_Unlike:Addr} (n_Unlike:PySem.W.nsIn K mainGlobals "Unlike"=some (some (.ref C_Unlike)))
  {C_Empty:Addr} (n_Empty:PySem.W.nsIn K mainGlobals "Empty"=some (some (.ref C_Empty)))
  {C_NoLeft:Addr} (n_NoLeft:PySem.W.nsIn K mainGlobals "NoLeft"=some (some (.ref C_NoLeft)))
  {C_NoText:Addr} (n_NoText:PySem.W.nsIn K mainGlobals "NoText"=some (some (.ref C_NoText)))
  {C_NoRow:Addr} (n_NoRow:PySem.W.nsIn K mainGlobals "NoRow"=some (some (.ref C_NoRow)))
  {C_NoName:Addr} (n_NoName:PySem.W.nsIn K mainGlobals "NoName"=some (some (.ref C_NoName)))
  {C_Stopped:Addr} (n_Stopped:PySem.W.nsIn K mainGlobals "Stopped"=some (some (.ref C_Stopped)))
  (xi_NoBits:PySem.W.excIn K C_NoBits bmV "ValueError.__new__"=true)
  (xi_NotFinite:PySem.W.excIn K C_NotFinite bmV "ValueError.__new__"=true)
  (xi_NoLeft:PySem.W.excIn K C_NoLeft bmV "ValueError.__new__"=true)
  (xi_NoWay:PySem.W.excIn K C_NoWay bmV "ValueError.__new__"=true)
  (xi_NoFraction:PySem.W.excIn K C_NoFraction bmV "ValueError.__new__"=true)
  (xi_Empty:PySem.W.excIn K C_Empty bmV "ValueError.__new__"=true)
  (xi_Unlike:PySem.W.excIn K C_Unlike bmV "ValueError.__new__"=true)
  (v_MillError:XCls K C_MillError)
  (v_NoSize:XCls K C_NoSize)
  (v_NoBits:XCls K C_NoBits)
  (v_NoParts:XCls K C_NoParts)
  (v_NoRank:XCls K C_NoRank)
  (v_NotFinite:XCls K C_NotFinite)
  (v_NoWay:XCls K C_NoWay)
  (v_NoFlags:XCls K C_NoFlags)
  (v_NoFraction:XCls K C_NoFraction)
  (v_Unlike:XCls K C_Unlike)
  (v_Empty:XCls K C_Empty)
  (v_NoLeft:XCls K C_NoLeft)
  (v_NoText:XCls K C_NoText)
  (v_NoRow:XCls K C_NoRow)
  (v_NoName:XCls K C_NoName)
  (v_Stopped:XCls K C_Stopped)
  (cb_MillError:CB K C_MillError)
  (r_MillError_MillError:PySem.W.mroIn K C_MillError (.ref C_MillError)=some true)
  (r_MillError_NoSize:PySem.W.mroIn K C_NoSize (.ref C_MillError)=some true)
  (r_MillError_NoBits:PySem.W.mroIn K C_NoBits (.ref C_MillError)=some true)
  (r_MillError_NoParts:PySem.W.mroIn K C_NoParts (.ref C_MillError)=some true)
  (r_MillError_NoRank:PySem.W.mroIn K C_NoRank (.ref C_MillError)=some true)
  (r_MillError_NotFinite:PySem.W.mroIn K C_NotFinite (.ref C_MillError)=some true)
  (r_MillError_NoWay:PySem.W.mroIn K C_NoWay (.ref C_MillError)=some true)
  (r_MillError_NoFlags:PySem.W.mroIn K C_NoFlags (.ref C_MillError)=some true)
  (r_MillError_NoFraction:PySem.W.mroIn K C_NoFraction (.ref C_MillError)=some true)
  (r_MillError_Unlike:PySem.W.mroIn K C_Unlike (.ref C_MillError)=some true)
  (r_MillError_Empty:PySem.W.mroIn K C_Empty (.ref C_MillError)=some true)
  (r_MillError_NoLeft:PySem.W.mroIn K C_NoLeft (.ref C_MillError)=some true)
  (r_MillError_NoText:PySem.W.mroIn K C_NoText (.ref C_MillError)=some true)
  (r_MillError_NoRow:PySem.W.mroIn K C_NoRow (.ref C_MillError)=some true)
  (r_MillError_NoName:PySem.W.mroIn K C_NoName (.ref C_MillError)=some true)
  (r_MillError_Stopped:PySem.W.mroIn K C_Stopped (.ref C_MillError)=some true)
  (itab:[("NoSize",C_NoSize),("NoBits",C_NoBits),("NoParts",C_NoParts),("NoRank",C_NoRank),("NotFinite",C_NotFinite),("NoWay",C_NoWay),("NoFlags",C_NoFlags),("NoFraction",C_NoFraction),("Unlike",C_Unlike),("Empty",C_Empty),("NoLeft",C_NoLeft),("NoText",C_NoText),("NoRow",C_NoRow),("NoName",C_NoName),("Stopped",C_Stopped)].all (tabI K [("MillError",C_MillError),("NoSize",C_NoSize),("NoBits",C_NoBits),("NoParts",C_NoParts),("NoRank",C_NoRank),("NotFinite",C_NotFinite),("NoWay",C_NoWay),("NoFlags",C_NoFlags),("NoFraction",C_NoFraction),("Unlike",C_Unlike),("Empty",C_Empty),("NoLeft",C_NoLeft),("NoText",C_NoText),("NoRow",C_NoRow),("NoName",C_NoName),("Stopped",C_Stopped)])=true)
  (i_VE_NoneType:PySem.W.kitOne K (.type "NoneType") ↥13=some false)
  (i_VE_bool:PySem.W.kitOne K (.type "bool") ↥13=some false)
  (i_VE_int:PySem.W.kitOne K (.type "int") ↥13=some false)
  (i_VE_str:PySem.W.kitOne K (.type "str") ↥13=some false)
  (i_VE_tuple:PySem.W.kitOne K ↥6 ↥13=some false)
  (i_VE_list:PySem.W.kitOne K (.type "list") ↥13=some false)
  (itav:N9 K [("MillError",C_MillError),("NoSize",C_NoSize),("NoBits",C_NoBits),("NoParts",C_NoParts),("NoRank",C_NoRank),("NotFinite",C_NotFinite),("NoWay",C_NoWay),("NoFlags",C_NoFlags),("NoFraction",C_NoFraction),("Unlike",C_Unlike),("Empty",C_Empty),("NoLeft",C_NoLeft),("NoText",C_NoText),("NoRow",C_NoRow),("NoName",C_NoName),("Stopped",C_Stopped)]=true)
  : ∃ fd:FuncData,(∀ (s:Shared) (v:Value),BindsTo s fd ⟨[v],[]⟩ [("_law_script",v)])/\∀ base:Heap,K.In base->base.Ns mainGlobals mg->FnOk P w K mg base (CXF P w) 34 fa fd ["_law_script"] (spP K mg CH):=by
 have e:=hfa.symm.trans (PySem.W.mg_of KX GG a68)
 cases e
 have q_Way:=PySem.W.mg_of KX GG n_Way
 have cl_Way:Cls K C_Way:=⟨pg_Way,hd_Way,po_Way,sa_Way⟩
 have m_len:=PySem.W.mg_none_of KX GG z_len
 have m_list:=PySem.W.mg_none_of KX GG z_list
 have m_max:=PySem.W.mg_none_of KX GG z_max
 have m_min:=PySem.W.mg_none_of KX GG z_min
 have m_abs:=PySem.W.mg_none_of KX GG z_abs
 have m_any:=PySem.W.mg_none_of KX GG z_any
 have m_zip:=PySem.W.mg_none_of KX GG z_zip
 have m_isinstance:=PySem.W.mg_none_of KX GG z_isinstance
 have m_ValueError:=PySem.W.mg_none_of KX GG z_ValueError
 have m_int:=PySem.W.mg_none_of KX GG z_int
 have m_sum:=PySem.W.mg_none_of KX GG z_sum
 have m_range:=PySem.W.mg_none_of KX GG z_range
 have g_GREAT:∃ t,mg "GREAT"=some (.int 4 t):=⟨_,PySem.W.mg_of KX GG y_GREAT⟩
 have g_INEXACT:∃ t,mg "INEXACT"=some (.int 1 t):=⟨_,PySem.W.mg_of KX GG y_INEXACT⟩
 have g_SMALL:∃ t,mg "SMALL"=some (.int 2 t):=⟨_,PySem.W.mg_of KX GG y_SMALL⟩
 have g_WRONG:∃ t,mg "WRONG"=some (.int 16 t):=⟨_,PySem.W.mg_of KX GG y_WRONG⟩
 have g_POLE:∃ t,mg "POLE"=some (.int 8 t):=⟨_,PySem.W.mg_of KX GG y_POLE⟩
 have q_MillError:=PySem.W.mg_of KX GG n_MillError
 have q_NoSize:=PySem.W.mg_of KX GG n_NoSize
 have q_NoBits:=PySem.W.mg_of KX GG n_NoBits
 have q_NoParts:=PySem.W.mg_of KX GG n_NoParts
 have q_NoRank:=PySem.W.mg_of KX GG n_NoRank
 have q_NotFinite:=PySem.W.mg_of KX GG n_NotFinite
 have q_NoWay:=PySem.W.mg_of KX GG n_NoWay
 have q_NoFlags:=PySem.W.mg_of KX GG n_NoFlags
 have q_NoFraction:=PySem.W.mg_of KX GG n_NoFraction
 have q_Unlike:=PySem.W.mg_of KX GG n_Unlike
 have q_Empty:=PySem.W.mg_of KX GG n_Empty
 have q_NoLeft:=PySem.W.mg_of KX GG n_NoLeft
 have q_NoText:=PySem.W.mg_of KX GG n_NoText
 have q_NoRow:=PySem.W.mg_of KX GG n_NoRow
 have q_NoName:=PySem.W.mg_of KX GG n_NoName
 have q_Stopped:=PySem.W.mg_of KX GG n_Stopped
 have hXF:∀ n∈ao,XF K mg n:=IH
  ⟨.inr ⟨_,q_MillError,v_MillError⟩⟩
  ⟨.inr ⟨_,q_NoSize,v_NoSize⟩⟩
  ⟨.inr ⟨_,q_NoBits,v_NoBits⟩⟩
  ⟨.inr ⟨_,q_NoParts,v_NoParts⟩⟩
  ⟨.inr ⟨_,q_NoRank,v_NoRank⟩⟩
  ⟨.inr ⟨_,q_NotFinite,v_NotFinite⟩⟩
  ⟨.inr ⟨_,q_NoWay,v_NoWay⟩⟩
  ⟨.inr ⟨_,q_NoFlags,v_NoFlags⟩⟩
  ⟨.inr ⟨_,q_NoFraction,v_NoFraction⟩⟩
  ⟨.inr ⟨_,q_Unlike,v_Unlike⟩⟩
  ⟨.inr ⟨_,q_Empty,v_Empty⟩⟩
  ⟨.inr ⟨_,q_NoLeft,v_NoLeft⟩⟩
  ⟨.inr ⟨_,q_NoText,v_NoText⟩⟩
  ⟨.inr ⟨_,q_NoRow,v_NoRow⟩⟩
  ⟨.inr ⟨_,q_NoName,v_NoName⟩⟩
  ⟨.inr ⟨_,q_Stopped,v_Stopped⟩⟩
 have hct_MillError:∀ n∈ao,qD n "MillError"=true->CF K mg C_MillError n:=IH (P:=fun n=>qD n "MillError"=true->CF K mg C_MillError n)
  (fun _=>⟨.inr ⟨_,q_MillError,r_MillError_MillError⟩⟩)
  (fun _=>⟨.inr ⟨_,q_NoSize,r_MillError_NoSize⟩⟩)
  (fun _=>⟨.inr ⟨_,q_NoBits,r_MillError_NoBits⟩⟩)
  (fun _=>⟨.inr ⟨_,q_NoParts,r_MillError_NoParts⟩⟩)
  (fun _=>⟨.inr ⟨_,q_NoRank,r_MillError_NoRank⟩⟩)
  (fun _=>⟨.inr ⟨_,q_NotFinite,r_MillError_NotFinite⟩⟩)
  (fun _=>⟨.inr ⟨_,q_NoWay,r_MillError_NoWay⟩⟩)
  (fun _=>⟨.inr ⟨_,q_NoFlags,r_MillError_NoFlags⟩⟩)
  (fun _=>⟨.inr ⟨_,q_NoFraction,r_MillError_NoFraction⟩⟩)
  (fun _=>⟨.inr ⟨_,q_Unlike,r_MillError_Unlike⟩⟩)
  (fun _=>⟨.inr ⟨_,q_Empty,r_MillError_Empty⟩⟩)
  (fun _=>⟨.inr ⟨_,q_NoLeft,r_MillError_NoLeft⟩⟩)
  (fun _=>⟨.inr ⟨_,q_NoText,r_MillError_NoText⟩⟩)
  (fun _=>⟨.inr ⟨_,q_NoRow,r_MillError_NoRow⟩⟩)
  (fun _=>⟨.inr ⟨_,q_NoName,r_MillError_NoName⟩⟩)
  (fun _=>⟨.inr ⟨_,q_Stopped,r_MillError_Stopped⟩⟩)
 have hCs:∀ x∈ao,Eb mg [("MillError",C_MillError),("NoSize",C_NoSize),("NoBits",C_NoBits),("NoParts",C_NoParts),("NoRank",C_NoRank),("NotFinite",C_NotFinite),("NoWay",C_NoWay),("NoFlags",C_NoFlags),("NoFraction",C_NoFraction),("Unlike",C_Unlike),("Empty",C_Empty),("NoLeft",C_NoLeft),("NoText",C_NoText),("NoRow",C_NoRow),("NoName",C_NoName),("Stopped",C_Stopped)] x:=IH (P:=fun x=>Eb mg [("MillError",C_MillError),("NoSize",C_NoSize),("NoBits",C_NoBits),("NoParts",C_NoParts),("NoRank",C_NoRank),("NotFinite",C_NotFinite),("NoWay",C_NoWay),("NoFlags",C_NoFlags),("NoFraction",C_NoFraction),("Unlike",C_Unlike),("Empty",C_Empty),("NoLeft",C_NoLeft),("NoText",C_NoText),("NoRow",C_NoRow),("NoName",C_NoName),("Stopped",C_Stopped)] x)
  (.inr ⟨_,q_MillError,mP 0⟩)
  (.inr ⟨_,q_NoSize,mP 1⟩)
  (.inr ⟨_,q_NoBits,mP 2⟩)
  (.inr ⟨_,q_NoParts,mP 3⟩)
  (.inr ⟨_,q_NoRank,mP 4⟩)
  (.inr ⟨_,q_NotFinite,mP 5⟩)
  (.inr ⟨_,q_NoWay,mP 6⟩)
  (.inr ⟨_,q_NoFlags,mP 7⟩)
  (.inr ⟨_,q_NoFraction,mP 8⟩)
  (.inr ⟨_,q_Unlike,mP 9⟩)
  (.inr ⟨_,q_Empty,mP 10⟩)
  (.inr ⟨_,q_NoLeft,mP 11⟩)
  (.inr ⟨_,q_NoText,mP 12⟩)
  (.inr ⟨_,q_NoRow,mP 13⟩)
  (.inr ⟨_,q_NoName,mP 14⟩)
  (.inr ⟨_,q_Stopped,mP 15⟩)
 have i0_NoSize:=cw itab (q:=("NoSize",C_NoSize)) (mP 0)
 have hisi_NoSize:=cx hCs itab (q:=("NoSize",C_NoSize)) (mP 0)
 have i0_NoBits:=cw itab (q:=("NoBits",C_NoBits)) (mP 1)
 have hisi_NoBits:=cx hCs itab (q:=("NoBits",C_NoBits)) (mP 1)
 have i0_NoParts:=cw itab (q:=("NoParts",C_NoParts)) (mP 2)
 have hisi_NoParts:=cx hCs itab (q:=("NoParts",C_NoParts)) (mP 2)
 have i0_NoRank:=cw itab (q:=("NoRank",C_NoRank)) (mP 3)
 have hisi_NoRank:=cx hCs itab (q:=("NoRank",C_NoRank)) (mP 3)
 have i0_NotFinite:=cw itab (q:=("NotFinite",C_NotFinite)) (mP 4)
 have hisi_NotFinite:=cx hCs itab (q:=("NotFinite",C_NotFinite)) (mP 4)
 have i0_NoWay:=cw itab (q:=("NoWay",C_NoWay)) (mP 5)
 have hisi_NoWay:=cx hCs itab (q:=("NoWay",C_NoWay)) (mP 5)
 have i0_NoFlags:=cw itab (q:=("NoFlags",C_NoFlags)) (mP 6)
 have hisi_NoFlags:=cx hCs itab (q:=("NoFlags",C_NoFlags)) (mP 6)
 have i0_NoFraction:=cw itab (q:=("NoFraction",C_NoFraction)) (mP 7)
 have hisi_NoFraction:=cx hCs itab (q:=("NoFraction",C_NoFraction)) (mP 7)
 have i0_Unlike:=cw itab (q:=("Unlike",C_Unlike)) (mP 8)
 have hisi_Unlike:=cx hCs itab (q:=("Unlike",C_Unlike)) (mP 8)
 have i0_Empty:=cw itab (q:=("Empty",C_Empty)) (mP 9)
 have hisi_Empty:=cx hCs itab (q:=("Empty",C_Empty)) (mP 9)
 have i0_NoLeft:=cw itab (q:=("NoLeft",C_NoLeft)) (mP 10)
 have hisi_NoLeft:=cx hCs itab (q:=("NoLeft",C_NoLeft)) (mP 10)
 have i0_NoText:=cw itab (q:=("NoText",C_NoText)) (mP 11)
 have hisi_NoText:=cx hCs itab (q:=("NoText",C_NoText)) (mP 11)
 have i0_NoRow:=cw itab (q:=("NoRow",C_NoRow)) (mP 12)
 have hisi_NoRow:=cx hCs itab (q:=("NoRow",C_NoRow)) (mP 12)
 have i0_NoName:=cw itab (q:=("NoName",C_NoName)) (mP 13)
 have hisi_NoName:=cx hCs itab (q:=("NoName",C_NoName)) (mP 13)
 have i0_Stopped:=cw itab (q:=("Stopped",C_Stopped)) (mP 14)
 have hisi_Stopped:=cx hCs itab (q:=("Stopped",C_Stopped)) (mP 14)
 have hisi_ValueError:=JI hCs itav
 refine ⟨PySem.W.fnOf "law" "law" (eA ow) (ah ow) (aa ow) .none kV68 dc68 pm68 an68 cd68 ct68,fun s v=>.of_eq rfl,fun base _ _ => ?_⟩
 have FIWay:=mV (st:=iu) lIWay eIWay kIWay
 have BIWay:=b8 (ps:=["self","name"]) FIWay rfl fun _ _ _ _ _ _ _ _=>rfl
 have JIWay:FnOk P w K mg base CX0 1 fIWay _ ["self","name"] (spI K "name"):=HF (k:=0) FIWay ⟨rfl,rfl,rfl,by decide +kernel,by decide +kernel,by decide +kernel,by decide +kernel⟩ (by decide +kernel) (by decide +kernel) (by decide +kernel) (by decide +kernel) rfl (fun _=>rfl)
 have D1:FnP P w K mg base "_law_size_by" 1 cM:=q1.fn KX GG oo rfl rfl (eE · rfl fun _ _ _ _ _ _ _=>rfl) fun X hr L O Pl hS =>
  qN (X:=at5 X P w K mg base) hr L O Pl hS
 have D2:FnP P w K mg base "_law_cell_at" 1 cN:=q2.fn KX GG oq rfl rfl (b8 · rfl fun _ _ _ _ _ _ _ _=>rfl) fun X hr L O Pl hS =>
  qO (X:=at5 X P w K mg base) hr L O Pl hS m_len
 have D3:FnP P w K mg base "_law_bits_by" 1 bD:=q3.fn KX GG ot rfl rfl (b8 · rfl fun _ _ _ _ _ _ _ _=>rfl) fun X hr L O Pl hS =>
  qP (X:=at5 X P w K mg base) hr L O Pl hS
 have D4:FnP P w K mg base "_law_row_by" 2 bx:=q4.fn KX GG p0 rfl rfl (cV · rfl fun _ _ _ _ _ _ _ _ _=>rfl) fun X hr L O Pl hS =>
  sW (X:=at5 X P w K mg base) hr L O Pl hS (D3.c hr) m_len
 have D5:FnP P w K mg base "_law_due" 1 dv:=q5.fn KX GG xc rfl rfl (AO · rfl fun _ _ _ _ _ _ _ _ _ _ _=>rfl) fun X hr L O Pl hS =>
  AZ (X:=at5 X P w K mg base) hr L O Pl hS m_len m_list
 have D6:FnP P w K mg base "sign_bit" 1 cC:=q6.fn KX GG ub rfl rfl (eE · rfl fun _ _ _ _ _ _ _=>rfl) fun X hr L O Pl hS =>
  xV (X:=at5 X P w K mg base) hr L O Pl hS
 have D7:FnP P w K mg base "width" 1 iT:=q7.fn KX GG Cg rfl rfl (eE · rfl fun _ _ _ _ _ _ _=>rfl) fun X hr L O Pl hS =>
  Ij (X:=at5 X P w K mg base) hr L O Pl hS
 have D8:FnP P w K mg base "parted" 2 aP:=q8.fn KX GG yR rfl rfl (b8 · rfl fun _ _ _ _ _ _ _ _=>rfl) fun X hr L O Pl hS =>
  DQ (X:=at5 X P w K mg base) hr L O Pl hS (D7.c hr) q_NoBits xi_NoBits (D6.c hr)
 have D9:FnP P w K mg base "check_bits" 3 aT:=q9.fn KX GG p7 rfl rfl (b8 · rfl fun _ _ _ _ _ _ _ _=>rfl) fun X hr L O Pl hS =>
  sY (X:=at5 X P w K mg base) hr L O Pl hS (D8.c hr)
 have D10:FnP P w K mg base "last_field" 1 bh:=q10.fn KX GG p5 rfl rfl (eE · rfl fun _ _ _ _ _ _ _=>rfl) fun X hr L O Pl hS =>
  sX (X:=at5 X P w K mg base) hr L O Pl hS
 have D11:FnP P w K mg base "kind" 3 aN:=q11.fn KX GG Gu rfl rfl (b8 · rfl fun _ _ _ _ _ _ _ _=>rfl) fun X hr L O Pl hS =>
  LP (X:=at5 X P w K mg base) hr L O Pl hS (D8.c hr) (D10.c hr)
 have D12:FnP P w K mg base "check_finite" 4 aq:=q12.fn KX GG md rfl rfl (b8 · rfl fun _ _ _ _ _ _ _ _=>rfl) fun X hr L O Pl hS =>
  oI (X:=at5 X P w K mg base) hr L O Pl hS (D9.c hr) (D11.c hr) (uR (ss:=["endless","none"]) (PySem.W.mg_of KX GG y_NOT_FINITE) yl_NOT_FINITE (ja (ts:=[t0_NOT_FINITE,t1_NOT_FINITE]) rfl rfl) (Nat.le_of_ble_eq_true rfl)) q_NotFinite xi_NotFinite
 have D13:FnP P w K mg base "kept_answer" 4 aD:=q13.fn KX GG ou rfl rfl (b8 · rfl fun _ _ _ _ _ _ _ _=>rfl) fun X hr L O Pl hS =>
  qQ (X:=at5 X P w K mg base) hr L O Pl hS (D11.c hr) (uR (ss:=["endless","none"]) (PySem.W.mg_of KX GG y_NOT_FINITE) yl_NOT_FINITE (ja (ts:=[t0_NOT_FINITE,t1_NOT_FINITE]) rfl rfl) (Nat.le_of_ble_eq_true rfl)) g_GREAT q_NoLeft xi_NoLeft
 have D14:FnP P w K mg base "way_of" 3 aA:=q14.fn KX GG yM rfl rfl (eE · rfl fun _ _ _ _ _ _ _=>rfl) fun X hr L O Pl hS =>
  DL (X:=at5 X P w K mg base) hr L O Pl hS (uR (ss:=["even","away","nought","up","down"]) (PySem.W.mg_of KX GG y_NAMES) yl_NAMES (ja (ts:=[t0_NAMES,t1_NAMES,t2_NAMES,t3_NAMES,t4_NAMES]) rfl rfl) (Nat.le_of_ble_eq_true rfl)) q_NoWay xi_NoWay ⟨⟨C_Way,_,1,_,_,q_Way,cl_Way,na_Way,⟨mm_Way,aIWay,uIWay,kc_Way⟩,JIWay,hr.mono ↥0,BIWay⟩⟩
 have D15:FnP P w K mg base "any_none" 4 bb:=q15.fn KX GG uh rfl rfl (b8 · rfl fun _ _ _ _ _ _ _ _=>rfl) fun X hr L O Pl hS =>
  yb (X:=at5 X P w K mg base) hr L O Pl hS (D11.c hr)
 have D16:FnP P w K mg base "worth_fraction" 1 aC:=q16.fn KX GG kh rfl rfl (eE · rfl fun _ _ _ _ _ _ _=>rfl) fun X hr L O Pl hS =>
  lz (X:=at5 X P w K mg base) hr L O Pl hS
 have D17:FnP P w K mg base "check_fraction" 1 aZ:=q17.fn KX GG kj rfl rfl (b8 · rfl fun _ _ _ _ _ _ _ _=>rfl) fun X hr L O Pl hS =>
  lB (X:=at5 X P w K mg base) hr L O Pl hS q_NoFraction xi_NoFraction
 have D18:FnP P w K mg base "scaled" 1 dO:=q18.fn KX GG yP rfl rfl (cV · rfl fun _ _ _ _ _ _ _ _ _=>rfl) fun X hr L O Pl hS =>
  DO (X:=at5 X P w K mg base) hr L O Pl hS
 have D19:FnP P w K mg base "bias" 1 rV:=q19.fn KX GG Gv rfl rfl (eE · rfl fun _ _ _ _ _ _ _=>rfl) fun X hr L O Pl hS =>
  LQ (X:=at5 X P w K mg base) hr L O Pl hS
 have D20:FnP P w K mg base "low" 2 js:=q20.fn KX GG JR rfl rfl (eE · rfl fun _ _ _ _ _ _ _=>rfl) fun X hr L O Pl hS =>
  N1 (X:=at5 X P w K mg base) hr L O Pl hS (D19.c hr)
 have D21:FnP P w K mg base "rest_by_middle" 1 aY:=q21.fn KX GG ki rfl rfl (cV · rfl fun _ _ _ _ _ _ _ _ _=>rfl) fun X hr L O Pl hS =>
  lA (X:=at5 X P w K mg base) hr L O Pl hS
 have D22:FnP P w K mg base "rest_of" 2 gI:=q22.fn KX GG xa rfl rfl (b8 · rfl fun _ _ _ _ _ _ _ _=>rfl) fun X hr L O Pl hS =>
  AX (X:=at5 X P w K mg base) hr L O Pl hS (D21.c hr)
 have D23:FnP P w K mg base "height" 2 fT:=q23.fn KX GG yT rfl rfl (b8 · rfl fun _ _ _ _ _ _ _ _=>rfl) fun X hr L O Pl hS =>
  DR (X:=at5 X P w K mg base) hr L O Pl hS (D18.c hr)
 have D24:FnP P w K mg base "cut" 3 uy:=q24.fn KX GG JT rfl rfl (cV · rfl fun _ _ _ _ _ _ _ _ _=>rfl) fun X hr L O Pl hS =>
  N3 (X:=at5 X P w K mg base) hr L O Pl hS (D17.c hr) (D20.c hr) (D23.c hr) m_max (D18.c hr) (D22.c hr)
 have D25:FnP P w K mg base "endless" 2 a9:=q25.fn KX GG xg rfl rfl (eE · rfl fun _ _ _ _ _ _ _=>rfl) fun X hr L O Pl hS =>
  A5 (X:=at5 X P w K mg base) hr L O Pl hS (D10.c hr)
 have D26:FnP P w K mg base "signed" 2 bB:=q26.fn KX GG yO rfl rfl (cV · rfl fun _ _ _ _ _ _ _ _ _=>rfl) fun X hr L O Pl hS =>
  DN (X:=at5 X P w K mg base) hr L O Pl hS (D6.c hr)
 have D27:FnP P w K mg base "lost_flags" 3 dt:=q27.fn KX GG pZ rfl rfl (cV · rfl fun _ _ _ _ _ _ _ _ _=>rfl) fun X hr L O Pl hS =>
  sV (X:=at5 X P w K mg base) hr L O Pl hS (D25.c hr) g_INEXACT g_GREAT g_SMALL
 have F28:=mV (st:=aJ) l28 e28 k28
 have B28:=b8 (ps:=["self","sign"]) F28 rfl fun _ _ _ _ _ _ _ _=>rfl
 have D28:=oW (P:=P) (w:=w) (mg:=mg) (base:=base) (n:=2) (m:=2) (g:=bo) (k:=0) F28 iR rfl rfl fun X hr L O Pl hS=>by
  exact jN (X:=at5 X P w K mg base) hr L O Pl hS ⟨⟨C_Way,q_Way,cl_Way,na_Way⟩⟩
 have F29:=mV (st:=cy) l29 e29 k29
 have B29:=jM (ps:=["self","sign","odd","rest"]) F29 rfl fun _ _ _ _ _ _ _ _ _ _=>rfl
 have D29:=oW (P:=P) (w:=w) (mg:=mg) (base:=base) (n:=4) (m:=4) (g:=et) (k:=1) F29 rJ rfl rfl fun X hr L O Pl hS=>by
  exact vg (X:=at5 X P w K mg base) hr L O Pl hS ⟨⟨C_Way,q_Way,cl_Way,na_Way⟩⟩ ⟨⟨C_Way,f28,1,_,_,q_Way,cl_Way,⟨a28,u28,k28⟩,D28,hr.mono ↥0,B28⟩⟩
 have F30:=mV (st:=bO) l30 e30 k30
 have B30:=b8 (ps:=["self","sign"]) F30 rfl fun _ _ _ _ _ _ _ _=>rfl
 have D30:=oW (P:=P) (w:=w) (mg:=mg) (base:=base) (n:=2) (m:=2) (g:=dA) (k:=1) F30 p8 rfl rfl fun X hr L O Pl hS=>by
  exact sZ (X:=at5 X P w K mg base) hr L O Pl hS ⟨⟨C_Way,q_Way,cl_Way,na_Way⟩⟩ ⟨⟨C_Way,f28,1,_,_,q_Way,cl_Way,⟨a28,u28,k28⟩,D28,hr.mono ↥0,B28⟩⟩
 have D31:FnP P w K mg base "settled" 4 d4:=q31.fn KX GG wY rfl rfl (LO · rfl fun _ _ _ _ _ _ _ _ _ _ _ _=>rfl) fun X hr L O Pl hS =>
  AV (X:=at5 X P w K mg base) hr L O Pl hS (D14.c hr) (D20.c hr) (D25.c hr) ⟨⟨C_Way,f30,2,_,_,q_Way,cl_Way,⟨a30,u30,k30⟩,D30,hr.mono ↥0,B30⟩⟩ (D26.c hr) g_INEXACT g_GREAT ⟨⟨C_Way,f29,2,_,_,q_Way,cl_Way,⟨a29,u29,k29⟩,D29,hr.mono ↥0,B29⟩⟩ (D27.c hr)
 have D32:FnP P w K mg base "rounded" 5 bG:=q32.fn KX GG wZ rfl rfl (AO · rfl fun _ _ _ _ _ _ _ _ _ _ _=>rfl) fun X hr L O Pl hS =>
  AW (X:=at5 X P w K mg base) hr L O Pl hS (D14.c hr) (D24.c hr) (D31.c hr)
 have D33:FnP P w K mg base "total" 1 gH:=q33.fn KX GG Ci rfl rfl (eE · rfl fun _ _ _ _ _ _ _=>rfl) fun X hr L O Pl hS =>
  Ik (X:=at5 X P w K mg base) hr L O Pl hS m_min m_abs
 have D34:FnP P w K mg base "nought_sign" 4 cL:=q34.fn KX GG om rfl rfl (b8 · rfl fun _ _ _ _ _ _ _ _=>rfl) fun X hr L O Pl hS =>
  qM (X:=at5 X P w K mg base) hr L O Pl hS (D14.c hr)
 have D35:FnP P w K mg base "settled_total" 6 aK:=q35.fn KX GG kZ rfl rfl (cV · rfl fun _ _ _ _ _ _ _ _ _=>rfl) fun X hr L O Pl hS =>
  ni (X:=at5 X P w K mg base) hr L O Pl hS (D16.c hr) (D33.c hr) (D34.c hr) (D26.c hr) (D32.c hr)
 have D36:FnP P w K mg base "no_number" 3 aM:=q36.fn KX GG rA rfl rfl (eE · rfl fun _ _ _ _ _ _ _=>rfl) fun X hr L O Pl hS =>
  u5 (X:=at5 X P w K mg base) hr L O Pl hS (D25.c hr)
 have D37:FnP P w K mg base "settled_terms" 7 aS:=q37.fn KX GG la rfl rfl (cV · rfl fun _ _ _ _ _ _ _ _ _=>rfl) fun X hr L O Pl hS =>
  nj (X:=at5 X P w K mg base) hr L O Pl hS (D36.c hr) g_WRONG m_len (D26.c hr) (D25.c hr) (D35.c hr)
 have D38:FnP P w K mg base "worth" 3 bA:=q38.fn KX GG Cf rfl rfl (b8 · rfl fun _ _ _ _ _ _ _ _=>rfl) fun X hr L O Pl hS =>
  Ii (X:=at5 X P w K mg base) hr L O Pl hS (D8.c hr) (D10.c hr) q_NotFinite xi_NotFinite (D20.c hr)
 have D39:FnP P w K mg base "number_term" 4 aG:=q39.fn KX GG oj rfl rfl (b8 · rfl fun _ _ _ _ _ _ _ _=>rfl) fun X hr L O Pl hS =>
  qL (X:=at5 X P w K mg base) hr L O Pl hS (D11.c hr) (D8.c hr) (D38.c hr)
 have D40:FnP P w K mg base "product_term" 5 ay:=q40.fn KX GG l8 rfl rfl (cV · rfl fun _ _ _ _ _ _ _ _ _=>rfl) fun X hr L O Pl hS =>
  oF (X:=at5 X P w K mg base) hr L O Pl hS (D39.c hr)
 have D41:FnP P w K mg base "product_wrong" 4 bc:=q41.fn KX GG lh rfl rfl (cV · rfl fun _ _ _ _ _ _ _ _ _=>rfl) fun X hr L O Pl hS =>
  nz (X:=at5 X P w K mg base) hr L O Pl hS (D11.c hr)
 have D42:FnP P w K mg base "settled_sum" 8 aj:=q42.fn KX GG oi rfl rfl (jM · rfl fun _ _ _ _ _ _ _ _ _ _=>rfl) fun X hr L O Pl hS =>
  qK (X:=at5 X P w K mg base) hr L O Pl hS (D14.c hr) m_list (D15.c hr) (D36.c hr) (D41.c hr) m_any g_WRONG (D40.c hr) (D37.c hr) (D39.c hr)
 have D43:FnP P w K mg base "added" 9 d8:=q43.fn KX GG Ck rfl rfl (jM · rfl fun _ _ _ _ _ _ _ _ _ _=>rfl) fun X hr L O Pl hS =>
  Im (X:=at5 X P w K mg base) hr L O Pl hS (D42.c hr)
 have D44:FnP P w K mg base "minus" 1 dB:=q44.fn KX GG Cj rfl rfl (eE · rfl fun _ _ _ _ _ _ _=>rfl) fun X hr L O Pl hS =>
  Il (X:=at5 X P w K mg base) hr L O Pl hS
 have D45:FnP P w K mg base "left_of" 6 bH:=q45.fn KX GG xb rfl rfl (b8 · rfl fun _ _ _ _ _ _ _ _=>rfl) fun X hr L O Pl hS =>
  AY (X:=at5 X P w K mg base) hr L O Pl hS (D16.c hr) (D33.c hr) (D32.c hr) q_NoLeft xi_NoLeft
 have D46:FnP P w K mg base "sum_left" 10 bI:=q46.fn KX GG ua rfl rfl (cV · rfl fun _ _ _ _ _ _ _ _ _=>rfl) fun X hr L O Pl hS =>
  xU (X:=at5 X P w K mg base) hr L O Pl hS (D12.c hr) (D13.c hr) (D43.c hr) (D38.c hr) (D44.c hr) (D45.c hr)
 have D47:FnP P w K mg base "kept_turn" 11 bE:=q47.fn KX GG rG rfl rfl (b8 · rfl fun _ _ _ _ _ _ _ _=>rfl) fun X hr L O Pl hS =>
  ve (X:=at5 X P w K mg base) hr L O Pl hS m_len q_Empty xi_Empty (D12.c hr) (D46.c hr)
 have D48:FnP P w K mg base "gathered" 9 cD:=q48.fn KX GG uf rfl rfl (jM · rfl fun _ _ _ _ _ _ _ _ _ _=>rfl) fun X hr L O Pl hS =>
  xZ (X:=at5 X P w K mg base) hr L O Pl hS (D14.c hr) m_len q_Unlike xi_Unlike (D42.c hr) m_list m_zip
 have D49:FnP P w K mg base "summed" 9 fS:=q49.fn KX GG yN rfl rfl (cV · rfl fun _ _ _ _ _ _ _ _ _=>rfl) fun X hr L O Pl hS =>
  DM (X:=at5 X P w K mg base) hr L O Pl hS (D42.c hr)
 have D50:FnP P w K mg base "in_turn" 10 cO:=q50.fn KX GG xf rfl rfl (cV · rfl fun _ _ _ _ _ _ _ _ _=>rfl) fun X hr L O Pl hS =>
  A4 (X:=at5 X P w K mg base) hr L O Pl hS (D14.c hr) (D9.c hr) m_len (D43.c hr)
 have F51:=mV (st:=bp) l51 e51 k51
 have B51:=cV (ps:=["size","way","xs"]) F51 rfl fun _ _ _ _ _ _ _ _ _=>rfl
 have D51:∀ j,FnP P w K mg base "halves_added" (j+10) (az j):=fun j=>by
  induction j with
  | zero=>exact Au Lv k51 (PySem.W.mg_of KX GG a51) B51
  | succ j ih =>
  refine Au (up1 (oW (k:=j+10) F51 ma rfl rfl fun X hr L O Pl hS => ?_)) k51 (PySem.W.mg_of KX GG a51) B51
  exact oH (X:=at5 X P w K mg base) hr L O Pl hS m_len (ih.callee hr ↥28) (D43.callee hr ⋯)
 have D52:FnP P w K mg base "in_halves" 31 bf:=q52.fn KX GG rH rfl rfl (cV · rfl fun _ _ _ _ _ _ _ _ _=>rfl) fun X hr L O Pl hS =>
  vf (X:=at5 X P w K mg base) hr L O Pl hS (D14.c hr) m_len q_Empty xi_Empty (D9.c hr) ((D51 20).callee hr ↥0)
 have D53:FnP P w K mg base "multiplied" 9 dq:=q53.fn KX GG pY rfl rfl (jM · rfl fun _ _ _ _ _ _ _ _ _ _=>rfl) fun X hr L O Pl hS =>
  sU (X:=at5 X P w K mg base) hr L O Pl hS (D42.c hr)
 have D54:FnP P w K mg base "product_left" 10 aR:=q54.fn KX GG l9 rfl rfl (jM · rfl fun _ _ _ _ _ _ _ _ _ _=>rfl) fun X hr L O Pl hS =>
  oG (X:=at5 X P w K mg base) hr L O Pl hS (D14.c hr) (D12.c hr) (D13.c hr) (D53.c hr) (D40.c hr) (D44.c hr) (D38.c hr) (D45.c hr)
 have D55:FnP P w K mg base "quotient" 6 fj:=q55.fn KX GG ud rfl rfl (jM · rfl fun _ _ _ _ _ _ _ _ _ _=>rfl) fun X hr L O Pl hS =>
  xX (X:=at5 X P w K mg base) hr L O Pl hS (D32.c hr)
 have D56:FnP P w K mg base "fraction" 4 bT:=q56.fn KX GG ug rfl rfl (b8 · rfl fun _ _ _ _ _ _ _ _=>rfl) fun X hr L O Pl hS =>
  ya (X:=at5 X P w K mg base) hr L O Pl hS (D16.c hr) (D38.c hr)
 have D57:FnP P w K mg base "divided" 7 gJ:=q57.fn KX GG xh rfl rfl (jM · rfl fun _ _ _ _ _ _ _ _ _ _=>rfl) fun X hr L O Pl hS =>
  A6 (X:=at5 X P w K mg base) hr L O Pl hS (D14.c hr) (D15.c hr) (D36.c hr) (D11.c hr) g_WRONG (D8.c hr) (D26.c hr) (D25.c hr) g_POLE (D55.c hr) (D56.c hr)
 have D58:FnP P w K mg base "quotient_left" 8 aL:=q58.fn KX GG lg rfl rfl (jM · rfl fun _ _ _ _ _ _ _ _ _ _=>rfl) fun X hr L O Pl hS =>
  nq (X:=at5 X P w K mg base) hr L O Pl hS (D14.c hr) (D12.c hr) (D13.c hr) (D57.c hr) (D38.c hr) (D44.c hr) (D40.c hr) (D45.c hr)
 have D59:FnP P w K mg base "whole_root" 1 dn:=q59.fn KX GG pX rfl rfl (eE · rfl fun _ _ _ _ _ _ _=>rfl) fun X hr L O Pl hS =>
  sT (X:=at5 X P w K mg base) hr L O Pl hS q_NoFraction xi_NoFraction
 have D60:FnP P w K mg base "root_rest" 2 d5:=q60.fn KX GG rq rfl rfl (cV · rfl fun _ _ _ _ _ _ _ _ _=>rfl) fun X hr L O Pl hS =>
  u3 (X:=at5 X P w K mg base) hr L O Pl hS (D21.c hr)
 have D61:FnP P w K mg base "root_cut" 3 fi:=q61.fn KX GG uc rfl rfl (cV · rfl fun _ _ _ _ _ _ _ _ _=>rfl) fun X hr L O Pl hS =>
  xW (X:=at5 X P w K mg base) hr L O Pl hS (D17.c hr) (D20.c hr) (D23.c hr) m_max (D18.c hr) (D59.c hr) (D60.c hr)
 have D62:FnP P w K mg base "rooted" 5 dj:=q62.fn KX GG yQ rfl rfl (cV · rfl fun _ _ _ _ _ _ _ _ _=>rfl) fun X hr L O Pl hS =>
  DP (X:=at5 X P w K mg base) hr L O Pl hS (D14.c hr) (D15.c hr) (D36.c hr) (D11.c hr) (D25.c hr) (D8.c hr) g_WRONG (D56.c hr) (D61.c hr) (D31.c hr)
 have D63:FnP P w K mg base "root_left" 7 bC:=q63.fn KX GG rz rfl rfl (cV · rfl fun _ _ _ _ _ _ _ _ _=>rfl) fun X hr L O Pl hS =>
  u4 (X:=at5 X P w K mg base) hr L O Pl hS (D14.c hr) (D12.c hr) (D13.c hr) (D62.c hr) (D38.c hr) (D44.c hr) (D40.c hr) (D45.c hr)
 have D64:FnP P w K mg base "_law_asked" 32 ar:=q64.fn KX GG rE rfl rfl (AO · rfl fun _ _ _ _ _ _ _ _ _ _ _=>rfl) fun X hr L O Pl hS =>
  u9 (X:=at5 X P w K mg base) hr L O Pl hS (D48.c hr) (D49.c hr) (D50.c hr) (D52.c hr) (D46.c hr) (D54.c hr) (D58.c hr) (D63.c hr) (D47.c hr)
 have D65:FnP P w K mg base "_law_alone" 1 d7:=q65.fn KX GG rF rfl rfl (eE · rfl fun _ _ _ _ _ _ _=>rfl) fun X hr L O Pl hS =>
  va (X:=at5 X P w K mg base) hr L O Pl hS q_NoSize (bq q_NoSize (bV hXF) i0_NoSize hisi_NoSize) (sF (yv hXF)) m_isinstance q_NoBits (bq q_NoBits (bV hXF) i0_NoBits hisi_NoBits) q_NoParts (bq q_NoParts (bV hXF) i0_NoParts hisi_NoParts) q_NoRank (bq q_NoRank (bV hXF) i0_NoRank hisi_NoRank) q_NotFinite (bq q_NotFinite (bV hXF) i0_NotFinite hisi_NotFinite) q_NoWay (bq q_NoWay (bV hXF) i0_NoWay hisi_NoWay) q_NoFlags (bq q_NoFlags (bV hXF) i0_NoFlags hisi_NoFlags) q_NoFraction (bq q_NoFraction (bV hXF) i0_NoFraction hisi_NoFraction) q_Unlike (bq q_Unlike (bV hXF) i0_Unlike hisi_Unlike) q_Empty (bq q_Empty (bV hXF) i0_Empty hisi_Empty) q_NoLeft (bq q_NoLeft (bV hXF) i0_NoLeft hisi_NoLeft) q_NoText (bq q_NoText (bV hXF) i0_NoText hisi_NoText) q_NoRow (bq q_NoRow (bV hXF) i0_NoRow hisi_NoRow) q_NoName (bq q_NoName (bV hXF) i0_NoName hisi_NoName) q_Stopped (bq q_Stopped (bV hXF) i0_Stopped hisi_Stopped) m_ValueError (Li (fun _ _ _ _=>trivial) (bV hXF) i_VE_NoneType i_VE_bool i_VE_int i_VE_str i_VE_tuple i_VE_list hisi_ValueError) m_int m_sum
 have D66:FnP P w K mg base "_law_word" 2 bJ:=q66.fn KX GG ue rfl rfl (eE · rfl fun _ _ _ _ _ _ _=>rfl) fun X hr L O Pl hS =>
  xY (X:=at5 X P w K mg base) hr L O Pl hS (D65.c hr) q_NoWay (bq q_NoWay (bV hXF) i0_NoWay hisi_NoWay) (sF (yv hXF)) m_isinstance q_Unlike (bq q_Unlike (bV hXF) i0_Unlike hisi_Unlike) q_Empty (bq q_Empty (bV hXF) i0_Empty hisi_Empty) q_NoBits (bq q_NoBits (bV hXF) i0_NoBits hisi_NoBits) q_NotFinite (bq q_NotFinite (bV hXF) i0_NotFinite hisi_NotFinite) q_NoLeft (bq q_NoLeft (bV hXF) i0_NoLeft hisi_NoLeft)
 have D67:FnP P w K mg base "_law_holds" 33 d6:=q67.fn KX GG rB rfl rfl (b8 · rfl fun _ _ _ _ _ _ _ _=>rfl) fun X hr L O Pl hS =>
  u7 (X:=at5 X P w K mg base) hr L O Pl hS (D4.c hr) (D64.c hr) (by rw [hS];decide +kernel) q_MillError (xS cb_MillError hct_MillError) (D5.c hr) (D66.c hr)
 have F68:=mV (st:=ow) l68 e68 k68
 ·refine oW (k:=33) F68 JS rfl rfl fun X hr L O Pl hS => ?_
  exact N2 (X:=at5 X P w K mg base) hr L O Pl hS (D1.c hr) (D2.c hr) m_len m_range (D67.c hr)
end T
namespace H
open PySem PySem.W PySem.Spec PyProof.Rows L2 EV ES
noncomputable section
abbrev vS (x:Str) (n:Nat):Value:=.str x n
abbrev vI (x:Int) (n:Nat):Value:=.int x n
abbrev r (n:Addr):Value:=.ref n
abbrev z (x:Int):Value:=.int x 0
abbrev c (n:Nat):Value:=.str "/claim/cut.py" n
abbrev en (P:Params) (x:Str) (n:Nat) (v:Value):DictEntry:=⟨PyData.keyHash P x,.str x n,v⟩
abbrev sqO (c:Value) (a:Array Value):Obj:=⟨c,none,.seq a 0,#[]⟩
abbrev fiO (c:Value) (a:Array Value):Obj:=⟨c,none,.fields a,#[]⟩
abbrev diO (c:Value) (a:Array DictEntry) (n:Nat):Obj:=⟨c,none,.dict a n,#[]⟩
abbrev fnO (c:Value) (x q:Str) (s:Stmt) (g:Addr) (cl:List (Str×Addr)) (d k dc m:Value) (an:Option Addr) (cd ct:Value) (b:Addr):Obj:=⟨c,none,.func ⟨x,q,eA s,.stmts (ah s),aa s,g,cl,d,k,dc,m,an,cd,ct,b⟩,#[]⟩
abbrev cd (x:Str) (a b d:Nat) (l k:Int) (p:Addr) (w:Int) (q s t u:Addr) (m:Int) (e:Nat):Obj:=fiO ↥36 #[vS x a,vS x b,c d,z l,z k,z 0,z 0,z 3,r p,.bool true,z w,r q,.none,r s,r t,r u,z m,z l,c e]
abbrev fu (x:Str) (n:Nat) (g:Addr) (m:Str) (b:Nat) (d:Addr):Obj:=fnO (.type "function") x x (T.top n) g [] .none .none .none (vS m b) none (r d) .none 0
abbrev fv (x:Str) (n:Nat):Obj:=fnO .none x x (T.top n) 0 [] .none .none .none .none none .none .none 0
abbrev N:BT:=.nil
abbrev L (o:Obj):BT:=.node o .nil .nil
abbrev B (o:Obj) (l r:BT):BT:=.node o l r
def cut (n:Nat) (t:BT):Nat->Nat->BT := @BT.rec (fun _=>Nat->Nat->BT) (fun _ _=>.nil) (fun v _ _ l r a b => @Bool.rec (fun _=>BT) .nil (.node v (l (Nat.mul 2 a) (Nat.add a b)) (r (Nat.mul 2 a) (Nat.add (Nat.mul 2 a) b))) (Nat.blt b n)) t
def o0:Obj:=sqO ↥6 #[]
def o1:Obj:=fiO .none #[]
def o2:Obj:=fiO ↥36 #[(vS "<module>" 182),(vS "<module>" 183),(c 184),(z 1),(z 0),(z 0),(z 0),(z 0),(r 11),(.bool false),(z 181),(r 12),.none,.none,.none,.none,(z 185),(z 1),(c 186)]
def o3:Obj:=(Obj.mk (.type "frame") none Data.plain #[(some (r 13)),(some (r 3)),(some (r 3)),none,(some (vS "__main__" 164)),none,(some (r 0))])
def o4 (P:Params):Obj:=diO ↥24 #[(en P "__name__" 165 ↥3),(en P "__doc__" 166 .none),(en P "__package__" 167 .none),(en P "__loader__" 168 (.builtin "__main__.__loader__#opaque")),(en P "__spec__" 169 .none),(en P "__annotations__" 170 (r 6)),(en P "__builtins__" 171 (r 4)),(en P "__file__" 173 (c 172)),(en P "__cached__" 174 .none),(en P "MillError" 206 (r 24)),(en P "NoSize" 222 (r 37)),(en P "NoBits" 238 (r 49)),(en P "NoParts" 254 (r 61)),(en P "NoRank" 270 (r 73)),(en P "NotFinite" 286 (r 85))] 15
def o5:Obj:=fiO .none #[(z 2),(z 0),(r 20),(z 4),(z 0),(r 33),(z 6),(z 0),(r 45),(z 8),(z 0),(r 57),(z 10),(z 0),(r 69),(z 12),(z 0),(r 81)]
def o6:Obj:=sqO ↥6 #[↥13]
def o7:Obj:=fiO ↥14 #[(.builtin "type.__prepare__"),(.type "type")]
def o8 (P:Params):Obj:=diO ↥24 #[(en P "__module__" 196 ↥3),(en P "__qualname__" 198 (vS "MillError" 197)),(en P "__firstlineno__" 200 (vI 2 199)),(en P "__static_attributes__" 201 (r 22))] 4
def o9:Obj:=fiO ↥36 #[(vS "MillError" 191),(vS "MillError" 192),(c 193),(z 2),(z 0),(z 0),(z 0),(z 0),(r 18),(.bool false),(z 181),(r 19),.none,.none,.none,.none,(z 194),(z 2),(c 195)]
def o10:Obj:=(Obj.mk (.type "frame") none Data.plain #[(some (r 20)),(some (r 3)),(some (r 17)),none,(some ↥3),none,(some (r 0))])
def o11 (P:Params):Obj:=diO ↥24 #[(en P "__module__" 196 ↥3),(en P "__firstlineno__" 200 (vI 2 199)),(en P "__static_attributes__" 201 (r 22)),(en P "__weakref__" 203 (r 25)),(en P "__doc__" 204 .none)] 3
def o12:Obj:=(Obj.mk (.type "type") none (Data.cls (ClassData.mk "MillError" [↥13] [(r 24),↥13,(.type "Exception"),↥20,↥35] 23 "MillError" true [] [(r 37),(r 49),(r 61),(r 73),(r 85)] false none false)) #[(some (r 15)),none,(some (vS "MillError" 189)),(some (vS "MillError" 197)),↥12,(some (.bool true))])
def o13:Obj:=fiO (.type "getset_descriptor") #[(vS "__weakref__" 202),(r 24),(.builtin "ExceptionGroup.__weakref__"),.none]
def o14:Obj:=fiO (.type "super") #[(r 24),(r 24),(r 24)]
def o15:Obj:=fiO ↥14 #[↥15,(r 24)]
def o16:Obj:=sqO ↥6 #[(r 24)]
def o17 (P:Params):Obj:=diO ↥24 #[(en P "__module__" 214 ↥3),(en P "__qualname__" 216 (vS "NoSize" 215)),(en P "__firstlineno__" 218 (vI 4 217)),(en P "__static_attributes__" 219 (r 35))] 4
def o18:Obj:=fiO ↥36 #[(vS "NoSize" 209),(vS "NoSize" 210),(c 211),(z 4),(z 0),(z 0),(z 0),(z 0),(r 31),(.bool false),(z 181),(r 32),.none,.none,.none,.none,(z 212),(z 4),(c 213)]
def o19:Obj:=(Obj.mk (.type "frame") none Data.plain #[(some (r 33)),(some (r 3)),(some (r 30)),none,(some ↥3),none,(some (r 0))])
def o20 (P:Params):Obj:=diO ↥24 #[(en P "__module__" 214 ↥3),(en P "__firstlineno__" 218 (vI 4 217)),(en P "__static_attributes__" 219 (r 35)),(en P "__doc__" 220 .none)] 2
def o21:Obj:=(Obj.mk (.type "type") none (Data.cls (ClassData.mk "NoSize" [(r 24)] [(r 37),(r 24),↥13,(.type "Exception"),↥20,↥35] 36 "NoSize" true [] [] false none false)) #[(some (r 28)),none,(some (vS "NoSize" 207)),(some (vS "NoSize" 215)),↥12,(some (.bool true))])
def o22:Obj:=fiO (.type "super") #[(r 37),(r 37),(r 37)]
def o23:Obj:=fiO ↥14 #[↥15,(r 37)]
def o24 (P:Params):Obj:=diO ↥24 #[(en P "__module__" 230 ↥3),(en P "__qualname__" 232 (vS "NoBits" 231)),(en P "__firstlineno__" 234 (vI 6 233)),(en P "__static_attributes__" 235 (r 47))] 4
def o25:Obj:=fiO ↥36 #[(vS "NoBits" 225),(vS "NoBits" 226),(c 227),(z 6),(z 0),(z 0),(z 0),(z 0),(r 43),(.bool false),(z 181),(r 44),.none,.none,.none,.none,(z 228),(z 6),(c 229)]
def o26:Obj:=(Obj.mk (.type "frame") none Data.plain #[(some (r 45)),(some (r 3)),(some (r 42)),none,(some ↥3),none,(some (r 0))])
def o27 (P:Params):Obj:=diO ↥24 #[(en P "__module__" 230 ↥3),(en P "__firstlineno__" 234 (vI 6 233)),(en P "__static_attributes__" 235 (r 47)),(en P "__doc__" 236 .none)] 2
def o28:Obj:=(Obj.mk (.type "type") none (Data.cls (ClassData.mk "NoBits" [(r 24)] [(r 49),(r 24),↥13,(.type "Exception"),↥20,↥35] 48 "NoBits" true [] [] false none false)) #[(some (r 40)),none,(some (vS "NoBits" 223)),(some (vS "NoBits" 231)),↥12,(some (.bool true))])
def o29:Obj:=fiO (.type "super") #[(r 49),(r 49),(r 49)]
def o30:Obj:=fiO ↥14 #[↥15,(r 49)]
def o31 (P:Params):Obj:=diO ↥24 #[(en P "__module__" 246 ↥3),(en P "__qualname__" 248 (vS "NoParts" 247)),(en P "__firstlineno__" 250 (vI 8 249)),(en P "__static_attributes__" 251 (r 59))] 4
def o32:Obj:=fiO ↥36 #[(vS "NoParts" 241),(vS "NoParts" 242),(c 243),(z 8),(z 0),(z 0),(z 0),(z 0),(r 55),(.bool false),(z 181),(r 56),.none,.none,.none,.none,(z 244),(z 8),(c 245)]
def o33:Obj:=(Obj.mk (.type "frame") none Data.plain #[(some (r 57)),(some (r 3)),(some (r 54)),none,(some ↥3),none,(some (r 0))])
def o34 (P:Params):Obj:=diO ↥24 #[(en P "__module__" 246 ↥3),(en P "__firstlineno__" 250 (vI 8 249)),(en P "__static_attributes__" 251 (r 59)),(en P "__doc__" 252 .none)] 2
def o35:Obj:=(Obj.mk (.type "type") none (Data.cls (ClassData.mk "NoParts" [(r 24)] [(r 61),(r 24),↥13,(.type "Exception"),↥20,↥35] 60 "NoParts" true [] [] false none false)) #[(some (r 52)),none,(some (vS "NoParts" 239)),(some (vS "NoParts" 247)),↥12,(some (.bool true))])
def o36:Obj:=fiO (.type "super") #[(r 61),(r 61),(r 61)]
def o37:Obj:=fiO ↥14 #[↥15,(r 61)]
def o38 (P:Params):Obj:=diO ↥24 #[(en P "__module__" 262 ↥3),(en P "__qualname__" 264 (vS "NoRank" 263)),(en P "__firstlineno__" 266 (vI 10 265)),(en P "__static_attributes__" 267 (r 71))] 4
def o39:Obj:=fiO ↥36 #[(vS "NoRank" 257),(vS "NoRank" 258),(c 259),(z 10),(z 0),(z 0),(z 0),(z 0),(r 67),(.bool false),(z 181),(r 68),.none,.none,.none,.none,(z 260),(z 10),(c 261)]
def o40:Obj:=(Obj.mk (.type "frame") none Data.plain #[(some (r 69)),(some (r 3)),(some (r 66)),none,(some ↥3),none,(some (r 0))])
def o41 (P:Params):Obj:=diO ↥24 #[(en P "__module__" 262 ↥3),(en P "__firstlineno__" 266 (vI 10 265)),(en P "__static_attributes__" 267 (r 71)),(en P "__doc__" 268 .none)] 2
def o42:Obj:=(Obj.mk (.type "type") none (Data.cls (ClassData.mk "NoRank" [(r 24)] [(r 73),(r 24),↥13,(.type "Exception"),↥20,↥35] 72 "NoRank" true [] [] false none false)) #[(some (r 64)),none,(some (vS "NoRank" 255)),(some (vS "NoRank" 263)),↥12,(some (.bool true))])
def o43:Obj:=fiO (.type "super") #[(r 73),(r 73),(r 73)]
def o44:Obj:=fiO ↥14 #[↥15,(r 73)]
def o45 (P:Params):Obj:=diO ↥24 #[(en P "__module__" 278 ↥3),(en P "__qualname__" 280 (vS "NotFinite" 279)),(en P "__firstlineno__" 282 (vI 12 281)),(en P "__static_attributes__" 283 (r 83))] 4
def o46:Obj:=fiO ↥36 #[(vS "NotFinite" 273),(vS "NotFinite" 274),(c 275),(z 12),(z 0),(z 0),(z 0),(z 0),(r 79),(.bool false),(z 181),(r 80),.none,.none,.none,.none,(z 276),(z 12),(c 277)]
def o47:Obj:=(Obj.mk (.type "frame") none Data.plain #[(some (r 81)),(some (r 3)),(some (r 78)),none,(some ↥3),none,(some (r 0))])
def o48 (P:Params):Obj:=diO ↥24 #[(en P "__module__" 278 ↥3),(en P "__firstlineno__" 282 (vI 12 281)),(en P "__static_attributes__" 283 (r 83)),(en P "__doc__" 284 .none)] 2
def o49:Obj:=(Obj.mk (.type "type") none (Data.cls (ClassData.mk "NotFinite" [(r 24)] [(r 85),(r 24),↥13,(.type "Exception"),↥20,↥35] 84 "NotFinite" true [] [] false none false)) #[(some (r 76)),none,(some (vS "NotFinite" 271)),(some (vS "NotFinite" 279)),↥12,(some (.bool true))])
def o50:Obj:=fiO (.type "super") #[(r 85),(r 85),(r 85)]
def o51:Obj:=fiO ↥14 #[↥15,(r 85)]
def o52 (P:Params):Obj:=diO ↥24 #[(en P "__name__" 165 ↥3),(en P "__doc__" 166 .none),(en P "__package__" 167 .none),(en P "__loader__" 168 (.builtin "__main__.__loader__#opaque")),(en P "__spec__" 169 .none),(en P "__annotations__" 170 (r 6)),(en P "__builtins__" 171 (r 4)),(en P "__file__" 173 (c 172)),(en P "__cached__" 174 .none),(en P "MillError" 206 (r 24)),(en P "NoSize" 222 (r 37)),(en P "NoBits" 238 (r 49)),(en P "NoParts" 254 (r 61)),(en P "NoRank" 270 (r 73)),(en P "NotFinite" 286 (r 85)),(en P "NoWay" 302 (r 97)),(en P "NoFlags" 318 (r 109)),(en P "NoFraction" 334 (r 121)),(en P "Unlike" 350 (r 133)),(en P "Empty" 366 (r 145)),(en P "NoLeft" 382 (r 157))] 21
def o53:Obj:=fiO .none #[(z 2),(z 0),(r 20),(z 4),(z 0),(r 33),(z 6),(z 0),(r 45),(z 8),(z 0),(r 57),(z 10),(z 0),(r 69),(z 12),(z 0),(r 81),(z 14),(z 0),(r 93),(z 16),(z 0),(r 105),(z 18),(z 0),(r 117),(z 20),(z 0),(r 129),(z 22),(z 0),(r 141),(z 24),(z 0),(r 153)]
def o54:Obj:=(Obj.mk (.type "type") none (Data.cls (ClassData.mk "MillError" [↥13] [(r 24),↥13,(.type "Exception"),↥20,↥35] 23 "MillError" true [] [(r 37),(r 49),(r 61),(r 73),(r 85),(r 97),(r 109),(r 121),(r 133),(r 145),(r 157)] false none false)) #[(some (r 15)),none,(some (vS "MillError" 189)),(some (vS "MillError" 197)),↥12,(some (.bool true))])
def o55 (P:Params):Obj:=diO ↥24 #[(en P "__module__" 294 ↥3),(en P "__qualname__" 296 (vS "NoWay" 295)),(en P "__firstlineno__" 298 (vI 14 297)),(en P "__static_attributes__" 299 (r 95))] 4
def o56:Obj:=fiO ↥36 #[(vS "NoWay" 289),(vS "NoWay" 290),(c 291),(z 14),(z 0),(z 0),(z 0),(z 0),(r 91),(.bool false),(z 181),(r 92),.none,.none,.none,.none,(z 292),(z 14),(c 293)]
def o57:Obj:=(Obj.mk (.type "frame") none Data.plain #[(some (r 93)),(some (r 3)),(some (r 90)),none,(some ↥3),none,(some (r 0))])
def o58 (P:Params):Obj:=diO ↥24 #[(en P "__module__" 294 ↥3),(en P "__firstlineno__" 298 (vI 14 297)),(en P "__static_attributes__" 299 (r 95)),(en P "__doc__" 300 .none)] 2
def o59:Obj:=(Obj.mk (.type "type") none (Data.cls (ClassData.mk "NoWay" [(r 24)] [(r 97),(r 24),↥13,(.type "Exception"),↥20,↥35] 96 "NoWay" true [] [] false none false)) #[(some (r 88)),none,(some (vS "NoWay" 287)),(some (vS "NoWay" 295)),↥12,(some (.bool true))])
def o60:Obj:=fiO (.type "super") #[(r 97),(r 97),(r 97)]
def o61:Obj:=fiO ↥14 #[↥15,(r 97)]
def o62 (P:Params):Obj:=diO ↥24 #[(en P "__module__" 310 ↥3),(en P "__qualname__" 312 (vS "NoFlags" 311)),(en P "__firstlineno__" 314 (vI 16 313)),(en P "__static_attributes__" 315 (r 107))] 4
def o63:Obj:=fiO ↥36 #[(vS "NoFlags" 305),(vS "NoFlags" 306),(c 307),(z 16),(z 0),(z 0),(z 0),(z 0),(r 103),(.bool false),(z 181),(r 104),.none,.none,.none,.none,(z 308),(z 16),(c 309)]
def o64:Obj:=(Obj.mk (.type "frame") none Data.plain #[(some (r 105)),(some (r 3)),(some (r 102)),none,(some ↥3),none,(some (r 0))])
def o65 (P:Params):Obj:=diO ↥24 #[(en P "__module__" 310 ↥3),(en P "__firstlineno__" 314 (vI 16 313)),(en P "__static_attributes__" 315 (r 107)),(en P "__doc__" 316 .none)] 2
def o66:Obj:=(Obj.mk (.type "type") none (Data.cls (ClassData.mk "NoFlags" [(r 24)] [(r 109),(r 24),↥13,(.type "Exception"),↥20,↥35] 108 "NoFlags" true [] [] false none false)) #[(some (r 100)),none,(some (vS "NoFlags" 303)),(some (vS "NoFlags" 311)),↥12,(some (.bool true))])
def o67:Obj:=fiO (.type "super") #[(r 109),(r 109),(r 109)]
def o68:Obj:=fiO ↥14 #[↥15,(r 109)]
def o69 (P:Params):Obj:=diO ↥24 #[(en P "__module__" 326 ↥3),(en P "__qualname__" 328 (vS "NoFraction" 327)),(en P "__firstlineno__" 330 (vI 18 329)),(en P "__static_attributes__" 331 (r 119))] 4
def o70:Obj:=fiO ↥36 #[(vS "NoFraction" 321),(vS "NoFraction" 322),(c 323),(z 18),(z 0),(z 0),(z 0),(z 0),(r 115),(.bool false),(z 181),(r 116),.none,.none,.none,.none,(z 324),(z 18),(c 325)]
def o71:Obj:=(Obj.mk (.type "frame") none Data.plain #[(some (r 117)),(some (r 3)),(some (r 114)),none,(some ↥3),none,(some (r 0))])
def o72 (P:Params):Obj:=diO ↥24 #[(en P "__module__" 326 ↥3),(en P "__firstlineno__" 330 (vI 18 329)),(en P "__static_attributes__" 331 (r 119)),(en P "__doc__" 332 .none)] 2
def o73:Obj:=(Obj.mk (.type "type") none (Data.cls (ClassData.mk "NoFraction" [(r 24)] [(r 121),(r 24),↥13,(.type "Exception"),↥20,↥35] 120 "NoFraction" true [] [] false none false)) #[(some (r 112)),none,(some (vS "NoFraction" 319)),(some (vS "NoFraction" 327)),↥12,(some (.bool true))])
def o74:Obj:=fiO (.type "super") #[(r 121),(r 121),(r 121)]
def o75:Obj:=fiO ↥14 #[↥15,(r 121)]
def o76 (P:Params):Obj:=diO ↥24 #[(en P "__module__" 342 ↥3),(en P "__qualname__" 344 (vS "Unlike" 343)),(en P "__firstlineno__" 346 (vI 20 345)),(en P "__static_attributes__" 347 (r 131))] 4
def o77:Obj:=fiO ↥36 #[(vS "Unlike" 337),(vS "Unlike" 338),(c 339),(z 20),(z 0),(z 0),(z 0),(z 0),(r 127),(.bool false),(z 181),(r 128),.none,.none,.none,.none,(z 340),(z 20),(c 341)]
def o78:Obj:=(Obj.mk (.type "frame") none Data.plain #[(some (r 129)),(some (r 3)),(some (r 126)),none,(some ↥3),none,(some (r 0))])
def o79 (P:Params):Obj:=diO ↥24 #[(en P "__module__" 342 ↥3),(en P "__firstlineno__" 346 (vI 20 345)),(en P "__static_attributes__" 347 (r 131)),(en P "__doc__" 348 .none)] 2
def o80:Obj:=(Obj.mk (.type "type") none (Data.cls (ClassData.mk "Unlike" [(r 24)] [(r 133),(r 24),↥13,(.type "Exception"),↥20,↥35] 132 "Unlike" true [] [] false none false)) #[(some (r 124)),none,(some (vS "Unlike" 335)),(some (vS "Unlike" 343)),↥12,(some (.bool true))])
def o81:Obj:=fiO (.type "super") #[(r 133),(r 133),(r 133)]
def o82:Obj:=fiO ↥14 #[↥15,(r 133)]
def o83 (P:Params):Obj:=diO ↥24 #[(en P "__module__" 358 ↥3),(en P "__qualname__" 360 (vS "Empty" 359)),(en P "__firstlineno__" 362 (vI 22 361)),(en P "__static_attributes__" 363 (r 143))] 4
def o84:Obj:=fiO ↥36 #[(vS "Empty" 353),(vS "Empty" 354),(c 355),(z 22),(z 0),(z 0),(z 0),(z 0),(r 139),(.bool false),(z 181),(r 140),.none,.none,.none,.none,(z 356),(z 22),(c 357)]
def o85:Obj:=(Obj.mk (.type "frame") none Data.plain #[(some (r 141)),(some (r 3)),(some (r 138)),none,(some ↥3),none,(some (r 0))])
def o86 (P:Params):Obj:=diO ↥24 #[(en P "__module__" 358 ↥3),(en P "__firstlineno__" 362 (vI 22 361)),(en P "__static_attributes__" 363 (r 143)),(en P "__doc__" 364 .none)] 2
def o87:Obj:=(Obj.mk (.type "type") none (Data.cls (ClassData.mk "Empty" [(r 24)] [(r 145),(r 24),↥13,(.type "Exception"),↥20,↥35] 144 "Empty" true [] [] false none false)) #[(some (r 136)),none,(some (vS "Empty" 351)),(some (vS "Empty" 359)),↥12,(some (.bool true))])
def o88:Obj:=fiO (.type "super") #[(r 145),(r 145),(r 145)]
def o89:Obj:=fiO ↥14 #[↥15,(r 145)]
def o90 (P:Params):Obj:=diO ↥24 #[(en P "__module__" 374 ↥3),(en P "__qualname__" 376 (vS "NoLeft" 375)),(en P "__firstlineno__" 378 (vI 24 377)),(en P "__static_attributes__" 379 (r 155))] 4
def o91:Obj:=fiO ↥36 #[(vS "NoLeft" 369),(vS "NoLeft" 370),(c 371),(z 24),(z 0),(z 0),(z 0),(z 0),(r 151),(.bool false),(z 181),(r 152),.none,.none,.none,.none,(z 372),(z 24),(c 373)]
def o92:Obj:=(Obj.mk (.type "frame") none Data.plain #[(some (r 153)),(some (r 3)),(some (r 150)),none,(some ↥3),none,(some (r 0))])
def o93 (P:Params):Obj:=diO ↥24 #[(en P "__module__" 374 ↥3),(en P "__firstlineno__" 378 (vI 24 377)),(en P "__static_attributes__" 379 (r 155)),(en P "__doc__" 380 .none)] 2
def o94:Obj:=(Obj.mk (.type "type") none (Data.cls (ClassData.mk "NoLeft" [(r 24)] [(r 157),(r 24),↥13,(.type "Exception"),↥20,↥35] 156 "NoLeft" true [] [] false none false)) #[(some (r 148)),none,(some (vS "NoLeft" 367)),(some (vS "NoLeft" 375)),↥12,(some (.bool true))])
def o95:Obj:=fiO (.type "super") #[(r 157),(r 157),(r 157)]
def o96:Obj:=fiO ↥14 #[↥15,(r 157)]
def o97 (P:Params):Obj:=diO ↥24 #[(en P "__name__" 165 (vS "roundmill.cutting" 509)),(en P "__doc__" 166 .none),(en P "__package__" 167 .none),(en P "__loader__" 168 (.builtin "__main__.__loader__#opaque")),(en P "__spec__" 169 .none),(en P "__annotations__" 170 (r 6)),(en P "__builtins__" 171 (r 4)),(en P "__file__" 173 (c 172)),(en P "__cached__" 174 .none),(en P "MillError" 206 (r 24)),(en P "NoSize" 222 (r 37)),(en P "NoBits" 238 (r 49)),(en P "NoParts" 254 (r 61)),(en P "NoRank" 270 (r 73)),(en P "NotFinite" 286 (r 85)),(en P "NoWay" 302 (r 97)),(en P "NoFlags" 318 (r 109)),(en P "NoFraction" 334 (r 121)),(en P "Unlike" 350 (r 133)),(en P "Empty" 366 (r 145)),(en P "NoLeft" 382 (r 157)),(en P "NoText" 398 (r 169)),(en P "NoRow" 414 (r 181)),(en P "NoName" 430 (r 193)),(en P "Stopped" 457 (r 212)),(en P "width" 466 (r 221)),(en P "bias" 473 (r 228)),(en P "low" 480 (r 235)),(en P "sign_bit" 487 (r 242)),(en P "last_field" 494 (r 249)),(en P "endless" 501 (r 256)),(en P "no_number" 508 (r 263)),(en P "check_fraction" 518 (r 270)),(en P "scaled" 527 (r 277)),(en P "height" 537 (r 284)),(en P "rest_by_middle" 546 (r 291)),(en P "rest_of" 554 (r 298)),(en P "cut" 565 (r 305))] 38
def o98:Obj:=fiO .none #[(z 2),(z 0),(r 20),(z 4),(z 0),(r 33),(z 6),(z 0),(r 45),(z 8),(z 0),(r 57),(z 10),(z 0),(r 69),(z 12),(z 0),(r 81),(z 14),(z 0),(r 93),(z 16),(z 0),(r 105),(z 18),(z 0),(r 117),(z 20),(z 0),(r 129),(z 22),(z 0),(r 141),(z 24),(z 0),(r 153),(z 26),(z 0),(r 165),(z 28),(z 0),(r 177),(z 30),(z 0),(r 189),(z 32),(z 0),(r 201),(z 39),(z 0),(r 220),(z 41),(z 0),(r 227),(z 43),(z 0),(r 234),(z 45),(z 0),(r 241),(z 47),(z 0),(r 248),(z 49),(z 0),(r 255),(z 51),(z 0),(r 262),(z 54),(z 0),(r 269),(z 57),(z 0),(r 276),(z 61),(z 0),(r 283),(z 65),(z 0),(r 290),(z 71),(z 0),(r 297),(z 73),(z 0),(r 304)]
def o99:Obj:=(Obj.mk (.type "type") none (Data.cls (ClassData.mk "MillError" [↥13] [(r 24),↥13,(.type "Exception"),↥20,↥35] 23 "MillError" true [] [(r 37),(r 49),(r 61),(r 73),(r 85),(r 97),(r 109),(r 121),(r 133),(r 145),(r 157),(r 169),(r 181),(r 193),(r 212)] false none false)) #[(some (r 15)),none,(some (vS "MillError" 189)),(some (vS "MillError" 197)),↥12,(some (.bool true))])
def Vn (P:Params):Obj:=diO ↥24 #[(en P "__module__" 390 ↥3),(en P "__qualname__" 392 (vS "NoText" 391)),(en P "__firstlineno__" 394 (vI 26 393)),(en P "__static_attributes__" 395 (r 167))] 4
def Vm:Obj:=fiO ↥36 #[(vS "NoText" 385),(vS "NoText" 386),(c 387),(z 26),(z 0),(z 0),(z 0),(z 0),(r 163),(.bool false),(z 181),(r 164),.none,.none,.none,.none,(z 388),(z 26),(c 389)]
def Vl:Obj:=(Obj.mk (.type "frame") none Data.plain #[(some (r 165)),(some (r 3)),(some (r 162)),none,(some ↥3),none,(some (r 0))])
def Sl (P:Params):Obj:=diO ↥24 #[(en P "__module__" 390 ↥3),(en P "__firstlineno__" 394 (vI 26 393)),(en P "__static_attributes__" 395 (r 167)),(en P "__doc__" 396 .none)] 2
def Sk:Obj:=(Obj.mk (.type "type") none (Data.cls (ClassData.mk "NoText" [(r 24)] [(r 169),(r 24),↥13,(.type "Exception"),↥20,↥35] 168 "NoText" true [] [] false none false)) #[(some (r 160)),none,(some (vS "NoText" 383)),(some (vS "NoText" 391)),↥12,(some (.bool true))])
def Vk:Obj:=fiO (.type "super") #[(r 169),(r 169),(r 169)]
def Vj:Obj:=fiO ↥14 #[↥15,(r 169)]
def Vi (P:Params):Obj:=diO ↥24 #[(en P "__module__" 406 ↥3),(en P "__qualname__" 408 (vS "NoRow" 407)),(en P "__firstlineno__" 410 (vI 28 409)),(en P "__static_attributes__" 411 (r 179))] 4
def Vh:Obj:=fiO ↥36 #[(vS "NoRow" 401),(vS "NoRow" 402),(c 403),(z 28),(z 0),(z 0),(z 0),(z 0),(r 175),(.bool false),(z 181),(r 176),.none,.none,.none,.none,(z 404),(z 28),(c 405)]
def Vg:Obj:=(Obj.mk (.type "frame") none Data.plain #[(some (r 177)),(some (r 3)),(some (r 174)),none,(some ↥3),none,(some (r 0))])
def Sj (P:Params):Obj:=diO ↥24 #[(en P "__module__" 406 ↥3),(en P "__firstlineno__" 410 (vI 28 409)),(en P "__static_attributes__" 411 (r 179)),(en P "__doc__" 412 .none)] 2
def Si:Obj:=(Obj.mk (.type "type") none (Data.cls (ClassData.mk "NoRow" [(r 24)] [(r 181),(r 24),↥13,(.type "Exception"),↥20,↥35] 180 "NoRow" true [] [] false none false)) #[(some (r 172)),none,(some (vS "NoRow" 399)),(some (vS "NoRow" 407)),↥12,(some (.bool true))])
def Vf:Obj:=fiO (.type "super") #[(r 181),(r 181),(r 181)]
def Ve:Obj:=fiO ↥14 #[↥15,(r 181)]
def Vd (P:Params):Obj:=diO ↥24 #[(en P "__module__" 422 ↥3),(en P "__qualname__" 424 (vS "NoName" 423)),(en P "__firstlineno__" 426 (vI 30 425)),(en P "__static_attributes__" 427 (r 191))] 4
def Vc:Obj:=fiO ↥36 #[(vS "NoName" 417),(vS "NoName" 418),(c 419),(z 30),(z 0),(z 0),(z 0),(z 0),(r 187),(.bool false),(z 181),(r 188),.none,.none,.none,.none,(z 420),(z 30),(c 421)]
def Vb:Obj:=(Obj.mk (.type "frame") none Data.plain #[(some (r 189)),(some (r 3)),(some (r 186)),none,(some ↥3),none,(some (r 0))])
def Sh (P:Params):Obj:=diO ↥24 #[(en P "__module__" 422 ↥3),(en P "__firstlineno__" 426 (vI 30 425)),(en P "__static_attributes__" 427 (r 191)),(en P "__doc__" 428 .none)] 2
def Sg:Obj:=(Obj.mk (.type "type") none (Data.cls (ClassData.mk "NoName" [(r 24)] [(r 193),(r 24),↥13,(.type "Exception"),↥20,↥35] 192 "NoName" true [] [] false none false)) #[(some (r 184)),none,(some (vS "NoName" 415)),(some (vS "NoName" 423)),↥12,(some (.bool true))])
def Va:Obj:=fiO (.type "super") #[(r 193),(r 193),(r 193)]
def U9:Obj:=fiO ↥14 #[↥15,(r 193)]
def U8 (P:Params):Obj:=diO ↥24 #[(en P "__module__" 438 ↥3),(en P "__qualname__" 440 (vS "Stopped" 439)),(en P "__firstlineno__" 442 (vI 32 441)),(en P "__init__" 451 (r 209)),(en P "__static_attributes__" 454 (r 210))] 5
def U7:Obj:=fiO .none #[(z 34),(z 4),(r 208)]
def U6:Obj:=fiO ↥36 #[(vS "Stopped" 433),(vS "Stopped" 434),(c 435),(z 32),(z 0),(z 0),(z 0),(z 0),(r 199),(.bool false),(z 181),(r 200),.none,.none,.none,.none,(z 436),(z 32),(c 437)]
def U5:Obj:=(Obj.mk (.type "frame") none Data.plain #[(some (r 201)),(some (r 3)),(some (r 198)),none,(some ↥3),none,(some (r 0))])
def Sf:Obj:=sqO ↥6 #[(vS "self" 446),(vS "at" 447),(vS "told" 448)]
def U4:Obj:=fnO .none "__init__" "Stopped.__init__" ((cU (T.top 16)).getD 0 ↥39) 0 [] .none .none .none .none none .none .none 0
def Se:Obj:=fiO ↥36 #[(vS "__init__" 443),(vS "Stopped.__init__" 444),(c 445),(z 34),(z 3),(z 0),(z 0),(z 3),(r 203),(.bool true),(z 181),(r 204),.none,(r 205),(r 206),(r 207),(z 449),(z 34),(c 450)]
def Sd:Obj:=fnO (.type "function") "__init__" "Stopped.__init__" ((cU (T.top 16)).getD 0 ↥39) 3 [] .none .none .none ↥3 none (r 208) .none 0
def Sb:Obj:=sqO ↥6 #[(vS "at" 452),(vS "told" 453)]
def Sa (P:Params):Obj:=diO ↥24 #[(en P "__module__" 438 ↥3),(en P "__firstlineno__" 442 (vI 32 441)),(en P "__init__" 451 (r 209)),(en P "__static_attributes__" 454 (r 210)),(en P "__doc__" 455 .none)] 2
def R9:Obj:=(Obj.mk (.type "type") none (Data.cls (ClassData.mk "Stopped" [(r 24)] [(r 212),(r 24),↥13,(.type "Exception"),↥20,↥35] 211 "Stopped" true [] [] false none false)) #[(some (r 196)),none,(some (vS "Stopped" 431)),(some (vS "Stopped" 439)),↥12,(some (.bool true))])
def U3:Obj:=fiO (.type "super") #[(r 212),(r 212),(r 212)]
def U2:Obj:=fiO ↥14 #[↥15,(r 212)]
def R8:Obj:=sqO ↥6 #[(vS "size" 463)]
def U1:Obj:=fv "width" 18
def R7:Obj:=cd "width" 460 461 462 39 1 215 181 216 217 218 219 464 465
def R6:Obj:=fu "width" 18 3 "roundmill.sizes" 458 220
def R5:Obj:=sqO ↥6 #[(vS "size" 470)]
def U0:Obj:=fv "bias" 19
def R1:Obj:=cd "bias" 467 468 469 41 1 222 181 223 224 225 226 471 472
def R0:Obj:=fu "bias" 19 3 "roundmill.sizes" 458 227
def RZ:Obj:=sqO ↥6 #[(vS "size" 477)]
def UZ:Obj:=fv "low" 20
def RY:Obj:=cd "low" 474 475 476 43 1 229 181 230 231 232 233 478 479
def RX:Obj:=fu "low" 20 3 "roundmill.sizes" 458 234
def RW:Obj:=sqO ↥6 #[(vS "size" 484)]
def UY:Obj:=fv "sign_bit" 21
def RV:Obj:=cd "sign_bit" 481 482 483 45 1 236 181 237 238 239 240 485 486
def RU:Obj:=fu "sign_bit" 21 3 "roundmill.sizes" 458 241
def RS:Obj:=sqO ↥6 #[(vS "size" 491)]
def UX:Obj:=fv "last_field" 22
def RR:Obj:=cd "last_field" 488 489 490 47 1 243 181 244 245 246 247 492 493
def RP:Obj:=fu "last_field" 22 3 "roundmill.sizes" 458 248
def RO:Obj:=sqO ↥6 #[(vS "size" 498)]
def UW:Obj:=fv "endless" 23
def RN:Obj:=cd "endless" 495 496 497 49 1 250 181 251 252 253 254 499 500
def RM:Obj:=fu "endless" 23 3 "roundmill.sizes" 458 255
def RL:Obj:=sqO ↥6 #[(vS "size" 505)]
def UU:Obj:=fv "no_number" 24
def RK:Obj:=cd "no_number" 502 503 504 51 1 257 181 258 259 260 261 506 507
def RJ:Obj:=fu "no_number" 24 3 "roundmill.sizes" 458 262
def RH:Obj:=sqO ↥6 #[(vS "top" 514),(vS "bottom" 515)]
def UT:Obj:=fv "check_fraction" 26
def RG:Obj:=cd "check_fraction" 511 512 513 54 2 264 181 265 266 267 268 516 517
def RE:Obj:=fu "check_fraction" 26 3 "roundmill.cutting" 509 269
def RD:Obj:=sqO ↥6 #[(vS "top" 522),(vS "bottom" 523),(vS "power" 524)]
def US:Obj:=fv "scaled" 27
def RC:Obj:=cd "scaled" 519 520 521 57 3 271 181 272 273 274 275 525 526
def RB:Obj:=fu "scaled" 27 3 "roundmill.cutting" 509 276
def Rz:Obj:=sqO ↥6 #[(vS "top" 531),(vS "bottom" 532),(vS "guess" 533),(vS "parts" 534)]
def UR:Obj:=fv "height" 28
def Ry:Obj:=cd "height" 528 529 530 61 2 278 181 279 280 281 282 535 536
def Rx:Obj:=fu "height" 28 3 "roundmill.cutting" 509 283
def Rw:Obj:=sqO ↥6 #[(vS "over" 541),(vS "number" 542),(vS "middle" 543)]
def UQ:Obj:=fv "rest_by_middle" 29
def Rv:Obj:=cd "rest_by_middle" 538 539 540 65 3 285 181 286 287 288 289 544 545
def Ru:Obj:=fu "rest_by_middle" 29 3 "roundmill.cutting" 509 290
def Rt:Obj:=sqO ↥6 #[(vS "over" 550),(vS "step" 551)]
def UP:Obj:=fv "rest_of" 30
def Rr:Obj:=cd "rest_of" 547 548 549 71 2 292 181 293 294 295 296 552 553
def Rq:Obj:=fu "rest_of" 30 3 "roundmill.cutting" 509 297
def Rp:Obj:=sqO ↥6 #[(vS "size" 558),(vS "top" 559),(vS "bottom" 560),(vS "power" 561),(vS "parts" 562)]
def UO:Obj:=fv "cut" 31
def Ro:Obj:=cd "cut" 555 556 557 73 3 299 181 300 301 302 303 563 564
def Rn:Obj:=fu "cut" 31 3 "roundmill.cutting" 509 304
def UN (P:Params):Obj:=diO ↥24 #[(en P "__name__" 165 (vS "roundmill.deeds" 859)),(en P "__doc__" 166 .none),(en P "__package__" 167 .none),(en P "__loader__" 168 (.builtin "__main__.__loader__#opaque")),(en P "__spec__" 169 .none),(en P "__annotations__" 170 (r 6)),(en P "__builtins__" 171 (r 4)),(en P "__file__" 173 (c 172)),(en P "__cached__" 174 .none),(en P "MillError" 206 (r 24)),(en P "NoSize" 222 (r 37)),(en P "NoBits" 238 (r 49)),(en P "NoParts" 254 (r 61)),(en P "NoRank" 270 (r 73)),(en P "NotFinite" 286 (r 85)),(en P "NoWay" 302 (r 97)),(en P "NoFlags" 318 (r 109)),(en P "NoFraction" 334 (r 121)),(en P "Unlike" 350 (r 133)),(en P "Empty" 366 (r 145)),(en P "NoLeft" 382 (r 157)),(en P "NoText" 398 (r 169)),(en P "NoRow" 414 (r 181)),(en P "NoName" 430 (r 193)),(en P "Stopped" 457 (r 212)),(en P "width" 466 (r 221)),(en P "bias" 473 (r 228)),(en P "low" 480 (r 235)),(en P "sign_bit" 487 (r 242)),(en P "last_field" 494 (r 249)),(en P "endless" 501 (r 256)),(en P "no_number" 508 (r 263)),(en P "check_fraction" 518 (r 270)),(en P "scaled" 527 (r 277)),(en P "height" 537 (r 284)),(en P "rest_by_middle" 546 (r 291)),(en P "rest_of" 554 (r 298)),(en P "cut" 565 (r 305)),(en P "whole_root" 573 (r 312)),(en P "root_rest" 583 (r 319)),(en P "root_cut" 596 (r 326)),(en P "INEXACT" 598 (vI 1 597)),(en P "SMALL" 600 (vI 2 599)),(en P "GREAT" 602 (vI 4 601)),(en P "POLE" 604 (vI 8 603)),(en P "WRONG" 606 (vI 16 605)),(en P "parted" 618 (r 333)),(en P "check_bits" 627 (r 340)),(en P "kind" 638 (r 347)),(en P "worth" 650 (r 354)),(en P "worth_fraction" 659 (r 361)),(en P "fraction" 667 (r 368)),(en P "signed" 676 (r 375)),(en P "NAMES" 684 (r 376)),(en P "Way" 739 (r 414)),(en P "way_of" 746 (r 425)),(en P "settled" 764 (r 432)),(en P "lost_flags" 774 (r 439)),(en P "rounded" 786 (r 446)),(en P "total" 794 (r 451)),(en P "nought_sign" 802 (r 458)),(en P "settled_total" 808 (r 463)),(en P "any_none" 816 (r 468)),(en P "number_term" 824 (r 475)),(en P "product_wrong" 834 (r 482)),(en P "product_term" 846 (r 489)),(en P "settled_terms" 852 (r 494)),(en P "settled_sum" 858 (r 499)),(en P "added" 870 (r 506)),(en P "multiplied" 880 (r 513)),(en P "divided" 893 (r 520)),(en P "quotient" 903 (r 527))] 72
def UM:Obj:=fiO .none #[(z 2),(z 0),(r 20),(z 4),(z 0),(r 33),(z 6),(z 0),(r 45),(z 8),(z 0),(r 57),(z 10),(z 0),(r 69),(z 12),(z 0),(r 81),(z 14),(z 0),(r 93),(z 16),(z 0),(r 105),(z 18),(z 0),(r 117),(z 20),(z 0),(r 129),(z 22),(z 0),(r 141),(z 24),(z 0),(r 153),(z 26),(z 0),(r 165),(z 28),(z 0),(r 177),(z 30),(z 0),(r 189),(z 32),(z 0),(r 201),(z 39),(z 0),(r 220),(z 41),(z 0),(r 227),(z 43),(z 0),(r 234),(z 45),(z 0),(r 241),(z 47),(z 0),(r 248),(z 49),(z 0),(r 255),(z 51),(z 0),(r 262),(z 54),(z 0),(r 269),(z 57),(z 0),(r 276),(z 61),(z 0),(r 283),(z 65),(z 0),(r 290),(z 71),(z 0),(r 297),(z 73),(z 0),(r 304),(z 80),(z 0),(r 311),(z 87),(z 0),(r 318),(z 90),(z 0),(r 325),(z 105),(z 0),(r 332),(z 111),(z 0),(r 339),(z 114),(z 0),(r 346),(z 123),(z 0),(r 353),(z 133),(z 0),(r 360),(z 139),(z 0),(r 367),(z 141),(z 0),(r 374),(z 145),(z 0),(r 382),(z 168),(z 0),(r 424),(z 173),(z 0),(r 431),(z 184),(z 0),(r 438),(z 189),(z 0),(r 445),(z 194),(z 0),(r 450),(z 201),(z 0),(r 457),(z 206),(z 0),(r 462),(z 213),(z 0),(r 467),(z 216),(z 0),(r 474),(z 220),(z 0),(r 481),(z 223),(z 0),(r 488),(z 230),(z 0),(r 493),(z 237),(z 0),(r 498),(z 249),(z 0),(r 505),(z 251),(z 0),(r 512),(z 253),(z 0),(r 519),(z 269),(z 0),(r 526)]
def Rm:Obj:=sqO ↥6 #[(vS "number" 569),(vS "root" 570)]
def UL:Obj:=fv "whole_root" 32
def Rl:Obj:=cd "whole_root" 566 567 568 80 1 306 181 307 308 309 310 571 572
def Rk:Obj:=fu "whole_root" 32 3 "roundmill.cutting" 509 311
def Rj:Obj:=sqO ↥6 #[(vS "top" 577),(vS "bottom" 578),(vS "root" 579),(vS "middle" 580)]
def UK:Obj:=fv "root_rest" 33
def Ri:Obj:=cd "root_rest" 574 575 576 87 3 313 181 314 315 316 317 581 582
def Rh:Obj:=fu "root_rest" 33 3 "roundmill.cutting" 509 318
def Rg:Obj:=sqO ↥6 #[(vS "size" 587),(vS "top" 588),(vS "bottom" 589),(vS "root_height" 590),(vS "power" 591),(vS "parts" 592),(vS "root" 593)]
def UJ:Obj:=fv "root_cut" 34
def Rf:Obj:=cd "root_cut" 584 585 586 90 3 320 181 321 322 323 324 594 595
def Rc:Obj:=fu "root_cut" 34 3 "roundmill.cutting" 509 325
def Rb:Obj:=sqO ↥6 #[(vS "size" 612),(vS "bits" 613),(vS "code" 614),(vS "step" 615)]
def UI:Obj:=fv "parted" 41
def Ra:Obj:=cd "parted" 609 610 611 105 2 327 181 328 329 330 331 616 617
def Q9:Obj:=fu "parted" 41 3 "roundmill.parts" 607 332
def Q8:Obj:=sqO ↥6 #[(vS "size" 622),(vS "numbers" 623),(vS "bits" 624)]
def UH:Obj:=fv "check_bits" 42
def Q7:Obj:=cd "check_bits" 619 620 621 111 2 334 181 335 336 337 338 625 626
def Q6:Obj:=fu "check_bits" 42 3 "roundmill.parts" 607 339
def Q5:Obj:=sqO ↥6 #[(vS "size" 631),(vS "bits" 632),(vS "parts" 633),(vS "field" 634),(vS "figures" 635)]
def UG:Obj:=fv "kind" 43
def Q4:Obj:=cd "kind" 628 629 630 114 2 341 181 342 343 344 345 636 637
def Q3:Obj:=fu "kind" 43 3 "roundmill.parts" 607 346
def Q2:Obj:=sqO ↥6 #[(vS "size" 642),(vS "bits" 643),(vS "parts" 644),(vS "sign" 645),(vS "field" 646),(vS "figures" 647)]
def UE:Obj:=fv "worth" 44
def Q1:Obj:=cd "worth" 639 640 641 123 2 348 181 349 350 351 352 648 649
def Q0:Obj:=fu "worth" 44 3 "roundmill.parts" 607 353
def QZ:Obj:=sqO ↥6 #[(vS "value" 654),(vS "whole" 655),(vS "power" 656)]
def UD:Obj:=fv "worth_fraction" 45
def QY:Obj:=cd "worth_fraction" 651 652 653 133 1 355 181 356 357 358 359 657 658
def QX:Obj:=fu "worth_fraction" 45 3 "roundmill.parts" 607 360
def QW:Obj:=sqO ↥6 #[(vS "size" 663),(vS "bits" 664)]
def UC:Obj:=fv "fraction" 46
def QV:Obj:=cd "fraction" 660 661 662 139 2 362 181 363 364 365 366 665 666
def QU:Obj:=fu "fraction" 46 3 "roundmill.parts" 607 367
def QT:Obj:=sqO ↥6 #[(vS "size" 671),(vS "sign" 672),(vS "code" 673)]
def UB:Obj:=fv "signed" 47
def QS:Obj:=cd "signed" 668 669 670 141 3 369 181 370 371 372 373 674 675
def QR:Obj:=fu "signed" 47 3 "roundmill.parts" 607 374
def QQ:Obj:=sqO ↥6 #[(vS "even" 679),(vS "away" 680),(vS "nought" 681),(vS "up" 682),(vS "down" 683)]
def UA (P:Params):Obj:=diO ↥24 #[(en P "__module__" 692 (vS "roundmill.ways" 677)),(en P "__qualname__" 694 (vS "Way" 693)),(en P "__firstlineno__" 696 (vI 145 695)),(en P "__init__" 704 (r 390)),(en P "grows" 714 (r 397)),(en P "bursts" 722 (r 404)),(en P "flees_nought" 730 (r 411)),(en P "__static_attributes__" 732 (r 412))] 8
def Uz:Obj:=fiO .none #[(z 147),(z 4),(r 389),(z 150),(z 4),(r 396),(z 159),(z 4),(r 403),(z 164),(z 4),(r 410)]
def Uy:Obj:=fiO ↥36 #[(vS "Way" 687),(vS "Way" 688),(c 689),(z 145),(z 0),(z 0),(z 0),(z 0),(r 380),(.bool false),(z 181),(r 381),.none,.none,.none,.none,(z 690),(z 145),(c 691)]
def Ux:Obj:=(Obj.mk (.type "frame") none Data.plain #[(some (r 382)),(some (r 3)),(some (r 379)),none,(some (vS "roundmill.ways" 677)),none,(some (r 0))])
def QP:Obj:=sqO ↥6 #[(vS "self" 700),(vS "name" 701)]
def Uw:Obj:=fnO .none "__init__" "Way.__init__" ((cU (T.top 50)).getD 0 ↥39) 0 [] .none .none .none .none none .none .none 0
def QO:Obj:=fiO ↥36 #[(vS "__init__" 697),(vS "Way.__init__" 698),(c 699),(z 147),(z 2),(z 0),(z 0),(z 3),(r 384),(.bool true),(z 181),(r 385),.none,(r 386),(r 387),(r 388),(z 702),(z 147),(c 703)]
def QN:Obj:=fnO (.type "function") "__init__" "Way.__init__" ((cU (T.top 50)).getD 0 ↥39) 3 [] .none .none .none (vS "roundmill.ways" 677) none (r 389) .none 0
def QM:Obj:=sqO ↥6 #[(vS "self" 708),(vS "sign" 709),(vS "odd" 710),(vS "rest" 711)]
def Uv:Obj:=fnO .none "grows" "Way.grows" ((cU (T.top 50)).getD 1 ↥39) 0 [] .none .none .none .none none .none .none 0
def QL:Obj:=fiO ↥36 #[(vS "grows" 705),(vS "Way.grows" 706),(c 707),(z 150),(z 4),(z 0),(z 0),(z 3),(r 391),(.bool true),(z 181),(r 392),.none,(r 393),(r 394),(r 395),(z 712),(z 150),(c 713)]
def QK:Obj:=fnO (.type "function") "grows" "Way.grows" ((cU (T.top 50)).getD 1 ↥39) 3 [] .none .none .none (vS "roundmill.ways" 677) none (r 396) .none 0
def QJ:Obj:=sqO ↥6 #[(vS "self" 718),(vS "sign" 719)]
def Uu:Obj:=fnO .none "bursts" "Way.bursts" ((cU (T.top 50)).getD 2 ↥39) 0 [] .none .none .none .none none .none .none 0
def QI:Obj:=fiO ↥36 #[(vS "bursts" 715),(vS "Way.bursts" 716),(c 717),(z 159),(z 2),(z 0),(z 0),(z 3),(r 398),(.bool true),(z 181),(r 399),.none,(r 400),(r 401),(r 402),(z 720),(z 159),(c 721)]
def QH:Obj:=fnO (.type "function") "bursts" "Way.bursts" ((cU (T.top 50)).getD 2 ↥39) 3 [] .none .none .none (vS "roundmill.ways" 677) none (r 403) .none 0
def QG:Obj:=sqO ↥6 #[(vS "self" 726),(vS "sign" 727)]
def Ut:Obj:=fnO .none "flees_nought" "Way.flees_nought" ((cU (T.top 50)).getD 3 ↥39) 0 [] .none .none .none .none none .none .none 0
def QF:Obj:=fiO ↥36 #[(vS "flees_nought" 723),(vS "Way.flees_nought" 724),(c 725),(z 164),(z 2),(z 0),(z 0),(z 3),(r 405),(.bool true),(z 181),(r 406),.none,(r 407),(r 408),(r 409),(z 728),(z 164),(c 729)]
def QE:Obj:=fnO (.type "function") "flees_nought" "Way.flees_nought" ((cU (T.top 50)).getD 3 ↥39) 3 [] .none .none .none (vS "roundmill.ways" 677) none (r 410) .none 0
def QD:Obj:=sqO ↥6 #[(vS "name" 731)]
def QC (P:Params):Obj:=diO ↥24 #[(en P "__module__" 692 (vS "roundmill.ways" 677)),(en P "__firstlineno__" 696 (vI 145 695)),(en P "__init__" 704 (r 390)),(en P "grows" 714 (r 397)),(en P "bursts" 722 (r 404)),(en P "flees_nought" 730 (r 411)),(en P "__static_attributes__" 732 (r 412)),(en P "__dict__" 734 (r 415)),(en P "__weakref__" 736 (r 416)),(en P "__doc__" 737 .none)] 4
def QB:Obj:=(Obj.mk (.type "type") none (Data.cls (ClassData.mk "Way" [↥35] [(r 414),↥35] 413 "Way" true [] [] false none false)) #[none,none,(some (vS "Way" 685)),(some (vS "Way" 693)),(some (.builtin "object.__new__")),(some (.bool true))])
def QA:Obj:=fiO (.type "getset_descriptor") #[(vS "__dict__" 733),(r 414),(.builtin "function.__dict__"),(.builtin "function.__dict__#set")]
def Qz:Obj:=fiO (.type "getset_descriptor") #[(vS "__weakref__" 735),(r 414),(.builtin "ExceptionGroup.__weakref__"),.none]
def Us:Obj:=fiO (.type "super") #[(r 414),(r 414),(r 414)]
def Ur:Obj:=fiO ↥14 #[↥15,(r 414)]
def Qy:Obj:=sqO ↥6 #[(vS "name" 743)]
def Uq:Obj:=fv "way_of" 51
def Qx:Obj:=cd "way_of" 740 741 742 168 1 419 181 420 421 422 423 744 745
def Qw:Obj:=fu "way_of" 51 3 "roundmill.ways" 677 424
def Qv:Obj:=sqO ↥6 #[(vS "size" 752),(vS "way" 753),(vS "sign" 754),(vS "whole" 755),(vS "power" 756),(vS "rest" 757),(vS "chosen" 758),(vS "code" 759),(vS "end" 760),(vS "taken" 761)]
def Up:Obj:=fv "settled" 53
def Qu:Obj:=cd "settled" 749 750 751 173 6 426 181 427 428 429 430 762 763
def Qt:Obj:=fu "settled" 53 3 "roundmill.rounding" 747 431
def Qs:Obj:=sqO ↥6 #[(vS "size" 768),(vS "code" 769),(vS "taken" 770),(vS "faint" 771)]
def Uo:Obj:=fv "lost_flags" 54
def Qr:Obj:=cd "lost_flags" 765 766 767 184 3 433 181 434 435 436 437 772 773
def Qq:Obj:=fu "lost_flags" 54 3 "roundmill.rounding" 747 438
def Qp:Obj:=sqO ↥6 #[(vS "size" 778),(vS "way" 779),(vS "sign" 780),(vS "top" 781),(vS "bottom" 782),(vS "parts" 783)]
def Um:Obj:=fv "rounded" 55
def Qo:Obj:=cd "rounded" 775 776 777 189 5 440 181 441 442 443 444 784 785
def Qn:Obj:=fu "rounded" 55 3 "roundmill.rounding" 747 445
def Ul:Obj:=fv "total" 57
def Qm:Obj:=fiO ↥36 #[(vS "total" 789),(vS "total" 790),(c 791),(z 194),(z 1),(z 0),(z 0),(z 3),(r 447),(.bool true),(z 181),(r 448),.none,.none,.none,(r 449),(z 792),(z 194),(c 793)]
def Ql:Obj:=fu "total" 57 3 "roundmill.totals" 787 450
def Qk:Obj:=sqO ↥6 #[(vS "way" 798),(vS "signs" 799)]
def Uk:Obj:=fv "nought_sign" 58
def Qj:Obj:=cd "nought_sign" 795 796 797 201 2 452 181 453 454 455 456 800 801
def Qi:Obj:=fu "nought_sign" 58 3 "roundmill.totals" 787 457
def Uj:Obj:=fv "settled_total" 59
def Qh:Obj:=fiO ↥36 #[(vS "settled_total" 803),(vS "settled_total" 804),(c 805),(z 206),(z 3),(z 0),(z 0),(z 3),(r 459),(.bool true),(z 181),(r 460),.none,.none,.none,(r 461),(z 806),(z 206),(c 807)]
def Qg:Obj:=fu "settled_total" 59 3 "roundmill.totals" 787 462
def Ui:Obj:=fv "any_none" 61
def Qe:Obj:=fiO ↥36 #[(vS "any_none" 811),(vS "any_none" 812),(c 813),(z 213),(z 2),(z 0),(z 0),(z 3),(r 464),(.bool true),(z 181),(r 465),.none,.none,.none,(r 466),(z 814),(z 213),(c 815)]
def Qd:Obj:=fu "any_none" 61 3 "roundmill.terms" 809 467
def Qc:Obj:=sqO ↥6 #[(vS "size" 820),(vS "bits" 821)]
def Uh:Obj:=fv "number_term" 62
def Qb:Obj:=cd "number_term" 817 818 819 216 2 469 181 470 471 472 473 822 823
def Qa:Obj:=fu "number_term" 62 3 "roundmill.terms" 809 474
def P9:Obj:=sqO ↥6 #[(vS "size" 828),(vS "a" 829),(vS "b" 830),(vS "kinds" 831)]
def Ug:Obj:=fv "product_wrong" 63
def P8:Obj:=cd "product_wrong" 825 826 827 220 3 476 181 477 478 479 480 832 833
def P7:Obj:=fu "product_wrong" 63 3 "roundmill.terms" 809 481
def P6:Obj:=sqO ↥6 #[(vS "size" 838),(vS "a" 839),(vS "b" 840),(vS "left" 841),(vS "right" 842),(vS "sign" 843)]
def Ue:Obj:=fv "product_term" 64
def P5:Obj:=cd "product_term" 835 836 837 223 3 483 181 484 485 486 487 844 845
def P2:Obj:=fu "product_term" 64 3 "roundmill.terms" 809 488
def Ud:Obj:=fv "settled_terms" 65
def P1:Obj:=fiO ↥36 #[(vS "settled_terms" 847),(vS "settled_terms" 848),(c 849),(z 230),(z 3),(z 0),(z 0),(z 3),(r 490),(.bool true),(z 181),(r 491),.none,.none,.none,(r 492),(z 850),(z 230),(c 851)]
def PZ:Obj:=fu "settled_terms" 65 3 "roundmill.terms" 809 493
def Uc:Obj:=fv "settled_sum" 66
def PY:Obj:=fiO ↥36 #[(vS "settled_sum" 853),(vS "settled_sum" 854),(c 855),(z 237),(z 4),(z 0),(z 0),(z 3),(r 495),(.bool true),(z 181),(r 496),.none,.none,.none,(r 497),(z 856),(z 237),(c 857)]
def PX:Obj:=fu "settled_sum" 66 3 "roundmill.terms" 809 498
def PV:Obj:=sqO ↥6 #[(vS "size" 864),(vS "way" 865),(vS "a" 866),(vS "b" 867)]
def Ub:Obj:=fv "added" 68
def PU:Obj:=cd "added" 861 862 863 249 4 500 181 501 502 503 504 868 869
def PR:Obj:=fu "added" 68 3 "roundmill.deeds" 859 505
def PQ:Obj:=sqO ↥6 #[(vS "size" 874),(vS "way" 875),(vS "a" 876),(vS "b" 877)]
def Ua:Obj:=fv "multiplied" 69
def PN:Obj:=cd "multiplied" 871 872 873 251 4 507 181 508 509 510 511 878 879
def PM:Obj:=fu "multiplied" 69 3 "roundmill.deeds" 859 512
def PL:Obj:=sqO ↥6 #[(vS "size" 884),(vS "way" 885),(vS "a" 886),(vS "b" 887),(vS "over" 888),(vS "under" 889),(vS "sign" 890)]
def T9:Obj:=fv "divided" 70
def PK:Obj:=cd "divided" 881 882 883 253 4 514 181 515 516 517 518 891 892
def PJ:Obj:=fu "divided" 70 3 "roundmill.deeds" 859 519
def PH:Obj:=sqO ↥6 #[(vS "size" 897),(vS "way" 898),(vS "over" 899),(vS "under" 900)]
def T8:Obj:=fv "quotient" 71
def PF:Obj:=cd "quotient" 894 895 896 269 4 521 181 522 523 524 525 901 902
def PD:Obj:=fu "quotient" 71 3 "roundmill.deeds" 859 526
def PC (P:Params):Obj:=diO ↥24 #[(en P "__name__" 165 (vS "law_roundmill_k58_rows_refused" 1068)),(en P "__doc__" 166 .none),(en P "__package__" 167 .none),(en P "__loader__" 168 (.builtin "__main__.__loader__#opaque")),(en P "__spec__" 169 .none),(en P "__annotations__" 170 (r 6)),(en P "__builtins__" 171 (r 4)),(en P "__file__" 173 (c 172)),(en P "__cached__" 174 .none),(en P "MillError" 206 (r 24)),(en P "NoSize" 222 (r 37)),(en P "NoBits" 238 (r 49)),(en P "NoParts" 254 (r 61)),(en P "NoRank" 270 (r 73)),(en P "NotFinite" 286 (r 85)),(en P "NoWay" 302 (r 97)),(en P "NoFlags" 318 (r 109)),(en P "NoFraction" 334 (r 121)),(en P "Unlike" 350 (r 133)),(en P "Empty" 366 (r 145)),(en P "NoLeft" 382 (r 157)),(en P "NoText" 398 (r 169)),(en P "NoRow" 414 (r 181)),(en P "NoName" 430 (r 193)),(en P "Stopped" 457 (r 212)),(en P "width" 466 (r 221)),(en P "bias" 473 (r 228)),(en P "low" 480 (r 235)),(en P "sign_bit" 487 (r 242)),(en P "last_field" 494 (r 249)),(en P "endless" 501 (r 256)),(en P "no_number" 508 (r 263)),(en P "check_fraction" 518 (r 270)),(en P "scaled" 527 (r 277)),(en P "height" 537 (r 284)),(en P "rest_by_middle" 546 (r 291)),(en P "rest_of" 554 (r 298)),(en P "cut" 565 (r 305)),(en P "whole_root" 573 (r 312)),(en P "root_rest" 583 (r 319)),(en P "root_cut" 596 (r 326)),(en P "INEXACT" 598 (vI 1 597)),(en P "SMALL" 600 (vI 2 599)),(en P "GREAT" 602 (vI 4 601)),(en P "POLE" 604 (vI 8 603)),(en P "WRONG" 606 (vI 16 605)),(en P "parted" 618 (r 333)),(en P "check_bits" 627 (r 340)),(en P "kind" 638 (r 347)),(en P "worth" 650 (r 354)),(en P "worth_fraction" 659 (r 361)),(en P "fraction" 667 (r 368)),(en P "signed" 676 (r 375)),(en P "NAMES" 684 (r 376)),(en P "Way" 739 (r 414)),(en P "way_of" 746 (r 425)),(en P "settled" 764 (r 432)),(en P "lost_flags" 774 (r 439)),(en P "rounded" 786 (r 446)),(en P "total" 794 (r 451)),(en P "nought_sign" 802 (r 458)),(en P "settled_total" 808 (r 463)),(en P "any_none" 816 (r 468)),(en P "number_term" 824 (r 475)),(en P "product_wrong" 834 (r 482)),(en P "product_term" 846 (r 489)),(en P "settled_terms" 852 (r 494)),(en P "settled_sum" 858 (r 499)),(en P "added" 870 (r 506)),(en P "multiplied" 880 (r 513)),(en P "divided" 893 (r 520)),(en P "quotient" 903 (r 527)),(en P "rooted" 914 (r 534)),(en P "gathered" 926 (r 541)),(en P "summed" 935 (r 548)),(en P "in_turn" 948 (r 555)),(en P "in_halves" 957 (r 562)),(en P "halves_added" 970 (r 569)),(en P "NOT_FINITE" 975 (r 570)),(en P "check_finite" 984 (r 577)),(en P "kept_answer" 992 (r 584)),(en P "minus" 999 (r 591)),(en P "left_of" 1009 (r 598)),(en P "sum_left" 1020 (r 605)),(en P "product_left" 1032 (r 612)),(en P "quotient_left" 1044 (r 619)),(en P "root_left" 1055 (r 626)),(en P "kept_turn" 1067 (r 633)),(en P "_law_cell_at" 1077 (r 640)),(en P "_law_size_by" 1086 (r 647)),(en P "_law_bits_by" 1100 (r 654)),(en P "_law_alone" 1106 (r 659)),(en P "_law_word" 1113 (r 666)),(en P "_law_asked" 1124 (r 673)),(en P "_law_due" 1138 (r 680)),(en P "_law_row_by" 1144 (r 685)),(en P "_law_holds" 1160 (r 692)),(en P "law" 1170 (r 699))] 98
def T7:Obj:=fiO .none #[(z 2),(z 0),(r 20),(z 4),(z 0),(r 33),(z 6),(z 0),(r 45),(z 8),(z 0),(r 57),(z 10),(z 0),(r 69),(z 12),(z 0),(r 81),(z 14),(z 0),(r 93),(z 16),(z 0),(r 105),(z 18),(z 0),(r 117),(z 20),(z 0),(r 129),(z 22),(z 0),(r 141),(z 24),(z 0),(r 153),(z 26),(z 0),(r 165),(z 28),(z 0),(r 177),(z 30),(z 0),(r 189),(z 32),(z 0),(r 201),(z 39),(z 0),(r 220),(z 41),(z 0),(r 227),(z 43),(z 0),(r 234),(z 45),(z 0),(r 241),(z 47),(z 0),(r 248),(z 49),(z 0),(r 255),(z 51),(z 0),(r 262),(z 54),(z 0),(r 269),(z 57),(z 0),(r 276),(z 61),(z 0),(r 283),(z 65),(z 0),(r 290),(z 71),(z 0),(r 297),(z 73),(z 0),(r 304),(z 80),(z 0),(r 311),(z 87),(z 0),(r 318),(z 90),(z 0),(r 325),(z 105),(z 0),(r 332),(z 111),(z 0),(r 339),(z 114),(z 0),(r 346),(z 123),(z 0),(r 353),(z 133),(z 0),(r 360),(z 139),(z 0),(r 367),(z 141),(z 0),(r 374),(z 145),(z 0),(r 382),(z 168),(z 0),(r 424),(z 173),(z 0),(r 431),(z 184),(z 0),(r 438),(z 189),(z 0),(r 445),(z 194),(z 0),(r 450),(z 201),(z 0),(r 457),(z 206),(z 0),(r 462),(z 213),(z 0),(r 467),(z 216),(z 0),(r 474),(z 220),(z 0),(r 481),(z 223),(z 0),(r 488),(z 230),(z 0),(r 493),(z 237),(z 0),(r 498),(z 249),(z 0),(r 505),(z 251),(z 0),(r 512),(z 253),(z 0),(r 519),(z 269),(z 0),(r 526),(z 271),(z 0),(r 533),(z 283),(z 0),(r 540),(z 288),(z 0),(r 547),(z 290),(z 0),(r 554),(z 303),(z 0),(r 561),(z 309),(z 0),(r 568),(z 319),(z 0),(r 576),(z 324),(z 0),(r 583),(z 328),(z 0),(r 590),(z 330),(z 0),(r 597),(z 336),(z 0),(r 604),(z 341),(z 0),(r 611),(z 347),(z 0),(r 618),(z 353),(z 0),(r 625),(z 359),(z 0),(r 632),(z 371),(z 0),(r 639),(z 375),(z 0),(r 646),(z 383),(z 0),(r 653),(z 404),(z 0),(r 658),(z 411),(z 0),(r 665),(z 429),(z 0),(r 672),(z 447),(z 0),(r 679),(z 465),(z 0),(r 684),(z 472),(z 0),(r 691),(z 491),(z 0),(r 698)]
def PB:Obj:=sqO ↥6 #[(vS "size" 907),(vS "way" 908),(vS "a" 909),(vS "value" 910),(vS "parts" 911)]
def T6:Obj:=fv "rooted" 72
def Pz:Obj:=cd "rooted" 904 905 906 271 3 528 181 529 530 531 532 912 913
def Py:Obj:=fu "rooted" 72 3 "roundmill.deeds" 859 533
def Px:Obj:=sqO ↥6 #[(vS "size" 920),(vS "way" 921),(vS "xs" 922),(vS "ys" 923)]
def T5:Obj:=fv "gathered" 74
def Pw:Obj:=cd "gathered" 917 918 919 283 4 535 181 536 537 538 539 924 925
def Pu:Obj:=fu "gathered" 74 3 "roundmill.rows" 915 540
def Pt:Obj:=sqO ↥6 #[(vS "size" 930),(vS "way" 931),(vS "xs" 932)]
def T3:Obj:=fv "summed" 75
def Pr:Obj:=cd "summed" 927 928 929 288 3 542 181 543 544 545 546 933 934
def Pq:Obj:=fu "summed" 75 3 "roundmill.rows" 915 547
def Pp:Obj:=sqO ↥6 #[(vS "size" 939),(vS "way" 940),(vS "xs" 941),(vS "steps" 942),(vS "flags" 943),(vS "bits" 944),(vS "pair" 945)]
def T2:Obj:=fv "in_turn" 76
def Po:Obj:=cd "in_turn" 936 937 938 290 3 549 181 550 551 552 553 946 947
def Pn:Obj:=fu "in_turn" 76 3 "roundmill.rows" 915 554
def Pm:Obj:=sqO ↥6 #[(vS "size" 952),(vS "way" 953),(vS "xs" 954)]
def T1:Obj:=fv "in_halves" 77
def Pk:Obj:=cd "in_halves" 949 950 951 303 3 556 181 557 558 559 560 955 956
def Pj:Obj:=fu "in_halves" 77 3 "roundmill.rows" 915 561
def Ph:Obj:=sqO ↥6 #[(vS "size" 961),(vS "way" 962),(vS "xs" 963),(vS "middle" 964),(vS "first" 965),(vS "second" 966),(vS "pair" 967)]
def TZ:Obj:=fv "halves_added" 78
def Pg:Obj:=cd "halves_added" 958 959 960 309 3 563 181 564 565 566 567 968 969
def Pf:Obj:=fu "halves_added" 78 3 "roundmill.rows" 915 568
def Pe:Obj:=sqO ↥6 #[(vS "endless" 973),(vS "none" 974)]
def Pd:Obj:=sqO ↥6 #[(vS "size" 979),(vS "numbers" 980),(vS "bits" 981)]
def TY:Obj:=fv "check_finite" 81
def Pc:Obj:=cd "check_finite" 976 977 978 319 2 571 181 572 573 574 575 982 983
def Pb:Obj:=fu "check_finite" 81 3 "roundmill.lefts" 971 576
def Pa:Obj:=sqO ↥6 #[(vS "size" 988),(vS "pair" 989)]
def TX:Obj:=fv "kept_answer" 82
def O9:Obj:=cd "kept_answer" 985 986 987 324 2 578 181 579 580 581 582 990 991
def O8:Obj:=fu "kept_answer" 82 3 "roundmill.lefts" 971 583
def O7:Obj:=sqO ↥6 #[(vS "term" 996)]
def TV:Obj:=fv "minus" 83
def O6:Obj:=cd "minus" 993 994 995 328 1 585 181 586 587 588 589 997 998
def O5:Obj:=fu "minus" 83 3 "roundmill.lefts" 971 590
def O4:Obj:=sqO ↥6 #[(vS "size" 1003),(vS "terms" 1004),(vS "value" 1005),(vS "pair" 1006)]
def TU:Obj:=fv "left_of" 84
def O3:Obj:=cd "left_of" 1000 1001 1002 330 2 592 181 593 594 595 596 1007 1008
def O2:Obj:=fu "left_of" 84 3 "roundmill.lefts" 971 597
def O1:Obj:=sqO ↥6 #[(vS "size" 1013),(vS "a" 1014),(vS "b" 1015),(vS "answer" 1016),(vS "terms" 1017)]
def TR:Obj:=fv "sum_left" 85
def O0:Obj:=cd "sum_left" 1010 1011 1012 336 3 599 181 600 601 602 603 1018 1019
def OZ:Obj:=fu "sum_left" 85 3 "roundmill.lefts" 971 604
def OY:Obj:=sqO ↥6 #[(vS "size" 1024),(vS "way" 1025),(vS "a" 1026),(vS "b" 1027),(vS "answer" 1028),(vS "terms" 1029)]
def TQ:Obj:=fv "product_left" 86
def OX:Obj:=cd "product_left" 1021 1022 1023 341 4 606 181 607 608 609 610 1030 1031
def OW:Obj:=fu "product_left" 86 3 "roundmill.lefts" 971 611
def OV:Obj:=sqO ↥6 #[(vS "size" 1036),(vS "way" 1037),(vS "a" 1038),(vS "b" 1039),(vS "answer" 1040),(vS "terms" 1041)]
def TN:Obj:=fv "quotient_left" 87
def OU:Obj:=cd "quotient_left" 1033 1034 1035 347 4 613 181 614 615 616 617 1042 1043
def OT:Obj:=fu "quotient_left" 87 3 "roundmill.lefts" 971 618
def OS:Obj:=sqO ↥6 #[(vS "size" 1048),(vS "way" 1049),(vS "a" 1050),(vS "answer" 1051),(vS "terms" 1052)]
def TM:Obj:=fv "root_left" 88
def OR:Obj:=cd "root_left" 1045 1046 1047 353 3 620 181 621 622 623 624 1053 1054
def OP:Obj:=fu "root_left" 88 3 "roundmill.lefts" 971 625
def OO:Obj:=sqO ↥6 #[(vS "size" 1059),(vS "xs" 1060),(vS "steps" 1061),(vS "lefts" 1062),(vS "bits" 1063),(vS "pair" 1064)]
def TL:Obj:=fv "kept_turn" 89
def ON:Obj:=cd "kept_turn" 1056 1057 1058 359 2 627 181 628 629 630 631 1065 1066
def OM:Obj:=fu "kept_turn" 89 3 "roundmill.lefts" 971 632
def OL:Obj:=sqO ↥6 #[(vS "_law_script" 1073),(vS "_law_k" 1074)]
def TK:Obj:=fv "_law_cell_at" 91
def OK:Obj:=cd "_law_cell_at" 1070 1071 1072 371 2 634 181 635 636 637 638 1075 1076
def OJ:Obj:=fu "_law_cell_at" 91 3 "law_roundmill_k58_rows_refused" 1068 639
def OI:Obj:=sqO ↥6 #[(vS "_law_cell" 1081),(vS "_law_way" 1082),(vS "_law_rest" 1083)]
def TJ:Obj:=fv "_law_size_by" 92
def OH:Obj:=cd "_law_size_by" 1078 1079 1080 375 1 641 181 642 643 644 645 1084 1085
def OG:Obj:=fu "_law_size_by" 92 3 "law_roundmill_k58_rows_refused" 1068 646
def OF:Obj:=sqO ↥6 #[(vS "_law_size" 1090),(vS "_law_cell" 1091),(vS "_law_half" 1092),(vS "_law_last" 1093),(vS "_law_way" 1094),(vS "_law_rest" 1095),(vS "_law_side" 1096),(vS "_law_figures" 1097)]
def TH:Obj:=fv "_law_bits_by" 93
def OE:Obj:=cd "_law_bits_by" 1087 1088 1089 383 2 648 181 649 650 651 652 1098 1099
def OD:Obj:=fu "_law_bits_by" 93 3 "law_roundmill_k58_rows_refused" 1068 653
def TF:Obj:=fv "_law_alone" 94
def OC:Obj:=fiO ↥36 #[(vS "_law_alone" 1101),(vS "_law_alone" 1102),(c 1103),(z 404),(z 1),(z 0),(z 0),(z 3),(r 655),(.bool true),(z 181),(r 656),.none,.none,.none,(r 657),(z 1104),(z 404),(c 1105)]
def OB:Obj:=fu "_law_alone" 94 3 "law_roundmill_k58_rows_refused" 1068 658
def OA:Obj:=sqO ↥6 #[(vS "_law_caught" 1110)]
def TC:Obj:=fv "_law_word" 95
def Oz:Obj:=cd "_law_word" 1107 1108 1109 411 1 660 181 661 662 663 664 1111 1112
def Oy:Obj:=fu "_law_word" 95 3 "law_roundmill_k58_rows_refused" 1068 665
def Ox:Obj:=sqO ↥6 #[(vS "_law_which" 1117),(vS "_law_size" 1118),(vS "_law_way" 1119),(vS "_law_xs" 1120),(vS "_law_ys" 1121)]
def TB:Obj:=fv "_law_asked" 96
def Ow:Obj:=cd "_law_asked" 1114 1115 1116 429 5 667 181 668 669 670 671 1122 1123
def Ov:Obj:=fu "_law_asked" 96 3 "law_roundmill_k58_rows_refused" 1068 672
def Ou:Obj:=sqO ↥6 #[(vS "_law_which" 1128),(vS "_law_size" 1129),(vS "_law_way" 1130),(vS "_law_xs" 1131),(vS "_law_ys" 1132),(vS "_law_half" 1133),(vS "_law_asked_here" 1134),(vS "_law_bits" 1135)]
def Tz:Obj:=fv "_law_due" 97
def Ot:Obj:=cd "_law_due" 1125 1126 1127 447 5 674 181 675 676 677 678 1136 1137
def Oq:Obj:=fu "_law_due" 97 3 "law_roundmill_k58_rows_refused" 1068 679
def Tx:Obj:=fv "_law_row_by" 98
def Oo:Obj:=fiO ↥36 #[(vS "_law_row_by" 1139),(vS "_law_row_by" 1140),(c 1141),(z 465),(z 3),(z 0),(z 0),(z 3),(r 681),(.bool true),(z 181),(r 682),.none,.none,.none,(r 683),(z 1142),(z 465),(c 1143)]
def Om:Obj:=fu "_law_row_by" 98 3 "law_roundmill_k58_rows_refused" 1068 684
def Ol:Obj:=sqO ↥6 #[(vS "_law_size" 1148),(vS "_law_cells" 1149),(vS "_law_which" 1150),(vS "_law_rest" 1151),(vS "_law_way" 1152),(vS "_law_xs" 1153),(vS "_law_ys" 1154),(vS "_law_caught" 1155),(vS "e" 1156),(vS "_law_due_here" 1157)]
def Tw:Obj:=fv "_law_holds" 99
def Oj:Obj:=cd "_law_holds" 1145 1146 1147 472 2 686 181 687 688 689 690 1158 1159
def Oi:Obj:=fu "_law_holds" 99 3 "law_roundmill_k58_rows_refused" 1068 691
def Oh:Obj:=sqO ↥6 #[(vS "_law_script" 1164),(vS "_law_size" 1165),(vS "_law_cells" 1166),(vS "_law_k" 1167)]
def Tv:Obj:=fv "law" 100
def Og:Obj:=cd "law" 1161 1162 1163 491 1 693 181 694 695 696 697 1168 1169
def Of:Obj:=fu "law" 100 3 "law_roundmill_k58_rows_refused" 1068 698
def full (P:Params):BT:=(B (boot_o_0 P) (B (boot_o_1 P) (B (PC P) (B (boot_o_7 P) (B o6 (B o0 (B o37 (B o0 (B RN (L Ua) N) (B Ux (L OK) N)) (B o0 (B Rh (L TY) N) (L o0))) (B o0 (B o96 (B Rw (L o1) N) (B QA (L TB) N)) (B o1 (B o0 (L o1) N) (L o0)))) (B o0 (B o0 (B o0 (B o0 (L PD) N) (B o1 (L o0) N)) (B U4 (B o1 (L O5) N) (L Qg))) (B o68 (B o0 (B UO (L o0) N) (B Qu (L o1) N)) (B o0 (B QV (L o0) N) (L o0))))) (B (o11 P) (B o23 (B o0 (B o82 (B RJ (L PK) N) (B o0 (L OG) N)) (B o0 (B o0 (L O9) N) (L o0))) (B o0 (B o0 (B o0 (L Pp) N) (B Uq (L Ot) N)) (B RZ (B UD (L OV) N) (L Ue)))) (B o0 (B o51 (B o0 (B o1 (L o0) N) (B QG (L o0) N)) (B o0 (B Q5 (L o0) N) (L Qc))) (B o0 (B Ve (B Rl (L TZ) N) (B Qq (L Oh) N)) (B UX (B QR (L TL) N) (L o0)))))) (B o0 (B o1 (B o0 (B o0 (B o0 (B RL (L o1) N) (B o0 (L OI) N)) (B U9 (B o0 (L o1) N) (L Ql))) (B o61 (B o0 (B Ru (L Pr) N) (B o0 (L o1) N)) (B R1 (B o0 (L OX) N) (L o0)))) (B o30 (B o0 (B o89 (B US (L o0) N) (B QI (L OB) N)) (B (Sa P) (B Q7 (L o0) N) (L Qe))) (B o0 (B o0 (B o1 (L o0) N) (B Qs (L Oj) N)) (B o0 (B QT (L o0) N) (L PX))))) (B o15 (B o0 (B o44 (B o0 (B o0 (L PH) N) (B Uv (L o0) N)) (B o0 (B UI (L O7) N) (L o0))) (B o0 (B Vj (B o0 (L Pn) N) (B o1 (L Tx) N)) (B RX (B o1 (L OT) N) (L o1)))) (B o0 (B o0 (B o0 (B Ry (L T5) N) (B QE (L o0) N)) (B U1 (B Q3 (L TR) N) (L Qa))) (B o75 (B o0 (B Rj (L o0) N) (B o0 (L Of) N)) (B o1 (B (UA P) (L o1) N) (L o0))))))) (B (boot_o_5 P) (B (boot_o_9 P) (B (o8 P) (B o18 (B o7 (B o77 (B o0 (L PM) N) (B o1 (L o0) N)) (B Sg (B o1 (L Pb) N) (L Ul))) (B o59 (B o7 (B UQ (L o0) N) (B Us (L Ov) N)) (B o0 (B Q1 (L o0) N) (L P8)))) (B o28 (B o46 (B o87 (B RD (L o1) N) (B o0 (L TF) N)) (B Sd (B o0 (L o1) N) (L o1))) (B o7 (B Vh (B Rn (L Pk) N) (B o0 (L o0) N)) (B RV (B o0 (L OR) N) (L Uc))))) (B o13 (B o7 (B o42 (B o7 (B o1 (L o0) N) (B QM (L o1) N)) (B U6 (B Rb (L o0) N) (L Qj))) (B o63 (B Sk (B Rr (L T2) N) (B Qw (L o0) N)) (B UZ (B QX (L TN) N) (L P2)))) (B o32 (B o7 (B o91 (B o0 (L Px) N) (B Ut (L Oz) N)) (B R8 (B UG (L O1) N) (L Uh))) (B o73 (B o7 (B o0 (L Pf) N) (B o1 (L Tv) N)) (B RP (B o0 (L OM) N) (L PU)))))) (B o2 (B o10 (B o21 (B o39 (B o80 (B UU (L o0) N) (B QO (L TJ) N)) (B o7 (B Rf (L o0) N) (L o1))) (B o7 (B Vm (B o1 (L o0) N) (B Qy (L o0) N)) (B o0 (B QZ (L o0) N) (L P6)))) (B o7 (B o49 (B o7 (B RB (L Pz) N) (B o0 (L o1) N)) (B U3 (B o0 (L O3) N) (L o0))) (B o70 (B Si (B o0 (L Ph) N) (B Uo (L o0) N)) (B RS (B UB (L OO) N) (L o1))))) (B o7 (B o25 (B o7 (B o84 (B RG (L T8) N) (B QK (L OE) N)) (B Sf (B Q9 (L TV) N) (L Uj))) (B o66 (B o7 (B Rp (L o1) N) (B o0 (L Om) N)) (B o1 (B o0 (L o1) N) (L P1)))) (B o35 (B o56 (B o94 (B o0 (L Pu) N) (B (QC P) (L Ox) N)) (B R6 (B o1 (L OZ) N) (L o1))) (B o7 (B Vc (B UK (L Pd) N) (L Qo)) (B o0 (B Uz (L o0) N) (L PQ)))))))) (B (boot_o_2 P) (B (boot_o_4 P) (B (boot_o_8 P) (B o7 (B o1 (B o16 (B o1 (B RM (L PN) N) (B o0 (L OJ) N)) (B (Sh P) (B o0 (L Pc) N) (L o1))) (B (o58 P) (B o16 (B o0 (L Pt) N) (B Qz (L Ow) N)) (B R5 (B UE (L OY) N) (L Ug)))) (B (o27 P) (B o1 (B (o86 P) (B o1 (L o0) N) (B QJ (L o1) N)) (B Se (B Q8 (L o0) N) (L o0))) (B o16 (B o1 (B Ro (L T1) N) (B Qt (L Ol) N)) (B UY (B QU (L TM) N) (L o1))))) (B o99 (B o16 (B (o41 P) (B o16 (B o0 (L PJ) N) (B o1 (L o0) N)) (B U7 (B o1 (L O8) N) (L Uk))) (B o1 (B (Sl P) (B UP (L o0) N) (B Qx (L Oq) N)) (B o0 (B QY (L o0) N) (L P5)))) (B o1 (B o16 (B o1 (B Rz (L o1) N) (B o0 (L TC) N)) (B o1 (B o0 (L o1) N) (L o0))) (B (o72 P) (B o16 (B Rk (L Pg) N) (B o0 (L o0) N)) (B RR (B QQ (L ON) N) (L Ub)))))) (B T7 (B o9 (B (o20 P) (B o1 (B (o79 P) (B o0 (L PL) N) (B Uw (L o0) N)) (B o16 (B UJ (L Pa) N) (L o0))) (B o16 (B o1 (B o0 (L Pq) N) (B o1 (L Ou) N)) (B R0 (B o1 (L OW) N) (L o1)))) (B o16 (B (o48 P) (B o16 (B RC (L T6) N) (B QH (L o0) N)) (B R9 (B Q6 (L TU) N) (L Qd))) (B o1 (B (Sj P) (B Rm (L o1) N) (B o0 (L Oi) N)) (B o1 (B o0 (L o1) N) (L o0))))) (B o16 (B o1 (B o16 (B o1 (B UT (L o0) N) (B QL (L TH) N)) (B o1 (B Ra (L o0) N) (L o1))) (B (o65 P) (B o16 (B o1 (L o0) N) (B Qv (L Oo) N)) (B o0 (B QW (L o0) N) (L Ud)))) (B (o34 P) (B o1 (B (o93 P) (B Rx (L Pw) N) (B QD (L o1) N)) (B R7 (B o0 (L O0) N) (L o0))) (B o16 (B o1 (B o0 (L o1) N) (L Um)) (B RO (B o0 (L OL) N) (L o1))))))) (B (boot_o_6 P) (B (boot_o_10 P) (B o0 (B o19 (B (o38 P) (B o78 (B o1 (L o0) N) (B QP (L o1) N)) (B Va (B Rg (L o0) N) (L Qm))) (B o60 (B (Vn P) (B Rv (L T3) N) (B Ur (L o0) N)) (B U0 (B Q0 (L TQ) N) (L P7)))) (B o29 (B o47 (B o88 (B o0 (L PB) N) (B Uu (L OC) N)) (B Sb (B UH (L O4) N) (L Ui))) (B (o69 P) (B Vg (B o0 (L Pj) N) (B o1 (L Tw) N)) (B RU (B o1 (L OP) N) (L PY))))) (B o14 (B (o24 P) (B o43 (B (o83 P) (B RH (L o1) N) (B o0 (L OF) N)) (B U5 (B o0 (L o1) N) (L Qi))) (B o64 (B Vk (B Rq (L Po) N) (B o0 (L o1) N)) (B RY (B o0 (L OU) N) (L o0)))) (B o33 (B (o55 P) (B o92 (B UR (L o0) N) (B QF (L Oy) N)) (B o0 (B Q4 (L o0) N) (L Qb))) (B o74 (B (Vd P) (B o1 (L Pe) N) (B Qp (L Og) N)) (B o0 (B o7 (L o0) N) (L PR)))))) (B o3 (B o0 (B o22 (B o40 (B o81 (B RK (L T9) N) (B QN (L OH) N)) (B (U8 P) (B Rc (L TX) N) (L Qk))) (B (o62 P) (B Vl (B Rt (L o1) N) (B o0 (L Tz) N)) (B o1 (B o0 (L o1) N) (L o0)))) (B (o31 P) (B o50 (B (o90 P) (B o0 (L Py) N) (B o1 (L OA) N)) (B U2 (B o1 (L O2) N) (L o1))) (B o71 (B Vf (B UL (L o0) N) (B Qr (L o1) N)) (B o0 (B QS (L o0) N) (L PV))))) (B (o17 P) (B o26 (B (o45 P) (B o85 (B RE (L PF) N) (B o0 (L OD) N)) (B o0 (B o0 (L O6) N) (L Qh))) (B o67 (B (Vi P) (B o0 (L Pm) N) (B Up (L o0) N)) (B RW (B UC (L OS) N) (L PZ)))) (B o36 (B o57 (B o95 (B o1 (L o0) N) (B QB (L o0) N)) (B o0 (B Q2 (L o0) N) (L P9))) (B (o76 P) (B Vb (B Ri (L o0) N) (L Qn)) (B UW (B Uy (L TK) N) (L o0)))))))))
def t_0 (P:Params):BT:=(((cut 15 (full P) 1 0).ins 3 (boot_o_3 P)).ins 12 (o1))
def t_1 (P:Params):BT:=((((cut 88 (full P) 1 0).ins 3 (o4 P)).ins 12 (o5)).ins 24 (o12))
def t_2 (P:Params):BT:=((((cut 160 (full P) 1 0).ins 3 (o52 P)).ins 12 (o53)).ins 24 (o54))
def t_3 (P:Params):BT:=(((cut 306 (full P) 1 0).ins 3 (o97 P)).ins 12 (o98))
def t_4 (P:Params):BT:=(((cut 528 (full P) 1 0).ins 3 (UN P)).ins 12 (UM))
def t_5 (P:Params):BT:=(cut 700 (full P) 1 0)
def ha (P:Params):Heap:=⟨⟨[boot_o_0 P,boot_o_1 P,boot_o_2 P,boot_o_3 P,boot_o_4 P,boot_o_5 P,boot_o_6 P,boot_o_7 P,boot_o_8 P,boot_o_9 P,boot_o_10 P,o0,o1,o2,o3]⟩,↥1⟩
def hf (P:Params):Heap:=absHeap (full P) 700 ↥1
def K (P:Params):Frag:=(nat_lit 2,boot_o_2 P)::(nat_lit 3,PC P)::(nat_lit 15,o6)::(nat_lit 22,o0)::(nat_lit 23,o11 P)::(nat_lit 24,o99)::(nat_lit 25,o13)::(nat_lit 28,o16)::(nat_lit 35,o0)::(nat_lit 36,o20 P)::(nat_lit 37,o21)::(nat_lit 40,o16)::(nat_lit 47,o0)::(nat_lit 48,o27 P)::(nat_lit 49,o28)::(nat_lit 52,o16)::(nat_lit 59,o0)::(nat_lit 60,o34 P)::(nat_lit 61,o35)::(nat_lit 64,o16)::(nat_lit 71,o0)::(nat_lit 72,o41 P)::(nat_lit 73,o42)::(nat_lit 76,o16)::(nat_lit 83,o0)::(nat_lit 84,o48 P)::(nat_lit 85,o49)::(nat_lit 88,o16)::(nat_lit 95,o0)::(nat_lit 96,o58 P)::(nat_lit 97,o59)::(nat_lit 100,o16)::(nat_lit 107,o0)::(nat_lit 108,o65 P)::(nat_lit 109,o66)::(nat_lit 112,o16)::(nat_lit 119,o0)::(nat_lit 120,o72 P)::(nat_lit 121,o73)::(nat_lit 124,o16)::(nat_lit 131,o0)::(nat_lit 132,o79 P)::(nat_lit 133,o80)::(nat_lit 136,o16)::(nat_lit 143,o0)::(nat_lit 144,o86 P)::(nat_lit 145,o87)::(nat_lit 148,o16)::(nat_lit 155,o0)::(nat_lit 156,o93 P)::(nat_lit 157,o94)::(nat_lit 160,o16)::(nat_lit 167,o0)::(nat_lit 168,Sl P)::(nat_lit 169,Sk)::(nat_lit 172,o16)::(nat_lit 179,o0)::(nat_lit 180,Sj P)::(nat_lit 181,Si)::(nat_lit 184,o16)::(nat_lit 191,o0)::(nat_lit 192,Sh P)::(nat_lit 193,Sg)::(nat_lit 196,o16)::(nat_lit 203,o0)::(nat_lit 205,Sf)::(nat_lit 206,o0)::(nat_lit 208,Se)::(nat_lit 209,Sd)::(nat_lit 210,Sb)::(nat_lit 211,Sa P)::(nat_lit 212,R9)::(nat_lit 215,o0)::(nat_lit 217,R8)::(nat_lit 218,o0)::(nat_lit 220,R7)::(nat_lit 221,R6)::(nat_lit 222,o0)::(nat_lit 224,R5)::(nat_lit 225,o0)::(nat_lit 227,R1)::(nat_lit 228,R0)::(nat_lit 229,o0)::(nat_lit 231,RZ)::(nat_lit 232,o0)::(nat_lit 234,RY)::(nat_lit 235,RX)::(nat_lit 236,o0)::(nat_lit 238,RW)::(nat_lit 239,o0)::(nat_lit 241,RV)::(nat_lit 242,RU)::(nat_lit 243,o0)::(nat_lit 245,RS)::(nat_lit 246,o0)::(nat_lit 248,RR)::(nat_lit 249,RP)::(nat_lit 250,o0)::(nat_lit 252,RO)::(nat_lit 253,o0)::(nat_lit 255,RN)::(nat_lit 256,RM)::(nat_lit 257,o0)::(nat_lit 259,RL)::(nat_lit 260,o0)::(nat_lit 262,RK)::(nat_lit 263,RJ)::(nat_lit 264,o0)::(nat_lit 266,RH)::(nat_lit 267,o0)::(nat_lit 269,RG)::(nat_lit 270,RE)::(nat_lit 271,o0)::(nat_lit 273,RD)::(nat_lit 274,o0)::(nat_lit 276,RC)::(nat_lit 277,RB)::(nat_lit 278,o0)::(nat_lit 280,Rz)::(nat_lit 281,o0)::(nat_lit 283,Ry)::(nat_lit 284,Rx)::(nat_lit 285,o0)::(nat_lit 287,Rw)::(nat_lit 288,o0)::(nat_lit 290,Rv)::(nat_lit 291,Ru)::(nat_lit 292,o0)::(nat_lit 294,Rt)::(nat_lit 295,o0)::(nat_lit 297,Rr)::(nat_lit 298,Rq)::(nat_lit 299,o0)::(nat_lit 301,Rp)::(nat_lit 302,o0)::(nat_lit 304,Ro)::(nat_lit 305,Rn)::(nat_lit 306,o0)::(nat_lit 308,Rm)::(nat_lit 309,o0)::(nat_lit 311,Rl)::(nat_lit 312,Rk)::(nat_lit 313,o0)::(nat_lit 315,Rj)::(nat_lit 316,o0)::(nat_lit 318,Ri)::(nat_lit 319,Rh)::(nat_lit 320,o0)::(nat_lit 322,Rg)::(nat_lit 323,o0)::(nat_lit 325,Rf)::(nat_lit 326,Rc)::(nat_lit 327,o0)::(nat_lit 329,Rb)::(nat_lit 330,o0)::(nat_lit 332,Ra)::(nat_lit 333,Q9)::(nat_lit 334,o0)::(nat_lit 336,Q8)::(nat_lit 337,o0)::(nat_lit 339,Q7)::(nat_lit 340,Q6)::(nat_lit 341,o0)::(nat_lit 343,Q5)::(nat_lit 344,o0)::(nat_lit 346,Q4)::(nat_lit 347,Q3)::(nat_lit 348,o0)::(nat_lit 350,Q2)::(nat_lit 351,o0)::(nat_lit 353,Q1)::(nat_lit 354,Q0)::(nat_lit 355,o0)::(nat_lit 357,QZ)::(nat_lit 358,o0)::(nat_lit 360,QY)::(nat_lit 361,QX)::(nat_lit 362,o0)::(nat_lit 364,QW)::(nat_lit 365,o0)::(nat_lit 367,QV)::(nat_lit 368,QU)::(nat_lit 369,o0)::(nat_lit 371,QT)::(nat_lit 372,o0)::(nat_lit 374,QS)::(nat_lit 375,QR)::(nat_lit 376,QQ)::(nat_lit 384,o0)::(nat_lit 386,QP)::(nat_lit 387,o0)::(nat_lit 389,QO)::(nat_lit 390,QN)::(nat_lit 391,o0)::(nat_lit 393,QM)::(nat_lit 394,o0)::(nat_lit 396,QL)::(nat_lit 397,QK)::(nat_lit 398,o0)::(nat_lit 400,QJ)::(nat_lit 401,o0)::(nat_lit 403,QI)::(nat_lit 404,QH)::(nat_lit 405,o0)::(nat_lit 407,QG)::(nat_lit 408,o0)::(nat_lit 410,QF)::(nat_lit 411,QE)::(nat_lit 412,QD)::(nat_lit 413,QC P)::(nat_lit 414,QB)::(nat_lit 415,QA)::(nat_lit 416,Qz)::(nat_lit 419,o0)::(nat_lit 421,Qy)::(nat_lit 422,o0)::(nat_lit 424,Qx)::(nat_lit 425,Qw)::(nat_lit 426,o0)::(nat_lit 428,Qv)::(nat_lit 429,o0)::(nat_lit 431,Qu)::(nat_lit 432,Qt)::(nat_lit 433,o0)::(nat_lit 435,Qs)::(nat_lit 436,o0)::(nat_lit 438,Qr)::(nat_lit 439,Qq)::(nat_lit 440,o0)::(nat_lit 442,Qp)::(nat_lit 443,o0)::(nat_lit 445,Qo)::(nat_lit 446,Qn)::(nat_lit 447,o0)::(nat_lit 450,Qm)::(nat_lit 451,Ql)::(nat_lit 452,o0)::(nat_lit 454,Qk)::(nat_lit 455,o0)::(nat_lit 457,Qj)::(nat_lit 458,Qi)::(nat_lit 459,o0)::(nat_lit 462,Qh)::(nat_lit 463,Qg)::(nat_lit 464,o0)::(nat_lit 467,Qe)::(nat_lit 468,Qd)::(nat_lit 469,o0)::(nat_lit 471,Qc)::(nat_lit 472,o0)::(nat_lit 474,Qb)::(nat_lit 475,Qa)::(nat_lit 476,o0)::(nat_lit 478,P9)::(nat_lit 479,o0)::(nat_lit 481,P8)::(nat_lit 482,P7)::(nat_lit 483,o0)::(nat_lit 485,P6)::(nat_lit 486,o0)::(nat_lit 488,P5)::(nat_lit 489,P2)::(nat_lit 490,o0)::(nat_lit 493,P1)::(nat_lit 494,PZ)::(nat_lit 495,o0)::(nat_lit 498,PY)::(nat_lit 499,PX)::(nat_lit 500,o0)::(nat_lit 502,PV)::(nat_lit 503,o0)::(nat_lit 505,PU)::(nat_lit 506,PR)::(nat_lit 507,o0)::(nat_lit 509,PQ)::(nat_lit 510,o0)::(nat_lit 512,PN)::(nat_lit 513,PM)::(nat_lit 514,o0)::(nat_lit 516,PL)::(nat_lit 517,o0)::(nat_lit 519,PK)::(nat_lit 520,PJ)::(nat_lit 521,o0)::(nat_lit 523,PH)::(nat_lit 524,o0)::(nat_lit 526,PF)::(nat_lit 527,PD)::(nat_lit 528,o0)::(nat_lit 530,PB)::(nat_lit 531,o0)::(nat_lit 533,Pz)::(nat_lit 534,Py)::(nat_lit 535,o0)::(nat_lit 537,Px)::(nat_lit 538,o0)::(nat_lit 540,Pw)::(nat_lit 541,Pu)::(nat_lit 542,o0)::(nat_lit 544,Pt)::(nat_lit 545,o0)::(nat_lit 547,Pr)::(nat_lit 548,Pq)::(nat_lit 549,o0)::(nat_lit 551,Pp)::(nat_lit 552,o0)::(nat_lit 554,Po)::(nat_lit 555,Pn)::(nat_lit 556,o0)::(nat_lit 558,Pm)::(nat_lit 559,o0)::(nat_lit 561,Pk)::(nat_lit 562,Pj)::(nat_lit 563,o0)::(nat_lit 565,Ph)::(nat_lit 566,o0)::(nat_lit 568,Pg)::(nat_lit 569,Pf)::(nat_lit 570,Pe)::(nat_lit 571,o0)::(nat_lit 573,Pd)::(nat_lit 574,o0)::(nat_lit 576,Pc)::(nat_lit 577,Pb)::(nat_lit 578,o0)::(nat_lit 580,Pa)::(nat_lit 581,o0)::(nat_lit 583,O9)::(nat_lit 584,O8)::(nat_lit 585,o0)::(nat_lit 587,O7)::(nat_lit 588,o0)::(nat_lit 590,O6)::(nat_lit 591,O5)::(nat_lit 592,o0)::(nat_lit 594,O4)::(nat_lit 595,o0)::(nat_lit 597,O3)::(nat_lit 598,O2)::(nat_lit 599,o0)::(nat_lit 601,O1)::(nat_lit 602,o0)::(nat_lit 604,O0)::(nat_lit 605,OZ)::(nat_lit 606,o0)::(nat_lit 608,OY)::(nat_lit 609,o0)::(nat_lit 611,OX)::(nat_lit 612,OW)::(nat_lit 613,o0)::(nat_lit 615,OV)::(nat_lit 616,o0)::(nat_lit 618,OU)::(nat_lit 619,OT)::(nat_lit 620,o0)::(nat_lit 622,OS)::(nat_lit 623,o0)::(nat_lit 625,OR)::(nat_lit 626,OP)::(nat_lit 627,o0)::(nat_lit 629,OO)::(nat_lit 630,o0)::(nat_lit 632,ON)::(nat_lit 633,OM)::(nat_lit 634,o0)::(nat_lit 636,OL)::(nat_lit 637,o0)::(nat_lit 639,OK)::(nat_lit 640,OJ)::(nat_lit 641,o0)::(nat_lit 643,OI)::(nat_lit 644,o0)::(nat_lit 646,OH)::(nat_lit 647,OG)::(nat_lit 648,o0)::(nat_lit 650,OF)::(nat_lit 651,o0)::(nat_lit 653,OE)::(nat_lit 654,OD)::(nat_lit 655,o0)::(nat_lit 658,OC)::(nat_lit 659,OB)::(nat_lit 660,o0)::(nat_lit 662,OA)::(nat_lit 663,o0)::(nat_lit 665,Oz)::(nat_lit 666,Oy)::(nat_lit 667,o0)::(nat_lit 669,Ox)::(nat_lit 670,o0)::(nat_lit 672,Ow)::(nat_lit 673,Ov)::(nat_lit 674,o0)::(nat_lit 676,Ou)::(nat_lit 677,o0)::(nat_lit 679,Ot)::(nat_lit 680,Oq)::(nat_lit 681,o0)::(nat_lit 684,Oo)::(nat_lit 685,Om)::(nat_lit 686,o0)::(nat_lit 688,Ol)::(nat_lit 689,o0)::(nat_lit 691,Oj)::(nat_lit 692,Oi)::(nat_lit 693,o0)::(nat_lit 695,Oh)::(nat_lit 696,o0)::(nat_lit 698,Og)::(nat_lit 699,Of)::[]
def as:List Addr:=[2,3,15,22,23,24,25,28,35,36,37,40,47,48,49,52,59,60,61,64,71,72,73,76,83,84,85,88,95,96,97,100,107,108,109,112,119,120,121,124,131,132,133,136,143,144,145,148,155,156,157,160,167,168,169,172,179,180,181,184,191,192,193,196,203,205,206,208,209,210,211,212,215,217,218,220,221,222,224,225,227,228,229,231,232,234,235,236,238,239,241,242,243,245,246,248,249,250,252,253,255,256,257,259,260,262,263,264,266,267,269,270,271,273,274,276,277,278,280,281,283,284,285,287,288,290,291,292,294,295,297,298,299,301,302,304,305,306,308,309,311,312,313,315,316,318,319,320,322,323,325,326,327,329,330,332,333,334,336,337,339,340,341,343,344,346,347,348,350,351,353,354,355,357,358,360,361,362,364,365,367,368,369,371,372,374,375,376,384,386,387,389,390,391,393,394,396,397,398,400,401,403,404,405,407,408,410,411,412,413,414,415,416,419,421,422,424,425,426,428,429,431,432,433,435,436,438,439,440,442,443,445,446,447,450,451,452,454,455,457,458,459,462,463,464,467,468,469,471,472,474,475,476,478,479,481,482,483,485,486,488,489,490,493,494,495,498,499,500,502,503,505,506,507,509,510,512,513,514,516,517,519,520,521,523,524,526,527,528,530,531,533,534,535,537,538,540,541,542,544,545,547,548,549,551,552,554,555,556,558,559,561,562,563,565,566,568,569,570,571,573,574,576,577,578,580,581,583,584,585,587,588,590,591,592,594,595,597,598,599,601,602,604,605,606,608,609,611,612,613,615,616,618,619,620,622,623,625,626,627,629,630,632,633,634,636,637,639,640,641,643,644,646,647,648,650,651,653,654,655,658,659,660,662,663,665,666,667,669,670,672,673,674,676,677,679,680,681,684,685,686,688,689,691,692,693,695,696,698,699]
def env:Env:={ scope:=PySem.Challenge.pw_roundmill_k58_rows_refused.main.scope,locals:=mainNs,globals:=mainNs,cells:=[],code:=(.ref 13),frame:=some 14 }
def Gn:List Stmt:=[T.top 0,T.top 1,T.top 2,T.top 3,T.top 4,T.top 5,T.top 6]
def Gm:List Stmt:=[T.top 7,T.top 8,T.top 9,T.top 10,T.top 11,T.top 12]
def Gk:List Stmt:=[T.top 13,T.top 14,T.top 15,T.top 16,T.top 17,T.top 18,T.top 19,T.top 20,T.top 21,T.top 22,T.top 23,T.top 24,T.top 25,T.top 26,T.top 27,T.top 28,T.top 29,T.top 30,T.top 31]
def Gj:List Stmt:=[T.top 32,T.top 33,T.top 34,T.top 35,T.top 36,T.top 37,T.top 38,T.top 39,T.top 40,T.top 41,T.top 42,T.top 43,T.top 44,T.top 45,T.top 46,T.top 47,T.top 48,T.top 49,T.top 50,T.top 51,T.top 52,T.top 53,T.top 54,T.top 55,T.top 56,T.top 57,T.top 58,T.top 59,T.top 60,T.top 61,T.top 62,T.top 63,T.top 64,T.top 65,T.top 66,T.top 67,T.top 68,T.top 69,T.top 70,T.top 71]
def Gi:List Stmt:=[T.top 72,T.top 73,T.top 74,T.top 75,T.top 76,T.top 77,T.top 78,T.top 79,T.top 80,T.top 81,T.top 82,T.top 83,T.top 84,T.top 85,T.top 86,T.top 87,T.top 88,T.top 89,T.top 90,T.top 91,T.top 92,T.top 93,T.top 94,T.top 95,T.top 96,T.top 97,T.top 98,T.top 99,T.top 100]
def q:Program:=PySem.W.view PySem.Challenge.pw_roundmill_k58_rows_refused [1,2,3,4,5,6,7,8,9,10,11,12,13,14,15,16,18,19,20,21,22,23,24,26,27,28,29,30,31,32,33,34,35,36,37,38,39,41,42,43,44,45,46,47,49,50,51,53,54,55,57,58,59,61,62,63,64,65,66,68,69,70,71,72,74,75,76,77,78,80,81,82,83,84,85,86,87,88,89,91,92,93,94,95,96,97,98,99,100]
end
end H
namespace H
open PySem PySem.W PySem.Calls PySem.Spec PyProof.Rows L2 EV ES
noncomputable section
def cB:Code:=Code.body (behindTheImports PySem.Challenge.pw_roundmill_k58_rows_refused) env
def row:RowW:=OpenRow.toRowW (OpenLaw.row PySem.Challenge.rw_roundmill_k58_rows_refused)
def Xt (s:Shared):Bool:=xlAt q [] s&&recOk (RowW.records row) s
end
theorem Su:(fun (_:Program) (_:Program) (_:Env) (_:Code) (_:Shared->Bool)=>true) PySem.Challenge.pw_roundmill_k58_rows_refused q env cB Xt=true:=by k_qdec
set_option maxHeartbeats 0 in
theorem MJ:∀ w:World,(fun os:OsState=>topGo treeTable PySem.Challenge.pw_roundmill_k58_rows_refused w 11 (some (.ref 6)) 12 (Shared.mk (boot_heap w.params) (Array.mk []) boot_drawn boot_toks os) (topStub PySem.Challenge.pw_roundmill_k58_rows_refused))=fun os:OsState=>some ((Shared.mk (ha w.params) ⟨[]⟩ (Drawn.mk 0 0 0 0) 187 os),Thread.mk (denote treeTable cB) cB (Pos.mk 0 0 0 0) [topFrame (Pos.mk 0 0 0 0)]):=by
 rewrite [PySem.W.Fast.te15667345088766844465,PySem.W.Fast.te14364793385576792824,PySem.W.Fast.te10309787416225456121,PySem.W.Fast.te11892475500146522536,PySem.W.Fast.te2060423359788512156]
 intro w
 kernel_rfl
set_option maxHeartbeats 0 in
theorem Ga:∀ w:World,(fun os:OsState=>segRun treeTable PySem.Challenge.pw_roundmill_k58_rows_refused w 11 (some (.ref 6)) 1 1 (Shared.mk (ha w.params) ⟨[]⟩ (Drawn.mk 0 0 0 0) 187 os) (blockOf (behindTheImports PySem.Challenge.pw_roundmill_k58_rows_refused) env cB (Pos.mk 0 0 0 0) [topFrame (Pos.mk 0 0 0 0)]))=fun os:OsState=>some (Flow.next,(SharedT.abs (SharedT.mk (t_0 w.params) 15 ↥1 ⟨[]⟩ (Drawn.mk 0 0 0 0) 187 os)),cB,(Pos.mk 0 0 0 0)):=by
 rewrite [PySem.W.Fast.te14374325043358763698,PySem.W.Fast.te14364793385576792824,PySem.W.Fast.te10309787416225456121,PySem.W.Fast.te2060423359788512156]
 intro w
 kernel_rfl
set_option maxHeartbeats 0 in
theorem SY:∀ w:World,(fun os:OsState=>segRunT treeTable PySem.Challenge.pw_roundmill_k58_rows_refused w 11 (some (.ref 6)) 1 1261 (SharedT.mk (t_0 w.params) 15 ↥1 ⟨[]⟩ (Drawn.mk 0 0 0 0) 187 os) (piecesOf Gn env cB (Pos.mk 0 0 0 0) [topFrame (Pos.mk 0 0 0 0)]))=fun os:OsState=>some (Flow.next,(SharedT.mk (t_1 w.params) 88 ↥1 ⟨[]⟩ (Drawn.mk 0 0 0 0) 287 os),cB,(Pos.mk 12 0 13 8)):=by
 rewrite [PySem.W.Fast.te10110043849684766642,PySem.W.Fast.te14364793385576792824,PySem.W.Fast.te10309787416225456121,PySem.W.Fast.te2060423359788512156]
 intro w
 kernel_rfl
set_option maxHeartbeats 0 in
theorem SX:∀ w:World,(fun os:OsState=>segRunT treeTable PySem.Challenge.pw_roundmill_k58_rows_refused w 11 (some (.ref 6)) 1 1279 (SharedT.mk (t_1 w.params) 88 ↥1 ⟨[]⟩ (Drawn.mk 0 0 0 0) 287 os) (piecesOf Gm env cB (Pos.mk 12 0 13 8) [topFrame (Pos.mk 0 0 0 0)]))=fun os:OsState=>some (Flow.next,(SharedT.mk (t_2 w.params) 160 ↥1 ⟨[]⟩ (Drawn.mk 0 0 0 0) 383 os),cB,(Pos.mk 24 0 25 8)):=by
 rewrite [PySem.W.Fast.te10110043849684766642,PySem.W.Fast.te14364793385576792824,PySem.W.Fast.te10309787416225456121,PySem.W.Fast.te2060423359788512156]
 intro w
 kernel_rfl
set_option maxHeartbeats 0 in
theorem SV:∀ w:World,(fun os:OsState=>segRunT treeTable PySem.Challenge.pw_roundmill_k58_rows_refused w 11 (some (.ref 6)) 1 1295 (SharedT.mk (t_2 w.params) 160 ↥1 ⟨[]⟩ (Drawn.mk 0 0 0 0) 383 os) (piecesOf Gk env cB (Pos.mk 24 0 25 8) [topFrame (Pos.mk 0 0 0 0)]))=fun os:OsState=>some (Flow.next,(SharedT.mk (t_3 w.params) 306 ↥1 ⟨[]⟩ (Drawn.mk 0 0 0 0) 566 os),cB,(Pos.mk 73 0 79 80)):=by
 rewrite [PySem.W.Fast.te10110043849684766642,PySem.W.Fast.te14364793385576792824,PySem.W.Fast.te10309787416225456121,PySem.W.Fast.te2060423359788512156]
 intro w
 kernel_rfl
set_option maxHeartbeats 0 in
theorem SU:∀ w:World,(fun os:OsState=>segRunT treeTable PySem.Challenge.pw_roundmill_k58_rows_refused w 11 (some (.ref 6)) 1 1274 (SharedT.mk (t_3 w.params) 306 ↥1 ⟨[]⟩ (Drawn.mk 0 0 0 0) 566 os) (piecesOf Gj env cB (Pos.mk 73 0 79 80) [topFrame (Pos.mk 0 0 0 0)]))=fun os:OsState=>some (Flow.next,(SharedT.mk (t_4 w.params) 528 ↥1 ⟨[]⟩ (Drawn.mk 0 0 0 0) 904 os),cB,(Pos.mk 269 0 270 89)):=by
 rewrite [PySem.W.Fast.te10110043849684766642,PySem.W.Fast.te14364793385576792824,PySem.W.Fast.te10309787416225456121,PySem.W.Fast.te2060423359788512156]
 intro w
 kernel_rfl
set_option maxHeartbeats 0 in
theorem SR:∀ w:World,(fun os:OsState=>segRunT treeTable PySem.Challenge.pw_roundmill_k58_rows_refused w 11 (some (.ref 6)) 1 844 (SharedT.mk (t_4 w.params) 528 ↥1 ⟨[]⟩ (Drawn.mk 0 0 0 0) 904 os) (piecesOf Gi env cB (Pos.mk 269 0 270 89) [topFrame (Pos.mk 0 0 0 0)]))=fun os:OsState=>some (Flow.next,(SharedT.mk (t_5 w.params) 700 ↥1 ⟨[]⟩ (Drawn.mk 0 0 0 0) 1171 os),cB,(Pos.mk 491 0 497 15)):=by
 rewrite [PySem.W.Fast.te10110043849684766642,PySem.W.Fast.te14364793385576792824,PySem.W.Fast.te10309787416225456121,PySem.W.Fast.te2060423359788512156]
 intro w
 kernel_rfl
set_option maxHeartbeats 0 in
theorem ML:∀ w:World,(fun os:OsState=>topRun treeTable PySem.Challenge.pw_roundmill_k58_rows_refused w 11 (some (.ref 6)) 2 (SharedT.abs (SharedT.mk (t_5 w.params) 700 ↥1 ⟨[]⟩ (Drawn.mk 0 0 0 0) 1171 os)) (Thread.mk (doneF Flow.next) cB (Pos.mk 491 0 497 15) [topFrame (Pos.mk 0 0 0 0)]))=fun os:OsState=>some ↥8:=by
 rewrite [PySem.W.Fast.te14082659384304107361,PySem.W.Fast.te14364793385576792824,PySem.W.Fast.te10309787416225456121,PySem.W.Fast.te2060423359788512156]
 intro w
 kernel_rfl
set_option maxHeartbeats 0 in
theorem JJ:∀ w:World,((boot_heap w.params).isNs mainGlobals&&(Array.mk []:Array GenState).size == 0,(boot_heap w.params).objs.size,(boot_heap w.params).nsMap mainGlobals "__annotations__")=(true,11,(some (.ref 6))):=by
 rewrite [PySem.W.Fast.te8920871248978507458]
 intro w
 kernel_rfl
set_option maxHeartbeats 0 in
theorem l_1:∀ w:World,(fun os:OsState=>staticsOk ↥10 (boot_heap w.params) (hf w.params)&&namesBound PySem.Challenge.pw_roundmill_k58_rows_refused (hf w.params)&&gensDone ↥8&&laidKept (boot_heap w.params) (hf w.params))=fun os:OsState=>true:=by
 rewrite [PySem.W.Fast.te5923862056798008813,PySem.W.Fast.te10309787416225456121]
 intro w
 kernel_rfl
set_option maxHeartbeats 0 in
theorem VB:∀ w:World,(fun os:OsState=>(openSeen q [] ↥10 Xt true ↥8).1)=fun os:OsState=>(openGood q []).1:=by
 unfold openSeen openGood
 dsimp only
 rewrite [PySem.W.Fast.te5160383126252970620,PySem.W.R.mapR_eq,PySem.W.Fast.te3399658132070893891,PySem.W.Fast.te5991557255702980513]
 intro w
 kernel_rfl
set_option maxHeartbeats 0 in
theorem VA:∀ w:World,(fun os:OsState=>(openSeen q [] ↥10 Xt true ↥8).2.1)=fun os:OsState=>(openGood q []).2.1:=by
 unfold openSeen openGood
 dsimp only
 intro w
 kernel_rfl
set_option maxHeartbeats 0 in
theorem Vz:∀ w:World,(fun os:OsState=>(openSeen q [] ↥10 Xt true ↥8).2.2.1)=fun os:OsState=>(openGood q []).2.2.1:=by
 unfold openSeen openGood
 dsimp only
 rewrite [PySem.W.Fast.te10880121769531294198,PySem.W.Fast.te821141287760084731,PySem.W.R.mapR_eq,PySem.W.Fast.te3399658132070893891,PySem.W.Fast.te7409074990110511671,PySem.W.Fast.te13664370479719496447,PySem.W.Fast.te14722251495701143533,PySem.W.Fast.te5923862056798008813,PySem.W.Fast.te10309787416225456121,PySem.W.Fast.te10994771534591457954,PySem.W.Fast.te18408535023408442824]
 intro w
 kernel_rfl
set_option maxHeartbeats 0 in
theorem Vy:∀ w:World,(fun os:OsState=>(openSeen q [] ↥10 Xt true ↥8).2.2.2.1)=fun os:OsState=>(openGood q []).2.2.2.1:=by
 unfold openSeen openGood
 dsimp only
 rewrite [PySem.W.Fast.te479339242167458305]
 intro w
 kernel_rfl
set_option maxHeartbeats 0 in
theorem Vx:∀ w:World,(fun os:OsState=>(openSeen q [] ↥10 Xt true ↥8).2.2.2.2.1)=fun os:OsState=>(openGood q []).2.2.2.2.1:=by
 unfold openSeen openGood
 dsimp only
 rewrite [PySem.W.Fast.te16090120013241838585,PySem.W.Fast.te3247288618530077131]
 intro w
 kernel_rfl
set_option maxHeartbeats 0 in
theorem Vw:∀ w:World,(fun os:OsState=>(openSeen q [] ↥10 Xt true ↥8).2.2.2.2.2.1)=fun os:OsState=>(openGood q []).2.2.2.2.2.1:=by
 unfold openSeen openGood
 dsimp only
 rewrite [PySem.W.Fast.te2386780881361962483,PySem.W.Fast.te821141287760084731]
 intro w
 kernel_rfl
set_option maxHeartbeats 0 in
theorem Vv:∀ w:World,(fun os:OsState=>(openSeen q [] ↥10 Xt true ↥8).2.2.2.2.2.2.1)=fun os:OsState=>(openGood q []).2.2.2.2.2.2.1:=by
 unfold openSeen openGood
 dsimp only
 rewrite [PySem.W.Fast.te11698064438423848299]
 intro w
 kernel_rfl
set_option maxHeartbeats 0 in
theorem Vu:∀ w:World,(fun os:OsState=>(openSeen q [] ↥10 Xt true ↥8).2.2.2.2.2.2.2.1)=fun os:OsState=>(openGood q []).2.2.2.2.2.2.2.1:=by
 unfold openSeen openGood
 dsimp only
 rewrite [PySem.W.Fast.te7317090234206586261]
 intro w
 kernel_rfl
set_option maxHeartbeats 0 in
theorem Vt:∀ w:World,(fun os:OsState=>(openSeen q [] ↥10 Xt true ↥8).2.2.2.2.2.2.2.2)=fun os:OsState=>(openGood q []).2.2.2.2.2.2.2.2:=by
 unfold openSeen openGood
 dsimp only
 rewrite [PySem.W.Fast.te7369524293546568484]
 intro w
 kernel_rfl
set_option maxHeartbeats 0 in
theorem l_k:∀ w:World,(fun os:OsState=>as.map (Shared.heap ↥8).get?)=fun os:OsState=>(K w.params).map fun x=>some x.2:=by
 rewrite [PySem.W.R.mapR_eq]
 intro w
 kernel_rfl
theorem h_b:behindTheImports PySem.Challenge.pw_roundmill_k58_rows_refused=Gn++(Gm++(Gk++(Gj++(Gi++[])))):=by kernel_rfl
theorem MX (w:World) (os:OsState):topRun treeTable PySem.Challenge.pw_roundmill_k58_rows_refused w 11 (some (.ref 6)) (1261+(1279+(1295+(1274+(844+(2)))))) (SharedT.abs (SharedT.mk (t_0 w.params) 15 ↥1 ⟨[]⟩ (Drawn.mk 0 0 0 0) 187 os)) (restOf (Gn++(Gm++(Gk++(Gj++(Gi++[]))))) env cB (Pos.mk 0 0 0 0) [topFrame (Pos.mk 0 0 0 0)])=some ↥8 :=
 piece_app (segRun_of (congrFun (SY w) os)) (piece_app (segRun_of (congrFun (SX w) os)) (piece_app (segRun_of (congrFun (SV w) os)) (piece_app (segRun_of (congrFun (SU w) os)) (piece_app (segRun_of (congrFun (SR w) os)) (piece_nil (congrFun (ML w) os))))))
theorem run (w:World) (os:OsState):topRun treeTable PySem.Challenge.pw_roundmill_k58_rows_refused w 11 (some (.ref 6)) (12+(1+(1261+(1279+(1295+(1274+(844+(2)))))))) (Shared.mk (boot_heap w.params) (Array.mk []) boot_drawn boot_toks os) (topStub PySem.Challenge.pw_roundmill_k58_rows_refused)=some ↥8 :=
 go_top (congrFun (MJ w) os) (piece_block (congrFun (Ga w) os) ((congrArg (fun b=>topRun treeTable PySem.Challenge.pw_roundmill_k58_rows_refused w 11 (some (.ref 6)) (1261+(1279+(1295+(1274+(844+(2)))))) (SharedT.abs (SharedT.mk (t_0 w.params) 15 ↥1 ⟨[]⟩ (Drawn.mk 0 0 0 0) 187 os)) (restOf b env cB (Pos.mk 0 0 0 0) [topFrame (Pos.mk 0 0 0 0)])) h_b).trans (MX w os)))
theorem opened:∀ w:World,(fencedOpening treeTable PySem.Challenge.pw_roundmill_k58_rows_refused w 12022).map (fun s=>(s.heap,s.gens,s.drawn,s.toks))=some (boot_heap w.params,Array.mk [],boot_drawn,boot_toks):=boot_open (by kernel_rfl) ↥0 (fun s=>by kernel_rfl)
theorem he:∀ P,as=(K P).map (·.1):=fun _=>by kernel_rfl
theorem left:LeftO PySem.Challenge.pw_roundmill_k58_rows_refused q [] Xt (kHook K as he).obs (kHook K as he).val 12022 :=
 LeftO.of_pieces opened JJ run ↥0 fun w=>funext fun os=>Prod.ext (congrFun (l_1 w) os) (Prod.ext (Prod.ext (congrFun (VB w) os) (Prod.ext (congrFun (VA w) os) (Prod.ext (congrFun (Vz w) os) (Prod.ext (congrFun (Vy w) os) (Prod.ext (congrFun (Vx w) os) (Prod.ext (congrFun (Vw w) os) (Prod.ext (congrFun (Vv w) os) (Prod.ext (congrFun (Vu w) os) (congrFun (Vt w) os))))))))) (congrFun (l_k w) os))
end H
namespace EV
open PySem (Str)
theorem ak (k:Int):0<pw k:=Int.pow_pos ↥0
theorem bW (ha:0<=a) (hb:0<=b):pw (a+b)=pw a*pw b:=by
 unfold pw
 rw [Int.toNat_add ha hb,Int.pow_add]
theorem gE (ha:0<=a):pw (a+1)=2*pw a:=by
 rw [bW ha ↥0,Int.mul_comm]
 rfl
theorem gF (h:a<=b):pw a<=pw b:=by
 unfold pw
 have e1:((2^a.toNat:Nat):Int)=(2:Int)^a.toNat:=by simp
 have e2:((2^b.toNat:Nat):Int)=(2:Int)^b.toNat:=by simp
 rw [<- e1,<-e2]
 exact Int.ofNat_le.mpr (Nat.pow_le_pow_right ↥0 ⋯)
theorem mH:nb i<=k↔i.natAbs<2^k:=by
 unfold nb
 by_cases h:i=0
 ·subst h
  simp
  exact Nat.two_pow_pos k
 ·rw [if_neg h]
  have h0:i.natAbs≠0:=⋯
  rw [<- Nat.log2_lt h0]
  omega
theorem oQ (i:Int):i.natAbs<2^nb i:=mH.mp ↥28
theorem fW (h:i.natAbs<=j.natAbs):nb i<=nb j:=mH.mpr (Nat.lt_of_le_of_lt h (oQ j))
theorem zO (hi:nb i<=a) (hj:nb j<=b):nb (i+j)<=max a b+1:=by
 rw [mH] at hi hj ⊢
 have h1:2^a<=2^max a b:=Nat.pow_le_pow_right ↥0 (Nat.le_max_left a b)
 have h2:2^b<=2^max a b:=Nat.pow_le_pow_right ↥0 (Nat.le_max_right a b)
 rw [Nat.pow_succ]
 omega
theorem zM (i:Int):nb (-i)=nb i:=Nat.le_antisymm (fW ⋯) (fW ⋯)
theorem K3 (hi:nb i<=a) (hj:nb j<=b):nb (i - j)<=max a b+1:=by
 rw [Int.sub_eq_add_neg]
 exact zO hi (by rw [zM];exact hj)
theorem d9 (hi:nb i<=a) (hj:nb j<=b):nb (i*j)<=a+b:=by
 rw [mH] at hi hj ⊢
 rw [Int.natAbs_mul,Nat.pow_add]
 rcases Nat.eq_zero_or_pos i.natAbs with h0 | h0
 ·rw [h0,Nat.zero_mul];exact Nat.mul_pos (Nat.two_pow_pos a) (Nat.two_pow_pos b)
 ·exact Nat.lt_of_lt_of_le (Nat.mul_lt_mul_of_pos_left hj h0) (Nat.mul_le_mul_right _ (Nat.le_of_lt hi))
theorem ED (h:0<j) (hj:nb j<=b):nb (i%j)<=b:=by
 refine Nat.le_trans (fW ?_) hj
 have h1:=Int.emod_nonneg i (by omega:j≠0)
 have h2:=Int.emod_lt_of_pos i h
 omega
theorem xy {i j:Int} (h:0<j):(i / j).natAbs<=i.natAbs:=by
 have h3:i=j*(i / j)+i%j:=(Int.mul_ediv_add_emod i j).symm
 have h1:=Int.emod_nonneg i (by omega:j≠0)
 have h2:=Int.emod_lt_of_pos i h
 by_cases hi:0<=i
 ·have:=Int.ediv_nonneg hi (by omega:(0:Int)<=j)
  have:=Int.ediv_le_self j hi
  omega
 ·have h4:i / j<0:=Int.ediv_neg_of_neg_of_pos ⋯ h
  have h5:(j - 1)*(i / j)<=(j - 1)*(-1):=Int.mul_le_mul_of_nonneg_left ⋯ ⋯
  rw [Int.sub_mul,Int.one_mul] at h5
  generalize j*(i / j)=z at *
  omega
theorem EE {i j:Int} {a:Nat} (h:0<j) (hi:nb i<=a):nb (i / j)<=a:=Nat.le_trans (fW (xy h)) hi
theorem gM {k:Int} {c:Nat} (hk:k<=c):nb (pw k)<=c+1:=by
 rw [mH]
 unfold pw
 rw [Int.natAbs_pow]
 exact Nat.pow_lt_pow_right (a:=2) ↥0 ⋯
theorem kr (h0:0<=i):i<pw (nb i):=by
 have:=oQ i
 unfold pw
 have e:((2^((nb i:Int)).toNat:Nat):Int)=(2:Int)^((nb i:Int)).toNat:=by simp
 rw [<- e,show ((nb i:Int)).toNat=nb i by omega]
 omega
theorem MulOk.of (hi:nb i<=a) (hj:nb j<=b) (h:a+b<=134217728):MulOk i j:=by
 unfold MulOk
 omega
theorem iF.small (h:0<j) (hj:nb j<=9000):iF i j:=⟨h,.inl hj⟩
theorem Hs:nb i<=nb i:=Nat.le_refl _
theorem Dd (h:nb i<=a) (h2:a<=b):nb i<=b:=Nat.le_trans h h2
theorem bM (h:MulOk i j):kq (.int i) (.int j)=.ok (.int (i*j)):=by unfold kq;simp only;rw [if_pos h]
theorem gL (h:iF i j):oDiv (.int i) (.int j)=.ok (.int (i / j)):=by unfold oDiv;simp only;rw [if_pos h]
theorem Hh {i j:Int} (h:0<j):oMod (.int i) (.int j)=.ok (.int (i%j)):=by unfold oMod;simp only;rw [if_pos h]
theorem C6 {i j:Int} (h:0<j) (h2:j<18446744073709551616):oDiv (.int i) (.int j)=.ok (.int (i / j)):=gL (iF.small h (by
 have:nb j<=64:=mH.mpr ⋯
 omega))
theorem bX (h:0<=j) (h2:(nb i:Int)+j<=134217728):eF (.int i) (.int j)=.ok (.int (i*pw j)):=by unfold eF;simp only;rw [if_pos ⟨h,h2⟩]
theorem Hd {i j:Int} (h:0<=j):Oe (.int i) (.int j)=.ok (.int (i / pw j)):=by unfold Oe;simp only;rw [if_pos h]
theorem He (h:0<=j) (h2:(nb i:Int)*j<=134217728):CN (.int i) (.int j)=.ok (.int (i^j.toNat)):=by unfold CN;simp only;rw [if_pos ⟨h,h2⟩]
section
variable {α β:Type} {d d':D} {δ:Dt} {C:String} {f:α->R β} {c:Option D}
theorem AQ (a:α):(R.ok a).bind f=f a:=rfl
theorem uZ:(R.ex C:R α).bind f=.ex C:=rfl
theorem DK:(R.bad:R α).bind f=.bad:=rfl
theorem DJ {p:Prop} [Decidable p] (x y:R α):(if p then x else y).bind f=if p then x.bind f else y.bind f:=by split<;>rfl
theorem FY {s:S}:(O.nx δ).then s=s δ:=rfl
theorem FW {s:S}:(O.rt d).then s=.rt d:=rfl
theorem F3 {s:S}:(O.ex C δ).then s=.ex C δ:=rfl
theorem FZ {s:S}:(O.mk C δ).then s=.mk C δ:=rfl
theorem F0 {s:S}:(O.hx C δ).then s=.hx C δ:=rfl
theorem F5 {s:S}:(O.bk δ).then s=.bk δ:=rfl
theorem F4 {s:S}:(O.ct δ).then s=.ct δ:=rfl
theorem B8 {s:S}:(O.bad).then s=.bad:=rfl
theorem B7 {p:Prop} [Decidable p] (x y:O) {s:S}:(if p then x else y).then s=if p then x.then s else y.then s:=by split<;>rfl
theorem J1:(O.rt d).res=.ok d:=rfl
theorem J2:(O.nx δ).res=.ok .non:=rfl
theorem J5:(O.ex C δ).res=.ex C:=rfl
theorem J3:(O.mk C δ).res=.ex C:=rfl
theorem J4:(O.hx C δ).res=.ex C:=rfl
theorem GF:O.bad.res=.bad:=rfl
theorem GD {p:Prop} [Decidable p] (x y:O):(if p then x else y).res=if p then x.res else y.res:=by split<;>rfl
theorem LU {i:Nat}:asg i δ (.ok d)=.nx (δ.set i (some d)):=rfl
theorem LV {i:Nat}:asg i δ (.ex C)=.ex C (noOwn δ):=rfl
theorem Iv {i:Nat} {p:Prop} [Decidable p] (x y:R D):asg i δ (if p then x else y)=if p then asg i δ x else asg i δ y:=by split<;>rfl
theorem Jf:xpr δ (.ok d)=.nx δ:=rfl
theorem Jg:xpr δ (.ex C)=.ex C (noOwn δ):=rfl
theorem Fs {p:Prop} [Decidable p] (x y:R D):xpr δ (if p then x else y)=if p then xpr δ x else xpr δ y:=by split<;>rfl
theorem JY:rtn δ (.ok d)=.rt d:=rfl
theorem JZ:rtn δ (.ex C)=.ex C (noOwn δ):=rfl
theorem Gy {p:Prop} [Decidable p] (x y:R D):rtn δ (if p then x else y)=if p then rtn δ x else rtn δ y:=by split<;>rfl
theorem Ln {b:Bool} {x y:O}:ifO δ (.ok (.bl b)) x y=if b=true then x else y:=by cases b<;>rfl
theorem Lm {x y:O}:ifO δ (.ex C) x y=.ex C (noOwn δ):=rfl
theorem HG {p:Prop} [Decidable p] (u v:R D) {x y:O}:ifO δ (if p then u else v) x y=if p then ifO δ u x y else ifO δ v x y:=by split<;>rfl
theorem B5 {b:Bool} {x y:R β}:truth (.bl b) x y=if b=true then x else y:=by cases b<;>rfl
theorem Le {p:Prop} [Decidable p] {a b:Bool}:(if p then R.ok (D.bl a) else R.ok (D.bl b))=R.ok (D.bl (if p then a else b)):=by split<;>rfl
theorem ite_int {p:Prop} [Decidable p] {a b:Int}:(if p then R.ok (D.int a) else R.ok (D.int b))=R.ok (D.int (if p then a else b)):=by split<;>rfl
theorem Lh {p:Prop} [Decidable p] {b:Bool}:((if p then b else false)=true)=(p/\b=true):=by by_cases h:p<;>simp [h]
theorem Lg {p:Prop} [Decidable p] {b:Bool}:((if p then true else b)=true)=(p\/b=true):=by by_cases h:p<;>simp [h]
theorem Lf {p:Prop} [Decidable p]:((if p then false else true)=true)=¬ p:=by by_cases h:p<;>simp [h]
theorem Jm:var 0 (none::δ)=.bad:=rfl
theorem FC {i:Int}:var 0 (some (.int i)::δ)=.ok (.int i):=rfl
theorem Jl {b:Bool}:var 0 (some (.bl b)::δ)=.ok (.bl b):=rfl
theorem Fx {x:PySem.Str}:var 0 (some (.str x)::δ)=.ok (.str x):=rfl
theorem Fz:var 0 (some .non::δ)=.ok .non:=rfl
theorem Fw {ds:List D}:var 0 (some (.tup ds)::δ)=.ok (.tup ds):=rfl
theorem FA {ds:List D}:var 0 (some (.lst ds)::δ)=.ok (.lst ds):=rfl
theorem Fy {ds:List D}:var 0 (some (.own ds)::δ)=.bad:=rfl
theorem FF:var 0 (some (.exc C)::δ)=.ok (.exc C):=rfl
theorem FG:var 0 (some (.cls C)::δ)=.ok (.cls C):=rfl
theorem FD {fs:List (String×D)}:var 0 (some (.ins C fs)::δ)=.ok (.ins C fs):=rfl
theorem BP {n:Nat}:var (n+1) (c::δ)=var n δ:=rfl
theorem HU:evs [] δ=.ok []:=rfl
theorem DC {e:E} {es:List E}:evs (e::es) δ=(e δ).bind fun d=>(evs es δ).bind fun ds=>.ok (d::ds):=rfl
theorem C7 {i j:Int}:bY (.int i) (.int j)=.ok (.int (i+j)):=rfl
theorem CM {i j:Int}:fV (.int i) (.int j)=.ok (.int (i - j)):=rfl
theorem CP {i:Int}:CQ (.int i)=.ok (.int (-i)):=rfl
theorem Hi {i j:Int}:oLt (.int i) (.int j)=.ok (.bl (decide (i<j))):=rfl
theorem Hj {i j:Int}:oLe (.int i) (.int j)=.ok (.bl (decide (i<=j))):=rfl
theorem Hk {i j:Int}:oGt (.int i) (.int j)=.ok (.bl (decide (j<i))):=rfl
theorem Hl {i j:Int}:oGe (.int i) (.int j)=.ok (.bl (decide (j<=i))):=rfl
theorem Hn {i j:Int}:oEq (.int i) (.int j)=.ok (.bl (decide (i=j))):=by simp [oEq,D.cmp,D.sc,D.beq,Bool.beq_eq_decide_eq]
theorem Hg {i j:Int}:oNe (.int i) (.int j)=.ok (.bl (decide (i≠j))):=by simp [oNe,D.cmp,D.sc,D.beq,Bool.beq_eq_decide_eq]
theorem Hm {i j:PySem.Str}:oEq (.str i) (.str j)=.ok (.bl (decide (i=j))):=by simp [oEq,D.cmp,D.sc,D.beq,Bool.beq_eq_decide_eq]
theorem Hf {i j:PySem.Str}:oNe (.str i) (.str j)=.ok (.bl (decide (i≠j))):=by simp [oNe,D.cmp,D.sc,D.beq,Bool.beq_eq_decide_eq]
theorem KQ {i j:Bool}:oEq (.bl i) (.bl j)=.ok (.bl (decide (i=j))):=by simp [oEq,D.cmp,D.sc,D.beq,Bool.beq_eq_decide_eq]
theorem CZ:tV .non=.ok (.bl true):=rfl
theorem zr:uA .non=.ok (.bl false):=rfl
theorem C2:tV (.exc C)=.ok (.bl false):=rfl
theorem zv:uA (.exc C)=.ok (.bl true):=rfl
theorem C1 {i:Int}:tV (.int i)=.ok (.bl false):=rfl
theorem zu {i:Int}:uA (.int i)=.ok (.bl true):=rfl
theorem DT {i j:Int}:EU [.int i,.int j]=.ok (.int (max i j)):=by
 unfold EU;simp only;congr 2;omega
theorem DS {i j:Int}:Sy [.int i,.int j]=.ok (.int (min i j)):=by
 unfold Sy;simp only;congr 2;omega
theorem DX {i:Int}:IM [.int i]=.ok (.int (if i<0 then -i else i)):=rfl
theorem DV {ds:List D}:l5 [.lst ds]=.ok (.int ds.length):=rfl
theorem DU {ds:List D}:l5 [.tup ds]=.ok (.int ds.length):=rfl
theorem DW {i:Int}:Iq [.int i]=.ok (.int i):=rfl
theorem Io {k:Bool}:Iq [.bl k]=.ok (.int (if k then 1 else 0)):=rfl
theorem vh {i:Int}:i7 [.int i]=.ok (.int (nb i)):=rfl
theorem A8 {ds:List D}:td [.lst ds]=.ok (.lst ds):=rfl
theorem A7 {ds:List D}:td [.tup ds]=.ok (.lst ds):=rfl
theorem uM {i:Int}:fF [.int i,.ty "int"]=.ok (.bl true):=rfl
theorem sq {i:Int}:fF [.int i,.ty "bool"]=.ok (.bl false):=rfl
theorem uI {ds:List D}:fF [.tup ds,.ty "tuple"]=.ok (.bl true):=rfl
theorem uL {ds:List D}:fF [.lst ds,.ty "list"]=.ok (.bl true):=rfl
theorem xG:fF [.exc C,.ty "ValueError"]=if ao.contains C then .ok (.bl true) else .bad:=by
 show (if (ao.contains C&&("ValueError" == "ValueError"))=true then _ else _)=_
 rw [show ("ValueError" == "ValueError")=true from rfl,Bool.and_true]
theorem uN {B:String}:fF [.exc C,.cls B]=if ao.contains C&&ao.contains B then .ok (.bl (C == B||B == "MillError")) else .bad:=rfl
theorem uK {B:String}:fF [.non,.cls B]=if ao.contains B then .ok (.bl false) else .bad:=rfl
theorem yE {k:S}:trn (.nx δ) k=k δ:=rfl
theorem JG {k:S}:trn (.ct δ) k=k δ:=rfl
theorem JH {k:S}:trn (.bk δ) k=.nx δ:=rfl
theorem Eh {k:S}:trn (.rt d) k=.rt d:=rfl
theorem Ei {k:S}:trn (.ex C δ) k=.ex C δ:=rfl
theorem JE {k:S}:trn (.mk C δ) k=.mk C δ:=rfl
theorem JF {k:S}:trn (.hx C δ) k=.hx C δ:=rfl
theorem FV {p:Prop} [Decidable p] (x y:O) {k:S}:trn (if p then x else y) k=if p then trn x k else trn y k:=by split<;>rfl
theorem vW:forL i b [] δ=.nx δ:=rfl
theorem bu:forL i b (d::ds) δ=trn (b (δ.set i (some d))) (forL i b ds):=rfl
theorem Kx {ds:List D} {k:List D->O}:ovL δ (.ok (.lst ds)) k=k ds:=rfl
theorem Kw {ds:List D} {k:List D->O}:ovT δ (.ok (.tup ds)) k=k ds:=rfl
theorem FR {B:String} {i:Nat} {s:S}:Ef (.nx δ) B i s=.nx δ:=rfl
theorem FU {B:String} {i:Nat} {s:S}:Ef (.ex C δ) B i s=if qD C B then forget i (s ((noOwn δ).set i (some (.exc C)))) else .bad:=rfl
theorem B4 {p:Prop} [Decidable p] (x y:O) {B:String} {i:Nat} {s:S}:Ef (if p then x else y) B i s=if p then Ef x B i s else Ef y B i s:=by split<;>rfl
theorem Ar {i:Nat}:forget i (.nx δ)=.nx (δ.set i none):=rfl
theorem zD:noOwn []=[]:=rfl
theorem xw:noOwn (none::δ)=none::noOwn δ:=rfl
theorem zF {i:Int}:noOwn (some (.int i)::δ)=some (.int i)::noOwn δ:=rfl
theorem Dc {i:Bool}:noOwn (some (.bl i)::δ)=some (.bl i)::noOwn δ:=rfl
theorem zA {i:PySem.Str}:noOwn (some (.str i)::δ)=some (.str i)::noOwn δ:=rfl
theorem zC:noOwn (some .non::δ)=some .non::noOwn δ:=rfl
theorem zy {ds:List D}:noOwn (some (.tup ds)::δ)=some (.tup ds)::noOwn δ:=rfl
theorem zE {ds:List D}:noOwn (some (.lst ds)::δ)=some (.lst ds)::noOwn δ:=rfl
theorem zH:noOwn (some (.exc C)::δ)=some (.exc C)::noOwn δ:=rfl
theorem ky {C:String}:qD C "MillError"=ao.contains C:=by simp [qD]
end
theorem oS {ds:List D} {k:Nat} {d:D} (h:ds[k]? = some d):oIx (.tup ds) (.int k)=.ok d:=by
 obtain ⟨hk,he⟩:=List.getElem?_eq_some_iff.mp h
 unfold oIx ixN
 simp [he,hk]
theorem oU {k:Nat} (h:ds[k]? = some d):oIx (.lst ds) (.int k)=.ok d:=by
 obtain ⟨hk,he⟩:=List.getElem?_eq_some_iff.mp h
 unfold oIx ixN
 simp [he,hk]
section
variable {a b c d e:D} {r:List D}
theorem ix0:oIx (.tup (a::r)) (.int 0)=.ok a:=oS (k:=0) rfl
theorem ix1:oIx (.tup (a::b::r)) (.int 1)=.ok b:=oS (k:=1) rfl
theorem ix2:oIx (.tup (a::b::c::r)) (.int 2)=.ok c:=oS (k:=2) rfl
theorem ix3:oIx (.tup (a::b::c::d::r)) (.int 3)=.ok d:=oS (k:=3) rfl
theorem NC:oIx (.lst (a::r)) (.int 0)=.ok a:=oU (k:=0) rfl
theorem VF:oIx (.lst (a::b::r)) (.int 1)=.ok b:=oU (k:=1) rfl
theorem VE:oIx (.lst (a::b::c::r)) (.int 2)=.ok c:=oU (k:=2) rfl
end
theorem VX {m:Nat} {gg:S}:fn 0 m gg []=(gg (List.replicate m none)).res:=rfl
theorem VW {m:Nat} {gg:S} {a:D}:fn 1 m gg [a]=(gg (some a::List.replicate (m - 1) none)).res:=rfl
theorem VV {m:Nat} {gg:S} {a b:D}:fn 2 m gg [a,b]=(gg (some a::some b::List.replicate (m - 2) none)).res:=rfl
theorem VU {m:Nat} {gg:S} {a b c:D}:fn 3 m gg [a,b,c]=(gg (some a::some b::some c::List.replicate (m - 3) none)).res:=rfl
theorem VT {m:Nat} {gg:S} {a b c d:D}:fn 4 m gg [a,b,c,d]=(gg (some a::some b::some c::some d::List.replicate (m - 4) none)).res:=rfl
theorem VS {m:Nat} {gg:S} {a b c d e:D}:fn 5 m gg [a,b,c,d,e]=(gg (some a::some b::some c::some d::some e::List.replicate (m - 5) none)).res:=rfl
theorem VR {m:Nat} {gg:S} {a b c d e f:D}:fn 6 m gg [a,b,c,d,e,f]=(gg (some a::some b::some c::some d::some e::some f::List.replicate (m - 6) none)).res:=rfl
theorem VQ {m:Nat} {gg:S} {a b c d e f g:D}:fn 7 m gg [a,b,c,d,e,f,g]=(gg (some a::some b::some c::some d::some e::some f::some g::List.replicate (m - 7) none)).res:=rfl
theorem VP {m:Nat} {gg:S} {a b c d e f g h:D}:fn 8 m gg [a,b,c,d,e,f,g,h]=(gg (some a::some b::some c::some d::some e::some f::some g::some h::List.replicate (m - 8) none)).res:=rfl
section
variable {α β:Type} {a:α} {l:List α} {n:Nat} {p:Prop} {x y:α}
theorem wJ:(a::l).length=l.length+1:=rfl
theorem yk:([]:List α).length=0:=rfl
theorem ym {f:α->β}:(l.map f).length=l.length:=List.length_map f
theorem wI {f:α->β}:(a::l).map f=f a::l.map f:=rfl
theorem yj {f:α->β}:([]:List α).map f=[]:=rfl
theorem E7:(a::l).set 0 x=x::l:=rfl
theorem E6:(a::l).set (n+1) x=a::l.set n x:=rfl
theorem E9:List.replicate 0 a=[]:=rfl
theorem E8:List.replicate (n+1) a=a::List.replicate n a:=rfl
theorem Ja:0+n=n:=Nat.zero_add n
theorem IW:(if True then x else y)=x:=if_pos trivial
theorem IY:(if False then x else y)=y:=if_neg id
theorem SK:(false=true)=False:=by simp
theorem SG:(true=true)=True:=by simp
theorem Fb:(!true)=false:=rfl
theorem Fc:(!false)=true:=rfl
theorem Mo [Decidable p]:(decide p=true)=p:=decide_eq_true_eq
theorem Fe [Decidable True]:decide True=true:=by simp
theorem Ff [Decidable False]:decide False=false:=by simp
theorem Fh:(p/\True)=p:=by simp
theorem E5:(True/\p)=p:=by simp
theorem Fi:(p/\False)=False:=by simp
theorem Fd:(False/\p)=False:=by simp
theorem IU:(p\/True)=True:=by simp
theorem IS:(True\/p)=True:=by simp
theorem IV:(p\/False)=p:=by simp
theorem IZ:(False\/p)=p:=by simp
theorem SH:(¬ True)=False:=by simp
theorem SJ:(¬ False)=True:=by simp
end
section
variable {a b c:E} {s t:S} {δ:Dt} {i:Nat} {f h:D->D->R D} {k:D->R D} {es:List E} {F:List D->R D} {d:D} {C:String}
theorem Mt:seq s t δ=(s δ).then t:=rfl
theorem BZ:assign i a δ=asg i δ (a δ):=rfl
theorem Mu:ret a δ=rtn δ (a δ):=rfl
theorem Jp:Mc a δ=rtn δ (a (view δ)):=rfl
theorem MC:ifs a s t δ=ifO δ (a δ) (s δ) (t δ):=rfl
theorem Jz:expr a δ=xpr δ (a δ):=rfl
theorem FH:raise C δ=.mk C δ:=rfl
theorem Js:av δ=.nx δ:=rfl
theorem Jq:To δ=.rt .non:=rfl
theorem MF:brk δ=.bk δ:=rfl
theorem JA:cont δ=.ct δ:=rfl
theorem ME:con d δ=.ok d:=rfl
theorem MG:bin f a b δ=(a δ).bind fun x=>(b δ).bind fun y=>f x y:=rfl
theorem SM:un k a δ=(a δ).bind k:=rfl
theorem MH:jO a b δ=(a δ).bind fun d=>truth d (b δ) (.ok (.bl false)):=rfl
theorem SQ:or_ a b δ=(a δ).bind fun d=>truth d (.ok (.bl true)) (b δ):=rfl
theorem Mv:KZ a δ=(a δ).bind fun d=>truth d (.ok (.bl false)) (.ok (.bl true)):=rfl
theorem MD:ife c a b δ=(c δ).bind fun d=>truth d (a δ) (b δ):=rfl
theorem FN:chain f h a b c δ=(a δ).bind fun x=>(b δ).bind fun y=>(f x y).bind fun d=>truth d ((c δ).bind fun z=>h y z) (.ok (.bl false)):=rfl
theorem Mq:df es δ=(evs es δ).bind fun ds=>.ok (.tup ds):=rfl
theorem Mx:iX es δ=(evs es δ).bind fun ds=>.ok (.lst ds):=rfl
theorem JC:call F es δ=(evs es δ).bind F:=rfl
theorem Mr:JD s C i t δ=Ef (s δ) C i t:=rfl
theorem FK:NK i a s δ=ovL δ (a δ) fun ds=>forL i s ds δ:=rfl
theorem FJ:NJ i a s δ=ovT δ (a δ) fun ds=>forL i s ds δ:=rfl
theorem FL:NL i a s δ=ovR δ (a δ) fun ds=>forL i s ds δ:=rfl
end
theorem qZ:ao.contains "MillError"=true:=by decide
theorem yp:ao.contains "NoSize"=true:=by decide
theorem yu:ao.contains "NoBits"=true:=by decide
theorem wL:ao.contains "NoParts"=true:=by decide
theorem yq:ao.contains "NoRank"=true:=by decide
theorem qY:ao.contains "NotFinite"=true:=by decide
theorem Bw:ao.contains "NoWay"=true:=by decide
theorem wM:ao.contains "NoFlags"=true:=by decide
theorem pQ:ao.contains "NoFraction"=true:=by decide
theorem yn:ao.contains "Unlike"=true:=by decide
theorem By:ao.contains "Empty"=true:=by decide
theorem yt:ao.contains "NoLeft"=true:=by decide
theorem yo:ao.contains "NoText"=true:=by decide
theorem Bx:ao.contains "NoRow"=true:=by decide
theorem yr:ao.contains "NoName"=true:=by decide
theorem wK:ao.contains "Stopped"=true:=by decide
section
variable {α:Type} {b:Bool} {ds es:List D} {i:Nat} {it:IT} {g h:E} {s:S} {δ:Dt} {C:String} {ks:List Nat} {k:List D->O} {x:D} {fs:List (String×D)} {F:List D->R D} {gs:List E} {cn m f:String}
theorem Fo:(b&&true)=b:=by simp
theorem Fj:(true&&b)=b:=by simp
theorem Fl:(false&&b)=false:=by simp
theorem Fp:(b&&false)=false:=by simp
theorem Jd:(b||false)=b:=by simp
theorem Je:(false||b)=b:=by simp
theorem Jb:(true||b)=true:=by simp
theorem Jc:(b||true)=true:=by simp
theorem Jy:sE i it s δ=ovI δ (it δ) fun ds=>forL i s ds δ:=rfl
theorem Ky:ovI δ (.ok ds) k=k ds:=rfl
theorem Kz:ovI δ (.ex C) k=.ex C (noOwn δ):=rfl
theorem MA:itL g δ=(g δ).bind asL:=rfl
theorem Mz:itT g δ=(g δ).bind asT:=rfl
theorem Jw:ND g δ=(g δ).bind LW:=rfl
theorem Jv:VI g h δ=(evs [g,h] δ).bind Mn:=rfl
theorem IA:asL (.lst ds)=.ok ds:=rfl
theorem Iz:asT (.tup ds)=.ok ds:=rfl
theorem we {n:Int} (h0 : -4611686018427387904<=n) (h1:n<4611686018427387904):LW (.int n)=.ok (xn 0 n):=by unfold LW;simp only;rw [if_pos ⟨h0,h1⟩]
theorem D0 {n m:Int} (h0 : -4611686018427387904<=n) (h1:n<4611686018427387904) (h2 : -4611686018427387904<=m) (h3:m<4611686018427387904):Mn [.int n,.int m]=.ok (xn n m):=by unfold Mn;simp only;rw [if_pos ⟨h0,h1,h2,h3⟩]
theorem JB:comp it ks g δ=(it δ).bind fun ds=>if ds.length<=100000 then (runC (stC (con (.bl true)) g ks δ) ds).bind eG else .bad:=rfl
theorem BY:gR it ks g h δ=(it δ).bind fun ds=>if ds.length<=100000 then (runC (stC g h ks δ) ds).bind eG else .bad:=rfl
theorem Jt:IK cn m F g gs δ=(g δ).bind fun d=>if fq cn m d then (evs gs δ).bind fun ds=>F (d::ds) else .bad:=rfl
theorem Mw:mk1 cn f [x]=.ok (.ins cn [(f,x)]):=rfl
theorem VY:ye cn f (.ins cn ((f,x)::fs))=.ok x:=by simp [ye]
theorem im1:fq cn m (.ins cn [(f,x)])=(m != f):=by
 have:fq cn m (.ins cn [(f,x)])=((cn == cn)&&(List.lookup m [(f,x)]).isNone):=rfl
 rw [this,List.lookup_cons]
 cases e:(m == f)<;>simp [e,bne]
theorem zG:noOwn (some (.ins C fs)::δ)=some (.ins C fs)::noOwn δ:=rfl
theorem Bb {d:D}:N4 [d,.tup ds]=oV d ds:=rfl
theorem xH {d:D}:oV d []=.ok (.bl false):=rfl
theorem uO {d c:D}:oV d (c::ds)=(fF [d,c]).bind fun x=>truth x (.ok (.bl true)) (oV d ds):=rfl
theorem xF {n:String}:fF [.non,.ty n]=if ["int","bool","str","tuple","list","ValueError"].contains n then .ok (.bl false) else .bad:=rfl
theorem CW:tV (.tup ds)=.ok (.bl false):=rfl
theorem zo:uA (.tup ds)=.ok (.bl true):=rfl
theorem C0:tV (.lst ds)=.ok (.bl false):=rfl
theorem zt:uA (.lst ds)=.ok (.bl true):=rfl
theorem CY {z:PySem.Str}:tV (.str z)=.ok (.bl false):=rfl
theorem zq {z:PySem.Str}:uA (.str z)=.ok (.bl true):=rfl
end
theorem my {x y:String} (h:(PySem.Str.ofString x)=PySem.Str.ofString y):x=y:=by
 rw [PySem.Str.ofString_eq_toList,PySem.Str.ofString_eq_toList] at h
 have h1:(x.toList.map Char.toNat).toArray=(y.toList.map Char.toNat).toArray:=congrArg PySem.Str.cps h
 have h2:x.toList.map Char.toNat=y.toList.map Char.toNat:=by simpa using h1
 have h3:∀ (l m:List Char),l.map Char.toNat=m.map Char.toNat->l=m:=by
  intro l
  induction l with
  | nil=>intro m e;cases m with | nil=>rfl | cons _ _=>cases e
  | cons c r ih =>
   intro m e
   cases m with
   | nil=>cases e
   | cons c' r' =>
    rw [List.map_cons,List.map_cons,List.cons.injEq] at e
    rw [Char.ext (UInt32.toNat_inj.mp e.1),ih r' e.2]
 exact String.toList_inj.mp (h3 _ _ h2)
theorem CK {x y:String}:((PySem.Str.ofString x)=PySem.Str.ofString y)=(x=y):=propext ⟨my,fun e=>by rw [e]⟩
theorem C5 {a b c d:Int}:oEq (.tup [.int a,.int b]) (.tup [.int c,.int d])=.ok (.bl (decide (a=c/\b=d))):=by
 simp [oEq,D.cmp,D.sc,D.pl,D.beq,D.beqs,Bool.beq_eq_decide_eq]
theorem CU {a b c d:Int}:oNe (.tup [.int a,.int b]) (.tup [.int c,.int d])=.ok (.bl (!decide (a=c/\b=d))):=by
 simp [oNe,D.cmp,D.sc,D.pl,D.beq,D.beqs,Bool.beq_eq_decide_eq]
theorem C4 {a b c d e f:Int}:oEq (.tup [.int a,.int b,.int e]) (.tup [.int c,.int d,.int f])=.ok (.bl (decide (a=c/\b=d/\e=f))):=by
 simp [oEq,D.cmp,D.sc,D.pl,D.beq,D.beqs,Bool.beq_eq_decide_eq]
theorem CT {a b c d e f:Int}:oNe (.tup [.int a,.int b,.int e]) (.tup [.int c,.int d,.int f])=.ok (.bl (!decide (a=c/\b=d/\e=f))):=by
 simp [oNe,D.cmp,D.sc,D.pl,D.beq,D.beqs,Bool.beq_eq_decide_eq]
theorem Hr {p:Prop} [Decidable p]:((!decide p)=true)=¬ p:=by simp
theorem MB {g:E} {δ:Dt}:itA g δ=(g δ).bind asA:=rfl
theorem IC {ds:List D}:asA (.lst ds)=.ok ds:=rfl
theorem IB {ds:List D}:asA (.tup ds)=.ok ds:=rfl
theorem Ms {a:E} {lo hi:Option E} {δ:Dt}:slc a lo hi δ=(a δ).bind fun d=>(part lo δ).bind fun l=>(part hi δ).bind fun h=>oSl d l h:=rfl
theorem zg {δ:Dt}:part none δ=.ok none:=rfl
theorem CG {i:Int} {δ:Dt}:part (some (con (.int i))) δ=.ok (some i):=rfl
theorem Hb {ds:List D} {lo hi:Option Int}:oSl (.lst ds) lo hi=.ok (.lst (cut ds lo hi)):=rfl
theorem uJ {x:PySem.Str}:fF [.str x,.ty "str"]=.ok (.bl true):=rfl
theorem CS {a b c x y z:Int}:oNe (.tup [.int a,.int b,.int c]) (.tup [.int x,.int y,.int z])=.ok (.bl (decide (¬ (a=x/\b=y/\c=z)))):=by
 unfold oNe
 rw [if_pos (show D.cmp _ _=true from rfl)]
 congr 2
 simp only [D.beq,D.beqs]
 by_cases h1:a=x<;>by_cases h2:b=y<;>by_cases h3:c=z<;>simp [h1,h2,h3]
theorem C3 {a b c x y z:Int}:oEq (.tup [.int a,.int b,.int c]) (.tup [.int x,.int y,.int z])=.ok (.bl (decide (a=x/\b=y/\c=z))):=by
 unfold oEq
 rw [if_pos (show D.cmp _ _=true from rfl)]
 congr 2
 simp only [D.beq,D.beqs]
 by_cases h1:a=x<;>by_cases h2:b=y<;>by_cases h3:c=z<;>simp [h1,h2,h3]
theorem Ha {a b:String}:(PySem.Str.ofString a=PySem.Str.ofString b)=(a=b):=by
 apply propext
 constructor
 ·intro h
  rw [PySem.Str.ofString_eq_toList,PySem.Str.ofString_eq_toList] at h
  have h1:a.toList.map Char.toNat=b.toList.map Char.toNat:=by
   have:=congrArg (fun z:PySem.Str=>z.cps.toList) h
   simpa using this
  have h2:a.toList=b.toList:=by
   refine List.map_inj_right (f:=Char.toNat) (fun x y e => ?_) |>.mp h1
   exact Char.toNat_inj.mp e
  exact String.toList_inj.mp h2
 ·intro h;rw [h]
theorem KP {cn f:String} {d:D}:ye cn f (.ins cn [(f,d)])=.ok d:=by simp [ye,List.lookup]
theorem Dn {cn m f:String} {d:D}:fq cn m (.ins cn [(f,d)]) = !(m == f):=by
 unfold fq
 cases h:m == f<;>simp [List.lookup,h]
theorem K6 {cn f:String} {d:D}:mk1 cn f [d]=.ok (.ins cn [(f,d)]):=rfl
theorem Dm:(!false)=true:=rfl
theorem Ju {g h k:E}:VH g h k δ=(evs [g,h,k] δ).bind Mm:=rfl
theorem DZ {n m c:Int} (h : -1099511627776<=n/\n<1099511627776 /\ -1099511627776<=m/\m<1099511627776) (h0:0<c) (h1:c<1048576):Mm [.int n,.int m,.int c]=.ok (Oc n m c):=by unfold Mm;simp only;rw [if_pos ⟨h,h0,h1⟩]
theorem BV {i:Nat}:vN i δ=.nx (δ.set i (some (.own []))):=rfl
theorem BX {i:Nat} {g:E}:mw i g δ=jt i δ fun ds=>IE i δ ds (g (view δ)):=rfl
theorem BU {i:Nat}:Kv i δ=jt i δ fun ds=>.nx (δ.set i (some (.own ds.reverse))):=rfl
theorem G8 {ds:List D} {l:Dt} {f:List D->O}:jt 0 (some (.own ds)::l) f=f ds:=rfl
theorem G7 {i:Nat} {c:Option D} {l:Dt} {f:List D->O}:jt (i+1) (c::l) f=jt i l f:=rfl
theorem nD {i:Nat} {ds:List D} {d:D} (h:D.flat d=true) (h2:ds.length<100000):IE i δ ds (.ok d)=.nx (δ.set i (some (.own (ds++[d])))):=by unfold IE;simp only;rw [if_pos ⟨h,h2⟩]
theorem ID {i:Nat} {ds:List D}:IE i δ ds (.ex C)=.ex C (noOwn δ):=rfl
theorem Jr {i:Nat} {s:S}:Cv i s δ=s (pub i δ):=rfl
theorem M5 {ds:List D} {l:Dt}:pub 0 (some (.own ds)::l)=some (.lst ds)::l:=rfl
theorem M4 {i:Nat} {c:Option D} {l:Dt}:pub (i+1) (c::l)=c::pub i l:=by
 unfold pub
 rw [List.getElem?_cons_succ]
 split<;>rename_i q
 ·rw [q];rfl
 ·rfl
theorem zB {ds:List D}:noOwn (some (.own ds)::δ)=none::noOwn δ:=rfl
theorem BK:view []=[]:=rfl
theorem yy:view (none::δ)=none::view δ:=rfl
theorem BI {ds:List D}:view (some (.own ds)::δ)=some (.lst ds)::view δ:=rfl
theorem BM {i:Int}:view (some (.int i)::δ)=some (.int i)::view δ:=rfl
theorem Fv {i:Bool}:view (some (.bl i)::δ)=some (.bl i)::view δ:=rfl
theorem BH {i:PySem.Str}:view (some (.str i)::δ)=some (.str i)::view δ:=rfl
theorem BJ  : view (some (.non)::δ)=some (.non)::view δ:=rfl
theorem BG {ds:List D}:view (some (.tup ds)::δ)=some (.tup ds)::view δ:=rfl
theorem BL {ds:List D}:view (some (.lst ds)::δ)=some (.lst ds)::view δ:=rfl
theorem BO  : view (some (.exc C)::δ)=some (.exc C)::view δ:=rfl
theorem BN {fs:List (String×D)}:view (some (.ins C fs)::δ)=some (.ins C fs)::view δ:=rfl
theorem yB {i:Nat} {g:E}:kz i g δ=IP i δ (g (view δ)):=rfl
theorem DY {i:Nat} {n:Int}:IP i δ (.ok (.int n))=.nx (δ.set i (some (.int n))):=rfl
theorem Jx {c:E} {a b:S}:IL c a b δ=ifO δ (c (view δ)) (a δ) (b δ):=rfl
theorem yA {i:Nat} {g:E}:iU i g δ=F9 i δ (g (view δ)):=rfl
theorem B9 {i:Nat} {rs:List D}:F9 i δ (.ok (.lst rs))=.nx (δ.set i (some (.own rs))):=rfl
theorem BR {i:Nat} {a b:E}:vM i a b δ=jt i δ fun ds=>JQ i δ ds (b (view δ)) (a (view δ)):=rfl
theorem yK {i:Nat} {ds:List D} {d:D} {k:Int} (h:D.flat d=true) (h0:0<=k) (h1:k<ds.length):JQ i δ ds (.ok d) (.ok (.int k))=.nx (δ.set i (some (.own (ds.set k.toNat d)))):=by unfold JQ;simp only;rw [if_pos ⟨h,h0,h1⟩]
theorem yz {i:Nat} {g:E}:mv i g δ=F9 i δ (g δ):=rfl
theorem aI {a b:Prop} (x:a) (y:b):a/\b:=⟨x,y⟩
def EvS:=aI @Hh<|aI @C6<|aI @Hd<|aI @AQ<|aI @uZ<|aI @DK<|aI @DJ<|aI @FY<|aI @FW<|aI @F3<|aI @FZ<|aI @F0<|aI @F5<|aI @F4<|aI @B8<|aI @B7<|aI @J1<|aI @J2<|aI @J5<|aI @J3<|aI @J4<|aI @GF<|aI @GD<|aI @LU<|aI @LV<|aI @Iv<|aI @Jf<|aI @Jg<|aI @Fs<|aI @JY<|aI @JZ<|aI @Gy<|aI @Ln<|aI @Lm<|aI @HG<|aI @B5<|aI @Le<|aI @ite_int<|aI @Lh<|aI @Lg<|aI @Lf<|aI @Jm<|aI @FC<|aI @Jl<|aI @Fx<|aI @Fz<|aI @Fw<|aI @FA<|aI @Fy<|aI @FF<|aI @FG<|aI @FD<|aI @BP<|aI @HU<|aI @DC<|aI @C7<|aI @CM<|aI @CP<|aI @Hi<|aI @Hj<|aI @Hk<|aI @Hl<|aI @Hn<|aI @Hg<|aI @Hm<|aI @Hf<|aI @KQ<|aI @CZ<|aI @zr<|aI @C2<|aI @zv<|aI @C1<|aI @zu<|aI @DT<|aI @DS<|aI @DX<|aI @DV<|aI @DU<|aI @DW<|aI @Io<|aI @vh<|aI @A8<|aI @A7<|aI @uM<|aI @sq<|aI @uI<|aI @uL<|aI @xG<|aI @uN<|aI @uK<|aI @yE<|aI @JG<|aI @JH<|aI @Eh<|aI @Ei<|aI @JE<|aI @JF<|aI @FV<|aI @Kx<|aI @Kw<|aI @FR<|aI @FU<|aI @B4<|aI @Ar<|aI @zD<|aI @xw<|aI @zF<|aI @Dc<|aI @zA<|aI @zC<|aI @zy<|aI @zE<|aI @zH<|aI @ky<|aI @ix0<|aI @ix1<|aI @ix2<|aI @ix3<|aI @NC<|aI @VF<|aI @VE<|aI @VX<|aI @VW<|aI @VV<|aI @VU<|aI @VT<|aI @VS<|aI @VR<|aI @VQ<|aI @VP<|aI @wJ<|aI @yk<|aI @ym<|aI @wI<|aI @yj<|aI @E7<|aI @E6<|aI @E9<|aI @E8<|aI @Ja<|aI @IW<|aI @IY<|aI @SK<|aI @SG<|aI @Fb<|aI @Fc<|aI @Mo<|aI @Fe<|aI @Ff<|aI @Fh<|aI @E5<|aI @Fi<|aI @Fd<|aI @IU<|aI @IS<|aI @IV<|aI @IZ<|aI @SH<|aI @SJ<|aI @Mt<|aI @BZ<|aI @Mu<|aI @Jp<|aI @MC<|aI @Jz<|aI @FH<|aI @Js<|aI @Jq<|aI @MF<|aI @JA<|aI @ME<|aI @MG<|aI @SM<|aI @MH<|aI @SQ<|aI @Mv<|aI @MD<|aI @FN<|aI @Mq<|aI @Mx<|aI @JC<|aI @Mr<|aI @FK<|aI @FJ<|aI @FL<|aI @qZ<|aI @yp<|aI @yu<|aI @wL<|aI @yq<|aI @qY<|aI @Bw<|aI @wM<|aI @pQ<|aI @yn<|aI @By<|aI @yt<|aI @yo<|aI @Bx<|aI @yr<|aI @wK<|aI @Fo<|aI @Fj<|aI @Fl<|aI @Fp<|aI @Jd<|aI @Je<|aI @Jb<|aI @Jc<|aI @Jy<|aI @Ky<|aI @Kz<|aI @MA<|aI @Mz<|aI @Jw<|aI @Jv<|aI @IA<|aI @Iz<|aI @we<|aI @D0<|aI @JB<|aI @BY<|aI @Jt<|aI @Mw<|aI @VY<|aI @im1<|aI @zG<|aI @Bb<|aI @xH<|aI @uO<|aI @xF<|aI @CW<|aI @zo<|aI @C0<|aI @zt<|aI @CY<|aI @zq<|aI @CK<|aI @C5<|aI @CU<|aI @C4<|aI @CT<|aI @Hr<|aI @MB<|aI @IC<|aI @IB<|aI @Ms<|aI @zg<|aI @CG<|aI @Hb<|aI @uJ<|aI @CS<|aI @C3<|aI @Ha<|aI @KP<|aI @Dn<|aI @K6<|aI @Dm<|aI @Ju<|aI @DZ<|aI @BV<|aI @BX<|aI @BU<|aI @G8<|aI @G7<|aI @nD<|aI @ID<|aI @Jr<|aI @M5<|aI @M4<|aI @zB<|aI @BK<|aI @yy<|aI @BI<|aI @BM<|aI @Fv<|aI @BH<|aI @BJ<|aI @BG<|aI @BL<|aI @BO<|aI @BN<|aI @yB<|aI @DY<|aI @Jx<|aI @yA<|aI @B9<|aI @BR<|aI @yK <| @yz
theorem vX (I:Dt->Prop):∀ (ds:List D),(∀ d∈ds,∀ δ,I δ->∃ δ',(body (δ.set i (some d))=.nx δ'\/body (δ.set i (some d))=.ct δ')/\I δ')->∀ δ,I δ->∃ δ',forL i body ds δ=.nx δ'/\I δ'
 | [],_,δ,h=>⟨δ,rfl,h⟩
 | d::ds,hs,δ,h=>by
  obtain ⟨δ1,e1,h1⟩:=hs d (.head _) δ h
  obtain ⟨δ2,e2,h2⟩:=vX I ds (fun d hd=>hs d (.tail _ hd)) δ1 h1
  refine ⟨δ2,?_,h2⟩
  rw [bu]
  rcases e1 with e1 | e1<;>rw [e1]<;>exact e2
theorem lO (h:xs.length+ys.length<=100000):bY (.lst xs) (.lst ys)=.ok (.lst (xs++ys)):=by unfold bY;simp only;rw [if_pos h]
theorem bz {c:E} {b:S}:∀ {n:Nat} {δ:Dt},bN c b n δ ≠ .bad->∀ k,bN c b (n+k) δ=bN c b n δ
 | 0,δ,h,_=>absurd rfl h
 | n+1,δ,h,k=>by
  rw [show n+1+k=(n+k)+1 by omega]
  unfold bN at h ⊢
  split
  ·rename_i q
   rw [q] at h
   simp only at h
   unfold trn at h ⊢
   split
   ·rename_i q2;rw [q2] at h;exact bz h k
   ·rename_i q2;rw [q2] at h;exact bz h k
   ·rfl
   ·rfl
  ·rfl
  ·rfl
theorem vv {c:E} {b:S} {n:Nat} {δ:Dt} {o:O} (h:bN c b n δ=o) (ho:o ≠ .bad):kD c b δ=o:=by
 have hx:∃ n,bN c b n δ ≠ .bad:=⟨n,by rw [h];exact ho⟩
 unfold kD
 rw [dif_pos hx]
 have h1:=bz hx.choose_spec n
 have h2:=bz (show bN c b n δ ≠ .bad by rw [h];exact ho) hx.choose
 rw [Nat.add_comm] at h1
 rw [<- h1,h2,h]
theorem vx {c:E} {b:S} (I:Dt->Prop) (μ:Dt->Nat) (hs:∀ δ,I δ->(c δ=.ok (.bl false))\/(c δ=.ok (.bl true)/\∃ δ',b δ=.nx δ'/\I δ'/\μ δ'<μ δ)) (δ:Dt) (h:I δ) :
  ∃ δ',kD c b δ=.nx δ'/\I δ'/\c δ'=.ok (.bl false):=by
 have key:∀ (n:Nat) (δ:Dt),I δ->μ δ<n->∃ δ',bN c b n δ=.nx δ'/\I δ'/\c δ'=.ok (.bl false):=by
  intro n
  induction n with
  | zero=>intro δ _ h;omega
  | succ n ih =>
   intro δ h hn
   rcases hs δ h with e | ⟨e,δ1,e1,i1,m1⟩
   ·exact ⟨δ,by unfold bN;rw [e],h,e⟩
   ·obtain ⟨δ2,e2,i2,c2⟩:=ih δ1 i1 ⋯
    exact ⟨δ2,by unfold bN;rw [e];simp only;rw [e1];exact e2,i2,c2⟩
 obtain ⟨δ',e,i,c'⟩:=key (μ δ+1) δ h (Nat.lt_succ_self _)
 exact ⟨δ',vv e (fun z=>nomatch z),i,c'⟩
end EV
local macro_rules | `(tactic| walk_at "pos")=>`(tactic| first | (with_reducible assumption) | decide +kernel | (with_reducible exact EV.ak _) | omega)
local macro_rules | `(tactic| walk_at "nb")=>`(tactic| first
 | (with_reducible assumption)
 | ((with_reducible apply EV.zO)<;>walk_at "nb")
 | ((with_reducible apply EV.K3)<;>walk_at "nb")
 | ((with_reducible apply EV.d9)<;>walk_at "nb")
 | ((with_reducible apply EV.nb_neg_le)<;>walk_at "nb")
 | ((with_reducible apply EV.ED);(walk_at "pos");(walk_at "nb"))
 | ((with_reducible apply EV.EE);(walk_at "pos");(walk_at "nb"))
 | ((with_reducible apply EV.nb_max)<;>walk_at "nb")
 | ((with_reducible apply EV.nb_min)<;>walk_at "nb")
 | ((with_reducible apply EV.nb_ite)<;>walk_at "nb")
 | exact EV.Hs)
/- nb e<=a number -/
local macro_rules | `(tactic| walk_at "nbk")=>`(tactic| exact EV.Dd (by walk_at "nb") (by decide +kernel))
local macro_rules | `(tactic| walk_at "mul")=>`(tactic| exact EV.MulOk.of (by walk_at "nb") (by walk_at "nb") (by decide +kernel))
local macro_rules | `(tactic| simp_arith [$ls,*])=>`(tactic| simp only [EV.EvS,reduceIte,Nat.reduceAdd,Nat.reduceSub,Int.reduceAdd,Int.reduceSub,Int.reduceMul,Int.reduceNeg,Int.reducePow,Int.reduceLT,Int.reduceLE,Int.reduceGT,Int.reduceGE,Int.reduceEq,Int.reduceNe,Int.reduceDiv,Int.reduceMod,Int.reduceToNat,String.reduceEq,String.reduceBEq,Nat.reduceLeDiff,Int.cast_ofNat_Int,Int.natCast_one,Int.natCast_zero,List.cons_append,List.nil_append,ne_eq,$ls,*])
namespace EV
open PySem (Str)
def Sz (E F:Int):Prop:=2<=E/\E<=15/\1<=F/\F<=112
def szE (c:Int):Int:=if c%8<4 then [5,8,11,15].getD (c%8).toNat 0 else if c%8<6 then 2+c / 8%14 else 2+c / 8%4
def szF (c:Int):Int:=if c%8<4 then [10,23,52,112].getD (c%8).toNat 0 else if c%8<6 then 1+c / 8 / 14%112 else 1+c / 8 / 4%5
theorem four {r:Int} (h0:0<=r) (h1:r<4):r=0\/r=1\/r=2\/r=3:=⋯
theorem MT (c:Int):Sz (szE c) (szF c):=by
 unfold Sz szE szF
 by_cases h:c%8<4
 ·rw [if_pos h,if_pos h]
  rcases four (Int.emod_nonneg c ↥0) h with e | e | e | e<;>rw [e]<;>decide
 ·rw [if_neg h,if_neg h]
  by_cases h2:c%8<6
  ·rw [if_pos h2,if_pos h2];omega
  ·rw [if_neg h2,if_neg h2];omega
def eD (E F c:Int):Int :=
 if c%9<3 then c / 9*73846150927364518273645509182736455091829%(2*pw ↥9)
 else if c%9=3 then c / 9%2*pw ↥9+c / 9 / 2%6
 else if c%9=4 then c / 9%2*pw ↥9+(pw E - 1)*pw F - 3+c / 9 / 2%5
 else if c%9=5 then c / 9%2*pw ↥9+pw F - 2+c / 9 / 2%4
 else if c%9=6 then c / 9%2*pw ↥9+(pw (E - 1) - 1)*pw F - 2+c / 9 / 2%5
 else if c%9=7 then c / 9%2*pw ↥9+(pw E - 1)*pw F+1+c / 9 / 2%(pw F - 1)
 else c / 9%2*pw ↥9+c / 9 / 2 / 4%pw E*pw F+[0,1,pw F - 1,pw (F - 1)].getD (c / 9 / 2%4).toNat 0
theorem rQ {F:Int} (h:1<=F):2<=pw F:=gF (a:=1) h
theorem uo {E:Int} (h:2<=E):4<=pw E:=gF (a:=2) h
theorem um {F:Int} (h:1<=F):pw F=2*pw (F - 1):=by
 have:=gE (a:=F - 1) ⋯
 rw [show F - 1+1=F by omega] at this
 exact this
theorem part0 {P Q b:Int} (hP:0<P) (hQ:0<Q):b / (P*Q)=b / P / Q:=(Int.ediv_ediv_of_nonneg (Int.le_of_lt hP)).symm
theorem part1 {P Q b:Int} (hP:0<P) (hQ:0<Q):b%(P*Q) / Q=b / Q%P:=by
 have e1:=Int.emod_def b (P*Q)
 have e2:b - P*Q*(b / (P*Q))=b+Q*(-(P*(b / (P*Q)))):=by
  rw [Int.mul_neg,<-Int.sub_eq_add_neg,<-Int.mul_assoc,Int.mul_comm Q P]
 rw [e1,e2,Int.add_mul_ediv_left _ _ ⋯,Int.emod_def]
 have e3:b / (P*Q)=b / Q / P:=by rw [Int.mul_comm,Int.ediv_ediv_of_nonneg (Int.le_of_lt hQ)]
 rw [e3]
 omega
theorem part2 {P Q b:Int}:b%(P*Q)%Q=b%Q:=Int.emod_emod_of_dvd b (Int.dvd_mul_left P Q)
theorem CD {P Q b:Int} (hP:0<P) (hQ:0<Q) (h0:0<=b) (h1:b<2*(P*Q)) :
  (0<=b / P / Q/\b / P / Q<=1)/\(0<=b / Q%P/\b / Q%P<P)/\(0<=b%Q/\b%Q<Q):=by
 refine ⟨⟨?_,?_⟩,⟨Int.emod_nonneg _ ⋯,Int.emod_lt_of_pos _ hP⟩,⟨Int.emod_nonneg _ ⋯,Int.emod_lt_of_pos _ hQ⟩⟩
 ·exact Int.ediv_nonneg (Int.ediv_nonneg h0 (Int.le_of_lt hP)) (Int.le_of_lt hQ)
 ·rw [<- part0 hP hQ]
  have:b / (P*Q)<2:=Int.ediv_lt_of_lt_mul (Int.mul_pos hP hQ) h1
  omega
theorem Dx {ns:List Int} {j:Int} (h0:0<=j) (h:¬ j<(ns.length:Int)):ns.getD j.toNat 0=0:=by
 rw [List.getD_eq_getElem?_getD,List.getElem?_eq_none ⋯]
 rfl
theorem VD:oIx (.lst (a::b::c::d::r)) (.int 3)=.ok d:=oU (k:=3) rfl
def sgn (E F b:Int):Int:=b / pw E / pw F
def fld (E F b:Int):Int:=b / pw F%pw E
def fig (F b:Int):Int:=b%pw F
def In (E F b:Int):Prop:=0<=b/\b<pw (E+F+1)
theorem In.parts {E F b:Int} (h:Sz E F) (hb:In E F b):(0<=sgn E F b/\sgn E F b<=1)/\(0<=fld E F b/\fld E F b<pw E)/\(0<=fig F b/\fig F b<pw F):=by
 obtain ⟨h1,h2,h3,h4⟩:=h
 have eW:pw (E+F+1)=2*(pw E*pw F):=by rw [gE ⋯,bW ⋯ ⋯]
 exact CD (P:=pw E) (Q:=pw F) (b:=b) (ak _) (ak _) hb.1 (by rw [<- eW];exact hb.2)
def kindS (E f g:Int):Str:=if f=0 then (if g=0 then "nought" else "faint") else if f=pw E - 1 then (if g=0 then "endless" else "none") else "plain"
def wh (F f g:Int):Int:=if f=0 then g else pw F+g
def lo (E F:Int):Int:=2 - pw (E - 1) - F
def po (E F f:Int):Int:=if f=0 then lo E F else lo E F+f - 1
def frT (w p:Int):Int:=if 0<=p then w*pw p else w
def frB (p:Int):Int:=if 0<=p then 1 else pw (-p)
theorem vK {E F:Int} (h:Sz E F):pw E<=32768:=gF h.2.1
theorem Kb {E F:Int} (h:Sz E F):pw F<=5192296858534827628530496329220096:=gF h.2.2.2
theorem qj {E F:Int} (h:Sz E F):pw (E - 1)<=16384:=gF (b:=14) (by have:=h.2.1;omega)
theorem uB {i:Int} {k:Nat} (h0:0<=i) (h:i<2^k):nb i<=k:=mH.mpr (by
 have:((i.natAbs:Nat):Int)<((2^k:Nat):Int):=by rw [Int.natAbs_of_nonneg h0];simpa using h
 exact Int.ofNat_lt.mp this)
theorem Vs {c k:Int} (h:nb c<=2^20) (hk:0<k):nb (c / k)<=1048576:=EE hk h
theorem si {s t:Int} (h0:0<=s) (h1:s<=1) (ht:nb t<=100000):MulOk s t:=by
 have:nb s<=1:=uB h0 ⋯
 unfold MulOk;omega
theorem qU {k:Int} (h0:0<=k) (h1:k<=1000000):eF (.int 1) (.int k)=.ok (.int (pw k)):=by
 have:nb (1:Int)=1:=by decide
 rw [bX h0 ⋯,Int.one_mul]
theorem V1 {α:Type} (xs:List α) (k:Nat):EV.cut xs (some (k:Int)) none=xs.drop k:=by
 unfold EV.cut
 show (xs.drop (if (k:Int)<0 then ((k:Int)+(xs.length:Int)).toNat else min (k:Int).toNat xs.length)).take (xs.length - (if (k:Int)<0 then ((k:Int)+(xs.length:Int)).toNat else min (k:Int).toNat xs.length))=_
 rw [if_neg ⋯,Int.toNat_natCast]
 by_cases h:k<=xs.length
 ·rw [Nat.min_eq_left h,List.take_of_length_le (by rw [List.length_drop];omega)]
 ·rw [Nat.min_eq_right ⋯,List.drop_eq_nil_of_le ⋯,List.drop_eq_nil_of_le ⋯,List.take_nil]
theorem Sv {α:Type} (xs:List α):EV.cut xs (some 2) none=xs.drop 2:=V1 xs 2
theorem yw {E F b:Int} (h:Sz E F) (hb:In E F b):nb (wh F (fld E F b) (fig F b))<=128:=by
 obtain ⟨_,_,i3⟩:=hb.parts h
 have:=Kb h
 have:=ak F
 unfold wh
 split
 ·exact uB i3.1 ⋯
 ·exact uB ⋯ ⋯
theorem GP {E F b:Int} (h:Sz E F) (hb:In E F b) : -100000<=po E F (fld E F b)/\po E F (fld E F b)<=100000:=by
 obtain ⟨_,i2,_⟩:=hb.parts h
 have:=vK h
 have:=qj h
 have:=ak (E - 1)
 obtain ⟨h1,h2,h3,h4⟩:=h
 unfold po lo
 split<;>omega
theorem J0 {a b:Int} (h:d∈xn a b):∃ k,a<=k/\k<b/\d=.int k:=by
 unfold xn at h
 obtain ⟨k,hk,e⟩:=List.mem_map.mp h
 have:=List.mem_range.mp hk
 exact ⟨a+k,⋯,⋯,e.symm⟩
theorem mY {α:Type} {xs:List α} {lo hi:Option Int} {d:α} (h:d∈EV.cut xs lo hi):d∈xs:=List.mem_of_mem_drop (List.mem_of_mem_take h)
end EV
namespace EV
def cd (E F b:Int):Int:=b%pw ↥9
def rk (E F b:Int):Int:=if pw ↥9<=b then -(cd E F b) else cd E F b
def vl (F c:Int):Int:=if c / pw F=0 then c else (pw F+c%pw F)*pw (c / pw F - 1)
def nn (E F b:Int):Prop:=pw ↥9 - pw F<cd E F b
noncomputable instance {E F b:Int}:Decidable (nn E F b):=inferInstanceAs (Decidable (_<_))
section
variable {E F a b c c':Int}
theorem LJ (h:Sz E F):cd E F b / pw F=fld E F b:=by
 obtain ⟨h1,h2,h3,h4⟩:=h
 unfold cd fld;rw [bW ⋯ ⋯,part1 (ak _) (ak _)]
theorem LI (h:Sz E F):cd E F b%pw F=fig F b:=by
 obtain ⟨h1,h2,h3,h4⟩:=h
 unfold cd fig;rw [bW ⋯ ⋯,part2]
theorem dC (h:Sz E F):4*pw F<=pw ↥9:=by
 obtain ⟨h1,h2,h3,h4⟩:=h
 have:=ak F
 rw [bW ⋯ ⋯];exact Int.mul_le_mul_of_nonneg_right (uo h1) ⋯
theorem tZ (h:Sz E F):pw (E+F+1)=2*pw ↥9:=by
 obtain ⟨h1,h2,h3,h4⟩:=h
 exact gE ⋯
theorem JP (h:Sz E F) (hb:In E F b):sgn E F b=if pw ↥9<=b then 1 else 0:=by
 obtain ⟨h1,h2,h3,h4⟩:=id h
 have e0:sgn E F b=b / pw ↥9:=by unfold sgn;rw [bW ⋯ ⋯,part0 (ak _) (ak _)]
 have hw:=tZ h
 have hp:=ak ↥9
 obtain ⟨b0,b1⟩:=hb
 rw [e0]
 split
 ·rename_i z
  have l:1<=b / pw ↥9:=Int.le_ediv_of_mul_le hp ⋯
  have u:b / pw ↥9<2:=Int.ediv_lt_of_lt_mul hp ⋯
  omega
 ·rename_i z
  exact Int.ediv_eq_zero_of_lt b0 ⋯
theorem Ft:vl F 0=0:=by unfold vl;simp
theorem wQ (h0:0<=c) (h:c<c'):vl F c<vl F c':=by
 have hQ:=ak F
 have hm:c / pw F<=c' / pw F:=Int.ediv_le_ediv hQ ⋯
 have hf0:0<=c / pw F:=Int.ediv_nonneg h0 ⋯
 have e:=Int.mul_ediv_add_emod c (pw F)
 have e':=Int.mul_ediv_add_emod c' (pw F)
 have r0:=Int.emod_nonneg c (show pw F≠0 by omega)
 have r1:=Int.emod_lt_of_pos c hQ
 have s0:=Int.emod_nonneg c' (show pw F≠0 by omega)
 have s1:=Int.emod_lt_of_pos c' hQ
 unfold vl
 generalize c / pw F=f at *
 generalize c' / pw F=f' at *
 generalize c%pw F=r at *
 generalize c'%pw F=r' at *
 by_cases z:f=0
 ·rw [if_pos z]
  subst z
  by_cases z':f'=0
  ·rw [if_pos z'];exact h
  ·rw [if_neg z']
   have p1:1<=pw (f' - 1):=ak _
   have:(pw F+r')*1<=(pw F+r')*pw (f' - 1):=Int.mul_le_mul_of_nonneg_left p1 ⋯
   rw [Int.mul_zero] at e
   omega
 ·rw [if_neg z,if_neg ⋯]
  by_cases q:f=f'
  ·subst q
   exact Int.mul_lt_mul_of_pos_right ⋯ (ak _)
  ·have e1:pw f=2*pw (f - 1):=um ⋯
   have e2:pw f<=pw (f' - 1):=gF ⋯
   have k1:(pw F+r)*pw (f - 1)<(2*pw F)*pw (f - 1):=Int.mul_lt_mul_of_pos_right ⋯ (ak _)
   have k2:(2*pw F)*pw (f - 1)=pw F*pw f:=by rw [e1,Int.mul_comm 2,Int.mul_assoc]
   have k3:pw F*pw f<=pw F*pw (f' - 1):=Int.mul_le_mul_of_nonneg_left e2 ⋯
   have k4:pw F*pw (f' - 1)<=(pw F+r')*pw (f' - 1):=Int.mul_le_mul_of_nonneg_right ⋯ (Int.le_of_lt (ak _))
   omega
theorem Ec (h0:0<=c) (h1:0<=c'):(vl F c<vl F c'↔c<c')/\(vl F c=vl F c'↔c=c'):=by
 rcases Int.lt_trichotomy c c' with q | q | q
 ·have:=wQ (F:=F) h0 q;omega
 ·subst q;omega
 ·have:=wQ (F:=F) h1 q;omega
theorem i9 (h0:0<=c):0<=vl F c/\(vl F c=0↔c=0):=by
 have:=Ec (F:=F) (Int.le_refl 0) h0
 have:=Ec (F:=F) h0 (Int.le_refl 0)
 rw [Ft] at *
 omega
theorem Fu (h:Sz E F) (h0:0<=c) (h1:c<pw ↥9):c / pw F<pw E/\0<=c / pw F:=by
 obtain ⟨k1,k2,k3,k4⟩:=h
 refine ⟨Int.ediv_lt_of_lt_mul (ak _) ?_,Int.ediv_nonneg h0 (Int.le_of_lt (ak _))⟩
 rw [<- bW ⋯ ⋯];exact h1
def ab (E F b:Int):Int:=if rk E F b=pw ↥9 - pw F then b else if rk E F b<0 then pw ↥9 - (rk E F b+1) else rk E F b+1
def be (E F b:Int):Int:=if rk E F b = -(pw ↥9 - pw F) then b else if 0<rk E F b then rk E F b - 1 else pw ↥9 - (rk E F b - 1)
theorem end_is (h:Sz E F):(pw E - 1)*pw F=pw ↥9 - pw F:=by
 obtain ⟨h1,h2,h3,h4⟩:=h
 rw [bW ⋯ ⋯,Int.sub_mul,Int.one_mul]
theorem cP {x a b:PySem.Str}:oIn (.str x) (.tup [.str a,.str b])=.ok (.bl (decide (a=x\/b=x))):=by
 unfold oIn isIn
 simp only [D.sc,List.all_cons,List.all_nil,Bool.and_self,Bool.and_true,if_true,List.any_cons,List.any_nil,D.beq,Bool.or_false]
 by_cases h1:a=x<;>by_cases h2:b=x<;>simp [h1,h2]
end
end EV
namespace EV
section
variable {t n p k a b c:Int}
theorem bZ (h:p<=0):pw p=1:=by unfold pw;rw [Int.toNat_of_nonpos h];rfl
theorem fm (hc:0<c):a*c<b*c↔a<b:=⟨fun h=>Int.lt_of_mul_lt_mul_right h (Int.le_of_lt hc),fun h=>Int.mul_lt_mul_of_pos_right h hc⟩
theorem uk (hk:0<=k):pw (p+k)*pw (-p)=pw k*pw p*pw (-(p+k)):=by
 by_cases h1:0<=p
 ·rw [bZ (p := -p) ⋯,bZ (p := -(p+k)) ⋯,bW h1 hk,Int.mul_one,Int.mul_one,Int.mul_comm]
 ·by_cases h2:0<=p+k
  ·rw [bZ (p:=p) ⋯,bZ (p := -(p+k)) ⋯,<-bW h2 ⋯,show p+k + -p=k by omega];omega
  ·rw [bZ (p:=p) ⋯,bZ (p:=p+k) ⋯,Int.one_mul,Int.mul_one,<-bW hk ⋯,show k + -(p+k) = -p by omega]
def Lt (t n p:Int):Prop:=t*pw (-p)<n*pw p
noncomputable instance:Decidable (Lt t n p):=inferInstanceAs (Decidable (_<_))
theorem jw (hk:0<=k):t*pw (-p)<pw k*(n*pw p)↔Lt t n (p+k):=by
 have z1:=ak (-(p+k))
 have z2:=ak (-p)
 unfold Lt
 rw [<- fm z1,<-fm (a:=t*pw (-(p+k))) z2]
 have e1:pw k*(n*pw p)*pw (-(p+k))=n*pw (p+k)*pw (-p):=by
  rw [Int.mul_assoc n,uk hk,<-Int.mul_assoc (pw k),Int.mul_comm (pw k) n]
  simp only [Int.mul_assoc]
 have e2:t*pw (-p)*pw (-(p+k))=t*pw (-(p+k))*pw (-p):=Int.mul_right_comm ..
 rw [e1,e2]
theorem K4 (h:0<t):pw ((nb t:Int) - 1)<=t:=by
 have h1:¬ nb t<=nb t - 1:=by
  have:nb t≠0:=fun z=>by
   have:=mH.mp (Nat.le_of_eq z)
   omega
  omega
 rw [mH] at h1
 have h2:((2^(nb t - 1):Nat):Int)<=t:=⋯
 unfold pw
 rw [show ((nb t:Int) - 1).toNat=nb t - 1 by omega]
 simpa using h2
theorem sf (h:0<t):1<=nb t:=by
 rcases Nat.eq_zero_or_pos (nb t) with z | z
 ·have:=mH.mp (Nat.le_of_eq z)
  omega
 ·exact z
def hgt (t n:Int):Int:=if Lt t n (nb t - nb n) then (nb t - nb n:Int) else nb t - nb n+1
theorem NA (ht:0<t) (hn:0<n):Lt t n ((nb t:Int) - nb n+1):=by
 have l1:=kr (i:=t) ⋯
 have l2:=K4 hn
 have l3:=sf hn
 unfold Lt
 generalize hp:(nb t:Int) - nb n+1=p
 have e:=uk (p:=p) (k:=(nb n:Int) - 1) ⋯
 rw [show p+((nb n:Int) - 1)=nb t by omega,bZ (p := -(nb t:Int)) ⋯,Int.mul_one] at e
 have k1:t*pw (-p)<pw (nb t)*pw (-p):=Int.mul_lt_mul_of_pos_right l1 (ak _)
 have k2:pw ((nb n:Int) - 1)*pw p<=n*pw p:=Int.mul_le_mul_of_nonneg_right l2 (Int.le_of_lt (ak _))
 omega
theorem Hz (ht:0<t) (hn:0<n):¬ Lt t n ((nb t:Int) - nb n - 1):=by
 have l1:=K4 ht
 have l2:=kr (i:=n) ⋯
 have l3:=sf ht
 unfold Lt
 generalize hp:(nb t:Int) - nb n - 1=p
 have e:=uk (p:=p) (k:=(nb n:Int)) ⋯
 rw [show p+(nb n:Int)=(nb t:Int) - 1 by omega,bZ (p := -((nb t:Int) - 1)) ⋯,Int.mul_one] at e
 have k1:pw ((nb t:Int) - 1)*pw (-p)<=t*pw (-p):=Int.mul_le_mul_of_nonneg_right l1 (Int.le_of_lt (ak _))
 have k2:n*pw p<pw (nb n)*pw p:=Int.mul_lt_mul_of_pos_right l2 (ak _)
 omega
theorem Ak (ht:0<t) (hn:0<n):Lt t n (hgt t n)/\¬ Lt t n (hgt t n - 1)/\hgt t n<=nb t /\ -(nb n:Int)<=hgt t n:=by
 have l1:=sf ht
 have l2:=sf hn
 unfold hgt
 by_cases g:Lt t n (nb t - nb n)
 ·rw [if_pos g]
  exact ⟨g,Hz ht hn,⋯,⋯⟩
 ·rw [if_neg g]
  refine ⟨NA ht hn,?_,⋯,⋯⟩
  rw [show (nb t:Int) - nb n+1 - 1=nb t - nb n by omega]
  exact g
theorem uF (hn:0<n) (h:Lt t n p) (hq:p<=q):Lt t n q:=by
 have:=(jw (t:=t) (n:=n) (p:=p) (k:=q - p) ⋯).mp (by
  have z:1<=pw (q - p):=ak _
  have y:0<n*pw p:=Int.mul_pos hn (ak _)
  have:=Int.mul_le_mul_of_nonneg_right z (Int.le_of_lt y)
  unfold Lt at h
  omega)
 rw [show p+(q - p)=q by omega] at this
 exact this
def eZ (E F t n:Int):Int:=max (lo E F) (hgt t n - F - 1)
def iG (p t:Int):Int:=t*pw (-p)
def gj (p n:Int):Int:=n*pw p
def rst (l s:Int):Int:=if l=0 then 0 else if 2*l<s then 1 else if 2*l=s then 2 else 3
theorem l4 (hn:0<n):0<gj p n:=Int.mul_pos hn (ak _)
theorem qH (ht:0<=t):0<=iG p t:=Int.mul_nonneg ht (Int.le_of_lt (ak _))
variable {E F:Int}
theorem lr (h:Sz E F) : -20000<=lo E F/\lo E F <= -1:=by
 have:=qj h
 have:2<=pw (E - 1):=rQ (by have:=h.1;omega)
 obtain ⟨h1,h2,h3,h4⟩:=h
 unfold lo
 omega
theorem qF (h:Sz E F) (ht:0<t) (hn:0<n) :
  lo E F<=eZ E F t n/\eZ E F t n<=nb t/\iG (eZ E F t n) t<2*pw F*gj (eZ E F t n) n/\(lo E F<eZ E F t n->pw F*gj (eZ E F t n) n<=iG (eZ E F t n) t):=by
 obtain ⟨g1,g2,g3,g4⟩:=Ak ht hn
 have l:=lr h
 obtain ⟨h1,h2,h3,h4⟩:=h
 have e:2*pw F=pw (F+1):=(gE ⋯).symm
 refine ⟨by unfold eZ;omega,by unfold eZ;omega,?_,fun q => ?_⟩
 ·rw [e]
  unfold iG gj
  rw [jw ⋯]
  exact uF hn g1 (by unfold eZ;omega)
 ·have hP:eZ E F t n=hgt t n - F - 1:=by unfold eZ at q ⊢;omega
  have:=fun z=>g2 (by
   have:=(jw (t:=t) (n:=n) (p:=eZ E F t n) (k:=F) ⋯).mp z
   rw [hP,show hgt t n - F - 1+F=hgt t n - 1 by omega] at this
   exact this)
  have:=Int.not_lt.mp this
  unfold iG gj
  omega
theorem Ht (hA:0<=A) (hB:0<B) (hK:nb K<=m) (hm:m<=4000) (hw:A<K*B):iF A B:=by
 refine ⟨hB,.inr ?_⟩
 have n2:=d9 hK (Nat.le_refl (nb B))
 have n3:nb A<=nb (K*B):=fW ⋯
 omega
def fQ (E F t n:Int):Int:=max (lo E F) ((hgt t n+1) / 2 - F - 1)
theorem rM (h:Sz E F) (ht:0<t) (hn:0<n) :
  lo E F<=fQ E F t n/\fQ E F t n<=nb t/\iG ↥23 t<(2*pw F)*(2*pw F)*gj ↥23 n/\(lo E F<fQ E F t n->pw F*pw F*gj ↥23 n<=iG ↥23 t):=by
 obtain ⟨g1,g2,g3,g4⟩:=Ak ht hn
 have l:=lr h
 have nt:=sf ht
 obtain ⟨h1,h2,h3,h4⟩:=h
 have e:(2*pw F)*(2*pw F)=pw (2*F+2):=by
  rw [show 2*pw F=pw (F+1) from (gE ⋯).symm,<-bW ⋯ ⋯];congr 1;omega
 have e2:pw F*pw F=pw (2*F):=by rw [<- bW ⋯ ⋯];congr 1;omega
 refine ⟨by unfold fQ;omega,by unfold fQ;omega,?_,fun q => ?_⟩
 ·rw [e]
  unfold iG gj
  rw [jw ⋯]
  exact uF hn g1 (by unfold fQ;omega)
 ·rw [e2]
  have:=fun z=>g2 (by
   have:=(jw (t:=t) (n:=n) (p:=2*fQ E F t n) (k:=2*F) ⋯).mp z
   exact uF hn this (by unfold fQ at q ⊢;omega))
  have:=Int.not_lt.mp this
  unfold iG gj
  omega
def IJ (r A B:Int):Int:=if r*r*B=A then 0 else if 4*A<(2*r+1)*(2*r+1)*B then 1 else if 4*A=(2*r+1)*(2*r+1)*B then 2 else 3
theorem K5 (h:Sz E F) (hA:0<=A) (hB:0<B) (hw:A<2*pw F*B):iF A B:=by
 refine ⟨hB,.inr ?_⟩
 have n1:nb (2*pw F)<=2+113:=d9 ↥0 (gM (c:=112) h.2.2.2)
 have n2:=d9 n1 (Nat.le_refl (nb B))
 have n3:nb A<=nb (2*pw F*B):=fW ⋯
 omega
end
def EY (n r:Int):Prop:=0<=r/\r*r<=n/\n<(r+1)*(r+1)
end EV
namespace EV
section
variable {E F t n P w l A B K D:Int}
def codeOf (E F P w:Int):Int:=(P - lo E F)*pw F+w
theorem MU (hB:0<B) (hK:0<K) (l0:0<=l) (l1:l<B) (e:D*B=l*K):0<=D/\D<K/\(D=0↔l=0)/\(2*D<K↔2*l<B)/\(2*D=K↔2*l=B):=by
 have k0:0<=l*K:=Int.mul_nonneg l0 (Int.le_of_lt hK)
 have d0:0<=D:=by
  refine Classical.byContradiction fun q => ?_
  have:=Int.mul_neg_of_neg_of_pos (show D<0 by omega) hB
  omega
 have d1:D<K:=by
  rw [<- fm hB,e,Int.mul_comm K]
  exact Int.mul_lt_mul_of_pos_right l1 hK
 have e2:2*D*B=2*l*K:=by rw [Int.mul_assoc,e,Int.mul_assoc]
 refine ⟨d0,d1,⟨fun q => ?_,fun q => ?_⟩,?_,?_⟩
 ·rw [q,Int.zero_mul] at e
  rcases Int.mul_eq_zero.mp e.symm with z | z
  ·exact z
  ·omega
 ·rw [q,Int.zero_mul] at e
  rcases Int.mul_eq_zero.mp e with z | z
  ·exact z
  ·omega
 ·rw [<- fm hB,e2,Int.mul_comm K,fm hK]
 ·constructor
  ·intro q
   rw [q,Int.mul_comm] at e2
   exact (Int.eq_of_mul_eq_mul_right ⋯ e2).symm
  ·intro q
   rw [q,Int.mul_comm B] at e2
   exact Int.eq_of_mul_eq_mul_right ⋯ e2
end
section
variable {E F T n c:Int}
end
section
variable {E F T n c c' r r' s t w p:Int}
theorem au (h:Sz E F) (hs:0<=s/\s<=1) (c0:0<=c) (c1:c<pw ↥9):In E F ↥27/\sgn E F ↥27=s/\fld E F ↥27=c / pw F/\fig F ↥27=c%pw F:=by
 obtain ⟨k1,k2,k3,k4⟩:=id h
 have e1:cd E F ↥27=c:=by
  unfold cd
  rw [Int.add_comm,Int.add_mul_emod_self_right,Int.emod_eq_of_lt c0 c1]
 have e2:pw (E+F+1)=2*pw ↥9:=gE ⋯
 have hb:In E F ↥27:=by
  unfold In
  rw [e2]
  rcases (by omega:s=0\/s=1) with e | e<;>subst e<;>omega
 refine ⟨hb,?_,?_,?_⟩
 ·rw [JP h hb]
  rcases (by omega:s=0\/s=1) with e | e<;>subst e
  ·rw [if_neg ⋯]
  ·rw [if_pos ⋯]
 ·have:=LJ (b:=s*pw ↥9+c) h
  rw [e1] at this
  exact this.symm
 ·have:=LI (b:=s*pw ↥9+c) h
  rw [e1] at this
  exact this.symm
theorem BF:wh F (c / pw F) (c%pw F)*pw (po E F (c / pw F) - lo E F)=vl F c:=by
 unfold wh po vl
 split
 ·rename_i g
  rw [Int.sub_self,show pw 0=1 from rfl,Int.mul_one]
  have e:=Int.ediv_mul_add_emod c (pw F)
  rw [g] at e
  omega
 ·rw [show lo E F+c / pw F - 1 - lo E F=c / pw F - 1 by omega]
theorem Ki (c0:0<=c):lo E F<=po E F (c / pw F):=by
 have:=Int.ediv_nonneg c0 (Int.le_of_lt (ak F))
 unfold po
 split<;>omega
theorem HK (h:Sz E F) (hp:lo E F<=p):frT w p*pw (-(lo E F))=w*pw (p - lo E F)*frB p:=by
 have l:=lr h
 unfold frT frB
 split
 ·rw [Int.mul_assoc,<-bW ⋯ ⋯,Int.mul_one,show p + -lo E F=p - lo E F by omega]
 ·rw [Int.mul_assoc,<-bW ⋯ ⋯,show p - lo E F + -p = -lo E F by omega]
end
end EV
namespace EV
inductive Wy where
 | even | away | nought | up | down
def Wy.s:Wy->PySem.Str
 | .even=>"even" | .away=>"away" | .nought=>"nought" | .up=>"up" | .down=>"down"
def Wy.out:Wy->Int->Bool
 | .up,s=>decide (s=0)
 | .down,s=>decide (s=1)
 | _,_=>false
def Wy.brs:Wy->Int->Bool
 | .even,_=>true
 | .away,_=>true
 | w,s=>w.out s
def Wy.grw:Wy->Int->Bool->Int->Bool
 | .even,_,odd,r=>decide (r=3)||(decide (r=2)&&odd)
 | .away,_,_,r=>decide (2<=r)
 | w,s,_,_=>w.out s
def wO (w:Wy):D:=.ins "Way" [("name",.str w.s)]
def b9:List PySem.Str:=["even","away","nought","up","down"]
def stK (w:Wy) (E F s c r:Int):Int:=if pw ↥9 - pw F<=c then (if w.brs s then pw ↥9 - pw F else pw ↥9 - pw F - 1) else if r=0 then c else if w.grw s (decide (c%2=1)) r then c+1 else c
def stF (w:Wy) (E F s c r:Int):Int:=if pw ↥9 - pw F<=c then 5 else if r=0 then 0 else if stK w E F s c r=pw ↥9 - pw F then 5 else if c<pw F then 3 else 1
theorem sd (h:0<=i):mD (.int i) (.int 1)=.ok (.int (i%2)):=by
 unfold mD
 simp only
 rw [if_pos ⟨h,by decide⟩]
 congr 2
 rw [show (1:Int).toNat=1 from rfl,Nat.and_one_is_mod]
 omega
theorem iV {x:PySem.Str} {ys:List PySem.Str}:dE (.str x) (.tup (ys.map D.str))=.ok (.bl (decide (x∉ys))):=by
 have h1:∀ ys:List PySem.Str,(ys.map D.str).all D.sc=true:=fun ys=>by induction ys with
  | nil=>rfl
  | cons a l ih=>simp only [List.map_cons,List.all_cons,ih,D.sc,Bool.and_self]
 have h2:∀ ys:List PySem.Str,((ys.map D.str).any fun y=>D.beq y (.str x))=decide (x∈ys):=fun ys=>by induction ys with
  | nil=>rfl
  | cons a l ih =>
   simp only [List.map_cons,List.any_cons,ih,D.beq]
   by_cases h:a=x
   ·subst h;simp
   ·have:¬ x=a:=fun z=>h z.symm
    simp [h,this]
 unfold dE oIn isIn
 simp only [D.sc,h1,Bool.and_self,if_true,h2,R.bind]
 by_cases h:x∈ys<;>simp [h]
section
variable {E F s T T' n k c c' r r':Int} {w:Wy}
theorem JM (h:Sz E F) (c0:0<=c):0<=stK w E F s c r/\stK w E F s c r<=pw ↥9 - pw F:=by
 have h5:=dC h
 have hQ:=ak F
 unfold stK
 repeat' split
 all_goals omega
end
section
variable {E F s T T' n n' k c c' r r' b W P:Int} {w:Wy}
theorem fG (h:Sz E F) (hb:In E F b):∃ s c,(0<=s/\s<=1)/\0<=c/\c<pw ↥9/\b=s*pw ↥9+c:=by
 have hw:=tZ h
 have hH:=ak ↥9
 obtain ⟨b0,b1⟩:=hb
 by_cases g:b<pw ↥9
 ·exact ⟨0,b,by decide,b0,g,⋯⟩
 ·exact ⟨1,b - pw ↥9,by decide,⋯,⋯,⋯⟩
theorem rm (hs:0<=s/\s<=1) (c0:0<=c) (c1:c<pw ↥9):↥27%pw ↥9=c/\↥27 / pw ↥9=s:=by
 have hH:=ak ↥9
 rw [Int.add_comm,Int.add_mul_emod_self_right,Int.emod_eq_of_lt c0 c1,Int.add_mul_ediv_right _ _ ⋯,Int.ediv_eq_zero_of_lt c0 c1]
 omega
theorem lR (h:Sz E F) (c0:0<=c) (c1:c<pw ↥9):c / pw F=pw E - 1↔pw ↥9 - pw F<=c:=by
 have hQ:=ak F
 have eM:=end_is h
 constructor
 ·intro z
  have:=Int.ediv_mul_le c (show pw F≠0 by omega)
  rw [z,eM] at this
  exact this
 ·intro z
  have a:=Int.le_ediv_of_mul_le (a:=pw E - 1) (b:=c) hQ (by rw [eM];exact z)
  have b:=(Fu h c0 c1).1
  omega
theorem fo (h:Sz E F) (c0:0<=c) (c1:c<pw ↥9) :
  (pw ↥9 - pw F<c->kindS E (c / pw F) (c%pw F)=PySem.Str.ofString "none")/\(c=pw ↥9 - pw F->kindS E (c / pw F) (c%pw F)=PySem.Str.ofString "endless")/\(c=0->kindS E (c / pw F) (c%pw F)=PySem.Str.ofString "nought") /\
  (0<c->c<pw ↥9 - pw F->kindS E (c / pw F) (c%pw F)=PySem.Str.ofString "faint"\/kindS E (c / pw F) (c%pw F)=PySem.Str.ofString "plain"):=by
 have hQ:=ak F
 have h5:=dC h
 have eM:=end_is h
 have hE:=uo h.1
 have l:=lR h c0 c1
 have e:=Int.ediv_mul_add_emod c (pw F)
 have r0:=Int.emod_nonneg c (show pw F≠0 by omega)
 unfold kindS
 refine ⟨fun q => ?_,fun q => ?_,fun q => ?_,fun q q2 => ?_⟩
 ·have f:=l.mpr ⋯
  rw [f,eM] at e
  rw [f,if_neg ⋯,if_pos rfl,if_neg ⋯]
 ·have f:=l.mpr ⋯
  rw [f,eM] at e
  rw [f,if_neg ⋯,if_pos rfl,if_pos ⋯]
 ·rw [q,Int.zero_ediv,Int.zero_emod,if_pos rfl,if_pos rfl]
 ·have f:¬ c / pw F=pw E - 1:=fun z=>by have:=l.mp z;omega
  by_cases g:c / pw F=0
  ·rw [g] at e
   rw [if_pos g,if_neg ⋯]
   exact .inl rfl
  ·rw [if_neg g,if_neg f]
   exact .inr rfl
theorem qB (h:Sz E F) (c0:0<=c) (c1:c<pw ↥9 - pw F) :
  0<=frT (wh F (c / pw F) (c%pw F)) (po E F (c / pw F))/\0<frB (po E F (c / pw F))/\nb (frT (wh F (c / pw F) (c%pw F)) (po E F (c / pw F)))<=200000/\nb (frB (po E F (c / pw F)))<=200000:=by
 have hQ:=ak F
 have hb:=(au (s:=0) (c:=c) h ↥0 c0 ⋯)
 have nw:=yw h hb.1
 have np:=GP h hb.1
 rw [hb.2.2.1,hb.2.2.2] at nw
 rw [hb.2.2.1] at np
 have w0:0<=wh F (c / pw F) (c%pw F):=by
  have:=Int.emod_nonneg c (show pw F≠0 by omega)
  unfold wh
  split<;>omega
 generalize wh F (c / pw F) (c%pw F)=W at *
 generalize po E F (c / pw F)=P at *
 refine ⟨?_,?_,?_,?_⟩
 ·unfold frT;split
  ·exact Int.mul_nonneg w0 (Int.le_of_lt (ak _))
  ·exact w0
 ·unfold frB;split
  ·decide
  ·exact ak _
 ·unfold frT;split
  ·have:=d9 nw (gM (k:=P) (c:=100000) ⋯);omega
  ·omega
 ·unfold frB;split
  ·decide
  ·exact Nat.le_trans (gM (c:=100000) ⋯) ↥0
end
section
variable {E F E2 F2 c:Int}
theorem Jj (h:Sz E F):vl F (pw ↥9 - pw F)=pw (pw (E - 1) + -(lo E F)):=by
 obtain ⟨h1,h2,h3,h4⟩:=id h
 have hQ:=ak F
 have hE:=uo h1
 have e2:pw E=2*pw (E - 1):=by
  have:=gE (a:=E - 1) ⋯
  rw [show E - 1+1=E by omega] at this
  exact this
 unfold vl
 rw [<- end_is h,Int.mul_ediv_cancel _ ⋯,Int.mul_emod_left,if_neg ⋯,Int.add_zero,<-bW ⋯ ⋯]
 congr 1
 unfold lo
 omega
end
section
variable {E F s t n c T Z:Int} {w:Wy}
end
theorem Eo {E F s c r:Int}:0<=stF w E F s c r:=by
 unfold stF
 repeat' split
 all_goals decide
section
variable {E F P S A B G X t n r c:Int}
def RAt (F S c r:Int):Prop:=0<=c/\vl F c*vl F c<=S/\S<vl F (c+1)*vl F (c+1)/\((r=0/\vl F c*vl F c=S)\/(vl F c*vl F c<S/\((r=1/\4*S - (vl F c+vl F (c+1))*(vl F c+vl F (c+1))<0)\/(r=2/\4*S - (vl F c+vl F (c+1))*(vl F c+vl F (c+1))=0)\/(r=3/\0<4*S - (vl F c+vl F (c+1))*(vl F c+vl F (c+1))))))
theorem pV {a b:Int} (ha:0<=a) (h:a<=b):a*a<=b*b:=Int.mul_le_mul h h ha ⋯
theorem Jk (hF:1<=F):vl F 1=1:=by
 have:=rQ hF
 unfold vl
 rw [Int.ediv_eq_zero_of_lt ↥0 ⋯,if_pos rfl]
theorem yx:vl F (pw F)=pw F:=by
 have hQ:=ak F
 unfold vl
 rw [Int.ediv_self ⋯,Int.emod_self,if_neg ↥0,Int.add_zero,show pw ((1:Int) - 1)=1 from rfl,Int.mul_one]
theorem yV (h:Sz E F) (c0:0<c) (c1:c<pw ↥9 - pw F) {d:Int} (a:RAt F (vl F c*pw (-(lo E F))) d r):1<=d/\d+1<pw ↥9 - pw F/\(vl F c*pw (-(lo E F))<pw F*pw F↔d<pw F):=by
 obtain ⟨k1,k2,k3,k4⟩:=id h
 obtain ⟨d0,a1,a2,a3⟩:=a
 have hQ:=rQ k3
 have h5:=dC h
 have l:=lr h
 have hZ:=ak (-(lo E F))
 have hH:=rQ (F:=E - 1) ⋯
 have vc:=i9 (F:=F) (Int.le_of_lt c0)
 have S1:1<=vl F c*pw (-(lo E F)):=Int.mul_pos ⋯ hZ
 have vd:=i9 (F:=F) d0
 refine ⟨?_,?_,?_,?_⟩
 ·refine Classical.byContradiction fun q => ?_
  have e:d=0:=⋯
  rw [e,show (0:Int)+1=1 from rfl,Jk k3] at a2
  omega
 ·have e2:pw E=2*pw (E - 1):=by
   have:=gE (a:=E - 1) ⋯
   rw [show E - 1+1=E by omega] at this
   exact this
  have eM:=end_is h
  have vm:vl F (pw ↥9 - pw F - pw F)=pw (pw (E - 1) - 1 + -(lo E F)):=by
   unfold vl
   rw [<- eM,show (pw E - 1)*pw F - pw F=(pw E - 2)*pw F by rw [show pw E - 2=pw E - 1 - 1 by omega,Int.sub_mul (pw E - 1),Int.one_mul],Int.mul_ediv_cancel _ ⋯,Int.mul_emod_left,if_neg ⋯,Int.add_zero,<-bW ⋯ ⋯]
   congr 1
   unfold lo
   omega
  have lt:d<pw ↥9 - pw F - pw F:=by
   refine Classical.byContradiction fun q => ?_
   have b1:pw (pw (E - 1) - 1 + -(lo E F))<=vl F d:=by
    rw [<- vm]
    rcases Int.lt_or_eq_of_le (show pw ↥9 - pw F - pw F<=d by omega) with z | z
    ·exact Int.le_of_lt (wQ ⋯ z)
    ·rw [z];exact Int.le_refl _
   have b2:=pV (Int.le_of_lt (ak _)) b1
   have b3:=wQ (F:=F) (Int.le_of_lt c0) c1
   rw [Jj h] at b3
   have b4:=Int.mul_lt_mul_of_pos_right b3 hZ
   rw [<- bW ⋯ ⋯] at b2 b4
   have:=gF (a:=pw (E - 1) + -(lo E F) + -(lo E F)) (b:=pw (E - 1) - 1 + -(lo E F)+(pw (E - 1) - 1 + -(lo E F))) ⋯
   omega
  omega
 ·intro q
  refine Classical.byContradiction fun z => ?_
  have:pw F<=vl F d:=by
   rw [<- yx (F:=F)]
   rcases Int.lt_or_eq_of_le (show pw F<=d by omega) with y | y
   ·rw [yx]
    have:=wQ (F:=F) (c:=pw F) ⋯ y
    rw [yx] at this
    omega
   ·rw [y];exact Int.le_refl _
  have:=pV (show 0<=pw F by omega) this
  omega
 ·intro q
  have:vl F (d+1)<=pw F:=by
   rcases Int.lt_or_eq_of_le (show d+1<=pw F by omega) with y | y
   ·have:=wQ (F:=F) (c:=d+1) ⋯ y
    rw [yx] at this
    omega
   ·rw [y,yx];exact Int.le_refl _
  have v1:=(i9 (F:=F) (c:=d+1) ⋯).1
  have:=pV v1 this
  omega
end
section
variable {E F s c r:Int}
end
end EV
namespace EV
open PySem
variable {E F s s' c c':Int}
def sx (s s':Int):Int:=if s=s' then 0 else 1
theorem wW:0<=sx s s'/\sx s s'<=1:=by unfold sx;split<;>decide
theorem Ge (hs:0<=s/\s<=1) (hs':0<=s'/\s'<=1):qm (.int s) (.int s')=.ok (.int (sx s s')):=by
 rcases (by omega:s=0\/s=1) with e | e<;>rcases (by omega:s'=0\/s'=1) with e' | e'<;>subst e e'<;>rfl
theorem iy (h:Sz E F) (c0:0<=c) (c1:c<pw ↥9):(kindS E (c / pw F) (c%pw F)=Str.ofString "none"↔pw ↥9 - pw F<c)/\(kindS E (c / pw F) (c%pw F)=Str.ofString "endless"↔c=pw ↥9 - pw F)/\(kindS E (c / pw F) (c%pw F)=Str.ofString "nought"↔c=0):=by
 have h5:=dC h
 have hQ:=ak F
 obtain ⟨a,b,d,f⟩:=fo h c0 c1
 have n1:Str.ofString "none"≠Str.ofString "endless":=by decide
 have n2:Str.ofString "none"≠Str.ofString "nought":=by decide
 have n3:Str.ofString "endless"≠Str.ofString "nought":=by decide
 have n4:Str.ofString "faint"≠Str.ofString "none"/\Str.ofString "faint"≠Str.ofString "endless"/\Str.ofString "faint"≠Str.ofString "nought":=by decide
 have n5:Str.ofString "plain"≠Str.ofString "none"/\Str.ofString "plain"≠Str.ofString "endless"/\Str.ofString "plain"≠Str.ofString "nought":=by decide
 by_cases g1:pw ↥9 - pw F<c
 ·rw [a g1];exact ⟨⟨fun _=>g1,fun _=>rfl⟩,⟨fun z=>absurd z n1,fun z=>⋯⟩,⟨fun z=>absurd z n2,fun z=>⋯⟩⟩
 by_cases g2:c=pw ↥9 - pw F
 ·rw [b g2];exact ⟨⟨fun z=>absurd z.symm n1,fun z=>⋯⟩,⟨fun _=>g2,fun _=>rfl⟩,⟨fun z=>absurd z n3,fun z=>⋯⟩⟩
 by_cases g3:c=0
 ·rw [d g3];exact ⟨⟨fun z=>absurd z.symm n2,fun z=>⋯⟩,⟨fun z=>absurd z.symm n3,fun z=>⋯⟩,⟨fun _=>g3,fun _=>rfl⟩⟩
 ·rcases f ⋯ ⋯ with e | e<;>rw [e]
  ·exact ⟨⟨fun z=>absurd z n4.1,fun z=>⋯⟩,⟨fun z=>absurd z n4.2.1,fun z=>⋯⟩,⟨fun z=>absurd z n4.2.2,fun z=>⋯⟩⟩
  ·exact ⟨⟨fun z=>absurd z n5.1,fun z=>⋯⟩,⟨fun z=>absurd z n5.2.1,fun z=>⋯⟩,⟨fun z=>absurd z n5.2.2,fun z=>⋯⟩⟩
theorem Aq (h:Sz E F) (c0:0<=c):frT (wh F (c / pw F) (c%pw F)) (po E F (c / pw F))*pw (-(lo E F))=vl F c*frB (po E F (c / pw F)):=by
 have fu:=HK (w:=wh F (c / pw F) (c%pw F)) h (Ki (E:=E) (F:=F) c0)
 rw [BF] at fu
 exact fu
theorem vV (h:Sz E F) (c0:0<c) (c1:c<pw ↥9 - pw F):0<frT (wh F (c / pw F) (c%pw F)) (po E F (c / pw F)):=by
 obtain ⟨f1,f2,f3,f4⟩:=qB h (Int.le_of_lt c0) c1
 have fu:=Aq h (Int.le_of_lt c0)
 have vc:=i9 (F:=F) (Int.le_of_lt c0)
 refine Classical.byContradiction fun q => ?_
 have z:frT (wh F (c / pw F) (c%pw F)) (po E F (c / pw F))=0:=⋯
 rw [z,Int.zero_mul] at fu
 have:=Int.mul_pos (show 0<vl F c by omega) f2
 omega
end EV
namespace EV
theorem oY:∀ bs:List Int,D.flats (bs.map D.int)=true
 | []=>rfl
 | b::bs=>by
  rw [List.map_cons]
  unfold D.flats
  rw [oY bs]
  rfl
theorem bw {bs:List Int}:eG (bs.map D.int)=.ok (.lst (bs.map D.int)):=by
 unfold eG
 rw [if_pos (oY bs)]
theorem mZ (f:α->β) (xs:List α) (lo hi:Option Int):EV.cut (xs.map f) lo hi=(EV.cut xs lo hi).map f:=by
 unfold EV.cut
 rw [List.length_map,List.map_take,List.map_drop]
theorem qG (xs:List α) (lo hi:Option Int):(EV.cut xs lo hi).length<=xs.length:=by
 unfold EV.cut
 rw [List.length_take,List.length_drop]
 omega
theorem yS:∀ bs:List Int,(bs.map D.int).all D.sc=true
 | []=>rfl
 | b::bs=>by rw [List.map_cons,List.all_cons,yS bs];rfl
theorem any_ints (x:Int):∀ bs:List Int,((bs.map D.int).any fun y=>D.beq y (.int x))=decide (x∈bs)
 | []=>rfl
 | b::bs=>by
  rw [List.map_cons,List.any_cons,any_ints x bs]
  unfold D.beq
  by_cases h:b=x
  ·subst h;simp
  ·have:¬ x=b:=fun z=>h z.symm
   simp [h,this]
theorem eS {x:Int} {bs:List Int}:oIn (.int x) (.lst (bs.map D.int))=.ok (.bl (decide (x∈bs))):=by
 unfold oIn isIn
 simp only [D.sc,yS,Bool.and_self,if_true,any_ints]
theorem CV {bs:List Int} {k:Int} (h0:0<=k) (h1:k<bs.length):oIx (.lst (bs.map D.int)) (.int k)=.ok (.int (bs.getD k.toNat 0)):=by
 obtain ⟨j,rfl⟩:=Int.eq_ofNat_of_zero_le h0
 have hj:j<bs.length:=⋯
 refine oU ?_
 simp [List.getElem?_map,List.getElem?_eq_getElem hj,List.getD_eq_getElem?_getD]
theorem mf:∀ {ds:List D},(∀ d∈ds,st d=.ok (o d))->runC st ds=.ok (ds.filterMap o)
 | [],_=>rfl
 | d::ds,h=>by
  unfold runC
  rw [h d (.head _),mf fun d hd=>h d (.tail _ hd),List.filterMap_cons]
  cases o d<;>rfl
end EV
namespace EV
open PySem
abbrev Tm:=Int×Int×Int
def tD (t:Tm):D:=.tup [.int t.1,.int t.2.1,.int t.2.2]
def tv (q:Int) (t:Tm):Int:=if t.1=1 then -(t.2.1*pw (t.2.2 - q)) else t.2.1*pw (t.2.2 - q)
def qT (q:Int):List Tm->Int
 | []=>0
 | t::r=>tv q t+qT q r
def qV:List Tm->Int
 | []=>0
 | t::r=>(r.map (·.2.2)).foldl min t.2.2
def vk (t:Tm):Prop:=0<=t.2.1/\nb t.2.1<=1000 /\ -200000<=t.2.2/\t.2.2<=200000
theorem fold_min:∀ (l:List Int) (a:Int),l.foldl min a<=a/\(∀ x∈l,l.foldl min a<=x)/\(l.foldl min a=a\/l.foldl min a∈l)
 | [],a=>⟨Int.le_refl _,fun x hx=>(nomatch hx),.inl rfl⟩
 | b::l,a=>by
  obtain ⟨h1,h2,h3⟩:=fold_min l (min a b)
  rw [List.foldl_cons]
  refine ⟨⋯,fun x hx => ?_,?_⟩
  ·rcases List.mem_cons.mp hx with e | hx
   ·subst e;omega
   ·exact h2 x hx
  ·rcases h3 with e | e
   ·rw [e]
    by_cases g:a<=b
    ·exact .inl ⋯
    ·exact .inr (List.mem_cons.mpr (.inl ⋯))
   ·exact .inr (.tail _ e)
theorem zR (h:t∈ts):qV ts<=t.2.2:=by
 cases ts with
 | nil=>cases h
 | cons a r =>
  obtain ⟨h1,h2,_⟩:=fold_min (r.map (·.2.2)) a.2.2
  rcases List.mem_cons.mp h with e | h
  ·subst e;exact h1
  ·exact h2 _ (List.mem_map.mpr ⟨t,h,rfl⟩)
theorem Df (hn:ts≠[]):∃ t∈ts,qV ts=t.2.2:=by
 cases ts with
 | nil=>exact absurd rfl hn
 | cons x r =>
  obtain ⟨_,_,h3⟩:=fold_min (r.map (·.2.2)) x.2.2
  rcases h3 with e | e
  ·exact ⟨x,.head _,e⟩
  ·obtain ⟨t,ht,e'⟩:=List.mem_map.mp e
   exact ⟨t,.tail _ ht,e'.symm⟩
theorem uD (h0:a<=0/\0<=b) (h:∀ t∈ts,a<=t.2.2/\t.2.2<=b):a<=qV ts/\qV ts<=b:=by
 by_cases g:ts=[]
 ·subst g;exact h0
 ·obtain ⟨t,ht,e⟩:=Df g
  rw [e]
  exact h t ht
theorem ints_of:∀ ns:List Int,intsOf (ns.map D.int)=some ns
 | []=>rfl
 | n::r=>by
  rw [List.map_cons]
  show (intsOf (r.map D.int)).map (n::·)=_
  rw [ints_of r]
  rfl
theorem zS:qR 0 [.lst ((ts.map (·.2.2)).map D.int)]=.ok (.int (qV ts)):=by
 unfold qR
 simp only [ints_of]
 cases ts with
 | nil=>rfl
 | cons t r=>rfl
theorem qf {st:D->R (Option D)} {f:Tm->Int} {ts:List Tm} (h:∀ t∈ts,st (tD t)=.ok (some (.int (f t)))):runC st (ts.map tD)=.ok ((ts.map f).map D.int):=by
 induction ts with
 | nil=>rfl
 | cons t r ih =>
  rw [List.map_cons]
  unfold runC
  rw [h t (.head _),ih fun t ht=>h t (.tail _ ht)]
  rfl
theorem Nz [Decidable P]:nb (if P then -x else x)=nb x:=by
 split
 ·exact zM x
 ·rfl
theorem En:∀ {ts:List Tm},(∀ t∈ts,vk t/\p<=t.2.2/\t.2.2 - p<=450000)->nb (qT p ts)<=451001+ts.length
 | [],_=>by unfold qT;decide
 | t::r,h=>by
  obtain ⟨⟨a1,a2,a3,a4⟩,a5,a6⟩:=h t (.head _)
  have ih:=En (p:=p) (ts:=r) fun t ht=>h t (.tail _ ht)
  have b1:nb (t.2.1*pw (t.2.2 - p))<=451001:=by
   have:=d9 a2 (gM (k:=t.2.2 - p) (c:=450000) ⋯)
   omega
  have b2:nb (tv p t)<=451001:=by
   unfold tv
   split
   ·rw [zM];exact b1
   ·exact b1
  unfold qT
  rw [List.length_cons]
  exact Nat.le_trans (zO b2 ih) ⋯
def wt (E F s c:Int):Tm:=(s,wh F (c / pw F) (c%pw F),po E F (c / pw F))
theorem pR {E F s c:Int} (h:Sz E F) (c0:0<=c) (c1:c<pw ↥9 - pw F):vk (wt E F s c)/\lo E F<=(wt E F s c).2.2/\(wt E F s c).2.2<=20000:=by
 have hQ:=ak F
 obtain ⟨b1,b2,b3,b4⟩:=au (s:=0) (c:=c) h ↥0 c0 ⋯
 have n:=yw h b1
 have i:=GP h b1
 rw [b3] at n i
 rw [b4] at n
 have g:=Ki (E:=E) (F:=F) c0
 have r0:=Int.emod_nonneg c (show pw F≠0 by omega)
 have d1:=(Fu h c0 ⋯).1
 have hE:=vK h
 have l:=lr h
 obtain ⟨k1,k2,k3,k4⟩:=id h
 have hp1:=ak (E - 1)
 have x1 : -200000<=po E F (c / pw F):=⋯
 have x2:po E F (c / pw F)<=200000:=⋯
 refine ⟨⟨?_,Nat.le_trans n ↥0,x1,x2⟩,g,?_⟩
 ·show 0<=wh F (c / pw F) (c%pw F)
  unfold wh
  split<;>omega
 ·show po E F (c / pw F)<=20000
  have:=(Fu h c0 (show c<pw ↥9 by omega)).2
  unfold po lo
  have hE1:=um (F:=E) (by have:=h.1;omega)
  have hE2:=qj h
  split<;>omega
def xD:Tm ⊕ Int->D
 | .inl t=>tD t
 | .inr s=>.tup [.int s,.non,.int 0]
def tW (xs:List (Tm ⊕ Int)):List Int:=xs.filterMap fun x=>match x with | .inl _=>none | .inr s=>some s
def nI (E F:Int) (x:Int×Int):Int:=x.1*pw ↥9+x.2
def qW (E F:Int) (x:Int×Int):Prop:=(0<=x.1/\x.1<=1)/\0<=x.2/\x.2<pw ↥9
def xt (E F:Int) (x:Int×Int):Tm ⊕ Int:=if x.2=pw ↥9 - pw F then .inr x.1 else .inl (wt E F x.1 x.2)
theorem vp {xs:List (Tm ⊕ Int)}:D.flats (xs.map xD)=true:=by
 induction xs with
 | nil=>rfl
 | cons x r ih =>
  rw [List.map_cons]
  show (D.flat (xD x)&&D.flats (r.map xD))=true
  rw [ih]
  cases x<;>rfl
def pm (E F:Int) (x y:Int×Int):Tm:=(sx x.1 y.1,wh F (x.2 / pw F) (x.2%pw F)*wh F (y.2 / pw F) (y.2%pw F),po E F (x.2 / pw F)+po E F (y.2 / pw F))
def pt (E F:Int) (x y:Int×Int):Tm ⊕ Int:=if x.2=pw ↥9 - pw F\/y.2=pw ↥9 - pw F then .inr (sx x.1 y.1) else .inl (pm E F x y)
theorem Kj {E F:Int} (h:Sz E F) (c0:0<=x.2) (c1:x.2<pw ↥9 - pw F) (d0:0<=y.2) (d1:y.2<pw ↥9 - pw F):vk (pm E F x y)/\2*lo E F<=(pm E F x y).2.2/\(pm E F x y).2.2<=40000:=by
 obtain ⟨⟨a1,a2,a3,a4⟩,a5,a6⟩:=pR (s:=0) h c0 c1
 obtain ⟨⟨b1,b2,b3,b4⟩,b5,b6⟩:=pR (s:=0) h d0 d1
 have hQ:=ak F
 obtain ⟨x1,x2,x3,x4⟩:=au (s:=0) (c:=x.2) h ↥0 c0 ⋯
 have n:=yw h x1
 rw [x3,x4] at n
 obtain ⟨y1,y2,y3,y4⟩:=au (s:=0) (c:=y.2) h ↥0 d0 ⋯
 have n':=yw h y1
 rw [y3,y4] at n'
 have l:=lr h
 unfold wt at *
 simp only at *
 unfold pm
 refine ⟨⟨Int.mul_nonneg a1 b1,Nat.le_trans (d9 n n') ↥0,?_,?_⟩,?_,?_⟩<;>simp only<;>omega
def pD (E F:Int) (p:↥30×↥30):D:=.tup [.int (nI E F p.1),.int (nI E F p.2)]
def fl (ps:List (↥30×↥30)):List ↥30:=ps.flatMap fun p=>[p.1,p.2]
theorem oZ:z∈fl ps↔∃ p∈ps,z=p.1\/z=p.2:=by
 unfold fl
 rw [List.mem_flatMap]
 constructor
 ·rintro ⟨p,m,hz⟩
  refine ⟨p,m,?_⟩
  simpa using hz
 ·rintro ⟨p,m,hz⟩
  exact ⟨p,m,by simpa using hz⟩
theorem vZ:∀ ps:List (↥30×↥30),(fl ps).length=2*ps.length
 | []=>rfl
 | p::r=>by
  show ([p.1,p.2]++fl r).length=_
  rw [List.length_append,vZ r,List.length_cons]
  simp
  omega
def ptp (E F:Int) (p:↥30×↥30):Tm ⊕ Int:=pt E F p.1 p.2
def fts (E F:Int) (ps:List (↥30×↥30)) (xs:List ↥30):List Tm:=ps.map (fun p=>pm E F p.1 p.2)++xs.map (fun x=>wt E F x.1 x.2)
section
variable {E F:Int} {ps:List (↥30×↥30)} {xs:List ↥30}
theorem NO (m:p∈ps):p.1∈xs++fl ps:=List.mem_append.mpr (.inr (oZ.mpr ⟨p,m,.inl rfl⟩))
theorem NN (m:p∈ps):p.2∈xs++fl ps:=List.mem_append.mpr (.inr (oZ.mpr ⟨p,m,.inr rfl⟩))
theorem Lr (h:Sz E F) (hx:∀ x∈xs++fl ps,qW E F x) (hf:∀ x∈xs++fl ps,x.2<pw ↥9 - pw F):∀ t∈fts E F ps xs,vk t/\2*lo E F<=t.2.2:=fun t ht=>by
 have l:=lr h
 rcases List.mem_append.mp ht with m | m
 ·obtain ⟨p,m',rfl⟩:=List.mem_map.mp m
  clear m
  rename p∈ps=>m
  obtain ⟨a,b,c⟩:=Kj (x:=p.1) (y:=p.2) h (hx _ (NO m)).2.1 (hf _ (NO m)) (hx _ (NN m)).2.1 (hf _ (NN m))
  exact ⟨a,b⟩
 ·obtain ⟨x,m',rfl⟩:=List.mem_map.mp m
  clear m
  rename x∈xs=>m
  have mm:x∈xs++fl ps:=List.mem_append.mpr (.inl m)
  obtain ⟨a,b,c⟩:=pR (s:=x.1) h (hx _ mm).2.1 (hf _ mm)
  exact ⟨a,⋯⟩
theorem Lq (hf:∀ x∈xs++fl ps,x.2<pw ↥9 - pw F):(ps.map (ptp E F)++xs.map (xt E F)).map xD=(fts E F ps xs).map tD:=by
 unfold fts
 rw [List.map_append,List.map_append,List.map_map,List.map_map,List.map_map,List.map_map]
 congr 1
 ·refine List.map_congr_left fun p m => ?_
  have a:=hf _ (NO m)
  have b:=hf _ (NN m)
  show xD (ptp E F p)=tD (pm E F p.1 p.2)
  unfold ptp pt
  rw [if_neg ⋯]
  rfl
 ·refine List.map_congr_left fun x m => ?_
  have a:=hf _ (List.mem_append.mpr (.inl m))
  show xD (xt E F x)=tD (wt E F x.1 x.2)
  unfold xt
  rw [if_neg ⋯]
  rfl
theorem An:(fts E F ps xs).length=ps.length+xs.length:=by
 unfold fts
 rw [List.length_append,List.length_map,List.length_map]
end
def nsg (w:Wy) (bs:List Int):Int:=if 0∈bs/\1∈bs then (if w.s=PySem.Str.ofString "down" then 1 else 0) else if 1∈bs then 1 else 0
theorem EC (w:Wy) (bs:List Int):0<=nsg w bs/\nsg w bs<=1:=by
 unfold nsg
 split
 ·split<;>decide
 ·split<;>decide
end EV
namespace EV
open PySem
section
variable {w:Wy} {E F Eg Fg Em Fm s c:Int}
end
end EV
namespace EV
open PySem
end EV
namespace EV
open PySem
def Wy.m:Wy->Wy
 | .up=>.down
 | .down=>.up
 | w=>w
noncomputable instance wyDec:DecidableEq Wy:=fun a b=>by cases a<;>cases b<;>first | exact isTrue rfl | exact isFalse (by intro h;cases h)
section
variable {w:Wy} {E F s c r:Int}
end
section
variable {w:Wy} {E F X U sg sg' x y x' y':Int} {u:Prop}
end
end EV
namespace EV
open PySem
end EV
namespace EV
open PySem
end EV
namespace T
open EV
theorem Gr (c:Int):cM [.int c]=.ok (.tup [.int (szE c),.int (szF c)]):=by
 unfold cM dQ
 by_cases h:c%8<4
 ·rcases four (Int.emod_nonneg c ↥0) h with e | e | e | e<;>(simp_arith [e,VD];unfold szE szF;rw [e];rfl)
 ·by_cases h2:c%8<6
  ·simp_arith [h,h2]
   unfold szE szF
   rw [if_neg h,if_pos h2,if_neg h,if_pos h2]
  ·simp_arith [h,h2]
   unfold szE szF
   rw [if_neg h,if_neg h2,if_neg h,if_neg h2]
theorem H4 {ns:List Int} {j:Int} (h0:0<=j):cN [.lst (ns.map .int),.int j]=.ok (.int (ns.getD j.toNat 0)):=by
 unfold cN dR
 by_cases h:j<(ns.length:Int)
 ·have e:oIx (.lst (ns.map D.int)) (.int j)=.ok (.int (ns.getD j.toNat 0)):=by
   obtain ⟨k,rfl⟩:=Int.eq_ofNat_of_zero_le h0
   have hk:k<ns.length:=⋯
   refine oU ?_
   simp [List.getElem?_map,List.getElem?_eq_getElem hk,List.getD_eq_getElem?_getD]
  simp_arith [h,e]
 ·simp_arith [h,Dx h0 h]
theorem M6 {a b c d r:Int} (h0:0<=r) (h1:r<4):oIx (.lst [.int a,.int b,.int c,.int d]) (.int r)=.ok (.int ([a,b,c,d].getD r.toNat 0)):=by
 rcases four h0 h1 with e | e | e | e<;>subst e<;>rfl
theorem xT {E F c:Int} (h:Sz E F) (hc:nb c<=2^20):bD [.tup [.int E,.int F],.int c]=.ok (.int (eD E F c)):=by
 obtain ⟨h1,h2,h3,h4⟩:=id h
 have n1:nb (pw ↥9)<=128:=gM (c:=127) ⋯
 have n2:nb (pw E - 1)<=15:=uB (by have:=ak E;omega) (by have:=vK h;omega)
 have n3:nb (pw (E - 1) - 1)<=15:=uB (by have:=ak (E - 1);omega) (by have:=qj h;omega)
 have n4:nb (c / 9 / 2 / 4%pw E)<=15:=uB (Int.emod_nonneg _ (by have:=ak E;omega)) (by have:=vK h;have:=Int.emod_lt_of_pos (c / 9 / 2 / 4) (ak E);omega)
 have n5:=Vs hc (k:=9) ↥0
 have m1:MulOk (c / 9) 73846150927364518273645509182736455091829:=by walk_at "mul"
 have m2:MulOk 2 (pw ↥9):=by walk_at "mul"
 have m3:MulOk (c / 9%2) (pw ↥9):=si ⋯ ⋯ (Nat.le_trans n1 ↥0)
 have q1:=rQ h3
 have q2:=ak ↥9
 have pk:=M6 (a:=0) (b:=1) (c:=pw F - 1) (d:=pw (F - 1)) (r:=c / 9 / 2%4) ⋯ ⋯
 unfold bD dS
 simp_arith [qU (k:=E+F) ⋯ ⋯,qU (k:=E) ⋯ ⋯,qU (k:=F) ⋯ ⋯,qU (k:=E - 1) ⋯ ⋯,qU (k:=F - 1) ⋯ ⋯,
  bX (i:=pw E - 1) (j:=F) ⋯ ⋯,bX (i:=pw (E - 1) - 1) (j:=F) ⋯ ⋯,bX (i:=c / 9 / 2 / 4%pw E) (j:=F) ⋯ ⋯,bM m1,bM m2,bM m3,show 0<2*pw ↥9 by omega,show 0<pw F - 1 by omega,ak,pk]
 unfold eD
 by_cases g0:c%9<3
 ·simp only [if_pos g0]
 by_cases g1:c%9=3
 ·simp only [if_neg g0,if_pos g1]
 by_cases g2:c%9=4
 ·simp only [if_neg g0,if_neg g1,if_pos g2]
 by_cases g3:c%9=5
 ·simp only [if_neg g0,if_neg g1,if_neg g2,if_pos g3]
 by_cases g4:c%9=6
 ·simp only [if_neg g0,if_neg g1,if_neg g2,if_neg g3,if_pos g4]
 by_cases g5:c%9=7
 ·simp only [if_neg g0,if_neg g1,if_neg g2,if_neg g3,if_neg g4,if_pos g5]
 simp only [if_neg g0,if_neg g1,if_neg g2,if_neg g3,if_neg g4,if_neg g5]
theorem l6 {E F:Int} (h:Sz E F):cC [.tup [.int E,.int F]]=.ok (.int (pw ↥9)):=by
 obtain ⟨h1,h2,h3,h4⟩:=h
 unfold cC iz
 simp_arith [qU (k:=E+F) ⋯ ⋯]
theorem vr {E F:Int}:iT [.tup [.int E,.int F]]=.ok (.int (E+F+1)):=by
 unfold iT qx
 simp_arith []
theorem dZ {E F b:Int} (h:Sz E F) (hb:In E F b):aP [.tup [.int E,.int F],.int b]=.ok (.tup [.int (sgn E F b),.int (fld E F b),.int (fig F b)]):=by
 obtain ⟨h1,h2,h3,h4⟩:=id h
 obtain ⟨hb0,hb1⟩:=hb
 have d1:iF b (pw ↥9):=⟨ak _,.inl (Nat.le_trans (gM (c:=127) ⋯) ↥0)⟩
 have d2:iF (b%pw ↥9) (pw F):=⟨ak _,.inl (Nat.le_trans (gM (c:=127) ⋯) ↥0)⟩
 have e0:b / pw ↥9=sgn E F b:=by unfold sgn;rw [bW ⋯ ⋯,part0 (ak _) (ak _)]
 have e1:b%pw ↥9 / pw F=fld E F b:=by unfold fld;rw [bW ⋯ ⋯,part1 (ak _) (ak _)]
 have e2:b%pw ↥9%pw F=fig F b:=by unfold fig;rw [bW ⋯ ⋯,part2]
 unfold aP jG
 simp_arith [vr,l6 h,qU (k:=E+F+1) ⋯ ⋯,qU (k:=F) ⋯ ⋯,show ¬ b<0 by omega,show ¬ pw (E+F+1)<=b by omega,gL d1,gL d2,ak,e0,e1,e2]
theorem dU {E F:Int} {bs:List Int} (h:Sz E F) (hl:bs.length<=1000) (hb:∀ b∈bs,In E F b):aT [.tup [.int E,.int F],.lst ↥26]=.ok .non:=by
 have loop:∀ (cs:List Int),(∀ b∈cs,In E F b)->∀ (l:D) (z:Option D),∃ z',forL 2 (expr (call aP [var 0,var 2])) (cs.map D.int) [some ↥5,some (.lst ↥26),z]=.nx [some ↥5,some (.lst ↥26),z']:=fun cs=>by
  induction cs with
  | nil=>exact fun _ _ z=>⟨z,rfl⟩
  | cons c r ih =>
   intro hc l z
   obtain ⟨z',e⟩:=ih (fun b m=>hc b (.tail _ m)) l (some (.int c))
   refine ⟨z',?_⟩
   have p:=dZ h (hc c (.head _))
   rw [List.map_cons,bu]
   simp_arith [p,e]
 obtain ⟨z,e⟩:=loop bs hb .non none
 unfold aT dz
 simp_arith [e]
theorem fX {E F:Int} (h:Sz E F):bh [.tup [.int E,.int F]]=.ok (.int (pw E - 1)):=by
 obtain ⟨h1,h2,h3,h4⟩:=h
 unfold bh eY
 simp_arith [qU (k:=E) ⋯ ⋯]
theorem iY {E F b:Int} (h:Sz E F) (hb:In E F b):aN [.tup [.int E,.int F],.int b]=.ok (.str (kindS E (fld E F b) (fig F b))):=by
 unfold aN sD
 simp_arith [dZ h hb,fX h]
 unfold kindS
 (repeat' split)<;>first | rfl | contradiction
theorem qC {E F s c:Int} (h:Sz E F) (hs:0<=s/\s<=1) (c0:0<=c) (c1:c<pw ↥9 - pw F):∃ K:PySem.Str,aN [.tup [.int E,.int F],.int ↥27]=.ok (.str K)/\¬ (PySem.Str.ofString "endless"=K\/PySem.Str.ofString "none"=K):=by
 have hQ:=ak F
 obtain ⟨b1,b2,b3,b4⟩:=au (c:=c) h hs c0 ⋯
 have k:=iY h b1
 rw [b3,b4] at k
 refine ⟨_,k,?_⟩
 have kc:=fo (c:=c) h c0 ⋯
 by_cases g:c=0
 ·rw [kc.2.2.1 g];decide
 ·rcases kc.2.2.2 ⋯ c1 with e | e<;>rw [e]<;>decide
theorem eC {E F:Int} {xs:List ↥30} (h:Sz E F) (hl:xs.length<=1000) (hx:∀ x∈xs,(0<=x.1/\x.1<=1)/\0<=x.2/\x.2<pw ↥9 - pw F):aq [.tup [.int E,.int F],.lst ((xs.map (nI E F)).map .int)]=.ok .non:=by
 have hQ:=ak F
 have cb:=dU (bs:=xs.map (nI E F)) h (by rw [List.length_map];exact hl) fun b m=>by
  obtain ⟨x,mx,rfl⟩:=List.mem_map.mp m
  obtain ⟨a,b,c⟩:=hx x mx
  exact (au h a b ⋯).1
 unfold aq bL
 generalize hbody:ifs _ _ _=body
 have loop:∀ (l:List ↥30),(∀ x∈l,(0<=x.1/\x.1<=1)/\0<=x.2/\x.2<pw ↥9 - pw F)->∀ (z:Option D),∃ z',forL 2 body ((l.map (nI E F)).map D.int) [some ↥5,some (.lst ((xs.map (nI E F)).map .int)),z]=.nx [some ↥5,some (.lst ((xs.map (nI E F)).map .int)),z']:=fun l=>by
  induction l with
  | nil=>exact fun _ z=>⟨z,rfl⟩
  | cons x r ih =>
   intro hc z
   obtain ⟨z',e⟩:=ih (fun b m=>hc b (.tail _ m)) (some (.int (nI E F x)))
   refine ⟨z',?_⟩
   obtain ⟨a,b,c⟩:=hc x (.head _)
   obtain ⟨K,k,nk⟩:=qC h a b c
   have k':aN [.tup [.int E,.int F],.int (nI E F x)]=.ok (.str K):=k
   rw [List.map_cons,List.map_cons,bu]
   subst hbody
   simp_arith [k',cP,nk,e]
 obtain ⟨z,e⟩:=loop xs hx none
 simp_arith [cb,List.length_map,show xs.length<=100000 by omega,e]
theorem aE (w:Wy):aA [.str w.s]=.ok (wO w):=by
 have h:dE (.str w.s) (.tup [.str "even",.str "away",.str "nought",.str "up",.str "down"])=.ok (.bl false):=by
  show dE (.str w.s) (.tup (b9.map D.str))=_
  rw [iV]
  cases w<;>rfl
 unfold aA jC
 simp_arith [h]
 rfl
theorem Ji {x:PySem.Str} (h:x∉b9):aA [.str x]=.ex "NoWay":=by
 have h:dE (.str x) (.tup [.str "even",.str "away",.str "nought",.str "up",.str "down"])=.ok (.bl true):=by
  show dE (.str x) (.tup (b9.map D.str))=_
  rw [iV,decide_eq_true h]
 unfold aA jC
 simp_arith [h]
theorem nF {E F:Int} {bs:List Int} {f:Int->PySem.Str} (hl:bs.length<=1000) (hf:∀ b∈bs,aN [.tup [.int E,.int F],.int b]=.ok (.str (f b))) :
  bb [.tup [.int E,.int F],.lst ↥26]=.ok (.bl (decide (PySem.Str.ofString "none"∈bs.map f))):=by
 have st:∀ b∈bs,stX (call aN [var 1,var 0]) [0] [some ↥5,some (.lst ↥26),none] (.int b)=.ok (some (.str (f b))):=fun b hb=>by
  unfold stX inC
  simp_arith [List.getD_cons_zero,hf b hb,D.flat]
 have rc:∀ (l:List Int),(∀ b∈l,b∈bs)->runC (stX (call aN [var 1,var 0]) [0] [some ↥5,some (.lst ↥26),none]) (l.map .int)=.ok ((l.map f).map D.str):=fun l=>by
  induction l with
  | nil=>exact fun _=>rfl
  | cons b r ih =>
   intro h
   rw [List.map_cons]
   unfold runC
   rw [st b (h b (.head _)),ih fun x hx=>h x (.tail _ hx)]
   rfl
 have fr:∀ l:List PySem.Str,D.flats (l.map D.str)=true:=fun l=>by
  induction l with
  | nil=>rfl
  | cons a r ih =>
   rw [List.map_cons]
   show (D.flat (.str a)&&D.flats (r.map D.str))=true
   rw [ih]
   rfl
 have i1:oIn (.str (PySem.Str.ofString "none")) (.lst ((bs.map f).map D.str))=.ok (.bl (decide (PySem.Str.ofString "none"∈bs.map f))):=by
  have sc:∀ l:List PySem.Str,(l.map D.str).all D.sc=true:=fun l=>by
   induction l with
   | nil=>rfl
   | cons a r ih=>rw [List.map_cons,List.all_cons,ih];rfl
  have an:∀ l:List PySem.Str,((l.map D.str).any fun y=>D.beq y (.str (PySem.Str.ofString "none")))=decide (PySem.Str.ofString "none"∈l):=fun l=>by
   induction l with
   | nil=>rfl
   | cons a r ih =>
    rw [List.map_cons,List.any_cons,ih]
    show (decide (a=PySem.Str.ofString "none")||_)=_
    by_cases g:a=PySem.Str.ofString "none"
    ·rw [g];simp
    ·by_cases g':PySem.Str.ofString "none"∈r
     ·simp [g,g']
     ·simp [g,g',Ne.symm g,eq_comm]
  unfold oIn isIn
  simp only [D.sc,sc,Bool.and_self,if_true,an]
 have pb:∀ (a c:Option D) (ds:List D),pub 2 [a,c,some (.own ds)]=[a,c,some (.lst ds)]:=fun _ _ _=>rfl
 unfold bb fB
 simp_arith [oJ,Ex (show (bs.map D.int).length<=100000 by rw [List.length_map];omega),rc bs (fun _ h=>h),F6 (fr (bs.map f)),i1,Cv,pb]
theorem kA {E F B:Int} {z b:D} {K:PySem.Str} (ek:aN [z,b]=.ok (.str K)) (hz:z=.tup [.int E,.int F]) (hb:b=.int B):bb [z,.lst [b]]=.ok (.bl (decide (K=PySem.Str.ofString "none"))):=by
 subst hz hb
 have e:=nF (E:=E) (F:=F) (bs:=[B]) (f:=fun _=>K) (by simp) (fun b hb=>by rw [List.mem_singleton] at hb;rw [hb];exact ek)
 rw [List.map_cons,List.map_nil,List.map_cons,List.map_nil] at e
 rw [e]
 simp [eq_comm]
theorem yc {E F B B':Int} {K K':PySem.Str} (ek:aN [.tup [.int E,.int F],.int B]=.ok (.str K)) (ek':aN [.tup [.int E,.int F],.int B']=.ok (.str K')) :
  bb [.tup [.int E,.int F],.lst [.int B,.int B']]=.ok (.bl (decide (K=PySem.Str.ofString "none"\/K'=PySem.Str.ofString "none"))):=by
 have e:=nF (E:=E) (F:=F) (bs:=[B,B']) (f:=fun b=>if b=B then K else K') (by simp) (fun b hb=>by
  by_cases g:b=B
  ·subst g;rw [if_pos rfl];exact ek
  ·rw [if_neg g]
   rcases List.mem_cons.mp hb with z | z
   ·exact absurd z g
   ·rw [List.mem_singleton.mp z];exact ek')
 rw [List.map_cons,List.map_cons,List.map_nil,List.map_cons,List.map_cons,List.map_nil,if_pos rfl] at e
 rw [e]
 by_cases g:B'=B
 ·subst g
  rw [ek] at ek'
  cases ek'
  simp [eq_comm]
 ·rw [if_neg g]
  simp [eq_comm]
theorem cX {s w p:Int} (hw:nb w<=1000000) (hp : -1000000<=p/\p<=1000000):aC [.tup [.int s,.int w,.int p]]=.ok (.tup [.int s,.int (frT w p),.int (frB p)]):=by
 unfold aC ck
 by_cases g:0<=p
 ·simp_arith [g,bX (i:=w) (j:=p) g ⋯,frT,frB]
 ·simp_arith [g,qU (k := -p) ⋯ ⋯,frT,frB]
theorem qI {t n:Int} (ht:0<=t) (hn:0<n):aZ [.int t,.int n]=.ok .non:=by
 unfold aZ cv
 simp_arith [show ¬ t<0 by omega,show ¬ n<1 by omega]
theorem jg {t n p:Int} (h1:nb t<=10000000) (h2:nb n<=10000000) (h3 : -10000000<=p) (h4:p<=10000000):dO [.int t,.int n,.int p]=.ok (.tup [.int (iG p t),.int (gj p n)]):=by
 unfold dO lX iG gj
 by_cases g:0<=p
 ·simp_arith [g,bX (i:=n) (j:=p) g ⋯,bZ (p := -p) ⋯,Int.mul_one]
 ·simp_arith [g,bX (i:=t) (j := -p) ⋯ ⋯,bZ (p:=p) ⋯,Int.mul_one]
theorem Ih {E F:Int} (h:Sz E F):rV [.tup [.int E,.int F]]=.ok (.int (pw (E - 1) - 1)):=by
 obtain ⟨h1,h2,h3,h4⟩:=h
 unfold rV vU
 simp_arith [qU (k:=E - 1) ⋯ ⋯]
theorem jz {E F:Int} (h:Sz E F):js [.tup [.int E,.int F]]=.ok (.int (lo E F)):=by
 have e:1 - (pw (E - 1) - 1) - F=lo E F:=by unfold lo;omega
 unfold js Dz
 simp_arith [Ih h,e]
theorem mh {o a m:Int}:aY [.int o,.int a,.int m]=.ok (.int (if o=0 then 0 else if a<m then 1 else if a=m then 2 else 3)):=by
 unfold aY cq
 simp_arith []
theorem rest_of_ok {o s:Int} (h:nb o<=100000000):gI [.int o,.int s]=.ok (.int (rst o s)):=by
 have m:MulOk 2 o:=by walk_at "mul"
 unfold gI jF
 simp_arith [bM m,mh]
 rfl
theorem sA {t n:Int} (h1:nb t<=1000000) (h2:nb n<=1000000):fT [.int t,.int n]=.ok (.int (hgt t n)):=by
 have e:(iG ((nb t:Int) - nb n) t<gj ((nb t:Int) - nb n) n)=Lt t n ((nb t:Int) - nb n):=rfl
 unfold fT lY hgt
 by_cases g:Lt t n ((nb t:Int) - nb n)
 ·simp_arith [jg (t:=t) (n:=n) (p:=(nb t:Int) - nb n) ⋯ ⋯ ⋯ ⋯,e,g]
 ·simp_arith [jg (t:=t) (n:=n) (p:=(nb t:Int) - nb n) ⋯ ⋯ ⋯ ⋯,e,g]
theorem DG {E F n:Int} (h:Sz E F) (hn:0<n):uy [.tup [.int E,.int F],.int 0,.int n]=.ok (.tup [.int 0,.int (lo E F),.int 0]):=by
 unfold uy Am
 simp_arith [qI (Int.le_refl 0) hn,jz h]
theorem LH {E F t n:Int} (h:Sz E F) (ht:0<t) (hn:0<n) (h1:nb t<=1000000) (h2:nb n<=1000000) :
  uy [.tup [.int E,.int F],.int t,.int n]=.ok (.tup [.int (iG (eZ E F t n) t / gj (eZ E F t n) n),.int (eZ E F t n),.int (rst (iG (eZ E F t n) t%gj (eZ E F t n) n) (gj (eZ E F t n) n))]):=by
 obtain ⟨s1,s2,s3,s4⟩:=qF h ht hn
 have l:=lr h
 have hB:=l4 (p:=eZ E F t n) hn
 have hA:=qH (p:=eZ E F t n) (Int.le_of_lt ht)
 have d:=K5 h hA hB s3
 have eP:max (lo E F) (hgt t n - F - 1)=eZ E F t n:=rfl
 have nB:nb (gj (eZ E F t n) n)<=3000000:=by
  have:=d9 h2 (gM (k:=eZ E F t n) (c:=1000000) ⋯)
  unfold gj;omega
 have nr:nb (iG (eZ E F t n) t%gj (eZ E F t n) n)<=3000000:=ED hB nB
 unfold uy Am
 simp_arith [qI (Int.le_of_lt ht) hn,show ¬ t=0 by omega,jz h,sA h1 h2,eP,jg (t:=t) (n:=n) (p:=eZ E F t n) ⋯ ⋯ ⋯ ⋯,gL d,hB,rest_of_ok (o:=iG (eZ E F t n) t%gj (eZ E F t n) n) (s:=gj (eZ E F t n) n) ⋯]
theorem bg {E F:Int} (h:Sz E F):a9 [.tup [.int E,.int F]]=.ok (.int ((pw E - 1)*pw F)):=by
 obtain ⟨h1,h2,h3,h4⟩:=id h
 have hb:nb (pw E)<=16:=gM (c:=15) ⋯
 have hb2:nb (pw E - 1)<=17:=by walk_at "nbk"
 unfold a9 jJ
 simp_arith [fX h,bX (i:=pw E - 1) (j:=F) ⋯ ⋯]
theorem cG {E F s c:Int} (h:Sz E F) (hs:0<=s/\s<=1):bB [.tup [.int E,.int F],.int s,.int c]=.ok (.int ↥27):=by
 have n1:nb (pw ↥9)<=128:=gM (c:=127) (by have:=h.2.1;have:=h.2.2.2;omega)
 unfold bB lW
 simp_arith [l6 h,bM (si hs.1 hs.2 (Nat.le_trans n1 ↥0))]
theorem zV {E F c k:Int} (h:Sz E F):dt [.tup [.int E,.int F],.int c,.int k]=.ok (.int (if k=pw ↥9 - pw F then 5 else if c<pw F then 3 else 1)):=by
 obtain ⟨h1,h2,h3,h4⟩:=id h
 unfold dt eV
 simp_arith [bg h,end_is h,qU (k:=F) ⋯ ⋯]
theorem vY (w:Wy) (s:Int):aX [wO w,.int s]=.ok (.bl (w.out s)):=by
 unfold aX bo wO
 cases w<;>simp_arith [Wy.s,Wy.out]
theorem vT (w:Wy) (s r:Int) (o:Bool) (h:¬ r=0):fU [wO w,.int s,.bl o,.int r]=.ok (.bl (w.grw s o r)):=by
 have f:=vY w s
 have hm:fq "Way" "flees_nought" (wO w)=true:=rfl
 unfold fU et
 have nm:("flees_nought" != "name")=true:=by decide
 have e1:ye "Way" "name" (wO w)=.ok (.str w.s):=rfl
 unfold wO at *
 cases w
 ·by_cases g:r=3
  ·simp_arith [h,Wy.s,eq_true g]
   simp [Wy.grw,g]
  ·by_cases g2:r=2
   ·simp_arith [h,Wy.s,g,eq_true g2]
    simp [Wy.grw,g2]
   ·simp_arith [h,Wy.s,g,g2]
    simp [Wy.grw,g,g2]
 ·simp_arith [h,Wy.s]
  rfl
 ·simp only [Wy.s] at f
  simp_arith [h,Wy.s,nm,f]
  rfl
 ·simp only [Wy.s] at f
  simp_arith [h,Wy.s,nm,f]
  rfl
 ·simp only [Wy.s] at f
  simp_arith [h,Wy.s,nm,f]
  rfl
theorem sO (w:Wy) (s:Int):eR [wO w,.int s]=.ok (.bl (w.brs s)):=by
 have f:=vY w s
 have nm:("flees_nought" != "name")=true:=by decide
 have e2:∀ x:PySem.Str,oIn (.str x) (.tup [.str "even",.str "away"])=.ok (.bl (decide ((PySem.Str.ofString "even")=x\/(PySem.Str.ofString "away")=x))):=fun x=>cP
 unfold eR dA
 unfold wO at *
 cases w
 ·simp_arith [Wy.s,e2]
  rfl
 ·simp_arith [Wy.s,e2]
  rfl
 ·simp only [Wy.s] at f
  simp_arith [Wy.s,e2,nm,f]
  rfl
 ·simp only [Wy.s] at f
  simp_arith [Wy.s,e2,nm,f]
  rfl
 ·simp only [Wy.s] at f
  simp_arith [Wy.s,e2,nm,f]
  rfl
theorem kg {E F s x P r:Int} (w:Wy) (h:Sz E F) (hs:0<=s/\s<=1) (hP:lo E F<=P) (hP2:P<=10000000) (hx:0<=x) :
  d4 [.tup [.int E,.int F],.str w.s,.int s,.int x,.int P,.int r]=.ok (.tup [.int (s*pw ↥9+stK w E F s (codeOf E F P x) r),.int (stF w E F s (codeOf E F P x) r)]):=by
 obtain ⟨h1,h2,h3,h4⟩:=id h
 have l:=lr h
 have n1:nb (P - lo E F)<=64:=uB ⋯ ⋯
 have c0:0<=codeOf E F P x:=by
  have:=Int.mul_nonneg (show 0<=P - lo E F by omega) (Int.le_of_lt (ak F))
  unfold codeOf;omega
 have ec:(P - lo E F)*pw F+x=codeOf E F P x:=rfl
 have mb:fq "Way" "bursts" (wO w)=true:=rfl
 have mg:fq "Way" "grows" (wO w)=true:=rfl
 have vw:∀ (a b c d e f:Option D) (l:Dt),var 6 (a::b::c::d::e::f::some (wO w)::l)=.ok (wO w):=fun _ _ _ _ _ _ _=>rfl
 unfold d4 jE stF stK
 by_cases g:pw ↥9 - pw F<=codeOf E F P x
 ·cases gb:w.brs s
  ·simp_arith [aE w,jz h,bX (i:=P - lo E F) (j:=F) ⋯ ⋯,ec,bg h,end_is h,g,vw,mb,sO w s,gb,cG h hs]
  ·simp_arith [aE w,jz h,bX (i:=P - lo E F) (j:=F) ⋯ ⋯,ec,bg h,end_is h,g,vw,mb,sO w s,gb,cG h hs]
 ·by_cases gr:r=0
  ·simp_arith [aE w,jz h,bX (i:=P - lo E F) (j:=F) ⋯ ⋯,ec,bg h,end_is h,g,eq_true gr,cG h hs]
  ·cases gg:w.grw s (decide (codeOf E F P x%2=1)) r
   ·simp_arith [aE w,jz h,bX (i:=P - lo E F) (j:=F) ⋯ ⋯,ec,bg h,end_is h,g,gr,vw,mg,sd c0,vT w s r _ gr,gg,cG h hs,zV h]
   ·simp_arith [aE w,jz h,bX (i:=P - lo E F) (j:=F) ⋯ ⋯,ec,bg h,end_is h,g,gr,vw,mg,sd c0,vT w s r _ gr,gg,cG h hs,zV h]
theorem xl {E F s t n:Int} (w:Wy) (h:Sz E F) (hs:0<=s/\s<=1) (ht:0<t) (hn:0<n) (h1:nb t<=1000000) (h2:nb n<=1000000) :
  bG [.tup [.int E,.int F],.str w.s,.int s,.int t,.int n]=.ok (.tup [.int (s*pw ↥9+stK w E F s (codeOf E F (eZ E F t n) (iG (eZ E F t n) t / gj (eZ E F t n) n)) (rst (iG (eZ E F t n) t%gj (eZ E F t n) n) (gj (eZ E F t n) n))),.int (stF w E F s (codeOf E F (eZ E F t n) (iG (eZ E F t n) t / gj (eZ E F t n) n)) (rst (iG (eZ E F t n) t%gj (eZ E F t n) n) (gj (eZ E F t n) n)))]):=by
 obtain ⟨s1,s2,s3,s4⟩:=qF h ht hn
 unfold bG gQ
 simp_arith [aE w,LH h ht hn h1 h2,kg w h hs s1 ⋯ (Int.ediv_nonneg (qH (p:=eZ E F t n) (Int.le_of_lt ht)) (Int.le_of_lt (l4 (p:=eZ E F t n) hn)))]
theorem rL {E F s n:Int} (w:Wy) (h:Sz E F) (hs:0<=s/\s<=1) (hn:0<n):bG [.tup [.int E,.int F],.str w.s,.int s,.int 0,.int n]=.ok (.tup [.int (s*pw ↥9),.int 0]):=by
 have l:=lr h
 have h5:=dC h
 have hQ:=ak F
 have e0:codeOf E F (lo E F) 0=0:=by unfold codeOf;rw [Int.sub_self,Int.zero_mul];rfl
 have e:=kg (s:=s) (x:=0) (P:=lo E F) (r:=0) w h hs (Int.le_refl _) ⋯ (Int.le_refl 0)
 rw [e0,show stK w E F s 0 0=0 by unfold stK;rw [if_neg ⋯,if_pos rfl],show stF w E F s 0 0=0 by unfold stF;rw [if_neg ⋯,if_pos rfl],Int.add_zero] at e
 unfold bG gQ
 simp_arith [aE w,DG h hn,e]
theorem j8 {l:List D} {p:Int}:∀ {ts:List Tm} {acc:Int} {z3 z4:Option D},(∀ t∈ts,vk t/\p<=t.2.2/\t.2.2 - p<=450000) ->
  ∃ z3' z4',forL 3 (seq (assign 4 (bin eF (bin oIx (var 3) ⇑1) (bin fV (bin oIx (var 3) ⇑2) (var 1)))) (assign 2 (ife (bin oEq (bin oIx (var 3) ⇑0) ⇑1) (bin fV (var 2) (var 4)) (bin bY (var 2) (var 4))))) (ts.map tD) [some (.lst l),some (.int p),some (.int acc),z3,z4]=.nx [some (.lst l),some (.int p),some (.int (acc+qT p ts)),z3',z4']
 | [],acc,z3,z4,_=>⟨z3,z4,by rw [List.map_nil,vW,show qT p []=0 from rfl,Int.add_zero]⟩
 | t::r,acc,z3,z4,h=>by
  obtain ⟨⟨a1,a2,a3,a4⟩,a5,a6⟩:=h t (.head _)
  have sh:=bX (i:=t.2.1) (j:=t.2.2 - p) ⋯ ⋯
  by_cases g:t.1=1
  ·obtain ⟨z3',z4',ih⟩:=j8 (l:=l) (p:=p) (ts:=r) (acc:=acc - t.2.1*pw (t.2.2 - p)) (z3:=some (tD t)) (z4:=some (.int (t.2.1*pw (t.2.2 - p)))) fun t ht=>h t (.tail _ ht)
   refine ⟨z3',z4',?_⟩
   have e:qT p (t::r) = -(t.2.1*pw (t.2.2 - p))+qT p r:=by
    show tv p t+_=_
    unfold tv
    rw [if_pos g]
   rw [e,List.map_cons,bu]
   unfold tD at ih ⊢
   simp_arith [sh,eq_true g,ih]
   rw [Int.sub_eq_add_neg,Int.add_assoc]
  ·obtain ⟨z3',z4',ih⟩:=j8 (l:=l) (p:=p) (ts:=r) (acc:=acc+t.2.1*pw (t.2.2 - p)) (z3:=some (tD t)) (z4:=some (.int (t.2.1*pw (t.2.2 - p)))) fun t ht=>h t (.tail _ ht)
   refine ⟨z3',z4',?_⟩
   have e:qT p (t::r)=t.2.1*pw (t.2.2 - p)+qT p r:=by
    show tv p t+_=_
    unfold tv
    rw [if_neg g]
   rw [e,List.map_cons,bu]
   unfold tD at ih ⊢
   simp_arith [sh,g,ih]
   rw [Int.add_assoc]
theorem vz {ts:List Tm} (hl:ts.length<=100000) (h:∀ t∈ts,vk t):gH [.lst (ts.map tD)]=.ok (.tup [.int (if qT (qV ts) ts<0 then 1 else 0),.int (if qT (qV ts) ts<0 then -(qT (qV ts) ts) else qT (qV ts) ts),.int (qV ts)]):=by
 have st:∀ δ,∀ t∈ts,stC (con (.bl true)) (bin oIx (var 0) ⇑2) [] δ (tD t)=.ok (some (.int t.2.2)):=fun δ t _=>by
  unfold stC inC tD
  simp_arith [List.map_nil]
  unfold qr
  simp_arith []
 have hb:=uD (ts:=ts) (a := -200000) (b:=200000) ↥0 fun t ht=>⟨(h t ht).2.2.1,(h t ht).2.2.2⟩
 obtain ⟨z3',z4',e⟩:=j8 (l:=ts.map tD) (p:=qV ts) (ts:=ts) (acc:=0) (z3:=none) (z4:=none) fun t ht=>⟨h t ht,zR ht,by have:=(h t ht).2.2.2;omega⟩
 rw [Int.zero_add] at e
 unfold gH qy
 by_cases g:qT (qV ts) ts<0
 ·simp_arith [List.length_map,hl,qf (st _),bw,zS,e,g]
 ·simp_arith [List.length_map,hl,qf (st _),bw,zS,e,g]
theorem zx (w:Wy) (bs:List Int):cL [.str w.s,.lst ↥26]=.ok (.int (nsg w bs)):=by
 unfold cL dP nsg
 by_cases g0:(0:Int)∈bs
 ·by_cases g1:(1:Int)∈bs
  ·by_cases gd:w.s=PySem.Str.ofString "down"
   ·simp_arith [aE w,eS,g0,g1,eq_true gd]
   ·simp_arith [aE w,eS,g0,g1,gd]
  ·simp_arith [aE w,eS,g0,g1]
 ·by_cases g1:(1:Int)∈bs
  ·simp_arith [aE w,eS,g0,g1]
  ·simp_arith [aE w,eS,g0,g1]
theorem Cd {δ:Dt} {ts:List Tm}:∀ t∈ts,stC (con (.bl true)) (bin oIx (var 0) ⇑0) [] δ (tD t)=.ok (some (.int t.1)):=fun t _=>by
 unfold stC inC tD
 simp_arith [List.map_nil]
 unfold qr
 simp_arith []
theorem jf {E F:Int} {ts:List Tm} (w:Wy) (h:Sz E F) (hl:ts.length<=1000) (hts:∀ t∈ts,vk t) (z:qT (qV ts) ts=0) :
  aK [.tup [.int E,.int F],.str w.s,.lst (ts.map tD)]=.ok (.tup [.int (nsg w (ts.map (·.1))*pw ↥9),.int 0]):=by
 have hb:=uD (ts:=ts) (a := -200000) (b:=200000) ↥0 fun t ht=>⟨(hts t ht).2.2.1,(hts t ht).2.2.2⟩
 have to:=vz ⋯ hts
 rw [z,if_neg ↥0,if_neg ↥0] at to
 have wf:=cX (s:=0) (w:=0) (p:=qV ts) ↥0 ⟨⋯,⋯⟩
 have f0:frT 0 (qV ts)=0:=by
  unfold frT
  split
  ·exact Int.zero_mul _
  ·rfl
 rw [f0] at wf
 have sg:=cG (c:=0) h (EC w (ts.map (·.1)))
 rw [Int.add_zero] at sg
 unfold aK bP
 simp_arith [to,wf,List.length_map,show ts.length<=100000 by omega,qf Cd,bw,zx,sg]
theorem dw {E F:Int} (h:Sz E F):aM [.tup [.int E,.int F]]=.ok (.int ((pw E - 1)*pw F+pw (F - 1))):=by
 obtain ⟨h1,h2,h3,h4⟩:=id h
 unfold aM fZ
 simp_arith [bg h,qU (k:=F - 1) ⋯ ⋯]
theorem vB {δ:Dt} (x:Tm ⊕ Int):stC (un tV ↥18) (bin oIx (var 0) ⇑0) [] δ (xD x)=.ok (match x with | .inl _=>none | .inr s=>some (.int s)):=by
 cases x with
 | inl t =>
  unfold stC inC xD tD
  simp_arith [List.map_nil]
  unfold qr
  simp_arith []
 | inr s =>
  unfold stC inC xD
  simp_arith [List.map_nil]
  unfold qr
  simp_arith []
theorem kf {E F:Int} {ts:List Tm} (w:Wy) (hl:ts.length<=1000):aS [.tup [.int E,.int F],.str w.s,.lst (ts.map tD)]=aK [.tup [.int E,.int F],.str w.s,.lst (ts.map tD)]:=by
 have rc:∀ δ,runC (stC (un tV ↥18) (bin oIx (var 0) ⇑0) [] δ) (ts.map tD)=.ok []:=fun δ=>by
  rw [mf (o:=fun _=>none) fun d hd=>by
   obtain ⟨t,_,rfl⟩:=List.mem_map.mp hd
   exact vB (.inl t)]
  rw [List.filterMap_eq_nil_iff.mpr fun _ _=>rfl]
 have fr:eG []=.ok (.lst []):=rfl
 have pb:∀ (a b c:Option D) (ds:List D),pub 3 [a,b,c,some (.own ds)]=[a,b,c,some (.lst ds)]:=fun _ _ _ _=>rfl
 have i0:∀ x:Int,oIn (.int x) (.lst [])=.ok (.bl false):=fun _=>rfl
 unfold aS bQ
 generalize hr:aK [.tup [.int E,.int F],.str w.s,.lst (ts.map tD)]=r
 cases r with
 | ok d=>simp_arith [List.length_map,show ts.length<=100000 by omega,rc,fr,pb,i0,hr]
 | ex C=>simp_arith [List.length_map,show ts.length<=100000 by omega,rc,fr,pb,i0,hr]
 | bad =>
  simp_arith [List.length_map,show ts.length<=100000 by omega,rc,fr,pb,i0,hr]
  rfl
theorem kd {E F:Int} {xs:List (Tm ⊕ Int)} (w:Wy) (h:Sz E F) (hl:xs.length<=1000) (hs:∀ s∈tW xs,0<=s/\s<=1) (hn:tW xs≠[]) :
  aS [.tup [.int E,.int F],.str w.s,.lst (xs.map xD)]=.ok (if 0∈tW xs/\1∈tW xs then .tup [.int (pw ↥9 - pw F+pw (F - 1)),.int 16] else .tup [.int ((tW xs).getD 0 0*pw ↥9+(pw ↥9 - pw F)),.int 0]):=by
 have rc:∀ δ,runC (stC (un tV ↥18) (bin oIx (var 0) ⇑0) [] δ) (xs.map xD)=.ok ((tW xs).map D.int):=fun δ=>by
  clear hs hn hl
  induction xs with
  | nil=>rfl
  | cons x r ih =>
   rw [List.map_cons]
   unfold runC
   rw [vB,ih]
   cases x<;>rfl
 have pb:∀ (a b c:Option D) (ds:List D),pub 3 [a,b,c,some (.own ds)]=[a,b,c,some (.lst ds)]:=fun _ _ _ _=>rfl
 have l1:xs.length<=100000:=⋯
 have ee:=bg h
 have e2:=dw h
 rw [end_is h] at ee e2
 generalize tW xs=es at *
 have lp:0<(es.length:Int):=by
  cases es with
  | nil=>exact absurd rfl hn
  | cons a r=>simp only [List.length_cons];omega
 have ix:=CV (bs:=es) (k:=0) (Int.le_refl 0) lp
 have hm:es.getD (0:Int).toNat 0∈es:=by
  have lt:0<es.length:=⋯
  show es.getD 0 0∈es
  rw [List.getD_eq_getElem?_getD,List.getElem?_eq_getElem lt]
  exact List.getElem_mem lt
 have sg:=cG (c:=pw ↥9 - pw F) h (hs _ hm)
 have e0:es.getD (0:Int).toNat 0=es.getD 0 0:=rfl
 rw [e0] at ix sg
 unfold aS bQ
 by_cases g:0∈es/\1∈es
 ·rw [if_pos g]
  simp_arith [List.length_map,l1,rc,bw,pb,eS,eq_true g,eq_true g.1,eq_true g.2,e2]
 ·rw [if_neg g]
  by_cases g0:0∈es
  ·have g1:¬ 1∈es:=fun z=>g ⟨g0,z⟩
   simp_arith [List.length_map,l1,rc,bw,pb,eS,eq_true g0,g1,lp,ix,ee,sg]
  ·simp_arith [List.length_map,l1,rc,bw,pb,eS,g0,lp,ix,ee,sg]
theorem pS {E F b:Int} (h:Sz E F) (hb:In E F b) (hf:¬ fld E F b=pw E - 1):bA [.tup [.int E,.int F],.int b]=.ok (.tup [.int (sgn E F b),.int (wh F (fld E F b) (fig F b)),.int (po E F (fld E F b))]):=by
 obtain ⟨h1,h2,h3,h4⟩:=id h
 unfold bA qw
 simp_arith [dZ h hb,fX h,jz h,hf,qU (k:=F) ⋯ ⋯]
 unfold wh po
 by_cases g:fld E F b=0
 ·simp only [if_pos g]
 ·simp only [if_neg g]
theorem qo {E F s c:Int} (h:Sz E F) (hs:0<=s/\s<=1) (c0:0<=c) (c1:c<pw ↥9):aN [.tup [.int E,.int F],.int ↥27]=.ok (.str (kindS E (c / pw F) (c%pw F))):=by
 obtain ⟨b1,b2,b3,b4⟩:=au h hs c0 c1
 have:=iY h b1
 rw [b3,b4] at this
 exact this
theorem zw {E F s c:Int} (h:Sz E F) (hs:0<=s/\s<=1) (c0:0<=c) (c1:c<pw ↥9):aP [.tup [.int E,.int F],.int ↥27]=.ok (.tup [.int s,.int (c / pw F),.int (c%pw F)]):=by
 obtain ⟨b1,b2,b3,b4⟩:=au h hs c0 c1
 have:=dZ h b1
 rw [b2,b3,b4] at this
 exact this
theorem mE {E F s c:Int} (h:Sz E F) (hs:0<=s/\s<=1) (c0:0<=c) (c1:c<pw ↥9 - pw F):aG [.tup [.int E,.int F],.int ↥27]=.ok (tD (wt E F s c)):=by
 have hQ:=ak F
 obtain ⟨b1,b2,b3,b4⟩:=au (c:=c) h hs c0 ⋯
 have wo:=pS h b1 (by rw [b3];intro z;have:=(lR h c0 ⋯).mp z;omega)
 rw [b2,b3,b4] at wo
 have k:=(iy (c:=c) h c0 ⋯).2.1
 have kk:=qo (c:=c) h hs c0 ⋯
 have g:¬ kindS E (c / pw F) (c%pw F)=PySem.Str.ofString "endless":=fun z=>by have:=k.mp z;omega
 unfold aG cR tD wt
 simp_arith [kk,g,wo]
theorem mF {E F s c:Int} (h:Sz E F) (hs:0<=s/\s<=1) (c0:c=pw ↥9 - pw F):aG [.tup [.int E,.int F],.int ↥27]=.ok (.tup [.int s,.non,.int 0]):=by
 have hQ:=ak F
 have h5:=dC h
 have k:=(iy (c:=c) h ⋯ ⋯).2.1
 have kk:=qo (c:=c) h hs ⋯ ⋯
 have pp:=zw (c:=c) h hs ⋯ ⋯
 unfold aG cR
 simp_arith [kk,eq_true (k.mpr c0),pp]
theorem Fq {E F:Int} {x:Int×Int} (h:Sz E F) (hx:qW E F x) (hn:x.2<=pw ↥9 - pw F):aG [.tup [.int E,.int F],.int (nI E F x)]=.ok (xD (xt E F x)):=by
 obtain ⟨a,b,c⟩:=hx
 unfold xt nI
 by_cases g:x.2=pw ↥9 - pw F
 ·rw [if_pos g]
  exact mF h a g
 ·rw [if_neg g]
  exact mE h a b ⋯
theorem gG {E F:Int} {x y:Int×Int} (h:Sz E F) (hx:qW E F x) (hy:qW E F y) (nx:x.2<=pw ↥9 - pw F) (ny:y.2<=pw ↥9 - pw F):ay [.tup [.int E,.int F],.int (nI E F x),.int (nI E F y)]=.ok (xD (pt E F x y)):=by
 have tx:=Fq h hx nx
 have ty:=Fq h hy ny
 have so:=Ge hx.1 hy.1
 unfold xt at tx ty
 unfold pt
 unfold ay dk
 by_cases g:x.2=pw ↥9 - pw F
 ·rw [if_pos g] at tx
  rw [if_pos (.inl g)]
  by_cases g':y.2=pw ↥9 - pw F
  ·rw [if_pos g'] at ty
   unfold xD at *
   simp_arith [tx,ty,so]
  ·rw [if_neg g'] at ty
   unfold xD tD wt at *
   simp_arith [tx,ty,so]
 ·rw [if_neg g] at tx
  by_cases g':y.2=pw ↥9 - pw F
  ·rw [if_pos g'] at ty
   rw [if_pos (.inr g')]
   unfold xD tD wt at *
   simp_arith [tx,ty,so]
  ·rw [if_neg g'] at ty
   rw [if_neg (fun z=>z.elim g g')]
   obtain ⟨⟨_,a2,_,_⟩,_,_⟩:=pR (s:=0) h hx.2.1 (show x.2<_ by omega)
   obtain ⟨⟨_,b2,_,_⟩,_,_⟩:=pR (s:=0) h hy.2.1 (show y.2<_ by omega)
   have mu:=bM (MulOk.of (i:=wh F (x.2 / pw F) (x.2%pw F)) (j:=wh F (y.2 / pw F) (y.2%pw F)) a2 b2 ↥0)
   unfold xD tD wt pm at *
   simp_arith [tx,ty,so,mu]
theorem gh {E F:Int} {x y:Int×Int} (h:Sz E F) (hx:qW E F x) (hy:qW E F y):bc [.tup [.int E,.int F],.int (nI E F x),.int (nI E F y)]=.ok (.bl (decide ((x.2=0\/y.2=0)/\(x.2=pw ↥9 - pw F\/y.2=pw ↥9 - pw F)))):=by
 obtain ⟨kn,ke,k0⟩:=iy (c:=x.2) h hx.2.1 hx.2.2
 obtain ⟨ln,le,l0⟩:=iy (c:=y.2) h hy.2.1 hy.2.2
 have kk:=qo (c:=x.2) h hx.1 hx.2.1 hx.2.2
 have kl:=qo (c:=y.2) h hy.1 hy.2.1 hy.2.2
 simp only [<- ke,<-le,<-k0,<-l0]
 generalize kindS E (x.2 / pw F) (x.2%pw F)=K at *
 generalize kindS E (y.2 / pw F) (y.2%pw F)=L at *
 unfold nI bc cQ
 by_cases g:K=PySem.Str.ofString "nought"\/L=PySem.Str.ofString "nought"
 ·simp_arith [kk,kl,cP,eq_true g,true_and]
 ·simp_arith [kk,kl,cP,g,false_and]
theorem qp {E F:Int} {xs:List ↥30} (h:Sz E F) (hx:∀ x∈xs,qW E F x) :
  PySem.Str.ofString "none"∈(xs.map (nI E F)).map (fun b=>kindS E (fld E F b) (fig F b))↔∃ x∈xs,pw ↥9 - pw F<x.2:=by
 rw [List.map_map,List.mem_map]
 constructor
 ·rintro ⟨x,m,e⟩
  obtain ⟨a,b,c⟩:=hx x m
  obtain ⟨b1,b2,b3,b4⟩:=au h a b c
  refine ⟨x,m,(iy h b c).1.mp ?_⟩
  rw [<- b3,<-b4]
  exact e
 ·rintro ⟨x,m,e⟩
  obtain ⟨a,b,c⟩:=hx x m
  obtain ⟨b1,b2,b3,b4⟩:=au h a b c
  refine ⟨x,m,?_⟩
  have:=(iy h b c).1.mpr e
  rw [<- b3,<-b4] at this
  exact this
theorem uC {E F:Int} {xs:List ↥30} (h:Sz E F) (hx:∀ x∈xs,qW E F x):∀ b∈xs.map (nI E F),aN [.tup [.int E,.int F],.int b]=.ok (.str (kindS E (fld E F b) (fig F b))):=fun b hb=>by
 obtain ⟨x,m,rfl⟩:=List.mem_map.mp hb
 obtain ⟨a,b,c⟩:=hx x m
 exact iY h (au h a b c).1
theorem t9 {E F:Int} {st:D->R (Option D)} {xs:List ↥30} (hst:∀ x∈xs,st (.int (nI E F x))=.ok (some (xD (xt E F x)))):runC st ((xs.map (nI E F)).map D.int)=.ok ((xs.map (xt E F)).map xD):=by
 induction xs with
 | nil=>rfl
 | cons x r ih =>
  rw [List.map_cons,List.map_cons]
  unfold runC
  rw [hst x (.head _),ih fun x hx=>hst x (.tail _ hx)]
  rfl
theorem lZ {E F:Int} {a0 a1 a2 a3 a6:Option D}:∀ {ps:List (↥30×↥30)} {bs:List Int} {z5:Option D},(bs.length+2*ps.length<=100000)->∃ z5',forL 5 (gK 4 (var 5)) (ps.map (pD E F)) [a0,a1,a2,a3,some (.own ↥26),z5,a6]=.nx [a0,a1,a2,a3,some (.own ((bs++(fl ps).map (nI E F)).map .int)),z5',a6]
 | [],bs,z5,_=>⟨z5,by rw [List.map_nil,vW];show _=O.nx [a0,a1,a2,a3,some (D.own ((bs++[]).map .int)),z5,a6];rw [List.append_nil]⟩
 | p::r,bs,z5,hl=>by
  rw [List.length_cons] at hl
  obtain ⟨z5',ih⟩:=lZ (E:=E) (F:=F) (a0:=a0) (a1:=a1) (a2:=a2) (a3:=a3) (a6:=a6) (ps:=r) (bs:=bs++[nI E F p.1,nI E F p.2]) (z5:=some (pD E F p)) (by rw [List.length_append];simp;omega)
  refine ⟨z5',?_⟩
  have e:(bs++(fl (p::r)).map (nI E F))=bs++[nI E F p.1,nI E F p.2]++(fl r).map (nI E F):=by
   show bs++([nI E F p.1,nI E F p.2]++(fl r).map (nI E F))=_
   rw [List.append_assoc]
  rw [e,List.map_cons,bu,<-ih]
  have x:EL 4 [a0,a1,a2,a3,some (.own ↥26),some (pD E F p),a6] ↥26 (.ok (pD E F p))=.nx [a0,a1,a2,a3,some (.own ((bs++[nI E F p.1,nI E F p.2]).map .int)),some (pD E F p),a6]:=by
   unfold EL pD
   simp only
   rw [if_pos ⟨rfl,by simp;omega⟩,List.map_append]
   rfl
  have y:gK 4 (var 5) [a0,a1,a2,a3,some (.own ↥26),some (pD E F p),a6]=.nx [a0,a1,a2,a3,some (.own ((bs++[nI E F p.1,nI E F p.2]).map .int)),some (pD E F p),a6]:=by
   rw [BW,<-x]
   rfl
  show trn (gK 4 (var 5) [a0,a1,a2,a3,some (.own ↥26),some (pD E F p),a6]) (forL 5 (gK 4 (var 5)) (r.map (pD E F)))=_
  rw [y]
  rfl
theorem mq {E F:Int} {st:D->R (Option D)} {f:↥30×↥30->D} {ps:List (↥30×↥30)} (hst:∀ p∈ps,st (pD E F p)=.ok (some (f p))):runC st (ps.map (pD E F))=.ok (ps.map f):=by
 induction ps with
 | nil=>rfl
 | cons p r ih =>
  rw [List.map_cons]
  unfold runC
  rw [hst p (.head _),ih fun x hx=>hst x (.tail _ hx)]
  rfl
theorem any_map {α:Type} {f:α->Bool} {ps:List α}:Ir [.lst (ps.map fun p=>.bl (f p))]=.ok (.bl (ps.any f)):=by
 have:boolsOf (ps.map fun p=>.bl (f p))=some (ps.map f):=by
  induction ps with
  | nil=>rfl
  | cons a r ih =>
   rw [List.map_cons,List.map_cons]
   show (boolsOf _).map _=_
   rw [ih]
   rfl
 unfold Ir
 simp only [this]
 rw [List.any_map]
 rfl
theorem ph {α:Type} {f:α->Bool} {ps:List α}:eG (ps.map fun p=>.bl (f p))=.ok (.lst (ps.map fun p=>.bl (f p))):=by
 unfold eG
 rw [if_pos]
 induction ps with
 | nil=>rfl
 | cons a r ih =>
  rw [List.map_cons]
  show (D.flat (.bl (f a))&&D.flats _)=true
  rw [ih]
  rfl
def wrP (E F:Int) (p:↥30×↥30):Prop:=(p.1.2=0\/p.2.2=0)/\(p.1.2=pw ↥9 - pw F\/p.2.2=pw ↥9 - pw F)
noncomputable instance (E F:Int) (p:↥30×↥30):Decidable (wrP E F p):=by unfold wrP;exact inferInstance
section
variable {E F:Int} {ps:List (↥30×↥30)} {xs:List ↥30}
theorem Dy (w:Wy) (h:Sz E F) (hl:xs.length<=400) (hl2:ps.length<=300) (hx:∀ x∈xs++fl ps,qW E F x) (hn:∃ x∈xs++fl ps,pw ↥9 - pw F<x.2) :
  aj [.tup [.int E,.int F],.str w.s,.lst (ps.map (pD E F)),.lst ((xs.map (nI E F)).map .int)]=.ok (.tup [.int (pw ↥9 - pw F+pw (F - 1)),.int 0]):=by
 have fll:=vZ ps
 have an:=nF (E:=E) (F:=F) (bs:=(xs++fl ps).map (nI E F)) (by rw [List.length_map,List.length_append];omega) (uC h hx)
 rw [decide_eq_true ((qp h hx).mpr hn),List.map_append] at an
 have e2:=dw h
 rw [end_is h] at e2
 have bl:pj [.lst ((xs.map (nI E F)).map D.int)]=.ok (.lst ((xs.map (nI E F)).map D.int)):=bw
 obtain ⟨z5,lo⟩:=lZ (E:=E) (F:=F) (a0:=some ↥5) (a1:=some (.str w.s)) (a2:=some (.lst (ps.map (pD E F)))) (a3:=some (.lst ((xs.map (nI E F)).map .int))) (a6:=none) (ps:=ps) (bs:=xs.map (nI E F)) (z5:=none) (by rw [List.length_map];omega)
 unfold aj bj
 simp_arith [aE w,bl,lo,List.length_map,show ps.length<=100000 by omega,an,e2]
theorem HJ (w:Wy) (h:Sz E F) (hl:xs.length<=400) (hl2:ps.length<=300) (hx:∀ x∈xs++fl ps,qW E F x) (hn:∀ x∈xs++fl ps,x.2<=pw ↥9 - pw F) :
  (∃ p∈ps,wrP E F p)->aj [.tup [.int E,.int F],.str w.s,.lst (ps.map (pD E F)),.lst ((xs.map (nI E F)).map .int)]=.ok (.tup [.int (pw ↥9 - pw F+pw (F - 1)),.int 16]):=by
 intro hw
 have fll:=vZ ps
 have an:=nF (E:=E) (F:=F) (bs:=(xs++fl ps).map (nI E F)) (by rw [List.length_map,List.length_append];omega) (uC h hx)
 rw [decide_eq_false (fun z=>by obtain ⟨x,m,y⟩:=(qp h hx).mp z;have:=hn x m;omega),List.map_append] at an
 have e2:=dw h
 rw [end_is h] at e2
 have bl:pj [.lst ((xs.map (nI E F)).map D.int)]=.ok (.lst ((xs.map (nI E F)).map D.int)):=bw
 obtain ⟨z5,lo⟩:=lZ (E:=E) (F:=F) (a0:=some ↥5) (a1:=some (.str w.s)) (a2:=some (.lst (ps.map (pD E F)))) (a3:=some (.lst ((xs.map (nI E F)).map .int))) (a6:=none) (ps:=ps) (bs:=xs.map (nI E F)) (z5:=none) (by rw [List.length_map];omega)
 have st:∀ δ:Dt,∀ p∈ps,stC (con (.bl true)) (call bc [var 1,bin oIx (var 0) ⇑0,bin oIx (var 0) ⇑1]) [0] (some ↥5::δ) (pD E F p)=.ok (some (.bl (decide (wrP E F p)))):=fun δ p m=>by
  have e:=gh h (hx p.1 (List.mem_append.mpr (.inr (oZ.mpr ⟨p,m,.inl rfl⟩)))) (hx p.2 (List.mem_append.mpr (.inr (oZ.mpr ⟨p,m,.inr rfl⟩))))
  unfold stC inC pD wrP
  simp_arith [List.getD_cons_zero,e]
  unfold qr
  simp_arith []
 have aw:ps.any (fun p=>decide (wrP E F p))=true:=by
  obtain ⟨p,m,q⟩:=hw
  exact List.any_eq_true.mpr ⟨p,m,decide_eq_true q⟩
 unfold aj bj
 simp_arith [aE w,bl,lo,List.length_map,show ps.length<=100000 by omega,an,e2,mq (st _),ph,any_map,aw]
theorem sC {d:D} (w:Wy) (h:Sz E F) (hl:xs.length<=400) (hl2:ps.length<=300) (hx:∀ x∈xs++fl ps,qW E F x) (hn:∀ x∈xs++fl ps,x.2<=pw ↥9 - pw F) (hw:∀ p∈ps,¬ wrP E F p) (hd:aS [.tup [.int E,.int F],.str w.s,.lst ((ps.map (ptp E F)++xs.map (xt E F)).map xD)]=.ok d) :
  aj [.tup [.int E,.int F],.str w.s,.lst (ps.map (pD E F)),.lst ((xs.map (nI E F)).map .int)]=.ok d:=by
 have fll:=vZ ps
 have an:=nF (E:=E) (F:=F) (bs:=(xs++fl ps).map (nI E F)) (by rw [List.length_map,List.length_append];omega) (uC h hx)
 rw [decide_eq_false (fun z=>by obtain ⟨x,m,y⟩:=(qp h hx).mp z;have:=hn x m;omega),List.map_append] at an
 have bl:pj [.lst ((xs.map (nI E F)).map D.int)]=.ok (.lst ((xs.map (nI E F)).map D.int)):=bw
 obtain ⟨z5,lo⟩:=lZ (E:=E) (F:=F) (a0:=some ↥5) (a1:=some (.str w.s)) (a2:=some (.lst (ps.map (pD E F)))) (a3:=some (.lst ((xs.map (nI E F)).map .int))) (a6:=none) (ps:=ps) (bs:=xs.map (nI E F)) (z5:=none) (by rw [List.length_map];omega)
 have mem1:∀ p∈ps,p.1∈xs++fl ps:=fun p m=>List.mem_append.mpr (.inr (oZ.mpr ⟨p,m,.inl rfl⟩))
 have EF:∀ p∈ps,p.2∈xs++fl ps:=fun p m=>List.mem_append.mpr (.inr (oZ.mpr ⟨p,m,.inr rfl⟩))
 have st:∀ δ:Dt,∀ p∈ps,stC (con (.bl true)) (call bc [var 1,bin oIx (var 0) ⇑0,bin oIx (var 0) ⇑1]) [0] (some ↥5::δ) (pD E F p)=.ok (some (.bl (decide (wrP E F p)))):=fun δ p m=>by
  have e:=gh h (hx p.1 (mem1 p m)) (hx p.2 (EF p m))
  unfold stC inC pD wrP
  simp_arith [List.getD_cons_zero,e]
  unfold qr
  simp_arith []
 have aw:ps.any (fun p=>decide (wrP E F p))=false:=by
  rw [List.any_eq_false]
  exact fun p m=>by rw [decide_eq_true_iff];exact hw p m
 have st2:∀ δ:Dt,∀ p∈ps,stC (con (.bl true)) (call ay [var 1,bin oIx (var 0) ⇑0,bin oIx (var 0) ⇑1]) [0] (some ↥5::δ) (pD E F p)=.ok (some (xD (ptp E F p))):=fun δ p m=>by
  have e:=gG h (hx p.1 (mem1 p m)) (hx p.2 (EF p m)) (hn p.1 (mem1 p m)) (hn p.2 (EF p m))
  unfold stC inC pD ptp
  simp_arith [List.getD_cons_zero,e]
  unfold qr
  simp_arith []
 have st3:∀ δ:Dt,∀ x∈xs,stC (con (.bl true)) (call aG [var 1,var 0]) [0] (some ↥5::δ) (.int (nI E F x))=.ok (some (xD (xt E F x))):=fun δ x m=>by
  have e:=Fq h (hx x (List.mem_append.mpr (.inl m))) (hn x (List.mem_append.mpr (.inl m)))
  unfold stC inC
  simp_arith [List.getD_cons_zero,e]
  unfold qr
  simp_arith []
 have f1:eG (ps.map fun p=>xD (ptp E F p))=.ok (.lst (ps.map fun p=>xD (ptp E F p))):=by
  have:=vp (xs:=ps.map (ptp E F))
  rw [List.map_map] at this
  unfold eG
  exact if_pos this
 have f2:eG ((xs.map (xt E F)).map xD)=.ok (.lst ((xs.map (xt E F)).map xD)):=by unfold eG;rw [if_pos vp]
 have pb:∀ (a2 a3 a4 a5 a6 a7:Option D) (ds:List D),pub 6 [a2,a3,a4,a5,a6,a7,some (.own ds)]=[a2,a3,a4,a5,a6,a7,some (.lst ds)]:=fun _ _ _ _ _ _ _=>rfl
 have ad:bY (.lst (ps.map fun p=>xD (ptp E F p))) (.lst ((xs.map (xt E F)).map xD))=.ok (.lst ((ps.map (ptp E F)++xs.map (xt E F)).map xD)):=by
  rw [lO (by simp;omega),List.map_append,List.map_map (f:=ptp E F)]
  rfl
 unfold aj bj
 simp_arith [aE w,bl,lo,List.length_map,show ps.length<=100000 by omega,show xs.length<=100000 by omega,an,mq (st _),ph,any_map,aw,mq (st2 _),f1,pb,t9 (st3 _),f2,ad,hd]
theorem Gg {b:Int} (w:Wy) (h:Sz E F) (hl:xs.length<=400) (hl2:ps.length<=300) (hx:∀ x∈xs++fl ps,qW E F x) (hn:∀ x∈xs++fl ps,x.2<=pw ↥9 - pw F) (hw:∀ p∈ps,¬ wrP E F p) (hs:∀ s∈tW (ps.map (ptp E F)++xs.map (xt E F)),0<=s/\s<=1) (hb:b∈tW (ps.map (ptp E F)++xs.map (xt E F))) :
  aj [.tup [.int E,.int F],.str w.s,.lst (ps.map (pD E F)),.lst ((xs.map (nI E F)).map .int)]=.ok (if 0∈tW (ps.map (ptp E F)++xs.map (xt E F))/\1∈tW (ps.map (ptp E F)++xs.map (xt E F)) then .tup [.int (pw ↥9 - pw F+pw (F - 1)),.int 16] else .tup [.int (b*pw ↥9+(pw ↥9 - pw F)),.int 0]):=by
 refine sC w h hl hl2 hx hn hw ?_
 have hne:tW (ps.map (ptp E F)++xs.map (xt E F))≠[]:=fun z=>by rw [z] at hb;cases hb
 rw [kd w h (by rw [List.length_append,List.length_map,List.length_map];omega) hs hne]
 generalize tW (ps.map (ptp E F)++xs.map (xt E F))=es at *
 by_cases g:0∈es/\1∈es
 ·rw [if_pos g,if_pos g]
 ·rw [if_neg g,if_neg g]
  have hm:es.getD 0 0∈es:=by
   cases es with
   | nil=>exact absurd rfl hne
   | cons a r=>exact .head _
  have q1:=hs _ hm
  have q2:=hs _ hb
  have:es.getD 0 0=b:=by
   rcases (by omega:es.getD 0 0=0\/es.getD 0 0=1) with u | u<;>rcases (by omega:b=0\/b=1) with v | v
   ·omega
   ·exact absurd ⟨u▸hm,v▸hb⟩ g
   ·exact absurd ⟨v▸hb,u▸hm⟩ g
   ·omega
  rw [this]
theorem Ly (hx:∀ x∈xs++fl ps,qW E F x):∀ s∈tW (ps.map (ptp E F)++xs.map (xt E F)),0<=s/\s<=1:=fun s hs=>by
 unfold tW at hs
 obtain ⟨t,m,e⟩:=List.mem_filterMap.mp hs
 rcases List.mem_append.mp m with m | m
 ·obtain ⟨p,m',rfl⟩:=List.mem_map.mp m
  unfold ptp pt at e
  split at e
  ·rename_i g
   split at g
   ·cases g
   ·cases g;cases e
  ·rename_i g
   split at g
   ·cases g;cases e;exact wW
   ·cases g
 ·obtain ⟨x,m',rfl⟩:=List.mem_map.mp m
  unfold xt at e
  split at e
  ·rename_i g
   split at g
   ·cases g
   ·cases g;cases e
  ·rename_i g
   split at g
   ·cases g;cases e;exact (hx x (List.mem_append.mpr (.inl m'))).1
   ·cases g
end
theorem Ea {E F a b:Int} {W:PySem.Str}:d8 [.tup [.int E,.int F],.str W,.int a,.int b]=aj [.tup [.int E,.int F],.str W,.lst [],.lst [.int a,.int b]]:=by
 unfold d8 qA
 generalize hr:aj [.tup [.int E,.int F],.str W,.lst [],.lst [.int a,.int b]]=r
 cases r with
 | ok d=>simp_arith [hr]
 | ex C=>simp_arith [hr]
 | bad =>
  simp_arith [hr]
  rfl
theorem vQ {t:Tm}:dB [tD t]=.ok (tD (1 - t.1,t.2.1,t.2.2)):=by
 unfold dB qz tD
 simp_arith []
theorem lC {E F s c:Int} (h:Sz E F) (hs:0<=s/\s<=1) (c0:0<=c) (c1:c<pw ↥9 - pw F):bA [.tup [.int E,.int F],.int ↥27]=.ok (tD (wt E F s c)):=by
 have hQ:=ak F
 obtain ⟨b1,b2,b3,b4⟩:=au (c:=c) h hs c0 ⋯
 have wo:=pS h b1 (by rw [b3];intro z;have:=(lR h c0 ⋯).mp z;omega)
 rw [b2,b3,b4] at wo
 exact wo
def sm2 (F s c s' c':Int):Int:=(if s=1 then -(vl F c) else vl F c)+(if s'=1 then -(vl F c') else vl F c')
theorem v7 {α:Type} {xs:List α} {m:Int} (m0:0<=m) (m1:m<=xs.length):EV.cut xs none (some m)=xs.take m.toNat:=by
 unfold EV.cut sIx
 simp only [List.drop_zero,Nat.sub_zero]
 congr 1
 split<;>omega
theorem v9 {α:Type} {xs:List α} {m:Int} (m0:0<=m) (m1:m<=xs.length):EV.cut xs (some m) none=xs.drop m.toNat:=by
 unfold EV.cut sIx
 have e:(if m<0 then (m+(xs.length:Int)).toNat else min m.toNat xs.length)=m.toNat:=by
  split<;>omega
 simp only [e]
 rw [List.take_of_length_le]
 rw [List.length_drop]
 omega
theorem pe {a b:Int} (ha:0<=a) (hb:0<=b):∃ x,yf (.int a) (.int b)=.ok (.int x)/\0<=x:=by
 unfold yf
 simp only
 rw [if_pos ⟨ha,hb⟩]
 exact ⟨_,rfl,⋯⟩
def Hv (w:Wy) (E F:Int) (bs:List Int) (x y:Int):Prop:=∀ j:Nat,bs.length<=2^j->az (j+1) [.tup [.int E,.int F],.str w.s,.lst ↥26]=.ok ↥37
theorem uQ {E F:Int} {bs:List Int} {x1 y1 x2 y2 x3 y3 y12 y:Int} {w:Wy} {j:Nat} (hl:2<=bs.length)
  (h1:az j [.tup [.int E,.int F],.str w.s,.lst ((bs.take (bs.length / 2)).map .int)]=.ok (.tup [.int x1,.int y1])) (h2:az j [.tup [.int E,.int F],.str w.s,.lst ((bs.drop (bs.length / 2)).map .int)]=.ok (.tup [.int x2,.int y2]))
  (h3:d8 [.tup [.int E,.int F],.str w.s,.int x1,.int x2]=.ok (.tup [.int x3,.int y3])) (h4:yf (.int y1) (.int y2)=.ok (.int y12)) (h5:yf (.int y12) (.int y3)=.ok (.int y)) :
  az (j+1) [.tup [.int E,.int F],.str w.s,.lst ↥26]=.ok (.tup [.int x3,.int y]):=by
 have c1:EV.cut (bs.map D.int) none (some ((bs.length:Int) / 2))=(bs.take (bs.length / 2)).map .int:=by
  rw [v7 ⋯ (by rw [List.length_map];omega),List.map_take]
  congr 1
 have c2:EV.cut (bs.map D.int) (some ((bs.length:Int) / 2)) none=(bs.drop (bs.length / 2)).map .int:=by
  rw [v9 ⋯ (by rw [List.length_map];omega),List.map_drop]
  congr 1
 have pv:∀ (a0 a1 a2:Option D) (m:Int) (t:Dt),part (some (var 3)) (a0::a1::a2::some (.int m)::t)=.ok (some m):=fun _ _ _ _ _=>rfl
 unfold az b7
 generalize az j=P at *
 simp_arith [List.length_map,show ¬ (bs.length:Int)=1 by omega,pv,c1,c2,h1,h2,h3,h4,h5]
theorem sv {E F x y:Int} {bs:List Int} {w:Wy} (h:Sz E F) (hl:bs.length<=1000) (hp:0<bs.length) (hb:∀ b∈bs,In E F b) (e:az 20 [.tup [.int E,.int F],.str w.s,.lst ↥26]=.ok ↥37) :
  bf [.tup [.int E,.int F],.str w.s,.lst ↥26]=.ok ↥37:=by
 unfold bf cz
 simp_arith [aE w,List.length_map,show ¬ (bs.length:Int)=0 by omega,dU h hl hb,e]
theorem uU {E F s c s' c':Int} (h:Sz E F) (hs:0<=s/\s<=1) (hs':0<=s'/\s'<=1) (c0:0<=c) (c1:c<pw ↥9 - pw F) (d0:0<=c') (d1:c'<pw ↥9 - pw F):aq [.tup [.int E,.int F],.lst [.int ↥27,.int (s'*pw ↥9+c')]]=.ok .non :=
 eC (xs:=[(s,c),(s',c')]) h (show 2<=1000 by decide) (fun x hx=>by
  rcases List.mem_cons.mp hx with e | hx
  ·subst e;exact ⟨hs,c0,c1⟩
  ·rcases List.mem_cons.mp hx with e | hx
   ·subst e;exact ⟨hs',d0,d1⟩
   ·cases hx)
theorem uT {E F b:Int} (h:Sz E F) (hb:In E F b) (hf:¬ fld E F b=pw E - 1):bT [.tup [.int E,.int F],.int b]=.ok (.tup [.int (sgn E F b),.int (frT (wh F (fld E F b) (fig F b)) (po E F (fld E F b))),.int (frB (po E F (fld E F b)))]):=by
 have h1:=yw h hb
 have h2:=GP h hb
 unfold bT iD
 simp_arith [pS h hb hf,cX (s:=sgn E F b) (w:=wh F (fld E F b) (fig F b)) (p:=po E F (fld E F b)) ⋯ ⋯]
theorem mj {E F s c:Int} (h:Sz E F) (hs:0<=s/\s<=1) (c0:0<=c) (c1:c<pw ↥9):aP [.tup [.int E,.int F],.int ↥27]=.ok (.tup [.int s,.int (c / pw F),.int (c%pw F)]):=by
 obtain ⟨b1,b2,b3,b4⟩:=au h hs c0 c1
 have:=dZ h b1
 rw [b2,b3,b4] at this
 exact this
theorem iZ {E F s c:Int} (h:Sz E F) (hs:0<=s/\s<=1) (c0:0<=c) (c1:c<pw ↥9 - pw F):bT [.tup [.int E,.int F],.int ↥27]=.ok (.tup [.int s,.int (frT (wh F (c / pw F) (c%pw F)) (po E F (c / pw F))),.int (frB (po E F (c / pw F)))]):=by
 have hQ:=ak F
 obtain ⟨b1,b2,b3,b4⟩:=au (c:=c) h hs c0 ⋯
 have:=uT h b1 (by rw [b3];intro z;have:=(lR h c0 ⋯).mp z;omega)
 rw [b2,b3,b4] at this
 exact this
theorem K2 {n r:Int} (hn:0<=n) (hr:0<r) (hs:n<r*r):0<=(r+n / r) / 2/\(r+n / r) / 2<r/\n<((r+n / r) / 2+1)*((r+n / r) / 2+1):=by
 have q0:0<=n / r:=Int.ediv_nonneg hn ⋯
 have q1:n / r<r:=Int.ediv_lt_of_lt_mul hr hs
 have q2:n<(n / r+1)*r:=by
  have:=Int.lt_ediv_add_one_mul_self n hr
  exact this
 generalize n / r=q at *
 refine ⟨⋯,⋯,?_⟩
 have e:r+q+1<=2*((r+q) / 2+1):=⋯
 generalize (r+q) / 2+1=t at *
 have h4:(r+q+1)*(r+q+1)<=(2*t)*(2*t):=Int.mul_le_mul e e ⋯ ⋯
 have h5:4*((q+1)*r)<=(r+q+1)*(r+q+1):=by
  have h6:0<=(r - (q+1))*(r - (q+1)):=by
   rcases Int.le_total 0 (r - (q+1)) with z | z
   ·exact Int.mul_nonneg z z
   ·exact Int.mul_nonneg_of_nonpos_of_nonpos z z
  have e1:(r - (q+1))*(r - (q+1))=r*r - 2*((q+1)*r)+(q+1)*(q+1):=by
   simp only [Int.sub_mul,Int.mul_sub,Int.add_mul,Int.mul_add,Int.one_mul,Int.mul_one,Int.mul_comm r q];omega
  have e2:(r+q+1)*(r+q+1)=r*r+2*((q+1)*r)+(q+1)*(q+1):=by
   simp only [Int.add_mul,Int.mul_add,Int.one_mul,Int.mul_one,Int.mul_comm r q];omega
  rw [e1] at h6
  rw [e2]
  omega
 have h7:(2*t)*(2*t)=4*(t*t):=by
  rw [Int.mul_assoc,Int.mul_left_comm t 2 t];omega
 rw [h7] at h4
 omega
def Inv (n:Int) (δ:Dt):Prop:=∃ r,δ=[some (.int n),some (.int r)]/\0<=r/\n<(r+1)*(r+1)/\nb r<=3001
theorem pU {n:Int} (h0:0<=n) (hb:nb n<=3000):∃ r,dn [.int n]=.ok (.int r)/\EY n r:=by
 unfold dn eT
 have hlt:¬ n<0:=⋯
 have hd:iF ((nb n:Int)+1) 2:=iF.small ↥0 ↥0
 have hsz:(nb (1:Int):Int)+((nb n:Int)+1) / 2<=134217728:=by
  have:nb (1:Int)=1:=by decide
  omega
 simp_arith [hlt,gL hd,bX (show (0:Int)<=((nb n:Int)+1) / 2 by omega) hsz,Int.one_mul]
 have hin:Inv n [some (.int n),some (.int (pw (((nb n:Int)+1) / 2)))]:=by
  refine ⟨_,rfl,Int.le_of_lt (ak _),?_,Nat.le_trans (gM (c:=3000) ⋯) ↥0⟩
  have h1:=kr h0
  have h2:pw (nb n)<=pw (((nb n:Int)+1) / 2+((nb n:Int)+1) / 2):=gF ⋯
  rw [bW ⋯ ⋯] at h2
  have h3:=ak (((nb n:Int)+1) / 2)
  generalize pw (((nb n:Int)+1) / 2)=z at *
  have e:(z+1)*(z+1)=z*z+2*z+1:=by
   simp only [Int.add_mul,Int.mul_add,Int.one_mul,Int.mul_one];omega
  rw [e]
  omega
 obtain ⟨δ',e1,⟨r,rfl,r0,r1,r2⟩,e3⟩:=vx (c:=bin oGt (bin kq (var 1) (var 1)) (var 0)) (b:=assign 1 (bin oDiv (bin bY (var 1) (bin oDiv (var 0) (var 1))) ⇑2)) (Inv n) (fun δ=>match δ with | [_,some (.int r)]=>r.toNat | _=>0) (fun δ ⟨r,e,r0,r1,r2⟩=>by
  subst e
  have hm:MulOk r r:=MulOk.of r2 r2 ↥0
  simp_arith [bM hm]
  by_cases hc:n<r*r
  ·have hr:0<r:=by
    rcases Int.lt_or_eq_of_le r0 with z | z
    ·exact z
    ·rw [<- z] at hc;omega
   obtain ⟨n1,n2,n3⟩:=K2 h0 hr hc
   refine .inr ⟨by simp [hc],?_⟩
   simp_arith [gL (iF.small (i:=n) hr (Nat.le_trans r2 ↥0)),gL (iF.small (i:=r+n / r) (j:=2) ↥0 ↥0)]
   refine ⟨_,rfl,⟨_,rfl,n1,n3,Nat.le_trans (fW ⋯) r2⟩,?_⟩
   show ((r+n / r) / 2).toNat<r.toNat
   omega
  ·exact .inl (by simp [hc])) _ hin
 refine ⟨r,?_,r0,?_,r1⟩
 ·simp_arith [e1]
 ·have hm:MulOk r r:=MulOk.of r2 r2 ↥0
  revert e3
  simp_arith [bM hm]
  intro e3
  have:¬ n<r*r:=by simpa using e3
  omega
theorem rN {A B r:Int} (hA:nb A<=50000000) (hB:nb B<=50000000) (hr:nb r<=1000):d5 [.int A,.int B,.int r]=.ok (.int (IJ r A B)):=by
 have n1:nb (2*r)<=1002:=by walk_at "nbk"
 have n2:nb (2*r+1)<=1003:=by walk_at "nbk"
 have n3:nb ((2*r+1)*(2*r+1))<=2006:=by walk_at "nbk"
 have n4:nb (r*r)<=2000:=by walk_at "nbk"
 have m1:MulOk 2 r:=by walk_at "mul"
 have m2:MulOk (2*r+1) (2*r+1):=by walk_at "mul"
 have m3:MulOk ((2*r+1)*(2*r+1)) B:=by walk_at "mul"
 have m4:MulOk r r:=by walk_at "mul"
 have m5:MulOk (r*r) B:=by walk_at "mul"
 have m6:MulOk 4 A:=by walk_at "mul"
 have e:(A - r*r*B=0)=(r*r*B=A):=by apply propext;omega
 unfold d5 fY IJ
 simp_arith [bM m1,bM m2,bM m3,bM m4,bM m5,bM m6,mh,e]
theorem GA {E F t n:Int} (h:Sz E F) (ht:0<t) (hn:0<n) (h1:nb t<=1000000) (h2:nb n<=1000000) :
  ∃ r,fi [.tup [.int E,.int F],.int t,.int n]=.ok (.tup [.int r,.int (fQ E F t n),.int (IJ r (iG ↥23 t) (gj ↥23 n))])/\EY (iG ↥23 t / gj ↥23 n) r:=by
 obtain ⟨s1,s2,s3,s4⟩:=rM h ht hn
 have l:=lr h
 have hg:=Ak ht hn
 have hB:=l4 (p:=2*fQ E F t n) hn
 have hA:=qH (p:=2*fQ E F t n) (Int.le_of_lt ht)
 have q1:nb (2*pw F)<=2+113:=d9 ↥0 (gM (c:=112) h.2.2.2)
 have q2:=d9 q1 q1
 have d:=Ht hA hB q2 ↥0 s3
 have eP:max (lo E F) ((hgt t n+1) / 2 - F - 1)=fQ E F t n:=rfl
 have nB:nb (gj ↥23 n)<=4000000:=by
  have:=d9 h2 (gM (k:=2*fQ E F t n) (c:=2000000) ⋯)
  unfold gj;omega
 have nA:nb (iG ↥23 t)<=4000000:=by
  have:=d9 h1 (gM (k := -↥23) (c:=2000000) ⋯)
  unfold iG;omega
 have nP:nb (fQ E F t n)<=64:=by
  refine mH.mpr ?_
  have:(2:Nat)^64=18446744073709551616:=by decide
  omega
 have m2:MulOk 2 (fQ E F t n):=by walk_at "mul"
 have x0:0<=iG ↥23 t / gj ↥23 n:=Int.ediv_nonneg hA (Int.le_of_lt hB)
 have x1:iG ↥23 t / gj ↥23 n<2*pw F*(2*pw F):=Int.ediv_lt_of_lt_mul hB s3
 have x2:nb (iG ↥23 t / gj ↥23 n)<=230:=Nat.le_trans (fW ⋯) q2
 obtain ⟨r,er,hr⟩:=pU x0 (Nat.le_trans x2 ↥0)
 have nr:nb r<=1000:=by
  obtain ⟨r0,r1,r2⟩:=hr
  have:nb r<=nb (iG ↥23 t / gj ↥23 n):=fW (by
   have:r<=r*r:=by
    rcases Int.lt_or_eq_of_le r0 with z | z
    ·have:=Int.mul_le_mul_of_nonneg_left (show 1<=r by omega) r0
     omega
    ·rw [<- z];decide
   omega)
  omega
 refine ⟨r,?_,hr⟩
 unfold fi iB
 simp_arith [qI (Int.le_of_lt ht) hn,show ¬ t=0 by omega,jz h,sA h1 h2,eP,bM m2,jg (t:=t) (n:=n) (p:=2*fQ E F t n) ⋯ ⋯ ⋯ ⋯,gL d,er,rN (A:=iG ↥23 t) (B:=gj ↥23 n) (r:=r) ⋯ ⋯ nr]
theorem rO {E F s c:Int} (h:Sz E F) (hs:0<=s/\s<=1) (c0:0<=c) (c1:c<pw ↥9):aN [.tup [.int E,.int F],.int ↥27]=.ok (.str (kindS E (c / pw F) (c%pw F))):=by
 obtain ⟨b1,b2,b3,b4⟩:=au h hs c0 c1
 have:=iY h b1
 rw [b3,b4] at this
 exact this
theorem uj {E F s c:Int} (w:Wy) (h:Sz E F) (hs:0<=s/\s<=1) (hc:c=0\/(s=0/\c=pw ↥9 - pw F)):dj [.tup [.int E,.int F],.str w.s,.int ↥27]=.ok (.tup [.int ↥27,.int 0]):=by
 have h5:=dC h
 have hQ:=ak F
 have kc:=fo (c:=c) h ⋯ ⋯
 have kk:=rO (c:=c) h hs ⋯ ⋯
 have e:=kA kk rfl rfl
 have ee:=bg h
 rw [end_is h] at ee
 unfold dj iA
 rcases hc with g | ⟨g1,g2⟩
 ·rw [kc.2.2.1 g] at e kk
  rw [decide_eq_false ↥0] at e
  simp_arith [aE w,e,kk]
 ·rw [kc.2.1 g2] at e kk
  rw [decide_eq_false ↥0] at e
  subst g1
  have q:0*pw ↥9+c=pw ↥9 - pw F:=⋯
  rw [q] at e kk ⊢
  simp_arith [aE w,e,kk,ee]
theorem xm {E F c:Int} (w:Wy) (h:Sz E F) (c0:0<c) (c1:c<=pw ↥9 - pw F):dj [.tup [.int E,.int F],.str w.s,.int (1*pw ↥9+c)]=.ok (.tup [.int (pw ↥9 - pw F+pw (F - 1)),.int 16]):=by
 have h5:=dC h
 have hQ:=ak F
 have hs:(0:Int)<=1/\(1:Int)<=1:=by decide
 have kc:=fo (c:=c) h ⋯ ⋯
 have kk:=rO (c:=c) h hs ⋯ ⋯
 have e:=kA kk rfl rfl
 have ee:=bg h
 rw [end_is h] at ee
 have e2:=dw h
 rw [end_is h] at e2
 obtain ⟨b1,b2,b3,b4⟩:=au (c:=c) h hs ⋯ ⋯
 have pa:=dZ h b1
 rw [b2,b3,b4] at pa
 have k2:kindS E (c / pw F) (c%pw F)≠PySem.Str.ofString "none"/\kindS E (c / pw F) (c%pw F)≠PySem.Str.ofString "nought":=by
  by_cases g:c=pw ↥9 - pw F
  ·rw [kc.2.1 g];decide
  ·rcases kc.2.2.2 c0 ⋯ with y | y<;>rw [y]<;>decide
 rw [decide_eq_false k2.1] at e
 generalize kindS E (c / pw F) (c%pw F)=K at *
 unfold dj iA
 simp_arith [aE w,e,kk,k2.2,ee,show ¬ 1*pw ↥9+c=pw ↥9 - pw F by omega,pa,e2]
theorem oP {E F b:Int} (h:Sz E F) (hb:b<0\/pw (E+F+1)<=b):aP [.tup [.int E,.int F],.int b]=.ex "NoBits":=by
 obtain ⟨k1,k2,k3,k4⟩:=id h
 have o:or_ (bin oLt (var 1) ⇑0) (bin oGe (var 1) (bin eF ⇑1 (call iT [var 0]))) [some ↥5,some (.int b),none,none]=.ok (.bl true):=by
  by_cases g:b<0
  ·simp_arith [g]
  ·have:pw (E+F+1)<=b:=hb.resolve_left g
   simp_arith [g,vr,qU (k:=E+F+1) ⋯ ⋯,this]
 unfold aP jG
 generalize or_ (bin oLt (var 1) ⇑0) (bin oGe (var 1) (bin eF ⇑1 (call iT [var 0])))=A at *
 simp_arith [o]
theorem Dk {E F b:Int} (h:Sz E F) (hb:b<0\/pw (E+F+1)<=b):aN [.tup [.int E,.int F],.int b]=.ex "NoBits":=by
 unfold aN sD
 simp_arith [oP h hb]
def Out (E F b:Int):Prop:=b<0\/pw (E+F+1)<=b
theorem Ae {E F:Int} (b:Int):In E F b\/Out E F b:=by
 by_cases g:0<=b/\b<pw (E+F+1)
 ·exact .inl g
 ·exact .inr (by unfold Out;omega)
theorem LX {E F:Int} {bs:List Int} (h:Sz E F) (hl:bs.length<=100) (ho:∃ b∈bs,Out E F b):bb [.tup [.int E,.int F],.lst ↥26]=.ex "NoBits":=by
 have ru:∀ (δ:Dt) (bs:List Int),(∃ b∈bs,Out E F b)->runC (stX (call aN [var 1,var 0]) [0] (some ↥5::δ)) ↥26=.ex "NoBits":=fun δ bs=>by
  induction bs with
  | nil=>rintro ⟨b,m,_⟩;cases m
  | cons b r ih =>
   rintro ⟨x,m,ox⟩
   rw [List.map_cons]
   unfold runC
   rcases Ae (E:=E) (F:=F) b with hi | hi
   ·have hr:∃ b∈r,Out E F b:=by
     rcases List.mem_cons.mp m with e | m
     ·subst e
      unfold In at hi
      unfold Out at ox
      omega
     ·exact ⟨x,m,ox⟩
    have e:stX (call aN [var 1,var 0]) [0] (some ↥5::δ) (.int b)=.ok (some (.str (kindS E (fld E F b) (fig F b)))):=by
     unfold stX inC
     simp_arith [List.getD_cons_zero,iY h hi,D.flat]
    rw [e,AQ,ih hr,uZ]
   ·have e:stX (call aN [var 1,var 0]) [0] (some ↥5::δ) (.int b)=.ex "NoBits":=by
     unfold stX inC
     simp_arith [List.getD_cons_zero,Dk h hi]
    rw [e,uZ]
 unfold bb fB
 simp_arith [oJ,Ex (show (bs.map D.int).length<=100000 by rw [List.length_map];omega),ru _ bs ho,F7]
section
variable {E F:Int} (h:Sz E F)
include h
theorem zJ:In E F (pw ↥9 - pw F+pw (F - 1)):=by
 have hh:=dC h
 have e2:=um (F:=F) h.2.2.1
 have hq1:=ak (F - 1)
 have:=(au (s:=0) (c:=pw ↥9 - pw F+pw (F - 1)) h ↥0 ⋯ ⋯).1
 rw [Int.zero_mul,Int.zero_add] at this
 exact this
theorem LB {g:Int} (hg:0<=g/\g<=1):In E F (g*pw ↥9+(pw ↥9 - pw F)):=by
 have hh:=dC h
 have hQ:=ak F
 exact (au (c:=pw ↥9 - pw F) h hg ⋯ ⋯).1
theorem E3 {g:Int} (hg:0<=g/\g<=1):In E F (g*pw ↥9):=by
 have:=(au (c:=0) h hg ↥0 (ak _)).1
 rw [Int.add_zero] at this
 exact this
theorem JL {w:Wy} {g k r:Int} (hg:0<=g/\g<=1) (k0:0<=k):In E F (g*pw ↥9+stK w E F g k r):=by
 have hQ:=ak F
 have i:=JM (w:=w) (s:=g) (r:=r) h k0
 exact (au (c:=stK w E F g k r) h hg i.1 ⋯).1
end
theorem AJ {E F P m:Int} (h1:lo E F<=P) (m0:0<=m):0<=codeOf E F P m:=by
 have:=Int.mul_nonneg (show 0<=P - lo E F by omega) (Int.le_of_lt (ak F))
 unfold codeOf
 omega
theorem km {E F s t n:Int} (w:Wy) (h:Sz E F) (hs:0<=s/\s<=1) (ht:0<=t) (hn:0<n) (n1:nb t<=1000000) (n2:nb n<=1000000):∃ x y,bG [.tup [.int E,.int F],.str w.s,.int s,.int t,.int n]=.ok ↥37/\In E F x/\0<=y:=by
 by_cases z:t=0
 ·subst z;exact ⟨_,_,rL w h hs hn,E3 h hs,by decide⟩
 ·obtain ⟨s1,_⟩:=qF h (show 0<t by omega) hn
  exact ⟨_,_,xl w h hs ⋯ hn n1 n2,JL h hs (AJ s1 (Int.ediv_nonneg (qH ht) (Int.le_of_lt (l4 hn)))),Eo⟩
theorem Ej {ts:List Tm} (hl:ts.length<=1000) (hts:∀ t∈ts,vk t):∃ (d:D) (g u v:Int),gH [.lst (ts.map tD)]=.ok d/\aC [d]=.ok (.tup [.int g,.int u,.int v])/\(0<=g/\g<=1)/\0<=u/\0<v/\nb u<=1000000/\nb v<=1000000/\(u=0->qT (qV ts) ts=0):=by
 have hb:=uD (ts:=ts) (a := -200000) (b:=200000) ↥0 fun t ht=>⟨(hts t ht).2.2.1,(hts t ht).2.2.2⟩
 have to:=vz ⋯ hts
 have nS:=En (p:=qV ts) fun t ht=>⟨hts t ht,zR ht,by have:=(hts t ht).2.2.2;omega⟩
 generalize qV ts=p at *
 generalize qT p ts=S at *
 have nA:nb (if S<0 then -S else S)<=460000:=by rw [Nz];omega
 have A0:0<=(if S<0 then -S else S):=by split<;>omega
 have A1:(if S<0 then -S else S)=0->S=0:=by split<;>omega
 have hg:(0:Int)<=(if S<0 then 1 else 0)/\(if S<0 then (1:Int) else 0)<=1:=by split<;>decide
 generalize (if S<0 then -S else S)=A at *
 generalize (if S<0 then (1:Int) else 0)=g at *
 have wf:=cX (s:=g) (w:=A) (p:=p) ⋯ ⟨⋯,⋯⟩
 refine ⟨_,g,frT A p,frB p,to,wf,hg,?_,?_,?_,?_,?_⟩
 ·unfold frT
  split
  ·exact Int.mul_nonneg A0 (Int.le_of_lt (ak _))
  ·exact A0
 ·unfold frB
  split
  ·decide
  ·exact ak _
 ·unfold frT
  split
  ·have:=d9 nA (gM (k:=p) (c:=200000) ⋯)
   omega
  ·omega
 ·unfold frB
  split
  ·decide
  ·exact Nat.le_trans (gM (c:=200000) ⋯) ↥0
 ·unfold frT
  split
  ·intro z
   rcases Int.mul_eq_zero.mp z with e | e
   ·exact A1 e
   ·have:=ak p;omega
  ·exact A1
theorem B6 {E F:Int} {ts:List Tm} (w:Wy) (h:Sz E F) (hl:ts.length<=1000) (hts:∀ t∈ts,vk t):∃ x y,aK [.tup [.int E,.int F],.str w.s,.lst (ts.map tD)]=.ok ↥37/\In E F x/\0<=y:=by
 obtain ⟨d,g,u,v,to,wf,hg,u0,v0,nu,nv,uz⟩:=Ej hl hts
 by_cases z:u=0
 ·exact ⟨_,_,jf w h hl hts (uz z),E3 h (EC _ _),by decide⟩
 ·obtain ⟨x,y,e,i⟩:=km w h hg u0 v0 nu nv
  refine ⟨x,y,?_,i⟩
  unfold aK bP
  simp_arith [to,wf,z,e]
theorem lQ {E F:Int} {ts:List Tm} (h:Sz E F) (hl:ts.length<=1000) (hts:∀ t∈ts,vk t):(∃ d:Int,bH [.tup [.int E,.int F],.lst (ts.map tD)]=.ok (.int d))\/bH [.tup [.int E,.int F],.lst (ts.map tD)]=.ex "NoLeft":=by
 obtain ⟨d,g,u,v,to,wf,hg,u0,v0,nu,nv,_⟩:=Ej hl hts
 obtain ⟨x,y,e,_⟩:=km .even h hg u0 v0 nu nv
 have ws:Wy.even.s=PySem.Str.ofString "even":=rfl
 rw [ws] at e
 unfold bH jH
 by_cases z:y=0
 ·exact .inl ⟨x,by simp_arith [to,wf,e,eq_true z]⟩
 ·exact .inr (by simp_arith [to,wf,e,z])
theorem t7 {E F:Int} {ps:List (↥30×↥30)} {xs:List ↥30} (w:Wy) (h:Sz E F) (hl:xs.length<=400) (hl2:ps.length<=300) (hx:∀ x∈xs++fl ps,qW E F x) :
  ∃ x y,aj [.tup [.int E,.int F],.str w.s,.lst (ps.map (pD E F)),.lst ((xs.map (nI E F)).map .int)]=.ok ↥37/\In E F x/\0<=y:=by
 by_cases n:∃ x∈xs++fl ps,pw ↥9 - pw F<x.2
 ·exact ⟨_,_,Dy w h hl hl2 hx n,zJ h,by decide⟩
 have hn:∀ x∈xs++fl ps,x.2<=pw ↥9 - pw F:=fun x m=>Int.not_lt.mp fun g=>n ⟨x,m,g⟩
 by_cases wr:∃ p∈ps,wrP E F p
 ·exact ⟨_,_,HJ w h hl hl2 hx hn wr,zJ h,by decide⟩
 by_cases es:∃ b,b∈tW (ps.map (ptp E F)++xs.map (xt E F))
 ·obtain ⟨b,hb⟩:=es
  have e:=Gg w h hl hl2 hx hn (fun p m g=>wr ⟨p,m,g⟩) (Ly hx) hb
  split at e
  ·exact ⟨_,_,e,zJ h,by decide⟩
  ·exact ⟨_,_,e,LB h (Ly hx b hb),by decide⟩
 ·have hf:∀ x∈xs++fl ps,x.2<pw ↥9 - pw F:=fun x m=>by
   refine Int.lt_iff_le_and_ne.mpr ⟨hn x m,fun z=>es ?_⟩
   rcases List.mem_append.mp m with m | m
   ·refine ⟨x.1,List.mem_filterMap.mpr ⟨xt E F x,List.mem_append_right _ (List.mem_map_of_mem m),?_⟩⟩
    unfold xt
    rw [if_pos z]
   ·obtain ⟨p,mp,q⟩:=List.mem_flatMap.mp m
    refine ⟨sx p.1.1 p.2.1,List.mem_filterMap.mpr ⟨ptp E F p,List.mem_append_left _ (List.mem_map_of_mem mp),?_⟩⟩
    unfold ptp pt
    rw [if_pos]
    rcases List.mem_cons.mp q with q | q
    ·rw [q] at z;exact .inl z
    ·rw [List.mem_singleton.mp q] at z;exact .inr z
  have ok:=Lr h hx hf
  obtain ⟨x,y,e,i⟩:=B6 (ts:=fts E F ps xs) w h (by rw [An];omega) fun t m=>(ok t m).1
  refine ⟨x,y,sC w h hl hl2 hx hn (fun p m g=>wr ⟨p,m,g⟩) ?_,i⟩
  rw [Lq hf,kf w (by rw [An];omega)]
  exact e
theorem AM {E F:Int} (h:Sz E F):∀ bs:List Int,(∀ b∈bs,In E F b)->∃ xs:List ↥30,bs=xs.map (nI E F)/\∀ x∈xs,qW E F x
 | [],_=>⟨[],rfl,fun _ m=>nomatch m⟩
 | b::r,hb=>by
  obtain ⟨xs,e,ok⟩:=AM h r fun x m=>hb x (.tail _ m)
  obtain ⟨s,c,hs,c0,c1,eb⟩:=fG h (hb b (.head _))
  refine ⟨(s,c)::xs,by rw [List.map_cons,<-e,eb];rfl,fun x m => ?_⟩
  rcases List.mem_cons.mp m with z | m
  ·subst z;exact ⟨hs,c0,c1⟩
  ·exact ok x m
theorem zh {E F:Int} {bs:List Int} (h:¬ ∃ b∈bs,Out E F b):∀ b∈bs,In E F b:=fun b m=>(Ae b).resolve_right fun o=>h ⟨b,m,o⟩
theorem HQ {i:Nat} {δ:Dt} {ds es:List D} (h1:D.flats es=true) (h2:ds.length+es.length<=100000):EL i δ ds (.ok (.tup es))=.nx (δ.set i (some (.own (ds++es)))):=by
 unfold EL
 simp only
 rw [if_pos ⟨h1,h2⟩]
def prD (p:Int×Int):D:=.tup [.int p.1,.int p.2]
def fl2 (qs:List ↥30):List Int:=qs.flatMap fun p=>[p.1,p.2]
theorem Ay {a0 a1 a2 a3 a6:Option D}:∀ {qs:List ↥30} {bs:List Int} {z5:Option D},(bs.length+2*qs.length<=100000)->∃ z5',forL 5 (gK 4 (var 5)) (qs.map prD) [a0,a1,a2,a3,some (.own ↥26),z5,a6]=.nx [a0,a1,a2,a3,some (.own ((bs++fl2 qs).map .int)),z5',a6]
 | [],bs,z5,_=>⟨z5,by rw [show fl2 []=[] from rfl,List.append_nil];rfl⟩
 | p::r,bs,z5,hl=>by
  rw [List.length_cons] at hl
  obtain ⟨z',e⟩:=Ay (a0:=a0) (a1:=a1) (a2:=a2) (a3:=a3) (a6:=a6) (qs:=r) (bs:=bs++[p.1,p.2]) (z5:=some (prD p)) (by rw [List.length_append];show bs.length+2+2*r.length<=100000;omega)
  refine ⟨z',?_⟩
  rw [List.map_cons,bu]
  have e3:bs++fl2 (p::r)=bs++[p.1,p.2]++fl2 r:=by rw [List.append_assoc];rfl
  rw [e3,<-e]
  have x:=HQ (i:=4) (δ:=[a0,a1,a2,a3,some (.own ↥26),some (prD p),a6]) (ds:=bs.map .int) (es:=[.int p.1,.int p.2]) rfl (by rw [List.length_map];show bs.length+2<=100000;omega)
  have e2:(bs++[p.1,p.2]).map D.int=bs.map .int++[.int p.1,.int p.2]:=by rw [List.map_append];rfl
  have y:gK 4 (var 5) [a0,a1,a2,a3,some (.own ↥26),some (prD p),a6]=.nx [a0,a1,a2,a3,some (.own ((bs++[p.1,p.2]).map .int)),some (prD p),a6]:=by
   rw [e2]
   exact x
  show trn (gK 4 (var 5) [a0,a1,a2,a3,some (.own ↥26),some (prD p),a6]) _=_
  rw [y]
  rfl
theorem Gf {E F:Int} {qs:List ↥30} {bs:List Int} (w:Wy) (h:Sz E F) (hl:bs.length<=40) (hl2:qs.length<=20) (ho:∃ b∈bs++fl2 qs,Out E F b):aj [.tup [.int E,.int F],.str w.s,.lst (qs.map prD),.lst ↥26]=.ex "NoBits":=by
 have ln:(fl2 qs).length=2*qs.length:=by
  clear ho hl2
  induction qs with
  | nil=>rfl
  | cons p r ih=>show (fl2 r).length+2=_;rw [ih,List.length_cons];omega
 have an:=LX (bs:=bs++fl2 qs) h (by rw [List.length_append,ln];omega) ho
 have bl:pj [.lst ↥26]=.ok (.lst ↥26):=bw
 obtain ⟨z5,e⟩:=Ay (a0:=some ↥5) (a1:=some (.str w.s)) (a2:=some (.lst (qs.map prD))) (a3:=some (.lst ↥26)) (a6:=none) (qs:=qs) (bs:=bs) (z5:=none) ⋯
 have lq:(qs.map prD).length<=100000:=by rw [List.length_map];omega
 unfold aj bj
 generalize qs.map prD=L at *
 generalize (bs++fl2 qs).map D.int=B at *
 simp_arith [aE w,bl,lq,e,an]
theorem nc {E F:Int} {bs:List Int} (h:Sz E F) (hl:bs.length<=1000) (ho:∃ b∈bs,Out E F b):aT [.tup [.int E,.int F],.lst ↥26]=.ex "NoBits":=by
 have loop:∀ (l:List Int),(∃ b∈l,Out E F b)->∀ (L:List D) (z:Option D),∃ δ,forL 2 (expr (call aP [var 0,var 2])) (l.map D.int) [some ↥5,some (.lst L),z]=.ex "NoBits" δ:=fun l=>by
  induction l with
  | nil=>rintro ⟨b,m,_⟩;cases m
  | cons b r ih =>
   rintro ⟨x,m,ox⟩ L z
   rw [List.map_cons,bu]
   rcases Ae (E:=E) (F:=F) b with hi | hi
   ·obtain ⟨δ,e⟩:=ih (by
     rcases List.mem_cons.mp m with e | m
     ·subst e
      unfold In at hi
      unfold Out at ox
      omega
     ·exact ⟨x,m,ox⟩) L (some (.int b))
    exact ⟨δ,by simp_arith [dZ h hi,e]⟩
   ·exact ⟨noOwn [some ↥5,some (.lst L),some (.int b)],by simp_arith [oP h hi]⟩
 obtain ⟨δ,e⟩:=loop bs ho ↥26 none
 unfold aT dz
 simp_arith [List.length_map,show bs.length<=100000 by omega,e]
theorem v3 {E F s c:Int} (h:Sz E F) (hs:0<=s/\s<=1) (c0:pw ↥9 - pw F<=c) (c1:c<pw ↥9):∃ K:PySem.Str,aN [.tup [.int E,.int F],.int ↥27]=.ok (.str K)/\(PySem.Str.ofString "endless"=K\/PySem.Str.ofString "none"=K):=by
 have hh:=dC h
 have hQ:=ak F
 obtain ⟨b1,b2,b3,b4⟩:=au (c:=c) h hs ⋯ c1
 have k:=iY h b1
 rw [b3,b4] at k
 have kc:=fo (c:=c) h ⋯ c1
 refine ⟨_,k,?_⟩
 by_cases g:c=pw ↥9 - pw F
 ·exact .inl (kc.2.1 g).symm
 ·exact .inr (kc.1 ⋯).symm
theorem xN {E F:Int} {bs:List Int} (h:Sz E F) (hl:bs.length<=1000) (ho:∃ b∈bs,Out E F b):aq [.tup [.int E,.int F],.lst ↥26]=.ex "NoBits":=by
 unfold aq bL
 simp_arith [nc h hl ho]
theorem Aw {E F:Int} {xs:List ↥30} (h:Sz E F) (hl:xs.length<=1000) (hx:∀ x∈xs,qW E F x) (ho:∃ x∈xs,pw ↥9 - pw F<=x.2):aq [.tup [.int E,.int F],.lst ((xs.map (nI E F)).map .int)]=.ex "NotFinite":=by
 have cb:=dU (bs:=xs.map (nI E F)) h (by rw [List.length_map];exact hl) fun b m=>by
  obtain ⟨x,mx,rfl⟩:=List.mem_map.mp m
  obtain ⟨a,b,c⟩:=hx x mx
  exact (au h a b c).1
 have ll:((xs.map (nI E F)).map D.int).length<=100000:=by rw [List.length_map,List.length_map];omega
 unfold aq bL
 generalize hbody:ifs _ _ _=body
 generalize hL:(xs.map (nI E F)).map D.int=L at *
 have loop:∀ (l:List ↥30),(∀ x∈l,qW E F x)->(∃ x∈l,pw ↥9 - pw F<=x.2)->∀ (z:Option D),∃ δ,forL 2 body ((l.map (nI E F)).map D.int) [some ↥5,some (.lst L),z]=.mk "NotFinite" δ:=fun l=>by
  induction l with
  | nil=>rintro _ ⟨b,m,_⟩;cases m
  | cons x r ih =>
   rintro hc ⟨y,m,oy⟩ z
   obtain ⟨a,b,c⟩:=hc x (.head _)
   rw [List.map_cons,List.map_cons,bu]
   by_cases g:x.2<pw ↥9 - pw F
   ·obtain ⟨δ,e⟩:=ih (fun b m=>hc b (.tail _ m)) (by
     rcases List.mem_cons.mp m with e | m
     ·subst e;omega
     ·exact ⟨y,m,oy⟩) (some (.int (nI E F x)))
    refine ⟨δ,?_⟩
    obtain ⟨K,k,nk⟩:=qC h a b g
    have k':aN [.tup [.int E,.int F],.int (nI E F x)]=.ok (.str K):=k
    subst hbody
    simp_arith [k',cP,nk,e]
   ·obtain ⟨K,k,nk⟩:=v3 h a (Int.not_lt.mp g) c
    have k':aN [.tup [.int E,.int F],.int (nI E F x)]=.ok (.str K):=k
    subst hbody
    exact ⟨[some ↥5,some (.lst L),some (.int (nI E F x))],by simp_arith [k',cP,eq_true nk]⟩
 obtain ⟨δ,e⟩:=loop xs hx ho none
 rw [hL] at e
 simp_arith [cb,ll,e]
theorem qS {E F a b:Int} (w:Wy) (h:Sz E F) (ha:In E F a) (hb:In E F b):∃ x y,d8 [.tup [.int E,.int F],.str w.s,.int a,.int b]=.ok ↥37/\In E F x/\0<=y:=by
 obtain ⟨s,c,hs,c0,c1,rfl⟩:=fG h ha
 obtain ⟨s',c',hs',d0,d1,rfl⟩:=fG h hb
 rw [Ea]
 exact t7 (ps:=[]) (xs:=[(s,c),(s',c')]) w h (show 2<=400 by decide) (show 0<=300 by decide) fun x m=>by
  rcases List.mem_cons.mp m with z | m
  ·rw [z];exact ⟨hs,c0,c1⟩
  ·rcases List.mem_cons.mp m with z | m
   ·rw [z];exact ⟨hs',d0,d1⟩
   ·cases m
theorem Hu {E F s c s' c':Int} (w:Wy) (h:Sz E F) (hs:0<=s/\s<=1) (hs':0<=s'/\s'<=1) (c0:0<=c) (c1:c<pw ↥9) (d0:0<=c') (d1:c'<pw ↥9):∃ x y,dq [.tup [.int E,.int F],.str w.s,.int ↥27,.int (s'*pw ↥9+c')]=.ok ↥37/\In E F x/\0<=y:=by
 obtain ⟨x,y,e,i⟩:=t7 (ps:=[((s,c),(s',c'))]) (xs:=[]) w h (show 0<=400 by decide) (show 1<=300 by decide) fun x m=>by
  rcases List.mem_cons.mp m with z | m
  ·rw [z];exact ⟨hs,c0,c1⟩
  ·rcases List.mem_cons.mp m with z | m
   ·rw [z];exact ⟨hs',d0,d1⟩
   ·cases m
 have e':aj [.tup [.int E,.int F],.str w.s,.lst [.tup [.int ↥27,.int (s'*pw ↥9+c')]],.lst []]=.ok ↥37:=e
 refine ⟨x,y,?_,i⟩
 unfold dq eU
 simp_arith [e']
theorem Aa {l:List Int} {b:Int}:oIx (.lst ((l++[b]).map D.int)) (.int (-1))=.ok (.int b):=by
 have e0:ixN ((l++[b]).map D.int).length (-1)=some l.length:=by
  unfold ixN
  rw [List.length_map,List.length_append,if_neg ↥0,if_pos (by show -((l.length+1:Nat):Int) <= -1;omega)]
  congr 1
  show (-1+((l.length+1:Nat):Int)).toNat=_
  rw [show (-1+((l.length+1:Nat):Int))=(l.length:Int) by omega]
  rfl
 unfold oIx
 simp only [e0]
 rw [Option.bind_some,List.getElem?_map,List.getElem?_append_right ↥28,Nat.sub_self]
 rfl
theorem Iw {i:Nat} {δ:Dt} {C:String}:IP i δ (.ex C)=.ex C (noOwn δ):=rfl
theorem Bc {i:Nat} {δ:Dt} {x y:Int}:IP i δ (.ok ↥37)=.nx (δ.set i (some ↥37)):=rfl
theorem yC {E F:Int} {bs:List Int} (w:Wy) (h:Sz E F) (hl:bs.length<=100) (hb:∀ b∈bs,In E F b):∃ d,cO [.tup [.int E,.int F],.str w.s,.lst ↥26]=.ok d:=by
 have cb:=dU h ⋯ hb
 have fli:∀ i:Int,D.flat (.int i)=true:=fun _=>rfl
 unfold cO fA
 generalize hbody:IL _ _ _=body
 generalize hL:bs.map D.int=L at *
 have loop:∀ (l:List Int),(∀ b∈l,In E F b)->∀ (ss:List Int) (f t:Int) (z5 z6:Option D),In E F t->0<=f->ss.length+l.length<=100->(∃ k,z5=some (.int k))->(z6=none\/∃ a b,z6=some (.tup [.int a,.int b]))->∃ (ss':List Int) (f':Int) (z5' z6':Option D),forL 5 body (l.map D.int) [some ↥5,some (.str w.s),some (.lst L),some (.own ((ss++[t]).map .int)),some (.int f),z5,z6]=.nx [some ↥5,some (.str w.s),some (.lst L),some (.own (ss'.map .int)),some (.int f'),z5',z6']/\(∃ k,z5'=some (.int k))/\(z6'=none\/∃ a b,z6'=some (.tup [.int a,.int b])):=fun l=>by
  induction l with
  | nil=>exact fun _ ss f t z5 z6 _ _ _ h5 h6=>⟨_,_,z5,z6,rfl,h5,h6⟩
  | cons b r ih =>
   intro hc ss f t z5 z6 ht f0 hl h5 h6
   rw [List.length_cons] at hl
   obtain ⟨x,y,e,ix,y0⟩:=qS w h ht (hc b (.head _))
   obtain ⟨f',ef,f0'⟩:=pe f0 y0
   obtain ⟨ss',f2,z5',z6',e',q5,q6⟩:=ih (fun c m=>hc c (.tail _ m)) (ss++[t]) f' x (some (.int b)) (some ↥37) ix f0' (by rw [List.length_append];show ss.length+1+r.length<=100;omega) ⟨_,rfl⟩ (.inr ⟨_,_,rfl⟩)
   refine ⟨ss',f2,z5',z6',?_,q5,q6⟩
   rw [List.map_cons,bu,<-e']
   have il:=Aa (l:=ss) (b:=t)
   have e2:(ss++[t]++[x]).map D.int=(ss++[t]).map D.int++[.int x]:=by rw [List.map_append];rfl
   rw [e2]
   have ln:((ss++[t]).map D.int).length=ss.length+1:=by rw [List.length_map,List.length_append];rfl
   have n0:¬ ((ss.length+1:Nat):Int)=0:=⋯
   have lt:((ss++[t]).map D.int).length<100000:=⋯
   generalize (ss++[t]).map D.int=Q at *
   subst hbody
   rcases h6 with rfl | ⟨u,v,rfl⟩<;>simp_arith [ln,n0,il,e,ef,Bc,nD (fli _) lt]
 have fin:∃ (ss':List Int) (f':Int) (z5' z6':Option D),forL 5 body (bs.map D.int) [some ↥5,some (.str w.s),some (.lst L),some (.own []),some (.int 0),none,none]=.nx [some ↥5,some (.str w.s),some (.lst L),some (.own (ss'.map .int)),some (.int f'),z5',z6']:=by
  cases bs with
  | nil=>exact ⟨[],0,none,none,rfl⟩
  | cons b r =>
   rw [List.length_cons] at hl
   obtain ⟨ss',f2,z5',z6',e',q5,q6⟩:=loop r (fun c m=>hb c (.tail _ m)) [] 0 b (some (.int b)) none (hb b (.head _)) (Int.le_refl _) (by show 0+r.length<=100;omega) ⟨_,rfl⟩ (.inl rfl)
   refine ⟨ss',f2,z5',z6',?_⟩
   rw [List.map_cons,bu,<-e']
   subst hbody
   simp_arith [nD (i:=3) (ds:=[]) (fli b) ↥0]
 obtain ⟨ss',f',z5,z6,e⟩:=fin
 have ll:(bs.map D.int).length<=100000:=by rw [List.length_map];omega
 rw [hL] at ll
 rw [hL] at e
 simp_arith [aE w,cb,ll,e]
 exact ⟨_,rfl⟩
theorem B0 {E F:Int} {bs:List Int} (w:Wy) (h:Sz E F) (hl:bs.length<=1000) (ho:∃ b∈bs,Out E F b):cO [.tup [.int E,.int F],.str w.s,.lst ↥26]=.ex "NoBits":=by
 unfold cO fA
 simp_arith [aE w,nc h hl ho]
theorem mU {E F:Int} (w:Wy) (h:Sz E F):∀ (n:Nat) (bs:List Int),bs.length<=n->0<bs.length->(∀ b∈bs,In E F b)->∃ x y,Hv w E F bs x y/\In E F x/\0<=y
 | 0,bs,hn,hp,_=>⋯
 | n+1,bs,hn,hp,hb=>by
  by_cases g:bs.length=1
  ·obtain ⟨b,rfl⟩:=List.length_eq_one_iff.mp g
   refine ⟨b,0,fun j _ => ?_,hb b (.head _),by decide⟩
   unfold az b7
   generalize az j=P at *
   simp_arith [List.map_cons,List.map_nil]
  ·obtain ⟨x1,y1,H1,i1,n1⟩:=mU w h n (bs.take (bs.length / 2)) (by rw [List.length_take];omega) (by rw [List.length_take];omega) fun b m=>hb b (List.mem_of_mem_take m)
   obtain ⟨x2,y2,H2,i2,n2⟩:=mU w h n (bs.drop (bs.length / 2)) (by rw [List.length_drop];omega) (by rw [List.length_drop];omega) fun b m=>hb b (List.mem_of_mem_drop m)
   obtain ⟨x3,y3,e3,i3,n3⟩:=qS w h i1 i2
   obtain ⟨y12,e4,n4⟩:=pe n1 n2
   obtain ⟨y,e5,n5⟩:=pe n4 n3
   refine ⟨x3,y,fun j hj => ?_,i3,n5⟩
   cases j with
   | zero=>have:bs.length<=1:=hj;omega
   | succ j =>
    have hj':bs.length<=2*2^j:=by rw [Nat.pow_succ] at hj;omega
    exact uQ ⋯ (H1 j (by rw [List.length_take];omega)) (H2 j (by rw [List.length_drop];omega)) e3 e4 e5
theorem xJ {E F:Int} {bs:List Int} (w:Wy) (h:Sz E F) (hl:bs.length<=1000) (hp:0<bs.length) (hb:∀ b∈bs,In E F b):∃ d,bf [.tup [.int E,.int F],.str w.s,.lst ↥26]=.ok d:=by
 obtain ⟨x,y,hv,_,_⟩:=mU w h bs.length bs ↥28 hp hb
 exact ⟨_,sv h hl hp hb (hv 19 (Nat.le_trans hl ↥0))⟩
theorem xI {E F:Int} {bs:List Int} (w:Wy) (h:Sz E F) (hl:bs.length<=1000) (hp:0<bs.length) (ho:∃ b∈bs,Out E F b):bf [.tup [.int E,.int F],.str w.s,.lst ↥26]=.ex "NoBits":=by
 unfold bf cz
 simp_arith [aE w,List.length_map,show ¬ (bs.length:Int)=0 by omega,nc h hl ho]
def Fn (E F b:Int):Prop:=∃ s c,b=s*pw ↥9+c/\(0<=s/\s<=1)/\0<=c/\c<pw ↥9 - pw F
theorem lS {E F x y:Int} (h:Sz E F) (hx:In E F x) (y0:0<=y):(Fn E F x/\aD [.tup [.int E,.int F],.tup [.int x,.int y]]=.ok (.int x))\/aD [.tup [.int E,.int F],.tup [.int x,.int y]]=.ex "NoLeft":=by
 obtain ⟨s,c,hs,c0,c1,rfl⟩:=fG h hx
 by_cases g:c<pw ↥9 - pw F
 ·obtain ⟨K,k,nk⟩:=qC h hs c0 g
  have bn:∃ z:Int,mD (.int y) (.int 4)=.ok (.int z):=by
   unfold mD
   simp only
   rw [if_pos ⟨y0,by decide⟩]
   exact ⟨_,rfl⟩
  obtain ⟨z,ez⟩:=bn
  unfold aD cS
  by_cases g2:z=0
  ·exact .inl ⟨⟨s,c,rfl,hs,c0,g⟩,by simp_arith [k,cP,nk,ez,eq_true g2]⟩
  ·exact .inr (by simp_arith [k,cP,nk,ez,g2])
 ·obtain ⟨K,k,nk⟩:=v3 h hs (Int.not_lt.mp g) c1
  unfold aD cS
  exact .inr (by simp_arith [k,cP,eq_true nk])
theorem vt (t:Tm):∃ a b c:Int,tD t=.tup [.int a,.int b,.int c]:=⟨_,_,_,rfl⟩
theorem HM {E F s c:Int} (h:Sz E F) (hs:0<=s/\s<=1) (c0:0<=c) (c1:c<pw ↥9 - pw F):aq [.tup [.int E,.int F],.lst [.int ↥27]]=.ok .non :=
 eC (xs:=[(s,c)]) h (show 1<=1000 by decide) (fun x hx=>by
  rw [List.mem_singleton.mp hx]
  exact ⟨hs,c0,c1⟩)
theorem EF {α:Type} {P:α->Prop} {a b:α} (ha:P a) (hb:P b):∀ x∈[a,b],P x:=fun x m=>by
 rcases List.mem_cons.mp m with z | m
 ·rw [z];exact ha
 ·rw [List.mem_singleton.mp m];exact hb
theorem kE {E F a b:Int} (h:Sz E F) (ha:Fn E F a) (hb:Fn E F b):(∃ x d,Fn E F x/\bI [.tup [.int E,.int F],.int a,.int b]=.ok (.tup [.int x,.int d]))\/bI [.tup [.int E,.int F],.int a,.int b]=.ex "NoLeft":=by
 obtain ⟨s,c,rfl,hs,c0,c1⟩:=ha
 obtain ⟨s',c',rfl,hs',d0,d1⟩:=hb
 have hQ:=ak F
 have cf:=uU h hs hs' c0 c1 d0 d1
 obtain ⟨x,y,ea,ix,y0⟩:=qS .even h (au h hs c0 (show c<pw ↥9 by omega)).1 (au h hs' d0 (show c'<pw ↥9 by omega)).1
 have ws:Wy.even.s=PySem.Str.ofString "even":=rfl
 rw [ws] at ea
 have w1:=lC h hs c0 c1
 have w2:=lC h hs' d0 d1
 unfold bI fw
 rcases lS h ix y0 with ⟨⟨g,K,rfl,hg,K0,K1⟩,ka⟩ | ka
 ·have w3:=lC h hg K0 K1
  have mn:=vQ (t:=wt E F g K)
  have em:((1 - (wt E F g K).1,(wt E F g K).2.1,(wt E F g K).2.2):Tm)=wt E F (1 - g) K:=rfl
  rw [em] at mn
  have lf:=lQ (ts:=[wt E F s c,wt E F s' c',wt E F (1 - g) K]) h (show 3<=1000 by decide) (fun t m=>by
   rcases List.mem_cons.mp m with z | m
   ·rw [z];exact (pR h c0 c1).1
   ·exact EF (P:=vk) (pR h d0 d1).1 (pR h K0 K1).1 t m)
  rw [List.map_cons,List.map_cons,List.map_cons,List.map_nil] at lf
  obtain ⟨x1,y1,z1,e1⟩:=vt (wt E F s c)
  obtain ⟨x2,y2,z2,e2⟩:=vt (wt E F s' c')
  obtain ⟨x3,y3,z3,e3⟩:=vt (wt E F g K)
  obtain ⟨x4,y4,z4,e4⟩:=vt (wt E F (1 - g) K)
  rw [e1] at w1 lf
  rw [e2] at w2 lf
  rw [e3] at w3 mn
  rw [e4] at mn lf
  rcases lf with ⟨d,lf⟩ | lf
  ·exact .inl ⟨_,d,⟨g,K,rfl,hg,K0,K1⟩,by simp_arith [cf,ea,ka,w1,w2,w3,mn,lf]⟩
  ·exact .inr (by simp_arith [cf,ea,ka,w1,w2,w3,mn,lf])
 ·exact .inr (by simp_arith [cf,ea,ka])
section
variable {E F:Int} (h:Sz E F)
include h
theorem fk {s c:Int} (hs:0<=s/\s<=1) (c0:0<=c) (c1:c<pw ↥9 - pw F):∃ K:PySem.Str,aN [.tup [.int E,.int F],.int ↥27]=.ok (.str K)/\K≠PySem.Str.ofString "none"/\K≠PySem.Str.ofString "endless"/\(K=PySem.Str.ofString "nought"↔c=0):=by
 have hQ:=ak F
 obtain ⟨b1,b2,b3,b4⟩:=au (c:=c) h hs c0 ⋯
 have k:=iY h b1
 rw [b3,b4] at k
 have kc:=fo (c:=c) h c0 ⋯
 refine ⟨_,k,?_⟩
 by_cases g:c=0
 ·rw [kc.2.2.1 g]
  exact ⟨by decide,by decide,fun _=>g,fun _=>rfl⟩
 ·rcases kc.2.2.2 ⋯ c1 with e | e<;>rw [e]<;>exact ⟨by decide,by decide,fun z=>absurd z ↥0,fun z=>absurd z g⟩
theorem GJ {s s' c c':Int} (w:Wy) (hs:0<=s/\s<=1) (hs':0<=s'/\s'<=1) (c0:0<c) (c1:c<pw ↥9 - pw F) (d0:0<c') (d1:c'<pw ↥9 - pw F) :
  ∃ x y,fj [.tup [.int E,.int F],.str w.s,.tup [.int s,.int (frT (wh F (c / pw F) (c%pw F)) (po E F (c / pw F))),.int (frB (po E F (c / pw F)))],.tup [.int s',.int (frT (wh F (c' / pw F) (c'%pw F)) (po E F (c' / pw F))),.int (frB (po E F (c' / pw F)))]]=.ok ↥37/\In E F x/\0<=y:=by
 obtain ⟨f1,f2,f3,f4⟩:=qB h (Int.le_of_lt c0) c1
 obtain ⟨f1',f2',f3',f4'⟩:=qB h (Int.le_of_lt d0) d1
 have p':=vV h d0 d1
 generalize frT (wh F (c / pw F) (c%pw F)) (po E F (c / pw F))=t at *
 generalize frB (po E F (c / pw F))=n at *
 generalize frT (wh F (c' / pw F) (c'%pw F)) (po E F (c' / pw F))=t' at *
 generalize frB (po E F (c' / pw F))=n' at *
 have m1:MulOk t n':=by walk_at "mul"
 have m2:MulOk n t':=by walk_at "mul"
 have n1:=d9 f3 f4'
 have n2:=d9 f4 f3'
 obtain ⟨x,y,e,i⟩:=km w h (wW (s:=s) (s':=s')) (Int.mul_nonneg f1 (Int.le_of_lt f2')) (Int.mul_pos f2 p') (Nat.le_trans n1 ↥0) (Nat.le_trans n2 ↥0)
 refine ⟨x,y,?_,i⟩
 unfold fj iC
 simp_arith [Ge hs hs',bM m1,bM m2,e]
theorem LG {s s' c c':Int} (w:Wy) (hs:0<=s/\s<=1) (hs':0<=s'/\s'<=1) (c0:0<=c) (c1:c<pw ↥9 - pw F) (d0:0<=c') (d1:c'<pw ↥9 - pw F) :
  ∃ x y,gJ [.tup [.int E,.int F],.str w.s,.int ↥27,.int (s'*pw ↥9+c')]=.ok ↥37/\In E F x/\0<=y:=by
 have hQ:=ak F
 obtain ⟨K,kk,kn,ke,k0⟩:=fk h hs c0 c1
 obtain ⟨L,kl,ln,le,l0⟩:=fk h hs' d0 d1
 have e:=yc kk kl
 rw [decide_eq_false (fun z=>z.elim kn ln)] at e
 have ee:=bg h
 have e2:=dw h
 rw [end_is h] at ee e2
 have pa:=mj (c:=c) h hs c0 ⋯
 have pb:=mj (c:=c') h hs' d0 ⋯
 have sg:=cG (c:=pw ↥9 - pw F) h (wW (s:=s) (s':=s'))
 have sg0:=cG (c:=0) h (wW (s:=s) (s':=s'))
 rw [Int.add_zero] at sg0
 have so:=Ge hs hs'
 have fa:=iZ (c:=c) h hs c0 c1
 have fb:=iZ (c:=c') h hs' d0 d1
 unfold gJ jK
 by_cases g4:c'=0
 ·have z2:=l0.mpr g4
  by_cases g5:c=0
  ·have q:K=L:=(k0.mpr g5).trans z2.symm
   have q2:PySem.Str.ofString "nought"=K\/PySem.Str.ofString "endless"=K:=.inl (k0.mpr g5).symm
   exact ⟨pw ↥9 - pw F+pw (F - 1),16,by simp_arith [aE w,e,kk,kl,eq_true q,cP,eq_true q2,e2],zJ h,by decide⟩
  ·have z:¬ K=PySem.Str.ofString "nought":=fun z=>g5 (k0.mp z)
   have q:¬ K=L:=fun y=>z (y.trans z2)
   have z4:¬ (K=PySem.Str.ofString "nought"\/L=PySem.Str.ofString "endless"):=fun u=>u.elim z le
   exact ⟨sx s s'*pw ↥9+(pw ↥9 - pw F),8,by simp_arith [aE w,e,kk,kl,q,pa,pb,so,ke,z,le,z4,eq_true z2,ee,sg],LB h wW,by decide⟩
 have gN:¬ L=PySem.Str.ofString "nought":=fun z=>g4 (l0.mp z)
 have an:∀ δ2:Dt,jO (bin oEq (var 4) (var 5)) (bin oIn (var 4) (df [con (.str "nought"),con (.str "endless")])) (some ↥5::some (.str w.s)::some (.int ↥27)::some (.int (s'*pw ↥9+c'))::some (.str K)::some (.str L)::δ2)=.ok (.bl false):=fun δ2=>by
  by_cases z:K=L
  ·have z2:¬ (PySem.Str.ofString "nought"=K\/PySem.Str.ofString "endless"=K):=fun y=>y.elim (fun y=>gN (z.symm.trans y.symm)) fun y=>ke y.symm
   simp_arith [eq_true z,cP,z2]
  ·simp_arith [z]
 generalize jO (bin oEq (var 4) (var 5)) (bin oIn (var 4) (df [con (.str "nought"),con (.str "endless")]))=A at *
 by_cases g5:c=0
 ·have z:K=PySem.Str.ofString "nought"\/L=PySem.Str.ofString "endless":=.inl (k0.mpr g5)
  exact ⟨sx s s'*pw ↥9,0,by simp_arith [aE w,e,kk,kl,an,pa,pb,so,ke,eq_true z,sg0],E3 h wW,by decide⟩
 have y1:¬ K=PySem.Str.ofString "nought":=fun z=>g5 (k0.mp z)
 have y3:¬ (K=PySem.Str.ofString "nought"\/L=PySem.Str.ofString "endless"):=fun u=>u.elim y1 le
 obtain ⟨x,y,eq,i⟩:=GJ h w hs hs' (show 0<c by omega) c1 (show 0<c' by omega) d1
 exact ⟨x,y,by simp_arith [aE w,e,kk,kl,an,pa,pb,so,ke,y1,le,y3,gN,fa,fb,eq],i⟩
theorem Ct {c:Int} (w:Wy) (c0:0<c) (c1:c<pw ↥9 - pw F):∃ x y,dj [.tup [.int E,.int F],.str w.s,.int (0*pw ↥9+c)]=.ok ↥37/\In E F x/\0<=y:=by
 have h5:=dC h
 have hQ:=ak F
 have l:=lr h
 have hs:(0:Int)<=0/\(0:Int)<=1:=by decide
 obtain ⟨K,kk,kn,ke,k0⟩:=fk (c:=c) h hs (Int.le_of_lt c0) c1
 have e:=kA kk rfl rfl
 rw [decide_eq_false kn] at e
 have ee:=bg h
 rw [end_is h] at ee
 have pa:=mj (c:=c) h hs (Int.le_of_lt c0) ⋯
 have fa:=iZ (c:=c) h hs (Int.le_of_lt c0) c1
 have k2:¬ K=PySem.Str.ofString "nought":=fun z=>by have:=k0.mp z;omega
 obtain ⟨f1,f2,f3,f4⟩:=qB h (Int.le_of_lt c0) c1
 have t0:=vV h c0 c1
 generalize frT (wh F (c / pw F) (c%pw F)) (po E F (c / pw F))=t at *
 generalize frB (po E F (c / pw F))=n at *
 obtain ⟨r,er,hr⟩:=GA h t0 f2 (Nat.le_trans f3 ↥0) (Nat.le_trans f4 ↥0)
 obtain ⟨s1,s2,s3,s4⟩:=rM h t0 f2
 have se:=kg (s:=0) (x:=r) (P:=fQ E F t n) (r:=IJ r (iG ↥23 t) (gj ↥23 n)) w h hs s1 ⋯ hr.1
 have i:=JL (w:=w) (r:=IJ r (iG ↥23 t) (gj ↥23 n)) h hs (AJ s1 hr.1)
 refine ⟨_,_,?_,i,Eo (w:=w) (E:=E) (F:=F) (s:=0) (c:=codeOf E F (fQ E F t n) r) (r:=IJ r (iG ↥23 t) (gj ↥23 n))⟩
 unfold dj iA
 simp_arith [aE w,e,kk,k2,ee,show ¬ 0*pw ↥9+c=pw ↥9 - pw F by omega,pa,fa,er,se]
theorem yV {s c:Int} (w:Wy) (hs:0<=s/\s<=1) (c0:0<=c) (c1:c<pw ↥9 - pw F):∃ x y,dj [.tup [.int E,.int F],.str w.s,.int ↥27]=.ok ↥37/\In E F x/\0<=y:=by
 have hQ:=ak F
 by_cases g:c=0
 ·exact ⟨_,_,uj w h hs (.inl g),(au h hs c0 ⋯).1,by decide⟩
 rcases (by omega:s=0\/s=1) with e | e<;>subst e
 ·exact Ct h w ⋯ c1
 ·exact ⟨_,_,xm w h ⋯ ⋯,zJ h,by decide⟩
theorem uu {a b:Int} (ha:Fn E F a) (hb:Fn E F b):∃ t:Tm,ay [.tup [.int E,.int F],.int a,.int b]=.ok (tD t)/\vk t:=by
 obtain ⟨s,c,rfl,hs,c0,c1⟩:=ha
 obtain ⟨s',c',rfl,hs',d0,d1⟩:=hb
 have hQ:=ak F
 have pr:=gG (x:=(s,c)) (y:=(s',c')) h ⟨hs,c0,show c<_ by omega⟩ ⟨hs',d0,show c'<_ by omega⟩ (Int.le_of_lt c1) (Int.le_of_lt d1)
 have ept:pt E F (s,c) (s',c')=.inl (pm E F (s,c) (s',c')):=if_neg (by show ¬ (c=_\/c'=_);omega)
 rw [ept] at pr
 exact ⟨_,pr,(Kj (x:=(s,c)) (y:=(s',c')) h c0 c1 d0 d1).1⟩
theorem pT {a:Int} (ha:Fn E F a):∃ t:Tm,bA [.tup [.int E,.int F],.int a]=.ok (tD t)/\vk t:=by
 obtain ⟨s,c,rfl,hs,c0,c1⟩:=ha
 exact ⟨_,lC h hs c0 c1,(pR h c0 c1).1⟩
theorem qu {t:Tm} (ht:vk t):∃ t':Tm,dB [tD t]=.ok (tD t')/\vk t':=⟨_,vQ,ht⟩
theorem ur {a b:Int} (w:Wy) (ha:Fn E F a) (hb:Fn E F b):(∃ d,aR [.tup [.int E,.int F],.str w.s,.int a,.int b]=.ok d)\/aR [.tup [.int E,.int F],.str w.s,.int a,.int b]=.ex "NoLeft":=by
 obtain ⟨t1,p1,k1⟩:=uu h ha hb
 obtain ⟨s,c,rfl,hs,c0,c1⟩:=ha
 obtain ⟨s',c',rfl,hs',d0,d1⟩:=hb
 have hQ:=ak F
 have cf:=uU h hs hs' c0 c1 d0 d1
 obtain ⟨x,y,ea,ix,y0⟩:=Hu w h hs hs' c0 (show c<pw ↥9 by omega) d0 (show c'<pw ↥9 by omega)
 unfold aR bK
 rcases lS h ix y0 with ⟨fx,ka⟩ | ka
 ·obtain ⟨t2,p2,k2⟩:=pT h fx
  obtain ⟨t3,p3,k3⟩:=qu h k2
  have lf:=lQ (ts:=[t1,t3]) h (show 2<=1000 by decide) (EF k1 k3)
  rw [List.map_cons,List.map_cons,List.map_nil] at lf
  obtain ⟨a1,b1,d1,e1⟩:=vt t1
  obtain ⟨a2,b2,d2,e2⟩:=vt t2
  obtain ⟨a3,b3,d3,e3⟩:=vt t3
  rw [e1] at p1 lf
  rw [e2] at p2 p3
  rw [e3] at p3 lf
  rcases lf with ⟨d,lf⟩ | lf
  ·exact .inl ⟨.tup [.int x,.int d],by simp_arith [aE w,cf,ea,ka,p1,p2,p3,lf]⟩
  ·exact .inr (by simp_arith [aE w,cf,ea,ka,p1,p2,p3,lf])
 ·exact .inr (by simp_arith [aE w,cf,ea,ka])
theorem rP {a b:Int} (w:Wy) (ha:Fn E F a) (hb:Fn E F b):(∃ d,aL [.tup [.int E,.int F],.str w.s,.int a,.int b]=.ok d)\/aL [.tup [.int E,.int F],.str w.s,.int a,.int b]=.ex "NoLeft":=by
 obtain ⟨t1,p1,k1⟩:=pT h ha
 have hb':=hb
 obtain ⟨s,c,rfl,hs,c0,c1⟩:=ha
 obtain ⟨s',c',rfl,hs',d0,d1⟩:=hb
 have hQ:=ak F
 have cf:=uU h hs hs' c0 c1 d0 d1
 obtain ⟨x,y,ea,ix,y0⟩:=LG h w hs hs' c0 c1 d0 d1
 unfold aL br
 rcases lS h ix y0 with ⟨fx,ka⟩ | ka
 ·obtain ⟨t2,p2,k2⟩:=uu h fx hb'
  obtain ⟨t3,p3,k3⟩:=qu h k2
  have lf:=lQ (ts:=[t1,t3]) h (show 2<=1000 by decide) (EF k1 k3)
  rw [List.map_cons,List.map_cons,List.map_nil] at lf
  obtain ⟨a1,b1,d1,e1⟩:=vt t1
  obtain ⟨a2,b2,d2,e2⟩:=vt t2
  obtain ⟨a3,b3,d3,e3⟩:=vt t3
  rw [e1] at p1 lf
  rw [e2] at p2 p3
  rw [e3] at p3 lf
  rcases lf with ⟨d,lf⟩ | lf
  ·exact .inl ⟨.tup [.int x,.int d],by simp_arith [aE w,cf,ea,ka,p1,p2,p3,lf]⟩
  ·exact .inr (by simp_arith [aE w,cf,ea,ka,p1,p2,p3,lf])
 ·exact .inr (by simp_arith [aE w,cf,ea,ka])
theorem Cr {a:Int} (w:Wy) (ha:Fn E F a):(∃ d,bC [.tup [.int E,.int F],.str w.s,.int a]=.ok d)\/bC [.tup [.int E,.int F],.str w.s,.int a]=.ex "NoLeft":=by
 obtain ⟨t1,p1,k1⟩:=pT h ha
 obtain ⟨s,c,rfl,hs,c0,c1⟩:=ha
 have hQ:=ak F
 have cf:=HM h hs c0 c1
 obtain ⟨x,y,ea,ix,y0⟩:=yV h w hs c0 c1
 unfold bC cZ
 rcases lS h ix y0 with ⟨fx,ka⟩ | ka
 ·obtain ⟨t2,p2,k2⟩:=uu h fx fx
  obtain ⟨t3,p3,k3⟩:=qu h k2
  have lf:=lQ (ts:=[t1,t3]) h (show 2<=1000 by decide) (EF k1 k3)
  rw [List.map_cons,List.map_cons,List.map_nil] at lf
  obtain ⟨a1,b1,d1,e1⟩:=vt t1
  obtain ⟨a2,b2,d2,e2⟩:=vt t2
  obtain ⟨a3,b3,d3,e3⟩:=vt t3
  rw [e1] at p1 lf
  rw [e2] at p2 p3
  rw [e3] at p3 lf
  rcases lf with ⟨d,lf⟩ | lf
  ·exact .inl ⟨.tup [.int x,.int d],by simp_arith [aE w,cf,ea,ka,p1,p2,p3,lf]⟩
  ·exact .inr (by simp_arith [aE w,cf,ea,ka,p1,p2,p3,lf])
 ·exact .inr (by simp_arith [aE w,cf,ea,ka])
end
theorem EJ {E F:Int} (h:Sz E F):∀ bs:List Int,(∀ b∈bs,Fn E F b)->∃ xs:List ↥30,bs=xs.map (nI E F)/\∀ x∈xs,(0<=x.1/\x.1<=1)/\0<=x.2/\x.2<pw ↥9 - pw F
 | [],_=>⟨[],rfl,fun _ m=>nomatch m⟩
 | b::r,hb=>by
  obtain ⟨xs,e,ok⟩:=EJ h r fun x m=>hb x (.tail _ m)
  obtain ⟨s,c,eb,hs,c0,c1⟩:=hb b (.head _)
  refine ⟨(s,c)::xs,by rw [List.map_cons,<-e,eb];rfl,fun x m => ?_⟩
  rcases List.mem_cons.mp m with z | m
  ·subst z;exact ⟨hs,c0,c1⟩
  ·exact ok x m
theorem Ax {E F:Int} {bs:List Int} (h:Sz E F) (hl:bs.length<=1000) (hb:∀ b∈bs,Fn E F b):aq [.tup [.int E,.int F],.lst ↥26]=.ok .non:=by
 obtain ⟨xs,rfl,ok⟩:=EJ h bs hb
 exact eC h (by rw [List.length_map] at hl;exact hl) ok
theorem Dl {E F:Int} {bs:List Int} (h:Sz E F) (hl:bs.length<=100) (hp:0<bs.length) (hb:∀ b∈bs,Fn E F b):(∃ d,bE [.tup [.int E,.int F],.lst ↥26]=.ok d)\/bE [.tup [.int E,.int F],.lst ↥26]=.ex "NoLeft":=by
 have cf:=Ax h ⋯ hb
 have fli:∀ i:Int,D.flat (.int i)=true:=fun _=>rfl
 have nl:¬ ((bs.map D.int).length:Int)=0:=by rw [List.length_map];omega
 have cu:EV.cut (bs.map D.int) (some 1) none=(bs.drop 1).map D.int:=by
  rw [v9 ↥0 (by rw [List.length_map];omega),List.map_drop]
  rfl
 have ll:((bs.drop 1).map D.int).length<=100000:=by rw [List.length_map,List.length_drop];omega
 obtain ⟨b0,i0,f0⟩:∃ b,oIx (.lst (bs.map D.int)) (.int 0)=.ok (.int b)/\Fn E F b:=by
  cases bs with
  | nil=>exact absurd hp ↥0
  | cons b r=>exact ⟨b,NC,hb b (.head _)⟩
 unfold bE de
 generalize hbody:seq (kz 5 _) _=body
 generalize hL:bs.map D.int=L at *
 have loop:∀ (l:List Int),(∀ b∈l,Fn E F b)->∀ (ss ls:List Int) (t:Int) (z4 z5:Option D),Fn E F t->ss.length+l.length<=100->ls.length+l.length<=100->(z4=none\/∃ k,z4=some (.int k))->(z5=none\/∃ a b,z5=some (.tup [.int a,.int b])) ->
   (∃ (ss' ls':List Int) (z4' z5':Option D),forL 4 body (l.map D.int) [some ↥5,some (.lst L),some (.own ((ss++[t]).map .int)),some (.own (ls.map .int)),z4,z5]=.nx [some ↥5,some (.lst L),some (.own (ss'.map .int)),some (.own (ls'.map .int)),z4',z5'])\/∃ δ,forL 4 body (l.map D.int) [some ↥5,some (.lst L),some (.own ((ss++[t]).map .int)),some (.own (ls.map .int)),z4,z5]=.ex "NoLeft" δ:=fun l=>by
  induction l with
  | nil=>exact fun _ ss ls t z4 z5 _ _ _ _ _=>.inl ⟨_,_,_,_,rfl⟩
  | cons b r ih =>
   intro hc ss ls t z4 z5 ht hl hl2 h4 h5
   rw [List.length_cons] at hl hl2
   rw [List.map_cons,bu]
   have il:=Aa (l:=ss) (b:=t)
   have ln:((ss++[t]).map D.int).length=ss.length+1:=by rw [List.length_map,List.length_append];rfl
   have lt:((ss++[t]).map D.int).length<100000:=⋯
   have lt2:(ls.map D.int).length<100000:=by rw [List.length_map];omega
   rcases kE h ht (hc b (.head _)) with ⟨x,d,fx,e⟩ | e
   ·have q:=ih (fun c m=>hc c (.tail _ m)) (ss++[t]) (ls++[d]) x (some (.int b)) (some (.tup [.int x,.int d])) fx (by rw [List.length_append];show ss.length+1+r.length<=100;omega) (by rw [List.length_append];show ls.length+1+r.length<=100;omega) (.inr ⟨_,rfl⟩) (.inr ⟨_,_,rfl⟩)
    have e2:(ss++[t]++[x]).map D.int=(ss++[t]).map D.int++[.int x]:=by rw [List.map_append];rfl
    have e3:(ls++[d]).map D.int=ls.map D.int++[.int d]:=by rw [List.map_append];rfl
    rw [e2,e3] at q
    generalize (ss++[t]).map D.int=Q at *
    generalize ls.map D.int=M at *
    have st:body [some ↥5,some (.lst L),some (.own Q),some (.own M),some (.int b),z5]=.nx [some ↥5,some (.lst L),some (.own (Q++[.int x])),some (.own (M++[.int d])),some (.int b),some (.tup [.int x,.int d])]:=by
     subst hbody
     rcases h5 with rfl | ⟨u,v,rfl⟩<;>simp_arith [il,e,Bc,nD (fli _) lt,nD (fli _) lt2]
    have st':body ([some ↥5,some (.lst L),some (.own Q),some (.own M),z4,z5].set 4 (some (.int b)))=.nx [some ↥5,some (.lst L),some (.own (Q++[.int x])),some (.own (M++[.int d])),some (.int b),some (.tup [.int x,.int d])]:=st
    rw [st',yE]
    exact q
   ·refine .inr ?_
    generalize (ss++[t]).map D.int=Q at *
    generalize ls.map D.int=M at *
    have st:body [some ↥5,some (.lst L),some (.own Q),some (.own M),some (.int b),z5]=.ex "NoLeft" (noOwn [some ↥5,some (.lst L),some (.own Q),some (.own M),some (.int b),z5]):=by
     subst hbody
     rcases h5 with rfl | ⟨u,v,rfl⟩<;>simp_arith [il,e,Iw]
    have st':body ([some ↥5,some (.lst L),some (.own Q),some (.own M),z4,z5].set 4 (some (.int b)))=.ex "NoLeft" _:=st
    rw [st',Ei]
    exact ⟨_,rfl⟩
 have q:=loop (bs.drop 1) (fun b m=>hb b (List.mem_of_mem_drop m)) [] [] b0 none none f0 (by rw [List.length_drop];show 0+(bs.length - 1)<=100;omega) (by rw [List.length_drop];show 0+(bs.length - 1)<=100;omega) (.inl rfl) (.inl rfl)
 have fr:eG [.int b0]=.ok (.lst [.int b0]):=rfl
 rw [List.nil_append,List.map_cons,List.map_nil] at q
 rcases q with ⟨ss',ls',z4,z5,e⟩ | ⟨δ,e⟩
 ·refine .inl ?_
  simp_arith [nl,cf,Ed,i0,fr,cu,ll,e]
  exact ⟨_,rfl⟩
 ·refine .inr ?_
  simp_arith [nl,cf,Ed,i0,fr,cu,ll,e]
theorem yX {E F:Int} (h:Sz E F):∀ qs:List ↥30,(∀ b∈fl2 qs,In E F b)->∃ ps:List (↥30×↥30),qs.map prD=ps.map (pD E F)/\ps.length=qs.length/\∀ x∈fl ps,qW E F x
 | [],_=>⟨[],rfl,rfl,fun _ m=>nomatch m⟩
 | (a,b)::r,hb=>by
  obtain ⟨ps,e,el,ok⟩:=yX h r fun x m=>hb x (.tail _ (.tail _ m))
  obtain ⟨s,c,hs,c0,c1,ea⟩:=fG h (hb a (.head _))
  obtain ⟨s',c',hs',d0,d1,eb⟩:=fG h (hb b (.tail _ (.head _)))
  refine ⟨((s,c),(s',c'))::ps,by rw [List.map_cons,List.map_cons,e,ea,eb];rfl,by rw [List.length_cons,List.length_cons,el],fun x m => ?_⟩
  rcases List.mem_cons.mp m with z | m
  ·rw [z];exact ⟨hs,c0,c1⟩
  ·rcases List.mem_cons.mp m with z | m
   ·rw [z];exact ⟨hs',d0,d1⟩
   ·exact ok x m
theorem yG {E F:Int} {qs:List ↥30} {bs:List Int} (w:Wy) (h:Sz E F) (hl:bs.length<=40) (hl2:qs.length<=20):((∃ b∈bs++fl2 qs,Out E F b)->aj [.tup [.int E,.int F],.str w.s,.lst (qs.map prD),.lst ↥26]=.ex "NoBits")/\((∀ b∈bs++fl2 qs,In E F b)->∃ d,aj [.tup [.int E,.int F],.str w.s,.lst (qs.map prD),.lst ↥26]=.ok d):=by
 refine ⟨Gf w h hl hl2,fun hb => ?_⟩
 obtain ⟨xs,rfl,ok⟩:=AM h bs fun b m=>hb b (List.mem_append_left _ m)
 obtain ⟨ps,e,el,ok2⟩:=yX h qs fun b m=>hb b (List.mem_append_right _ m)
 rw [List.length_map] at hl
 obtain ⟨x,y,q,_⟩:=t7 w h (show xs.length<=400 by omega) (show ps.length<=300 by omega) (fun x m=>(List.mem_append.mp m).elim (ok x) (ok2 x))
 rw [<- e] at q
 exact ⟨_,q⟩
def Wd (C:String) (u:PySem.Str):Prop:=(C="NoWay"/\u=PySem.Str.ofString "way")\/(C="Unlike"/\u=PySem.Str.ofString "unlike")\/(C="Empty"/\u=PySem.Str.ofString "empty")\/(C="NoBits"/\u=PySem.Str.ofString "bits")\/(C="NotFinite"/\u=PySem.Str.ofString "finite")
def Fit (j:Int) (r:R D) (u:PySem.Str):Prop:=(∃ C,r=.ex C/\Wd C u)\/(u=PySem.Str.ofString ""/\∃ d,r=.ok d)\/(u=PySem.Str.ofString ""/\4<=j/\r=.ex "NoLeft")
theorem EK {j:Int} {r:R D} (h:(∃ d,r=.ok d)\/(4<=j/\r=.ex "NoLeft")):Fit j r (PySem.Str.ofString ""):=h.elim (fun z=>.inr (.inl ⟨rfl,z⟩)) fun z=>.inr (.inr ⟨rfl,z⟩)
theorem CO {x:PySem.Str} {ys:List PySem.Str}:dE (.str x) (.lst (ys.map D.str))=.ok (.bl (decide (x∉ys))):=iV (x:=x) (ys:=ys)
section
variable {E F j:Int} {y:PySem.Str} {xs ys:List Int}
def A1:EV.E:=jO (bin oNe (var 0) ⇑4) (jO (bin oNe (var 0) ⇑8) (bin dE (var 2) ↥33))
def A2:EV.E:=jO (bin oEq (var 0) ⇑0) (bin oNe (call l5 [var 3]) (call l5 [var 4]))
def A3:EV.E:=jO (or_ (bin oEq (var 0) ⇑3) (bin oEq (var 0) ⇑8)) (bin oEq (call l5 [var 3]) ⇑0)
def dd (E F j:Int) (y:PySem.Str) (xs ys:List Int):Dt:=[some (.int j),some ↥5,some (.str y),some (.lst (xs.map .int)),some (.lst (ys.map .int)),some (.int (pw ↥9)),none,none]
theorem a1:A1 (dd E F j y xs ys)=.ok (.bl (decide (j≠4/\j≠8/\y∉b9))):=by
 have e:=CO (x:=y) (ys:=b9)
 have e':dE (.str y) (.lst [.str "even",.str "away",.str "nought",.str "up",.str "down"])=.ok (.bl (decide (y∉b9))):=e
 unfold A1 dd
 by_cases g:j=4
 ·subst g;simp_arith []
 by_cases g2:j=8
 ·subst g2;simp_arith []
 simp_arith [g,g2,e']
theorem a2:A2 (dd E F j y xs ys)=.ok (.bl (decide (j=0/\xs.length≠ys.length))):=by
 unfold A2 dd
 by_cases g:j=0
 ·subst g
  simp_arith [List.length_map]
  by_cases g2:xs.length=ys.length
  ·simp [g2]
  ·simp [g2];omega
 ·simp_arith [g]
theorem a3:A3 (dd E F j y xs ys)=.ok (.bl (decide ((j=3\/j=8)/\xs.length=0))):=by
 unfold A3 dd
 by_cases g:j=3
 ·subst g;simp_arith [List.length_map];simp
 by_cases g2:j=8
 ·subst g2;simp_arith [List.length_map];simp
 ·simp_arith [g,g2]
end
theorem mW {i:Nat} {body:S} {f:Option D->Dt} (hf:∀ z d,(f z).set i (some d)=f (some d)) {P:Int->Prop} {u:D} (yes:∀ b,P b->body (f (some (.int b)))=.rt u) (no:∀ b,¬ P b->body (f (some (.int b)))=.nx (f (some (.int b)))) :
  ∀ (l:List Int) (z:Option D),((∃ b∈l,P b)->forL i body (l.map .int) (f z)=.rt u)/\((∀ b∈l,¬ P b)->∃ z',forL i body (l.map .int) (f z)=.nx (f z'))
 | [],z=>⟨(fun ⟨_,m,_⟩=>(nomatch m)),fun _=>⟨z,rfl⟩⟩
 | b::r,z=>by
  have ih:=mW hf yes no r (some (.int b))
  rw [List.map_cons,bu,hf]
  by_cases g:P b
  ·rw [yes b g,Eh]
   exact ⟨fun _=>rfl,fun hn=>absurd g (hn b (.head _))⟩
  ·rw [no b g,yE]
   refine ⟨fun ⟨x,m,px⟩=>ih.1 ?_,fun hn=>ih.2 fun x m=>hn x (.tail _ m)⟩
   rcases List.mem_cons.mp m with e | m
   ·subst e;exact absurd px g
   ·exact ⟨x,m,px⟩
def L1b:S:=ifs (or_ (bin oLt (var 7) ⇑0) (bin oGe (var 7) (bin kq ⇑2 (var 5)))) (ret (con (.str "bits"))) (av)
def L2b:S:=ifs (jO (bin oGe (var 0) ⇑4) (bin oGe (bin oMod (var 7) (var 5)) (bin fV (var 5) (bin eF ⇑1 (bin oIx (var 1) ⇑1))))) (ret (con (.str "finite"))) (av)
def duR:S:=seq (assign 6 (call td [var 3])) (seq (ifs (bin oEq (var 0) ⇑0) (assign 6 (bin bY (var 3) (var 4))) (av)) (seq (sE 7 (itA (var 6)) L1b) (seq (sE 7 (itA (var 6)) L2b) (ret (con (.str ""))))))
section
variable {E F j:Int} {y:PySem.Str} {xs ys:List Int}
theorem LF (h:Sz E F):dv [.int j,.tup [.int E,.int F],.str y,.lst (xs.map .int),.lst (ys.map .int)]=if j≠4/\j≠8/\y∉b9 then .ok (.str "way") else if j=0/\xs.length≠ys.length then .ok (.str "unlike") else if (j=3\/j=8)/\xs.length=0 then .ok (.str "empty") else (duR (dd E F j y xs ys)).res:=by
 have s1:=qU (k:=E+F) (by have:=h.1;have:=h.2.2.1;omega) (by have:=h.2.1;have:=h.2.2.2;omega)
 have e:jI=seq (assign 5 (bin eF ⇑1 (bin bY (bin oIx (var 1) ⇑0) (bin oIx (var 1) ⇑1)))) (seq (ifs A1 (ret (con (.str "way"))) (av)) (seq (ifs A2 (ret (con (.str "unlike"))) (av)) (seq (ifs A3 (ret (con (.str "empty"))) (av)) duR))):=rfl
 have b1:=a1 (E:=E) (F:=F) (j:=j) (y:=y) (xs:=xs) (ys:=ys)
 have b2:=a2 (E:=E) (F:=F) (j:=j) (y:=y) (xs:=xs) (ys:=ys)
 have b3:=a3 (E:=E) (F:=F) (j:=j) (y:=y) (xs:=xs) (ys:=ys)
 unfold dd at *
 unfold dv
 rw [e]
 generalize A1=B1 at *
 generalize A2=B2 at *
 generalize A3=B3 at *
 generalize duR=R3 at *
 by_cases g1:j≠4/\j≠8/\y∉b9
 ·rw [if_pos g1]
  simp_arith [s1,b1,eq_true g1]
 by_cases g2:j=0/\xs.length≠ys.length
 ·rw [if_neg g1,if_pos g2]
  simp_arith [s1,b1,eq_false g1,b2,eq_true g2]
 by_cases g3:(j=3\/j=8)/\xs.length=0
 ·rw [if_neg g1,if_neg g2,if_pos g3]
  simp_arith [s1,b1,eq_false g1,b2,eq_false g2,b3,eq_true g3]
 ·rw [if_neg g1,if_neg g2,if_neg g3]
  simp_arith [s1,b1,eq_false g1,b2,eq_false g2,b3,eq_false g3]
theorem yW {bs:List Int} (h:Sz E F) (hx:xs.length<=20) (hy:ys.length<=20) (hH:(j=0/\bs=xs++ys)\/(j≠0/\bs=xs)):((∃ b∈bs,Out E F b)->(duR (dd E F j y xs ys)).res=.ok (.str "bits"))/\((∀ b∈bs,In E F b)->((4<=j/\∃ b∈bs,pw ↥9 - pw F<=b%pw ↥9)->(duR (dd E F j y xs ys)).res=.ok (.str "finite"))/\(¬ (4<=j/\∃ b∈bs,pw ↥9 - pw F<=b%pw ↥9)->(duR (dd E F j y xs ys)).res=.ok (.str ""))):=by
 obtain ⟨k1,k2,k3,k4⟩:=id h
 have hH':=ak ↥9
 have n1:nb (pw ↥9)<=128:=gM (c:=127) ⋯
 have m2:=bM (MulOk.of (i:=2) (j:=pw ↥9) (a:=2) ↥0 n1 ↥0)
 have eW:=tZ h
 have s4:=qU (k:=F) ⋯ ⋯
 have lb:(bs.map D.int).length<=100000:=by
  rw [List.length_map]
  rcases hH with ⟨_,rfl⟩ | ⟨_,rfl⟩
  ·rw [List.length_append];omega
  ·omega
 have st:duR (dd E F j y xs ys)=(seq (sE 7 (itA (var 6)) L1b) (seq (sE 7 (itA (var 6)) L2b) (ret (con (.str ""))))) [some (.int j),some ↥5,some (.str y),some (.lst (xs.map .int)),some (.lst (ys.map .int)),some (.int (pw ↥9)),some (.lst ↥26),none]:=by
  have ad:bY (.lst (xs.map D.int)) (.lst (ys.map D.int))=.ok (.lst ((xs++ys).map .int)):=by
   rw [lO (by rw [List.length_map,List.length_map];omega),List.map_append]
  unfold duR dd
  generalize seq (sE 7 (itA (var 6)) L1b) _=R3 at *
  rcases hH with ⟨rfl,rfl⟩ | ⟨g,rfl⟩
  ·simp_arith [ad]
  ·simp_arith [g]
 rw [st]
 have p1:=mW (i:=7) (body:=L1b) (f:=fun z=>[some (.int j),some ↥5,some (.str y),some (.lst (xs.map .int)),some (.lst (ys.map .int)),some (.int (pw ↥9)),some (.lst ↥26),z]) (fun _ _=>rfl) (P:=Out E F) (u:=.str "bits") (fun b o=>by
  unfold L1b
  unfold Out at o
  rw [eW] at o
  by_cases g:b<0
  ·simp_arith [g]
  ·have:2*pw ↥9<=b:=⋯
   simp_arith [g,m2,this]) (fun b o=>by
  unfold L1b
  unfold Out at o
  rw [eW] at o
  have g:¬ b<0:=⋯
  have:¬ 2*pw ↥9<=b:=⋯
  simp_arith [g,m2,this]) bs none
 have p2:=fun z=>mW (i:=7) (body:=L2b) (f:=fun z=>[some (.int j),some ↥5,some (.str y),some (.lst (xs.map .int)),some (.lst (ys.map .int)),some (.int (pw ↥9)),some (.lst ↥26),z]) (fun _ _=>rfl) (P:=fun b=>4<=j/\pw ↥9 - pw F<=b%pw ↥9) (u:=.str "finite") (fun b o=>by
  unfold L2b
  simp_arith [o.1,hH',s4,o.2]) (fun b o=>by
  unfold L2b
  by_cases g:4<=j
  ·have:¬ pw ↥9 - pw F<=b%pw ↥9:=fun z=>o ⟨g,z⟩
   simp_arith [g,hH',s4,this]
  ·simp_arith [g]) bs z
 generalize L1b=B1 at *
 generalize L2b=B2 at *
 generalize bs.map D.int=BS at *
 refine ⟨fun o => ?_,fun o=>⟨fun q => ?_,fun q => ?_⟩⟩
 ·have e1:=p1.1 o
  simp_arith [lb,e1]
 ·obtain ⟨z,e1⟩:=p1.2 fun b m z=>by
   have:=o b m
   unfold In at this
   unfold Out at z
   omega
  have e2:=(p2 z).1 (by obtain ⟨g,b,m,x⟩:=q;exact ⟨b,m,g,x⟩)
  simp_arith [lb,e1,e2]
 ·obtain ⟨z,e1⟩:=p1.2 fun b m z=>by
   have:=o b m
   unfold In at this
   unfold Out at z
   omega
  obtain ⟨z2,e2⟩:=(p2 z).2 fun b m x=>q ⟨x.1,b,m,x.2⟩
  simp_arith [lb,e1,e2]
end
theorem uE {b:Int}:∀ {xs ys:List Int},xs.length=ys.length->(b∈fl2 (xs.zip ys)↔b∈xs++ys)
 | [],[],_=>Iff.rfl
 | [],_::_,h=>by cases h
 | _::_,[],h=>by cases h
 | x::xs,y::ys,h=>by
  have ih:=uE (b:=b) (xs:=xs) (ys:=ys) (Nat.succ.inj h)
  show b∈x::y::fl2 (xs.zip ys)↔_
  rw [List.mem_cons,List.mem_cons,ih,List.mem_append,List.mem_append,List.mem_cons,List.mem_cons]
  constructor
  ·rintro (z | z | z | z)
   ·exact .inl (.inl z)
   ·exact .inr (.inl z)
   ·exact .inl (.inr z)
   ·exact .inr (.inr z)
  ·rintro ((z | z) | z | z)
   ·exact .inl z
   ·exact .inr (.inr (.inl z))
   ·exact .inr (.inl z)
   ·exact .inr (.inr (.inr z))
theorem yi:∀ (xs ys:List Int),List.zipWith (fun x y=>D.tup [x,y]) (xs.map D.int) (ys.map D.int)=(xs.zip ys).map prD
 | [],_=>by cases ‹List Int›<;>rfl
 | _::_,[]=>rfl
 | x::xs,y::ys=>by
  rw [List.map_cons,List.map_cons,List.zipWith_cons_cons,yi xs ys]
  rfl
def yg (r:R D):Prop:=(∃ d,r=.ok d)\/∃ C,r=.ex C
section
variable {E F:Int} {y:PySem.Str} {xs ys:List Int} {a b:Int} {r:R D}
theorem Ml (s:yg r) (e:cD [.tup [.int E,.int F],.str y,.lst (xs.map .int),.lst (ys.map .int)]=r):ar [.int 0,.tup [.int E,.int F],.str y,.lst (xs.map .int),.lst (ys.map .int)]=r:=by
 unfold ar a8
 rcases s with ⟨d,rfl⟩ | ⟨C,rfl⟩<;>simp_arith [e]
theorem N7 (s:yg r) (e:fS [.tup [.int E,.int F],.str y,.lst (xs.map .int)]=r):ar [.int 1,.tup [.int E,.int F],.str y,.lst (xs.map .int),.lst (ys.map .int)]=r:=by
 unfold ar a8
 rcases s with ⟨d,rfl⟩ | ⟨C,rfl⟩<;>simp_arith [e]
theorem N6 (s:yg r) (e:cO [.tup [.int E,.int F],.str y,.lst (xs.map .int)]=r):ar [.int 2,.tup [.int E,.int F],.str y,.lst (xs.map .int),.lst (ys.map .int)]=r:=by
 unfold ar a8
 rcases s with ⟨d,rfl⟩ | ⟨C,rfl⟩<;>simp_arith [e]
theorem Mj (s:yg r) (e:bf [.tup [.int E,.int F],.str y,.lst (xs.map .int)]=r):ar [.int 3,.tup [.int E,.int F],.str y,.lst (xs.map .int),.lst (ys.map .int)]=r:=by
 unfold ar a8
 rcases s with ⟨d,rfl⟩ | ⟨C,rfl⟩<;>simp_arith [e]
theorem N5 (s:yg r) (e:bI [.tup [.int E,.int F],.int a,.int b]=r):ar [.int 4,.tup [.int E,.int F],.str y,.lst [.int a,.int b],.lst (ys.map .int)]=r:=by
 unfold ar a8
 rcases s with ⟨d,rfl⟩ | ⟨C,rfl⟩<;>simp_arith [e]
theorem Mi (s:yg r) (e:aR [.tup [.int E,.int F],.str y,.int a,.int b]=r):ar [.int 5,.tup [.int E,.int F],.str y,.lst [.int a,.int b],.lst (ys.map .int)]=r:=by
 unfold ar a8
 rcases s with ⟨d,rfl⟩ | ⟨C,rfl⟩<;>simp_arith [e]
theorem Mh (s:yg r) (e:aL [.tup [.int E,.int F],.str y,.int a,.int b]=r):ar [.int 6,.tup [.int E,.int F],.str y,.lst [.int a,.int b],.lst (ys.map .int)]=r:=by
 unfold ar a8
 rcases s with ⟨d,rfl⟩ | ⟨C,rfl⟩<;>simp_arith [e]
theorem Mg (s:yg r) (e:bC [.tup [.int E,.int F],.str y,.int a]=r):ar [.int 7,.tup [.int E,.int F],.str y,.lst [.int a],.lst (ys.map .int)]=r:=by
 unfold ar a8
 rcases s with ⟨d,rfl⟩ | ⟨C,rfl⟩<;>simp_arith [e]
theorem Mf (s:yg r) (e:bE [.tup [.int E,.int F],.lst (xs.map .int)]=r):ar [.int 8,.tup [.int E,.int F],.str y,.lst (xs.map .int),.lst (ys.map .int)]=r:=by
 unfold ar a8
 rcases s with ⟨d,rfl⟩ | ⟨C,rfl⟩<;>simp_arith [e]
end
theorem HL {E F:Int} {bs:List Int} (h:Sz E F) (hl:bs.length<=100):((∃ b∈bs,Out E F b)->aq [.tup [.int E,.int F],.lst ↥26]=.ex "NoBits")/\((∀ b∈bs,In E F b)->((∃ b∈bs,pw ↥9 - pw F<=b%pw ↥9)->aq [.tup [.int E,.int F],.lst ↥26]=.ex "NotFinite")/\((¬ ∃ b∈bs,pw ↥9 - pw F<=b%pw ↥9)->∀ b∈bs,Fn E F b)):=by
 refine ⟨xN h ⋯,fun hb=>⟨fun ⟨b,m,g⟩ => ?_,fun g b m => ?_⟩⟩
 ·obtain ⟨us,rfl,ok⟩:=AM h bs hb
  rw [List.length_map] at hl
  obtain ⟨x,mx,rfl⟩:=List.mem_map.mp m
  refine Aw h ⋯ ok ⟨x,mx,?_⟩
  have:=(rm (ok x mx).1 (ok x mx).2.1 (ok x mx).2.2).1
  have e:nI E F x%pw ↥9=x.2:=this
  rw [e] at g
  exact g
 ·obtain ⟨s,c,hs,c0,c1,e⟩:=fG h (hb b m)
  refine ⟨s,c,e,hs,c0,Int.not_le.mp fun z=>g ⟨b,m,?_⟩⟩
  rw [e,(rm hs c0 c1).1]
  exact z
section
variable {E F j:Int} {y:PySem.Str} {xs ys:List Int} {r du:R D}
theorem jA (h:Sz E F) (hx:xs.length<=20) (hy:ys.length<=20) (j4:4<=j) (hd:du=(duR (dd E F j y xs ys)).res) (hc:∀ C,aq [.tup [.int E,.int F],.lst (xs.map .int)]=.ex C->r=.ex C) (ok:(∀ b∈xs,Fn E F b)->(∃ d,r=.ok d)\/r=.ex "NoLeft"):∃ u,du=.ok (.str u)/\Fit j r u:=by
 have q:=yW (y:=y) (ys:=ys) h hx hy (.inr ⟨show j≠0 by omega,rfl⟩)
 have f:=HL h (show xs.length<=100 by omega)
 by_cases o:∃ b∈xs,Out E F b
 ·exact ⟨_,hd.trans (q.1 o),.inl ⟨_,hc _ (f.1 o),.inr (.inr (.inr (.inl ⟨rfl,rfl⟩)))⟩⟩
 have hi:=zh o
 by_cases g:∃ b∈xs,pw ↥9 - pw F<=b%pw ↥9
 ·exact ⟨_,hd.trans ((q.2 hi).1 ⟨j4,g⟩),.inl ⟨_,hc _ ((f.2 hi).1 g),.inr (.inr (.inr (.inr ⟨rfl,rfl⟩)))⟩⟩
 ·exact ⟨_,hd.trans ((q.2 hi).2 fun z=>g z.2),EK ((ok ((f.2 hi).2 g)).imp id fun z=>⟨j4,z⟩)⟩
theorem qg (h:Sz E F) {bs:List Int} (hx:xs.length<=20) (hy:ys.length<=20) (j4:j<4) (hH:(j=0/\bs=xs++ys)\/(j≠0/\bs=xs)) (hd:du=(duR (dd E F j y xs ys)).res) (no:(∃ b∈bs,Out E F b)->r=.ex "NoBits") (ok:(∀ b∈bs,In E F b)->∃ d,r=.ok d):∃ u,du=.ok (.str u)/\Fit j r u:=by
 have q:=yW (y:=y) h hx hy hH
 by_cases o:∃ b∈bs,Out E F b
 ·exact ⟨_,hd.trans (q.1 o),.inl ⟨_,no o,.inr (.inr (.inr (.inl ⟨rfl,rfl⟩)))⟩⟩
 ·exact ⟨_,hd.trans ((q.2 (zh o)).2 fun z=>⋯),EK (.inl (ok (zh o)))⟩
theorem nC (h:Sz E F) (j0:0<=j) (j9:j<9) (hx:xs.length<=20) (hy:ys.length<=20) (h2:4<=j->j<7->∃ a b,xs=[a,b]) (h1:j=7->∃ a,xs=[a]) (hw:(∃ w:Wy,y=w.s)\/y∉b9) :
  ∃ u,dv [.int j,.tup [.int E,.int F],.str y,.lst (xs.map .int),.lst (ys.map .int)]=.ok (.str u)/\Fit j (ar [.int j,.tup [.int E,.int F],.str y,.lst (xs.map .int),.lst (ys.map .int)]) u:=by
 have d:=LF (j:=j) (y:=y) (xs:=xs) (ys:=ys) h
 have e9:j=0\/j=1\/j=2\/j=3\/j=4\/j=5\/j=6\/j=7\/j=8:=⋯
 by_cases g1:j≠4/\j≠8/\y∉b9
 ·rw [if_pos g1] at d
  have sw:yg (.ex "NoWay"):=.inr ⟨_,rfl⟩
  refine ⟨_,d,.inl ⟨"NoWay",?_,.inl ⟨rfl,rfl⟩⟩⟩
  have wn:=Ji g1.2.2
  rcases e9 with z | z | z | z | z | z | z | z | z<;>subst z
  ·exact Ml sw (by unfold cD dX;simp_arith [wn])
  ·exact N7 sw (by
    have:aj [.tup [.int E,.int F],.str y,.lst [],.lst (xs.map .int)]=.ex "NoWay":=by unfold aj bj;simp_arith [wn]
    unfold fS jD
    simp_arith [this])
  ·exact N6 sw (by unfold cO fA;simp_arith [wn])
  ·exact Mj sw (by unfold bf cz;simp_arith [wn])
  ·exact absurd rfl g1.1
  ·obtain ⟨a,b,rfl⟩:=h2 ↥0 ↥0
   exact Mi sw (by unfold aR bK;simp_arith [wn])
  ·obtain ⟨a,b,rfl⟩:=h2 ↥0 ↥0
   exact Mh sw (by unfold aL br;simp_arith [wn])
  ·obtain ⟨a,rfl⟩:=h1 rfl
   exact Mg sw (by unfold bC cZ;simp_arith [wn])
  ·exact absurd rfl g1.2.1
 rw [if_neg g1] at d
 have gw:j≠4->j≠8->∃ w:Wy,y=w.s:=fun z1 z2=>hw.resolve_right fun z=>g1 ⟨z1,z2,z⟩
 by_cases g2:j=0/\xs.length≠ys.length
 ·rw [if_pos g2] at d
  obtain ⟨rfl,g2⟩:=g2
  obtain ⟨w,rfl⟩:=gw ↥0 ↥0
  have ne:¬ (xs.length:Int)=ys.length:=⋯
  exact ⟨_,d,.inl ⟨"Unlike",Ml (.inr ⟨_,rfl⟩) (by unfold cD dX;simp_arith [aE w,List.length_map,ne]),.inr (.inl ⟨rfl,rfl⟩)⟩⟩
 rw [if_neg g2] at d
 by_cases g3:(j=3\/j=8)/\xs.length=0
 ·rw [if_pos g3] at d
  obtain ⟨z,g3⟩:=g3
  have e0:((xs.length:Nat):Int)=0:=⋯
  refine ⟨_,d,.inl ⟨"Empty",?_,.inr (.inr (.inl ⟨rfl,rfl⟩))⟩⟩
  rcases z with z | z<;>subst z
  ·obtain ⟨w,rfl⟩:=gw ↥0 ↥0
   exact Mj (.inr ⟨_,rfl⟩) (by unfold bf cz;simp_arith [aE w,List.length_map,eq_true e0])
  ·exact Mf (.inr ⟨_,rfl⟩) (by unfold bE de;simp_arith [List.length_map,eq_true e0])
 rw [if_neg g3] at d
 rcases e9 with z | z | z | z | z | z | z | z | z<;>subst z
 ·obtain ⟨w,rfl⟩:=gw ↥0 ↥0
  have el:xs.length=ys.length:=Decidable.byContradiction fun z=>g2 ⟨rfl,z⟩
  have zl:(xs.zip ys).length<=20:=by rw [List.length_zip];omega
  have s:=yG (qs:=xs.zip ys) (bs:=[]) w h ↥0 zl
  have zp:LR [.lst (xs.map .int),.lst (ys.map .int)]=.ok (.lst ((xs.zip ys).map prD)):=by
   unfold LR
   simp only [List.length_map]
   rw [if_pos ⟨⋯,⋯⟩,yi]
  have el':(xs.length:Int)=ys.length:=⋯
  have pg:∀ {r:R D},yg r->aj [.tup [.int E,.int F],.str w.s,.lst ((xs.zip ys).map prD),.lst []]=r->cD [.tup [.int E,.int F],.str w.s,.lst (xs.map .int),.lst (ys.map .int)]=r:=fun {r} sr e=>by
   unfold cD dX
   rcases sr with ⟨d,rfl⟩ | ⟨C,rfl⟩<;>simp_arith [aE w,List.length_map,eq_true el',zp,e]
  rw [List.map_nil,List.nil_append] at s
  refine qg h hx hy ↥0 (.inl ⟨rfl,rfl⟩) d (fun ⟨b,m,o⟩ => ?_) fun hi => ?_
  ·exact Ml (.inr ⟨_,rfl⟩) (pg (.inr ⟨_,rfl⟩) (s.1 ⟨b,(uE el).mpr m,o⟩))
  ·obtain ⟨d',e⟩:=s.2 fun b m=>hi b ((uE el).mp m)
   exact ⟨d',Ml (.inl ⟨_,rfl⟩) (pg (.inl ⟨_,rfl⟩) e)⟩
 ·obtain ⟨w,rfl⟩:=gw ↥0 ↥0
  have s:=yG (qs:=[]) (bs:=xs) w h ⋯ ↥0
  have pg:∀ {r:R D},yg r->aj [.tup [.int E,.int F],.str w.s,.lst [],.lst (xs.map .int)]=r->fS [.tup [.int E,.int F],.str w.s,.lst (xs.map .int)]=r:=fun {r} sr e=>by
   unfold fS jD
   rcases sr with ⟨d,rfl⟩ | ⟨C,rfl⟩<;>simp_arith [e]
  rw [List.map_nil,show fl2 []=[] from rfl,List.append_nil] at s
  refine qg h hx hy ↥0 (.inr ⟨by decide,rfl⟩) d (fun o => ?_) fun hi => ?_
  ·exact N7 (.inr ⟨_,rfl⟩) (pg (.inr ⟨_,rfl⟩) (s.1 o))
  ·obtain ⟨d',e⟩:=s.2 hi
   exact ⟨d',N7 (.inl ⟨_,rfl⟩) (pg (.inl ⟨_,rfl⟩) e)⟩
 ·obtain ⟨w,rfl⟩:=gw ↥0 ↥0
  refine qg h hx hy ↥0 (.inr ⟨by decide,rfl⟩) d (fun o=>N6 (.inr ⟨_,rfl⟩) (B0 w h ⋯ o)) fun hi => ?_
  obtain ⟨d',e⟩:=yC w h ⋯ hi
  exact ⟨d',N6 (.inl ⟨_,rfl⟩) e⟩
 ·obtain ⟨w,rfl⟩:=gw ↥0 ↥0
  have np:0<xs.length:=Nat.pos_of_ne_zero fun z=>g3 ⟨.inl rfl,z⟩
  refine qg h hx hy ↥0 (.inr ⟨by decide,rfl⟩) d (fun o=>Mj (.inr ⟨_,rfl⟩) (xI w h ⋯ np o)) fun hi => ?_
  obtain ⟨d',e⟩:=xJ w h ⋯ np hi
  exact ⟨d',Mj (.inl ⟨_,rfl⟩) e⟩
 ·obtain ⟨a,b,rfl⟩:=h2 ↥0 ↥0
  refine jA h hx hy ↥0 d (fun C e=>N5 (.inr ⟨_,rfl⟩) ?_) fun ok => ?_
  ·rw [List.map_cons,List.map_cons,List.map_nil] at e
   unfold bI fw
   simp_arith [e]
  ·rcases kE h (ok a (.head _)) (ok b (.tail _ (.head _))) with ⟨x,d',_,e⟩ | e
   ·exact .inl ⟨_,N5 (.inl ⟨_,rfl⟩) e⟩
   ·exact .inr (N5 (.inr ⟨_,rfl⟩) e)
 ·obtain ⟨a,b,rfl⟩:=h2 ↥0 ↥0
  obtain ⟨w,rfl⟩:=gw ↥0 ↥0
  refine jA h hx hy ↥0 d (fun C e=>Mi (.inr ⟨_,rfl⟩) ?_) fun ok => ?_
  ·rw [List.map_cons,List.map_cons,List.map_nil] at e
   unfold aR bK
   simp_arith [aE w,e]
  ·rcases ur h w (ok a (.head _)) (ok b (.tail _ (.head _))) with ⟨d',e⟩ | e
   ·exact .inl ⟨_,Mi (.inl ⟨_,rfl⟩) e⟩
   ·exact .inr (Mi (.inr ⟨_,rfl⟩) e)
 ·obtain ⟨a,b,rfl⟩:=h2 ↥0 ↥0
  obtain ⟨w,rfl⟩:=gw ↥0 ↥0
  refine jA h hx hy ↥0 d (fun C e=>Mh (.inr ⟨_,rfl⟩) ?_) fun ok => ?_
  ·rw [List.map_cons,List.map_cons,List.map_nil] at e
   unfold aL br
   simp_arith [aE w,e]
  ·rcases rP h w (ok a (.head _)) (ok b (.tail _ (.head _))) with ⟨d',e⟩ | e
   ·exact .inl ⟨_,Mh (.inl ⟨_,rfl⟩) e⟩
   ·exact .inr (Mh (.inr ⟨_,rfl⟩) e)
 ·obtain ⟨a,rfl⟩:=h1 rfl
  obtain ⟨w,rfl⟩:=gw ↥0 ↥0
  refine jA h hx hy ↥0 d (fun C e=>Mg (.inr ⟨_,rfl⟩) ?_) fun ok => ?_
  ·rw [List.map_cons,List.map_nil] at e
   unfold bC cZ
   simp_arith [aE w,e]
  ·rcases Cr h w (ok a (.head _)) with ⟨d',e⟩ | e
   ·exact .inl ⟨_,Mg (.inl ⟨_,rfl⟩) e⟩
   ·exact .inr (Mg (.inr ⟨_,rfl⟩) e)
 ·have np:0<xs.length:=Nat.pos_of_ne_zero fun z=>g3 ⟨.inr rfl,z⟩
  refine jA h hx hy ↥0 d (fun C e=>Mf (.inr ⟨_,rfl⟩) ?_) fun ok => ?_
  ·have ne:¬ (xs.length:Int)=0:=⋯
   unfold bE de
   simp_arith [List.length_map,ne,e]
  ·rcases Dl h ⋯ np ok with ⟨d',e⟩ | e
   ·exact .inl ⟨_,Mf (.inl ⟨_,rfl⟩) e⟩
   ·exact .inr (Mf (.inr ⟨_,rfl⟩) e)
end
theorem BB:bJ [.non]=.ok (.str (PySem.Str.ofString "")):=by
 unfold bJ fz
 simp_arith []
theorem vq {C:String} {u:PySem.Str} (hC:Wd C u\/(C="NoLeft"/\u=PySem.Str.ofString "left")):bJ [.exc C]=.ok (.str u)/\ao.contains C=true:=by
 have al:d7 [.exc C]=.ok (.bl true)/\ao.contains C=true:=by
  unfold d7 gf
  rcases hC with (⟨g,_⟩ | ⟨g,_⟩ | ⟨g,_⟩ | ⟨g,_⟩ | ⟨g,_⟩) | ⟨g,_⟩<;>subst g<;>exact ⟨rfl,rfl⟩
 refine ⟨?_,al.2⟩
 have al:=al.1
 unfold bJ fz
 rcases hC with (⟨g,g'⟩ | ⟨g,g'⟩ | ⟨g,g'⟩ | ⟨g,g'⟩ | ⟨g,g'⟩) | ⟨g,g'⟩<;>subst g g'<;>simp_arith [al]
theorem Es {E F q:Int} {cs:List Int} (h:Sz E F) (hl:cs.length<=20) (hc:∀ c∈cs,nb c<=2^20):∃ bs:List Int,bx [.tup [.int E,.int F],.lst (cs.map .int),.int q]=.ok (.lst ↥26)/\bs.length<=20:=by
 obtain ⟨k1,k2,k3,k4⟩:=id h
 have nb2:nb (2:Int)=2:=by decide
 have sh:=bX (i:=2) (j:=E+F) ⋯ ⋯
 have s60:CN (.int 10) (.int 60)=.ok (.int 1000000000000000000000000000000000000000000000000000000000000):=by rw [He ↥0 ↥0];rfl
 have cm:=mZ D.int cs none (some (q%5))
 have cl:=qG cs none (some (q%5))
 have hc':∀ c∈EV.cut cs none (some (q%5)),nb c<=2^20:=fun c m=>hc c (mY m)
 generalize EV.cut cs none (some (q%5))=us at *
 generalize hL:cs.map D.int=L at *
 have ru:∀ δ:Dt,runC (stC (con (.bl true)) (call bD [var 1,var 0]) [0] (some ↥5::δ)) (us.map .int)=.ok ((us.map (eD E F)).map .int):=fun δ=>by
  clear cm cl
  induction us with
  | nil=>rfl
  | cons c r ih =>
   rw [List.map_cons,List.map_cons,List.map_cons]
   have e:stC (con (.bl true)) (call bD [var 1,var 0]) [0] (some ↥5::δ) (.int c)=.ok (some (.int (eD E F c))):=by
    unfold stC inC
    simp_arith [List.getD_cons_zero,xT h (hc' c (.head _))]
    unfold qr
    simp_arith []
   unfold runC
   rw [e,ih fun x m=>hc' x (.tail _ m)]
   rfl
 have fl:eG ((us.map (eD E F)).map D.int)=.ok (.lst ((us.map (eD E F)).map D.int)):=bw
 have lu:us.length<=100000:=⋯
 have l2:((us.map (eD E F)).map D.int).length=us.length:=by rw [List.length_map,List.length_map]
 have pk:∀ z:Int,∃ v,oIx (.lst [.int (-1 - z),.int (2*pw ↥9+z),.int (2*pw ↥9),.int (-1)]) (.int (q / 30%4))=.ok (.int v):=fun z=>by
  rcases (by omega:q / 30%4=0\/q / 30%4=1\/q / 30%4=2\/q / 30%4=3) with e | e | e | e<;>rw [e]<;>exact ⟨_,rfl⟩
 unfold bx eX
 generalize hz:q / 60%1000000000000000000000000000000000000000000000000000000000000=z at *
 obtain ⟨v,ev0⟩:=pk z
 have mp:=List.map_set (f:=D.int) (l:=us.map (eD E F)) (i:=(q / 15%(us.length:Int)).toNat) (a:=v)
 by_cases g:q / 5%3=0
 ·by_cases g2:0<(us.length:Int)
  ·have r0:=Int.emod_nonneg (q / 15) (show (us.length:Int)≠0 by omega)
   have r1:=Int.emod_lt_of_pos (q / 15) g2
   have so:=fun (δ:Dt)=>yK (δ:=δ) (i:=3) (ds:=(us.map (eD E F)).map D.int) (d:=.int v) (k:=q / 15%(us.length:Int)) rfl r0 (by rw [l2];exact r1)
   refine ⟨(us.map (eD E F)).set (q / 15%(us.length:Int)).toNat v,?_,by rw [List.length_set,List.length_map];omega⟩
   rw [mp]
   generalize (us.map (eD E F)).map D.int=B at *
   simp_arith [jr,cm,List.length_map,lu,ru,fl,l2,eq_true g,g2,sh,s60,hz,ev0,so]
  ·refine ⟨us.map (eD E F),?_,by rw [List.length_map];omega⟩
   generalize (us.map (eD E F)).map D.int=B at *
   simp_arith [jr,cm,List.length_map,lu,ru,fl,l2,eq_true g,g2]
 ·refine ⟨us.map (eD E F),?_,by rw [List.length_map];omega⟩
  generalize (us.map (eD E F)).map D.int=B at *
  simp_arith [jr,cm,List.length_map,lu,ru,fl,l2,g]
theorem BC (r:Int):∃ w:Wy,oIx (.lst [.str "even",.str "away",.str "nought",.str "up",.str "down"]) (.int (r%5))=.ok (.str w.s):=by
 rcases (by omega:r%5=0\/r%5=1\/r%5=2\/r%5=3\/r%5=4) with e | e | e | e | e<;>rw [e]
 ·exact ⟨.even,rfl⟩
 ·exact ⟨.away,rfl⟩
 ·exact ⟨.nought,rfl⟩
 ·exact ⟨.up,rfl⟩
 ·exact ⟨.down,rfl⟩
theorem CL (r:Int):∃ y:PySem.Str,oIx (.lst [.str "evens",.str "",.str "Up",.str "none",.str "down "]) (.int (r%5))=.ok (.str y)/\y∉b9:=by
 rcases (by omega:r%5=0\/r%5=1\/r%5=2\/r%5=3\/r%5=4) with e | e | e | e | e<;>rw [e]<;>exact ⟨_,rfl,by decide⟩
theorem Sv {xs:List Int} {p q:Int}:∃ a b:Int,EV.cut ((xs++[p,q]).map D.int) none (some 2)=[.int a,.int b]:=by
 match xs with
 | []=>exact ⟨p,q,rfl⟩
 | [a]=>exact ⟨a,p,rfl⟩
 | a::b::r =>
  refine ⟨a,b,?_⟩
  rw [v7 ↥0 (by rw [List.length_map];show (2:Int)<=((r++[p,q]).length+1+1:Nat);omega)]
  rfl
def hoR:S:=seq (assign 7 (con .non)) (seq (JD (expr (call ar [var 2,var 0,var 4,var 5,var 6])) "MillError" 8 (assign 7 (var 8))) (seq (assign 9 (call dv [var 2,var 0,var 4,var 5,var 6])) (ret (or_ (bin oEq (call bJ [var 7]) (var 9)) (jO (bin oGe (var 2) ⇑4) (jO (bin oEq (var 9) (con (.str ""))) (bin oEq (call bJ [var 7]) (con (.str "left")))))))))
theorem Ai {E F j:Int} {y:PySem.Str} {xs ys:List D} {L:List D} {r:Int} {u:PySem.Str} (hd:dv [.int j,.tup [.int E,.int F],.str y,.lst xs,.lst ys]=.ok (.str u)) (hf:Fit j (ar [.int j,.tup [.int E,.int F],.str y,.lst xs,.lst ys]) u) :
  (hoR [some ↥5,some (.lst L),some (.int j),some (.int r),some (.str y),some (.lst xs),some (.lst ys),none,none,none]).res=.ok (.bl true):=by
 unfold hoR
 rcases hf with ⟨C,e,hC⟩ | ⟨rfl,d,e⟩ | ⟨rfl,j4,e⟩
 ·obtain ⟨w,cn⟩:=vq (.inl hC)
  simp_arith [e,ky,eq_true cn,hd,w]
 ·simp_arith [e,hd,BB]
 ·obtain ⟨w,cn⟩:=vq (u:=PySem.Str.ofString "left") (.inr ⟨rfl,rfl⟩)
  simp_arith [e,ky,eq_true cn,hd,w,j4]
theorem Ds {E F:Int} {cs:List Int} (h:Sz E F) (hl:cs.length<=20) (hp:0<cs.length) (hc:∀ c∈cs,nb c<=2^20):d6 [.tup [.int E,.int F],.lst (cs.map .int)]=.ok (.bl true):=by
 obtain ⟨k1,k2,k3,k4⟩:=id h
 have s4:=qU (k:=F) ⋯ ⋯
 obtain ⟨c,ic⟩:∃ c,oIx (.lst (cs.map D.int)) (.int 0)=.ok (.int c):=by
  cases cs with
  | nil=>exact absurd hp ↥0
  | cons c r=>exact ⟨c,NC⟩
 have m1:=mZ D.int cs (some 1) (some 5)
 have m2:=mZ D.int cs (some 3) (some 7)
 obtain ⟨xs,ex,lx⟩:=Es (q:=c / 9 / 20) (cs:=EV.cut cs (some 1) (some 5)) h (Nat.le_trans (qG _ _ _) hl) fun c m=>hc c (mY m)
 obtain ⟨ys,ey,ly⟩:=Es (q:=c / 9 / 40) (cs:=EV.cut cs (some 3) (some 7)) h (Nat.le_trans (qG _ _ _) hl) fun c m=>hc c (mY m)
 rw [<- m1] at ex
 rw [<- m2] at ey
 obtain ⟨w,ew⟩:=BC (c / 9)
 obtain ⟨y',ey',hy'⟩:=CL (c / 9)
 have e:f9=seq (assign 2 (bin oMod (bin oIx (var 1) ⇑0) ⇑9)) (seq (assign 3 (bin oDiv (bin oIx (var 1) ⇑0) ⇑9))
  (seq (assign 4 (bin oIx ↥33 (bin oMod (var 3) ⇑5)))
  (seq ↥21
  (seq (assign 5 (call bx [var 0,slc (var 1) (some ⇑1) (some ⇑5),bin oDiv (var 3) ⇑20]))
  (seq (assign 6 (call bx [var 0,slc (var 1) (some ⇑3) (some ⇑7),bin oDiv (var 3) ⇑40]))
  (seq (ifs (jO (bin oGe (var 2) ⇑4) (bin oLt (var 2) ⇑8)) (seq (assign 5 (slc (bin bY (var 5) (iX [⇑1,bin eF ⇑1 ↥18])) none (some ⇑2)))
   (ifs (bin oEq (var 2) ⇑7) (assign 5 (slc (var 5) none (some ⇑1))) (av))) (av))
  hoR)))))):=rfl
 have j0:0<=c%9:=⋯
 have j9:c%9<9:=⋯
 generalize hj:c%9=j at *
 generalize hr:c / 9=r at *
 generalize cs.map D.int=L at *
 obtain ⟨y,hy,ey0⟩:∃ y:PySem.Str,((∃ w:Wy,y=w.s)\/y∉b9)/\↥21 [some ↥5,some (.lst L),some (.int j),some (.int r),some (.str w.s),none,none,none,none,none]=.nx [some ↥5,some (.lst L),some (.int j),some (.int r),some (.str y),none,none,none,none,none]:=by
  by_cases g:r / 5%4=0
  ·exact ⟨y',.inr hy',by simp_arith [eq_true g,ey']⟩
  ·exact ⟨w.s,.inl ⟨w,rfl⟩,by simp_arith [g]⟩
 unfold d6
 rw [e]
 generalize ifs (bin oEq (bin oMod (bin oDiv (var 3) ⇑5) ⇑4) ⇑0) _ _=W1 at *
 by_cases g:4<=j/\j<8
 ·have ad:bY (.lst (xs.map D.int)) (.lst [.int 1,.int (pw F)])=.ok (.lst ((xs++[1,pw F]).map .int)):=by
   rw [lO (by rw [List.length_map];show xs.length+2<=100000;omega),List.map_append]
   rfl
  obtain ⟨a,b,c2⟩:=Sv (xs:=xs) (p:=1) (q:=pw F)
  have c1:EV.cut [D.int a,.int b] none (some 1)=[.int a]:=rfl
  by_cases g7:j=7
  ·obtain ⟨u,du,ft⟩:=nC (j:=j) (y:=y) (xs:=[a]) (ys:=ys) h j0 j9 (show 1<=20 by decide) ly (fun _ z=>⋯) (fun _=>⟨a,rfl⟩) hy
   have fin:=Ai (L:=L) (r:=r) du ft
   rw [List.map_cons,List.map_nil] at fin
   generalize hoR=R3 at *
   simp_arith [ic,hj,hr,ew,ey0,ex,ey,eq_true g.1,eq_true g.2,s4,ad,c2,eq_true g7,c1,fin]
  ·obtain ⟨u,du,ft⟩:=nC (j:=j) (y:=y) (xs:=[a,b]) (ys:=ys) h j0 j9 (show 2<=20 by decide) ly (fun _ _=>⟨a,b,rfl⟩) (fun z=>absurd z g7) hy
   have fin:=Ai (L:=L) (r:=r) du ft
   rw [List.map_cons,List.map_cons,List.map_nil] at fin
   generalize hoR=R3 at *
   simp_arith [ic,hj,hr,ew,ey0,ex,ey,eq_true g.1,eq_true g.2,s4,ad,c2,g7,fin]
 ·obtain ⟨u,du,ft⟩:=nC (j:=j) (y:=y) (xs:=xs) (ys:=ys) h j0 j9 lx ly (fun z1 z2=>⋯) (fun z=>⋯) hy
  have fin:=Ai (L:=L) (r:=r) du ft
  generalize hoR=R3 at *
  by_cases g4:4<=j
  ·have g8:¬ j<8:=fun z=>g ⟨g4,z⟩
   simp_arith [ic,hj,hr,ew,ey0,ex,ey,eq_true g4,g8,fin]
  ·simp_arith [ic,hj,hr,ew,ey0,ex,ey,g4,fin]
theorem Di:Good CH:=by
 intro ns hl hb
 have h:=MT (ns.getD 0 0)
 have cm:=mZ D.int ns (some 1) none
 have cl:=qG ns (some 1) none
 have hm:∀ c∈EV.cut ns (some 1) none,nb c<=2^20:=fun c m=>hb c (mY m)
 have ad:bY (.lst ((EV.cut ns (some 1) none).map D.int)) (.lst [.int 8,.int 3,.int 1,.int 4,.int 2,.int 9,.int 5])=.ok (.lst ((EV.cut ns (some 1) none++[8,3,1,4,2,9,5]).map .int)):=by
  rw [lO (by rw [List.length_map];show (EV.cut ns (some 1) none).length+7<=100000;omega),List.map_append]
  rfl
 have hm':∀ c∈EV.cut ns (some 1) none++[8,3,1,4,2,9,5],nb c<=2^20:=fun c m=>by
  rcases List.mem_append.mp m with m | m
  ·exact hm c m
  ·have:∀ c∈[(8:Int),3,1,4,2,9,5],nb c<=2^20:=by decide
   exact this c m
 have l2:(EV.cut ns (some 1) none++[(8:Int),3,1,4,2,9,5]).length=(EV.cut ns (some 1) none).length+7:=by rw [List.length_append];rfl
 generalize EV.cut ns (some 1) none++[(8:Int),3,1,4,2,9,5]=us at *
 generalize (EV.cut ns (some 1) none).length=n at *
 unfold CH DB
 generalize hbody:ifs (KZ _) _ _=body
 have sb:((us.length:Nat):Int) - 6=(n+1:Nat):=⋯
 simp_arith [H4 (ns:=ns) (j:=0) ↥0,Gr,cm,ad,List.length_map,sb,we (n:=((n+1:Nat):Int)) ⋯ ⋯]
 generalize szE (ns.getD 0 0)=E at *
 generalize szF (ns.getD 0 0)=F at *
 obtain ⟨δ',e,z3,e'⟩:=vX (i:=3) (body:=body) (fun δ=>∃ z3,δ=[some (.lst (ns.map .int)),some ↥5,some (.lst (us.map .int)),z3]) (xn 0 ((n+1:Nat):Int)) (fun d hd δ ⟨z3,e⟩=>by
  subst e
  obtain ⟨k,k0,k1,rfl⟩:=J0 hd
  have m:=mZ D.int us (some k) (some (k+7))
  have ln:(EV.cut us (some k) (some (k+7))).length=7:=by
   unfold EV.cut sIx
   simp only
   rw [List.length_take,List.length_drop]
   split<;>split<;>omega
  have hk:=Ds (cs:=EV.cut us (some k) (some (k+7))) h ⋯ ⋯ (fun c m=>hm' c (mY m))
  refine ⟨_,.inl ?_,some (.int k),rfl⟩
  subst hbody
  simp_arith [jr,m,hk]) _ ⟨none,rfl⟩
 simp_arith [e]
end T
open PySem PySem.W PyProof.Rows
set_option maxHeartbeats 0 in
theorem PySem.Challenge.cw_roundmill_k58_rows_refused_holds : PySem.Challenge.rw_roundmill_k58_rows_refused.Holds := by
 w_on;o_law
 refine holds_open (q:=H.q) (loose:=[]) (Xt:=H.Xt) (XP:=XL H.q []) (Yf:=(kHook H.K H.as H.he).obs) (Ya:=(kHook H.K H.as H.he).val) (YP:=(kHook H.K H.as H.he).says) (N:=12022) H.left (kHook H.K H.as H.he).of (kHook H.K H.as H.he).keeps (fun s e=>xl_of s (Bool.and_eq_true_iff.mp e).1) XL.keeps (by rfl) (by rfl) (by rfl) (fun s e=>recFacts_of (Bool.and_eq_true_iff.mp e).2) (by rfl) (by first | assumption | decide +kernel) (by decide +kernel) ⟨rfl,rfl,rfl,rfl,rfl,by decide +kernel⟩ ?hw ?hc
 (case hw=>w_witness2)
 k_fill
 refine ES.BE (l:=PySem.Challenge.rw_roundmill_k58_rows_refused) (k:=34) (x:="_law_script") (f:=T.CH) T.Di rfl rfl ⟨rfl,by decide,by decide⟩ (fun w h Y=>PySem.W.kIn_of Y) ?F
 case F =>
  intro w mg fa h KX GG hmg
  refine' T.all_mk KX GG hmg ?n_Way ?pg_Way ?hd_Way ?po_Way ?sa_Way ?na_Way ?aIWay ?uIWay ?mm_Way ?kc_Way ?lIWay ?eIWay ?kIWay ?q1 ?q2 ?q3 ?q4 ?q5 ?q6 ?q7 ?q8 ?q9 ?q10 ?q11 ?q12 ?q13 ?q14 ?q15 ?q16 ?q17 ?q18 ?q19 ?q20 ?q21 ?q22 ?q23 ?q24 ?q25 ?q26 ?q27 ?a28 ?u28 ?l28 ?e28 ?k28 ?a29 ?u29 ?l29 ?e29 ?k29 ?a30 ?u30 ?l30 ?e30 ?k30 ?q31 ?q32 ?q33 ?q34 ?q35 ?q36 ?q37 ?q38 ?q39 ?q40 ?q41 ?q42 ?q43 ?q44 ?q45 ?q46 ?q47 ?q48 ?q49 ?q50 ?a51 ?l51 ?e51 ?k51 ?q52 ?q53 ?q54 ?q55 ?q56 ?q57 ?q58 ?q59 ?q60 ?q61 ?q62 ?q63 ?q64 ?q65 ?q66 ?q67 ?a68 ?l68 ?e68 ?k68 ?z_len ?z_list ?z_max ?z_min ?z_abs ?z_any ?z_zip ?z_isinstance ?z_ValueError ?z_int ?z_sum ?z_range ?y_NOT_FINITE ?yl_NOT_FINITE ?y_GREAT ?y_NAMES ?yl_NAMES ?y_INEXACT ?y_SMALL ?y_WRONG ?y_POLE ?n_MillError ?n_NoSize ?n_NoBits ?n_NoParts ?n_NoRank ?n_NotFinite ?n_NoWay ?n_NoFlags ?n_NoFraction ?n_Unlike ?n_Empty ?n_NoLeft ?n_NoText ?n_NoRow ?n_NoName ?n_Stopped ?xi_NoBits ?xi_NotFinite ?xi_NoLeft ?xi_NoWay ?xi_NoFraction ?xi_Empty ?xi_Unlike ?v_MillError ?v_NoSize ?v_NoBits ?v_NoParts ?v_NoRank ?v_NotFinite ?v_NoWay ?v_NoFlags ?v_NoFraction ?v_Unlike ?v_Empty ?v_NoLeft ?v_NoText ?v_NoRow ?v_NoName ?v_Stopped ?cb_MillError ?r_MillError_MillError ?r_MillError_NoSize ?r_MillError_NoBits ?r_MillError_NoParts ?r_MillError_NoRank ?r_MillError_NotFinite ?r_MillError_NoWay ?r_MillError_NoFlags ?r_MillError_NoFraction ?r_MillError_Unlike ?r_MillError_Empty ?r_MillError_NoLeft ?r_MillError_NoText ?r_MillError_NoRow ?r_MillError_NoName ?r_MillError_Stopped ?itab ?i_VE_NoneType ?i_VE_bool ?i_VE_int ?i_VE_str ?i_VE_tuple ?i_VE_list ?itav
  (case n_Way | pg_Way | hd_Way | po_Way | sa_Way | na_Way | aIWay | uIWay | mm_Way | kc_Way | lIWay | eIWay | kIWay=>k_is)
  (case q1 | q2 | q3 | q4 | q5 | q6 | q7 | q8 | q9 | q10 | q11 | q12 | q13 | q14 | q15 | q16 | q17 | q18 | q19 | q20 | q21 | q22 | q23 | q24 | q25 | q26 | q27=>exact ES.H0 (by k_is) (by k_is) (by k_is) (by k_is))
  (case a28 | u28 | l28 | e28 | k28 | a29 | u29 | l29 | e29 | k29 | a30 | u30 | l30 | e30 | k30=>k_is)
  (case q31 | q32 | q33 | q34 | q35 | q36 | q37 | q38 | q39 | q40 | q41 | q42 | q43 | q44 | q45 | q46 | q47 | q48 | q49 | q50=>exact ES.H0 (by k_is) (by k_is) (by k_is) (by k_is))
  (case a51 | l51 | e51 | k51=>k_is)
  (case q52 | q53 | q54 | q55 | q56 | q57 | q58 | q59 | q60 | q61 | q62 | q63 | q64 | q65 | q66 | q67=>exact ES.H0 (by k_is) (by k_is) (by k_is) (by k_is))
  (case a68 | l68 | e68 | k68 | z_len | z_list | z_max | z_min | z_abs | z_any | z_zip | z_isinstance | z_ValueError | z_int | z_sum | z_range | y_NOT_FINITE | yl_NOT_FINITE | y_GREAT | y_NAMES | yl_NAMES | y_INEXACT | y_SMALL | y_WRONG | y_POLE | n_MillError | n_NoSize | n_NoBits | n_NoParts | n_NoRank | n_NotFinite | n_NoWay | n_NoFlags | n_NoFraction | n_Unlike | n_Empty | n_NoLeft | n_NoText | n_NoRow | n_NoName | n_Stopped=>k_is)
  (case xi_NoBits | xi_NotFinite | xi_NoLeft | xi_NoWay | xi_NoFraction | xi_Empty | xi_Unlike=>k_exc)
  (case v_MillError | v_NoSize | v_NoBits | v_NoParts | v_NoRank | v_NotFinite | v_NoWay | v_NoFlags | v_NoFraction | v_Unlike | v_Empty | v_NoLeft | v_NoText | v_NoRow | v_NoName | v_Stopped=>exact ⟨by k_is,by k_is,by k_is,by k_is,by k_is,⟨_,by k_is⟩⟩)
  (case cb_MillError=>exact ⟨⟨_,by k_is⟩,by k_is,by k_is,by k_is⟩)
  (case r_MillError_MillError | r_MillError_NoSize | r_MillError_NoBits | r_MillError_NoParts | r_MillError_NoRank | r_MillError_NotFinite | r_MillError_NoWay | r_MillError_NoFlags | r_MillError_NoFraction | r_MillError_Unlike | r_MillError_Empty | r_MillError_NoLeft | r_MillError_NoText | r_MillError_NoRow | r_MillError_NoName | r_MillError_Stopped=>k_is)
  (case itab=>kernel_rfl)
  (case i_VE_NoneType | i_VE_bool | i_VE_int | i_VE_str | i_VE_tuple | i_VE_list=>kit_is)
  (case itav=>kernel_rfl)
#print axioms PySem.Challenge.cw_roundmill_k58_rows_refused_holds
